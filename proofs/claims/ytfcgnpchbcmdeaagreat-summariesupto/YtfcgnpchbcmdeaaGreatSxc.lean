/-
  The state of a script's world, as far as it holds summaries; the contract of summed: a summary that came out is held against the reference's, marked, and kept.
-/
import Derived.Test.YtfcgnpchbcmdeaaGreatSxb
import Derived.Test.YtfcgnpchbcmdeaaGreatSwr
namespace Go.Proofs.YtfcgnpchbcmdeaaGreat
open Go.RowKit

theorem row_base {w : World} {b b' e size n : Nat} {v : Value} {xs : List Value} (h : w.ownsRow b' e size v n xs) (hb : b ≤ b') : w.ownsRow b e size v n xs := by
  refine ⟨h.1, ?_⟩
  rcases h.2 with hn | ⟨g, cap, cur, e, hg, r⟩
  · exact .inl hn
  · exact .inr ⟨g, cap, cur, e, Nat.le_trans hb hg, r⟩

/-- A list of one's own, seen as a slice. -/
theorem OwnE.view {w : World} {base : Nat} {v : Value} {L : List Ent} (h : OwnE w base v L) (hl : L.length ≤ 4194304) : ∃ a c, v = .slice a L.length c ∧ EntsV w a L ∧ (a = none → c = 0) := by
  have h' := h
  rcases h.2 with ⟨rfl, h0⟩ | ⟨g, cap, cur, rfl, _, hh, _⟩
  · exact ⟨none, 0, by rw [h0], ⟨hl, .inl h0⟩, fun _ => rfl⟩
  · refine ⟨_, cap, rfl, ⟨hl, .inr ⟨g, 0, rfl, ?_⟩⟩, fun e => by cases e⟩
    have key : ∀ i, i < L.length → w.cell? ⟨g, i * 4, none⟩ = some (.int .i64 (L.getD i e0).v) ∧ w.cell? ⟨g, i * 4 + 1, none⟩ = some (.int .i64 (L.getD i e0).lo) ∧ w.cell? ⟨g, i * 4 + 2, none⟩ = some (.int .i64 (L.getD i e0).hi) ∧ w.cell? ⟨g, i * 4 + 3, none⟩ = some (.int .i64 (L.getD i e0).wt) ∧ ∀ o, w.frozen? ⟨g, o, none⟩ = false := fun i hi => by
      have e : L = L.take i ++ L.getD i e0 :: L.drop (i + 1) := by
        have : L.getD i e0 = L[i] := by simp [List.getD, hi]
        rw [this, ← List.drop_eq_getElem_cons hi, List.take_append_drop]
      rw [e] at h'
      exact OwnE.at (n := L.length) (by rw [← e] at h' ⊢; exact h') (by rw [← e]) (by simp; omega)
    refine ⟨fun _ => (Array.getElem?_eq_some_iff.1 hh).1, fun i hi => ?_, fun i hi => ?_, fun i hi => ?_, fun i hi => ?_⟩
    · rw [Nat.zero_add]; exact (key i hi).1
    · rw [Nat.zero_add]; exact (key i hi).2.1
    · rw [Nat.zero_add]; exact (key i hi).2.2.1
    · rw [Nat.zero_add]; exact (key i hi).2.2.2.1

/-- WHAT A SCRIPT'S WORLD HOLDS OF SUMMARIES: the summaries, and the marked lists. -/
def StateE (w : World) (g : Nat) (c : Array Value) (Ls : List (List Ent)) (nx : Int) : Prop :=
  ∃ (vu ve vm : Value) (us vs : List Value) (ms : List Int),
    WB w g c ∧ c.size = 13 ∧ c[0]? = some vu ∧ c[4]? = some ve ∧ c[5]? = some vm ∧ c[12]? = some (.int .i64 nx) ∧
    w.ownsRow (g + 1) 29 1 vu us.length us ∧ w.ownsRow (g + 1) 29 1 ve vs.length vs ∧ OwnI w (g + 1) vm ms ∧ Apart vu ve ∧
    us.length = Ls.length ∧ vs.length = ms.length ∧ (ms.length : Int) ≤ 4 * nx ∧ (us.length : Int) ≤ nx ∧
    (∀ i, i < Ls.length → OwnE w (g + 1) (us.getD i (.slice none 0 0)) (Ls.getD i [])) ∧
    (∀ i, i < vs.length → AllM w (ms.getD i 0) (vs.getD i (.slice none 0 0)))

theorem StateE.lt {w : World} {g : Nat} {c : Array Value} {Ls : List (List Ent)} {nx : Int} (h : StateE w g c Ls nx) : g < w.heap.size := by
  obtain ⟨_, _, _, _, _, _, h, _⟩ := h
  exact h.lt

theorem StateE.below {w w' : World} {g : Nat} {c : Array Value} {Ls : List (List Ent)} {nx : Int} (h : StateE w g c Ls nx) (hb : Below w.heap.size w w') : StateE w' g c Ls nx := by
  obtain ⟨vu, ve, vm, us, vs, ms, h1, h2, h3, h4, h5, h6, h7, h8, h9, h10, h11, h12, h13, h14, h15, h16⟩ := h
  have t : Touch (fun _ => False) w w' := .of_below hb
  exact ⟨vu, ve, vm, us, vs, ms, h1.below hb h1.lt, h2, h3, h4, h5, h6, t.row h7 (fun _ _ => id), t.row h8 (fun _ _ => id), t.row h9 (fun _ _ => id), h10, h11, h12, h13, h14, fun i hi => (h15 i hi).below hb, fun i hi => (h16 i hi).below hb⟩

theorem getD_snoc {α : Type} (l : List α) (x d : α) {i : Nat} (hi : i < l.length + 1) : (l ++ [x]).getD i d = if i < l.length then l.getD i d else x := by
  by_cases h : i < l.length
  · simp [h, List.getD, List.getElem?_append_left h]
  · have : i = l.length := by omega
    subst this
    simp [List.getD]

theorem getD_more {α : Type} (l r : List α) (d : α) (i : Nat) : (l ++ r).getD i d = if i < l.length then l.getD i d else r.getD (i - l.length) d := by
  by_cases h : i < l.length
  · simp [h, List.getD, List.getElem?_append_left h]
  · simp [h, List.getD, List.getElem?_append_right (Nat.le_of_not_lt h)]

/-- Blocks that are neither a script's world nor rows of lists or numbers are as they were. -/
def Frame (w w' : World) : Prop := ∀ (k : Nat) (cur : Array Value) (t : TypeId), w.heap[k]? = some (.cells cur t (0, 0)) → t ≠ 90 → t ≠ 29 → t ≠ 3 → w'.heap[k]? = some (.cells cur t (0, 0))
theorem Frame.of_below {w w' : World} (h : Below w.heap.size w w') : Frame w w' := fun k _ _ hk _ _ _ => (h.block k (Array.getElem?_eq_some_iff.1 hk).1).trans hk
theorem Frame.trans {a b c : World} (h : Frame a b) (h' : Frame b c) : Frame a c := fun k cur t hk h1 h2 h3 => h' k cur t (h k cur t hk h1 h2 h3) h1 h2 h3

set_option maxRecDepth 100000 in
set_option maxHeartbeats 4000000 in
theorem summed_any (g : Nat) (c : Array Value) (Ls : List (List Ent)) (nx : Int) (v u : Value) (L : List Ent) (w0 w : World) (hS : StateE w0 g c Ls nx) (hb : Below w0.heap.size w0 w)
    (hv : OwnE w w0.heap.size v L) (hu : OwnE w w0.heap.size u L) (hap : Apart v u) (hl : L.length ≤ 4194304) (hn : nx ≤ 10000000) :
    Calls Tryz.prog 114 #[.pointer (some ⟨g, 0, none⟩), v, u] w fun e w' => e = .returned (.bool true) ∧ ∃ c', StateE w' g c' (Ls ++ [L]) (nx + 1) ∧ (∀ j, j ≠ 0 → j ≠ 4 → j ≠ 5 → j ≠ 12 → c'[j]? = c[j]?) ∧ Below g w w' ∧ w.heap.size ≤ w'.heap.size ∧ Frame w0 w' := by
  have hg0 := hS.lt
  have hS1 := hS.below hb
  obtain ⟨vu, ve, vm, us, vs, ms, h1, h2, h3, h4, h5, h6, h7, h8, h9, h10, h11, h12, h13, h14, h15, h16⟩ := hS
  obtain ⟨a1, c1, rfl, hE1, _⟩ := hv.view hl
  obtain ⟨a2, c2, rfl, hE2, _⟩ := hu.view hl
  obtain ⟨j0, jinf, jz0, jz1, jz2⟩ := info_parts info29
  have hgw : g + 1 ≤ w.heap.size := by have := hb.size; omega
  have HH : Hid (us.length = Ls.length ∧ (∀ i, i < Ls.length → OwnE w0 (g + 1) (us.getD i (.slice none 0 0)) (Ls.getD i [])) ∧ (∀ i, i < vs.length → AllM w0 (ms.getD i 0) (vs.getD i (.slice none 0 0)))) := ⟨h11, h15, h16⟩
  have HR0 : Hid (w0.ownsRow (g + 1) 29 1 vu us.length us ∧ w0.ownsRow (g + 1) 29 1 ve vs.length vs ∧ OwnI w0 (g + 1) vm ms ∧ WB w0 g c) := ⟨h7, h8, h9, h1⟩
  have tw : Touch (fun _ => False) w0 w := .of_below hb
  have HW : Hid (WB w g c) := h1.below hb hg0
  have HV : Hid (OwnE w (g + 1) (.slice a1 L.length c1) L) := row_base hv (by omega)
  have HVL : Hid (∀ k, (Value.slice a1 L.length c1).ownBlock = some k → w0.heap.size ≤ k) := fun k hk => (World.ownsRow.lt hv k hk).1
  have HU : Hid (OwnE w (g + 1) (.slice a2 L.length c2) L) := row_base hu (by omega)
  have HUL : Hid (∀ k, (Value.slice a2 L.length c2).ownBlock = some k → w0.heap.size ≤ k ∧ k < w.heap.size) := fun k hk => World.ownsRow.lt hu k hk
  have HAP : Hid (Apart (.slice a1 L.length c1) (.slice a2 L.length c2)) := hap
  have HR7 : Hid (w.ownsRow (g + 1) 29 1 vu us.length us) := tw.row h7 (fun _ _ => id)
  have HR8 : Hid (w.ownsRow (g + 1) 29 1 ve vs.length vs) := tw.row h8 (fun _ _ => id)
  have HR9 : Hid (OwnI w (g + 1) vm ms) := tw.row h9 (fun _ _ => id)
  have HC : Hid (c[0]? = some vu ∧ c[4]? = some ve ∧ c[5]? = some vm ∧ c[12]? = some (.int .i64 nx)) := ⟨h3, h4, h5, h6⟩
  have HE1 : Hid (EntsV w a1 L) := hE1
  have HE2 : Hid (EntsV w a2 L) := hE2
  have HP0 : Hid (∀ k, vu.ownBlock = some k → k < w0.heap.size) := fun k hk => (World.ownsRow.lt h7 k hk).2
  have HP1 : Hid (∀ k, ve.ownBlock = some k → k < w0.heap.size) := fun k hk => (World.ownsRow.lt h8 k hk).2
  have HAUE : Hid (Apart vu ve) := h10
  have hN : (us.length : Int) ≤ nx ∧ (ms.length : Int) ≤ 4 * nx ∧ vs.length = ms.length := ⟨h14, h13, h12⟩
  obtain ⟨hN1, hN2, hN3⟩ := hN
  have HN3 : Hid (vs.length = ms.length) := hN3
  have hvl : vs.length ≤ 100000000 := by omega
  have hml : ms.length ≤ 100000000 := by omega
  have hul : us.length ≤ 100000000 := by omega
  have hnx : 0 ≤ nx := by omega
  have HB : Hid (Below w0.heap.size w0 w) := hb
  clear hS1 hN3 hb h1 h3 h4 h5 h6 h7 h8 h9 h10 h11 h12 h13 h14 h15 h16 hv hu hap hE1 hE2 tw
  go_enter Tryz.func114, Tryz.ntmps114
  go_wp2_with fail
  refine (sameEntries_any a1 a2 L c1 c2 w HE1.out HE2.out).mono ?_
  rintro e w1 ⟨rfl, hb1⟩
  have HB1 : Hid (Below w.heap.size w w1) := hb1
  have t1 : Touch (fun _ => False) w w1 := .of_below hb1
  have HT1 : Hid (Touch (fun _ => False) w w1) := t1
  clear hb1 t1
  go_wp2_with fail
  refine (ownEntries_any g (g + 1) c (.slice a1 L.length c1) ve vm L vs ms nx w1 (HW.out.below HB1.out (by omega)) HC.out.2.1 HC.out.2.2.1 HC.out.2.2.2 (by omega) (Nat.le_trans hgw HB1.out.size) (HV.out.below HB1.out) (HT1.out.row HR8.out (fun _ _ => id)) (HT1.out.row HR9.out (fun _ _ => id)) hl hvl hml ⟨hnx, by omega⟩).mono ?_
  rintro e w2 ⟨rfl, ve', vm', news, o1, o2, o3, o4, o5, o6, o7⟩
  have HW2 : Hid (WB w2 g (((c.setIfInBounds 12 (.int .i64 (nx + 1))).setIfInBounds 4 ve').setIfInBounds 5 vm')) := o1
  have HE3 : Hid (w2.ownsRow (g + 1) 29 1 ve' (vs.length + 4) (vs ++ news)) := o2
  have HM3 : Hid (OwnI w2 (g + 1) vm' (ms ++ List.replicate 4 (-(nx + 1)))) := o3
  have HNW : Hid (news.length = 4 ∧ ∀ u ∈ news, AllM w2 (-(nx + 1)) u) := ⟨o4, o5⟩
  have HT2 : Hid (Touch (fun k => k = g ∨ some k = (Value.slice a1 L.length c1).ownBlock ∨ some k = ve.ownBlock ∨ some k = vm.ownBlock) w1 w2) := o6
  have HVE : Hid (ve'.ownBlock = ve.ownBlock ∨ ∃ k, ve'.ownBlock = some k ∧ w1.heap.size ≤ k) := o7
  clear o1 o2 o3 o4 o5 o6 o7
  obtain ⟨cc, hcc⟩ : ∃ cc, cc = ((c.setIfInBounds 12 (.int .i64 (nx + 1))).setIfInBounds 4 ve').setIfInBounds 5 vm' := ⟨_, rfl⟩
  have HCC : Hid (cc = ((c.setIfInBounds 12 (.int .i64 (nx + 1))).setIfInBounds 4 ve').setIfInBounds 5 vm') := hcc
  rw [← hcc] at HW2
  have HC0 : Hid (cc[0]? = some vu) := by
    show cc[0]? = some vu
    rw [hcc, Array.getElem?_setIfInBounds_ne (by decide), Array.getElem?_setIfInBounds_ne (by decide), Array.getElem?_setIfInBounds_ne (by decide)]; exact HC.out.1
  clear hcc
  have HT02 : Hid (Touch (fun k => k = g ∨ some k = (Value.slice a1 L.length c1).ownBlock ∨ some k = ve.ownBlock ∨ some k = vm.ownBlock) w0 w2) := ((Touch.of_below HB.out).below (HB1.out)).trans HT2.out
  have HT12 : Hid (Touch (fun k => k = g ∨ some k = (Value.slice a1 L.length c1).ownBlock ∨ some k = ve.ownBlock ∨ some k = vm.ownBlock) w w2) := (Touch.of_below HB1.out).trans HT2.out
  have HU2 : Hid (w2.ownsRow (g + 1) 29 1 vu us.length us) := HT12.out.row HR7.out (fun k hk e => by
    rcases e with e | e | e | e
    · have := (World.ownsRow.lt HR7.out k hk).1; omega
    · have h1 := HVL.out k e.symm; have h2 := HP0.out k hk; omega
    · rcases HAUE.out with h | h | h
      · rw [h] at hk; cases hk
      · rw [h] at e; cases e
      · exact h (hk.trans e)
    · rcases types_apart HR9.out HR7.out (by decide) with h | h
      · rw [h] at hk; cases hk
      · exact h (hk.trans e))
  have d0 : w2.cell? ⟨g, 0, none⟩ = some vu := by rw [HW2.out.cell]; exact HC0.out
  have df : ∀ o, w2.frozen? ⟨g, o, none⟩ = false := fun o => HW2.out.frozen o
  have hg2 : g + 1 ≤ w2.heap.size := by have := HT12.out.size; omega
  go_wp2_with (at_builtin; refine wpList_append_mark rfl (.tmp 20) (.tmp 22) 80 rfl (g + 1) 29 j0 (.slice none 0 0) 1 24 Tryz.underlying80 jinf jz0 jz1 jz2 rfl (by decide) vu us.length us rfl (World.ownsRow.alloc HU2.out _) ⟨w2.heap.size, 0, none⟩ 1 1 [.slice a2 L.length c2] rfl rfl (one_new w2 #[.slice a2 L.length c2] 29) (by intro u hu; simp only [List.mem_cons, List.not_mem_nil, or_false] at hu; rcases hu with rfl; rfl) (by decide) (by unfold maxLen; omega) (by omega) (by simp; omega) ?_)
  intro y3 w3 hX
  obtain ⟨ho3, hg3, hd3, _, q3, p3, rfl⟩ := hX.out
  have hgvu : some g ≠ vu.ownBlock := fun e => by have := (World.ownsRow.lt HR7.out g e.symm).1; omega
  have HW3 : Hid (WB w3 g cc) := (HW2.out.alloc _).grown hg3 hgvu
  have HO3 : Hid (w3.ownsRow (g + 1) 29 1 (.slice (some ⟨q3, 0, none⟩) (us.length + 1) p3) (us.length + 1) (us ++ [.slice a2 L.length c2])) := ho3
  have HT23 : Hid (Touch (fun k => some k = vu.ownBlock) w2 w3) := ((Touch.refl (fun k => some k = vu.ownBlock) w2).alloc _).grown hg3 (fun k e _ => e.symm)
  have HD3 : Hid (some q3 = vu.ownBlock ∨ q3 = w2.heap.size + 1) := by
    rcases hd3 with h | ⟨h, _⟩
    · exact .inl h
    · simp [Value.ownBlock] at h; exact .inr h
  have df3 : ∀ o, w3.frozen? ⟨g, o, none⟩ = false := fun o => HW3.out.frozen o
  have d03 : w3.cell? ⟨g, 0, none⟩ = some vu := by rw [HW3.out.cell]; exact HC0.out
  clear hX ho3 hg3 hd3 d0 df
  go_wp2
  go_ret
  refine ⟨rfl, cc.setIfInBounds 0 (.slice (some ⟨q3, 0, none⟩) (us.length + 1) p3), ?_, ?_, ?_, ?_, ?_⟩
  · have hcs : cc.size = 13 := by rw [HCC.out]; simp [h2]
    have T24 : Touch (fun k => k = g ∨ some k = vu.ownBlock) w2 (w3.setCell ⟨g, 0, none⟩ (.slice (some ⟨q3, 0, none⟩) (us.length + 1) p3)) := (HT23.out.mono (fun k _ e => .inr e)).setCell (p := ⟨g, 0, none⟩) (fun _ => .inl rfl) _
    have T04 : Touch (fun k => k = g ∨ some k = (Value.slice a1 L.length c1).ownBlock ∨ some k = ve.ownBlock ∨ some k = vm.ownBlock ∨ some k = vu.ownBlock) w0 (w3.setCell ⟨g, 0, none⟩ (.slice (some ⟨q3, 0, none⟩) (us.length + 1) p3)) :=
      (HT02.out.mono (fun k _ e => by rcases e with e | e | e | e; exact .inl e; exact .inr (.inl e); exact .inr (.inr (.inl e)); exact .inr (.inr (.inr (.inl e))))).trans (T24.mono (fun k _ e => by rcases e with e | e; exact .inl e; exact .inr (.inr (.inr (.inr e)))))
    have off : ∀ (k : Nat) (cur : Array Value), w0.heap[k]? = some (.cells cur 98 (0, 0)) → ¬ (k = g ∨ some k = (Value.slice a1 L.length c1).ownBlock ∨ some k = ve.ownBlock ∨ some k = vm.ownBlock ∨ some k = vu.ownBlock) := fun k cur hh e => by
      have hk := (Array.getElem?_eq_some_iff.1 hh).1
      rcases e with e | e | e | e | e
      · subst e; rw [HR0.out.2.2.2] at hh; simp at hh
      · have := HVL.out k e.symm; omega
      · obtain ⟨cur', hc'⟩ := row_type HR0.out.2.1 e.symm; rw [hc'] at hh; simp at hh
      · obtain ⟨cur', hc'⟩ := row_type HR0.out.2.2.1 e.symm; rw [hc'] at hh; simp at hh
      · obtain ⟨cur', hc'⟩ := row_type HR0.out.1 e.symm; rw [hc'] at hh; simp at hh
    have off2 : ∀ (k : Nat) (cur : Array Value), w2.heap[k]? = some (.cells cur 98 (0, 0)) → ¬ (k = g ∨ some k = vu.ownBlock) := fun k cur hh e => by
      rcases e with e | e
      · subst e; rw [HW2.out] at hh; simp at hh
      · obtain ⟨cur', hc'⟩ := row_type HU2.out e.symm; rw [hc'] at hh; simp at hh
    have hU2 : OwnE w2 (g + 1) (.slice a2 L.length c2) L := HT12.out.row HU.out (fun k hk e => by
      have hk2 := HUL.out k hk
      rcases e with e | e | e | e
      · have := (World.ownsRow.lt HU.out k hk).1; omega
      · rcases HAP.out with h | h | h
        · rw [h] at e; cases e
        · rw [h] at hk; cases hk
        · exact h (e.symm.trans hk.symm)
      · have := HP1.out k e.symm; omega
      · rcases types_apart HR9.out HU.out (by decide) with h | h
        · rw [h] at hk; cases hk
        · exact h (hk.trans e))
    have hUF : OwnE (w3.setCell ⟨g, 0, none⟩ (.slice (some ⟨q3, 0, none⟩) (us.length + 1) p3)) (g + 1) (.slice a2 L.length c2) L := T24.row hU2 (fun k hk e => by
      obtain ⟨cur, hc⟩ := row_type hU2 hk
      exact off2 k cur hc e)
    have hvu' : ∀ k, ve'.ownBlock = some k → some k ≠ vu.ownBlock := fun k hk e => by
      rcases HVE.out with h | ⟨k', h, hk'⟩
      · rcases HAUE.out with h' | h' | h'
        · rw [h'] at e; cases e
        · rw [h, h'] at hk; cases hk
        · exact h' (by rw [← e, ← hk, h])
      · rw [h] at hk
        have e1 : k' = k := by simpa using hk
        have e2 := HP0.out k e.symm
        have e3 := HB.out.size
        have e4 := HB1.out.size
        omega
    have hvF : (w3.setCell ⟨g, 0, none⟩ (.slice (some ⟨q3, 0, none⟩) (us.length + 1) p3)).ownsRow (g + 1) 29 1 ve' (vs.length + 4) (vs ++ news) := row_setG (HT23.out.row HE3.out (fun k hk e => hvu' k hk e)) (by omega)
    have hmF : OwnI (w3.setCell ⟨g, 0, none⟩ (.slice (some ⟨q3, 0, none⟩) (us.length + 1) p3)) (g + 1) vm' (ms ++ List.replicate 4 (-(nx + 1))) := row_setG (HT23.out.row HM3.out (fun k hk e => by
      rcases types_apart HU2.out HM3.out (by decide) with h | h
      · rw [h] at hk; cases hk
      · exact h (hk.trans e))) (by omega)
    refine ⟨.slice (some ⟨q3, 0, none⟩) (us.length + 1) p3, ve', vm', us ++ [.slice a2 L.length c2], vs ++ news, ms ++ List.replicate 4 (-(nx + 1)), HW3.out.set 0 _, by simp [hcs], ?_, ?_, ?_, ?_, ?_, ?_, hmF, ?_, ?_, ?_, ?_, ?_, ?_, ?_⟩
    · simp [hcs]
    · rw [Array.getElem?_setIfInBounds_ne (by decide), HCC.out, Array.getElem?_setIfInBounds_ne (by decide)]; simp [h2]
    · rw [Array.getElem?_setIfInBounds_ne (by decide), HCC.out]; simp [h2]
    · rw [Array.getElem?_setIfInBounds_ne (by decide), HCC.out, Array.getElem?_setIfInBounds_ne (by decide), Array.getElem?_setIfInBounds_ne (by decide)]; simp [h2]
    · rw [List.length_append]; exact row_setG HO3.out (by omega)
    · rw [List.length_append, HNW.out.1]; exact hvF
    · right; right
      intro e
      have e' : ve'.ownBlock = some q3 := e.symm
      rcases HD3.out with h | h
      · exact hvu' q3 e' h
      · have := (World.ownsRow.lt HE3.out q3 e').2; omega
    · simp [HH.out.1]
    · simp [HNW.out.1, HN3.out]
    · simp; omega
    · simp; omega
    · intro i hi
      rw [List.length_append] at hi
      rw [getD_snoc _ _ _ (by rw [HH.out.1]; exact hi), getD_snoc _ _ _ hi]
      by_cases h : i < Ls.length
      · rw [if_pos (by rw [HH.out.1]; exact h), if_pos h]
        exact T04.row (HH.out.2.1 i h) (fun k hk e => by
          obtain ⟨cur, hc⟩ := row_type (HH.out.2.1 i h) hk
          exact off k cur hc e)
      · rw [if_neg (by rw [HH.out.1]; exact h), if_neg h]; exact hUF
    · intro i hi
      rw [List.length_append, HNW.out.1] at hi
      rw [getD_more, getD_more, ← HN3.out]
      by_cases h : i < vs.length
      · rw [if_pos h, if_pos h]
        exact (HH.out.2.2 i h).touch T04 (fun k cur _ hh => off k cur hh)
      · rw [if_neg h, if_neg h]
        have e1 : (List.replicate 4 (-(nx + 1))).getD (i - vs.length) 0 = -(nx + 1) := by
          rw [List.getD, List.getElem?_replicate, if_pos (by omega)]; rfl
        have e2 : news.getD (i - vs.length) (.slice none 0 0) ∈ news := by
          rw [List.getD, List.getElem?_eq_getElem (by rw [HNW.out.1]; omega)]
          exact List.getElem_mem _
        rw [e1]
        exact (HNW.out.2 _ e2).touch T24 (fun k cur _ hh => off2 k cur hh)
  · intro j n0 n4 n5 n12
    rw [Array.getElem?_setIfInBounds_ne (by omega), HCC.out, Array.getElem?_setIfInBounds_ne (by omega), Array.getElem?_setIfInBounds_ne (by omega), Array.getElem?_setIfInBounds_ne (by omega)]
  · have t12 : Touch (fun k => g ≤ k) w w2 := HT12.out.mono (fun k _ e => by
      show g ≤ k
      rcases e with e | e | e | e
      · omega
      · have := HVL.out k e.symm; omega
      · have := (World.ownsRow.lt HR8.out k e.symm).1; omega
      · have := (World.ownsRow.lt HR9.out k e.symm).1; omega)
    have t23 : Touch (fun k => g ≤ k) w2 w3 := HT23.out.mono (fun k _ e => by
      show g ≤ k
      have := (World.ownsRow.lt HR7.out k e.symm).1; omega)
    have t : Touch (fun k => g ≤ k) w (w3.setCell ⟨g, 0, none⟩ (.slice (some ⟨q3, 0, none⟩) (us.length + 1) p3)) := (t12.trans t23).setCell (p := ⟨g, 0, none⟩) (fun _ => Nat.le_refl g) _
    exact ⟨t.os, t.tape, t.output, t.size, fun k hk => t.block k (by omega) (by omega)⟩
  · have h1 := HT12.out.size
    have h2 := HT23.out.size
    simp [World.setCell]; omega
  · have T24 : Touch (fun k => k = g ∨ some k = vu.ownBlock) w2 (w3.setCell ⟨g, 0, none⟩ (.slice (some ⟨q3, 0, none⟩) (us.length + 1) p3)) := (HT23.out.mono (fun k _ e => .inr e)).setCell (p := ⟨g, 0, none⟩) (fun _ => .inl rfl) _
    have T04 : Touch (fun k => k = g ∨ some k = (Value.slice a1 L.length c1).ownBlock ∨ some k = ve.ownBlock ∨ some k = vm.ownBlock ∨ some k = vu.ownBlock) w0 (w3.setCell ⟨g, 0, none⟩ (.slice (some ⟨q3, 0, none⟩) (us.length + 1) p3)) :=
      (HT02.out.mono (fun k _ e => by rcases e with e | e | e | e; exact .inl e; exact .inr (.inl e); exact .inr (.inr (.inl e)); exact .inr (.inr (.inr (.inl e))))).trans (T24.mono (fun k _ e => by rcases e with e | e; exact .inl e; exact .inr (.inr (.inr (.inr e)))))
    intro k cur t hh t1 t2 t3
    have hk := (Array.getElem?_eq_some_iff.1 hh).1
    refine T04.at_ hh (fun e => ?_)
    rcases e with e | e | e | e | e
    · subst e; rw [HR0.out.2.2.2] at hh; simp at hh; exact t1 hh.2.symm
    · have := HVL.out k e.symm; omega
    · obtain ⟨cur', hc'⟩ := row_type HR0.out.2.1 e.symm; rw [hc'] at hh; simp at hh; exact t2 hh.2.symm
    · obtain ⟨cur', hc'⟩ := row_type HR0.out.2.2.1 e.symm; rw [hc'] at hh; simp at hh; exact t3 hh.2.symm
    · obtain ⟨cur', hc'⟩ := row_type HR0.out.1 e.symm; rw [hc'] at hh; simp at hh; exact t2 hh.2.symm
end Go.Proofs.YtfcgnpchbcmdeaaGreat
