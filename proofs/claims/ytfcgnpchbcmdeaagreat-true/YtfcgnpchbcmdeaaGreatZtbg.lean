/-
  The contract of a text's dataset: each feature learns, each value gets its bin.
  The contract of Close.
  Bytes that are put behind others; the contract of appendLow.
  The contract of checksum.
-/
import Derived.Test.YtfcgnpchbcmdeaaGreatZtbd
import Derived.Deep.RegionHeld3
namespace Go.Proofs.YtfcgnpchbcmdeaaGreat
open Go.RowKit

theorem flatBd_set : ∀ (es : List ES) (vs : List (Value × Value × Value)), vs.length = es.length → ∀ k, k < es.length → ∀ (e : ES) (v : Value × Value × Value),
    flatBd (es.set k e) (vs.set k v) = ((((flatBd es vs).set (k * 4) (.bool e.wd)).set (k * 4 + 1) v.1).set (k * 4 + 2) v.2.1).set (k * 4 + 3) v.2.2
  | [], _, _, k, h, _, _ => by simp at h
  | e0 :: es, [], h, _, _, _, _ => by simp at h
  | e0 :: es, v0 :: vs, _, 0, _, e, v => by simp [flatBd, cellsBd]
  | e0 :: es, v0 :: vs, h, k + 1, hk, e, v => by
    simp only [List.set_cons_succ, flatBd]
    rw [flatBd_set es vs (by simpa using h) k (by simpa using hk) e v]
    have hl : (cellsBd e0 v0).length = 4 := rfl
    have key : ∀ (c : Nat) (L : List Value) (u : Value), (cellsBd e0 v0 ++ L).set ((k + 1) * 4 + c) u = cellsBd e0 v0 ++ L.set (k * 4 + c) u := fun c L u => by
      rw [List.set_append_right _ _ (by rw [hl]; omega), hl, show (k + 1) * 4 + c - 4 = k * 4 + c by omega]
    have k0 := key 0
    simp only [Nat.add_zero] at k0
    rw [k0, key 1, key 2, key 3]
theorem info266 : (Tryz.prog.info? 266).map (fun i => (i.zero, i.size, i.bytes)) = some (some (.agg #[.bool false, .slice none 0 0, .slice none 0 0, .slice none 0 0]), 4, 80) := by kernel_rfl
theorem made_bd (n : Nat) (hn : n ≤ 4) : (madeCells #[.bool false, .slice none 0 0, .slice none 0 0, .slice none 0 0] (n * 4)).toList = flatBd (List.replicate n e0S) (List.replicate n vvv0) := by
  rcases (show n = 0 ∨ n = 1 ∨ n = 2 ∨ n = 3 ∨ n = 4 by omega) with rfl | rfl | rfl | rfl | rfl
  all_goals kernel_rfl
theorem make_bd (n : Nat) (hn : n ≤ 4) (W : World) : (Instr.makeSlice 258 (.int .i64 (n : Int)) (.int .i64 (n : Int))).run Tryz.prog W = .ok (.slice (some ⟨W.heap.size, 0, none⟩) n n) (W.alloc (.cells (madeCells #[.bool false, .slice none 0 0, .slice none 0 0, .slice none 0 0] (n * 4)) 266)) := by
  obtain ⟨i0, hinf, hz0, hz1, hz2⟩ := info_parts info266
  have := run_make (P := Tryz.prog) W 258 266 i0 _ Tryz.underlying258 hinf hz0 .i64 .i64 (n : Int) (n : Int) (by omega) (by omega) (by rw [hz2]; omega) (by omega)
  rw [this]
  simp [hz1, Value.cells]
theorem set4_cell (w : World) (q a b c d : Nat) (x y z u : Value) (p o : Nat) (h : p ≠ q) : ((((w.setCell ⟨q, a, none⟩ x).setCell ⟨q, b, none⟩ y).setCell ⟨q, c, none⟩ z).setCell ⟨q, d, none⟩ u).cell? ⟨p, o, none⟩ = w.cell? ⟨p, o, none⟩ := by
  have h1 : ∀ (W : World) (k : Nat) (v : Value), (W.setCell ⟨q, k, none⟩ v).cell? ⟨p, o, none⟩ = W.cell? ⟨p, o, none⟩ := fun W k v => World.cell?_of_block (a := ⟨p, o, none⟩) (Below.heap_setCell W ⟨q, k, none⟩ v p h)
  rw [h1, h1, h1, h1]

/-- Within dataset: k features have learnt. -/
structure LearnX (w wr : World) (q n k : Nat) (es : List ES) (fvs : List (Value × Value × Value)) (E : Nat → ES) (B : Nat → List Nat) : Prop where
  row : wr.ownsRow 0 266 4 (.slice (some ⟨q, 0, none⟩) n n) n (flatBd es fvs)
  le : es.length = n
  lv : fvs.length = n
  ee : ∀ i, i < k → es.getD i e0S = E i
  each : ∀ i, i < k → OwnI wr 0 (fvs.getD i vvv0).1 (E i).bs ∧ OwnS wr 0 (fvs.getD i vvv0).2.1 (E i).ww ∧ OwnI wr 0 (fvs.getD i vvv0).2.2 (natI (B i))
  bl : Below w.heap.size w wr
theorem LearnX.below {w wr w2 : World} {q n k : Nat} {es : List ES} {fvs : List (Value × Value × Value)} {E : Nat → ES} {B : Nat → List Nat} (h : LearnX w wr q n k es fvs E B) (hb : Below wr.heap.size wr w2) : LearnX w w2 q n k es fvs E B :=
  ⟨(Touch.of_below (S := fun _ => False) hb).row h.row (fun _ _ => id), h.le, h.lv, h.ee, fun i hi => ⟨(h.each i hi).1.below hb, (h.each i hi).2.1.below hb, (h.each i hi).2.2.below hb⟩, h.bl.trans (hb.mono h.bl.size)⟩
theorem LearnX.cells {w wr : World} {q n k : Nat} {es : List ES} {fvs : List (Value × Value × Value)} {E : Nat → ES} {B : Nat → List Nat} (h : LearnX w wr q n k es fvs E B) (hk : k < n) : ((∃ u, wr.cell? ⟨q, k * 4, none⟩ = some u) ∧ (∃ u, wr.cell? ⟨q, k * 4 + 1, none⟩ = some u) ∧ (∃ u, wr.cell? ⟨q, k * 4 + 2, none⟩ = some u) ∧ (∃ u, wr.cell? ⟨q, k * 4 + 3, none⟩ = some u)) ∧ (∀ o, wr.frozen? ⟨q, o, none⟩ = false) := by
  have hr := h.row
  have key : ∀ c, c < 4 → ∃ u, wr.cell? ⟨q, k * 4 + c, none⟩ = some u := fun c hc => by
    rw [World.ownsRow.cellAt hr (k * 4 + c) (by omega)]
    have hl := hr.1
    exact ⟨_, List.getElem?_eq_getElem (by omega)⟩
  obtain ⟨cur, hcur⟩ := row_type hr (k := q) rfl
  exact ⟨⟨key 0 (by omega), key 1 (by omega), key 2 (by omega), key 3 (by omega)⟩, fun o => frozen_of_row _ _ o _ 266 hcur⟩
theorem LearnX.put {w W : World} {q n k : Nat} {es : List ES} {fvs : List (Value × Value × Value)} {E : Nat → ES} {B : Nat → List Nat} (h : LearnX w W q n k es fvs E B) (hk : k < n) (hq : w.heap.size ≤ q) {v : Value × Value × Value} (h1 : OwnI W 0 v.1 (E k).bs) (h2 : OwnS W 0 v.2.1 (E k).ww) (h3 : OwnI W 0 v.2.2 (natI (B k))) :
    LearnX w ((((W.setCell ⟨q, k * 4, none⟩ (.bool (E k).wd)).setCell ⟨q, k * 4 + 1, none⟩ v.1).setCell ⟨q, k * 4 + 2, none⟩ v.2.1).setCell ⟨q, k * 4 + 3, none⟩ v.2.2) q n (k + 1) (es.set k (E k)) (fvs.set k v) E B := by
  obtain ⟨cur, hcur⟩ := row_type h.row (k := q) rfl
  have T : Touch (fun z => z = q) W ((((W.setCell ⟨q, k * 4, none⟩ (.bool (E k).wd)).setCell ⟨q, k * 4 + 1, none⟩ v.1).setCell ⟨q, k * 4 + 2, none⟩ v.2.1).setCell ⟨q, k * 4 + 3, none⟩ v.2.2) :=
    ((((Touch.refl (fun z => z = q) W).setCell (p := ⟨q, k * 4, none⟩) (fun _ => rfl) _).setCell (p := ⟨q, k * 4 + 1, none⟩) (fun _ => rfl) _).setCell (p := ⟨q, k * 4 + 2, none⟩) (fun _ => rfl) _).setCell (p := ⟨q, k * 4 + 3, none⟩) (fun _ => rfl) _
  have NT : ∀ {base e size m : Nat} {u : Value} {xs : List Value}, W.ownsRow base e size u m xs → e ≠ 266 → ∀ z, u.ownBlock = some z → ¬ z = q := fun hr hne z hz e => row_ne hr hz hcur hne e
  refine ⟨?_, by rw [List.length_set]; exact h.le, by rw [List.length_set]; exact h.lv, fun i hi => ?_, fun i hi => ?_, (((h.bl.setCell hq _).setCell hq _).setCell hq _).setCell hq _⟩
  · rw [flatBd_set es fvs (by rw [h.le, h.lv]) k (by rw [h.le]; exact hk)]
    exact (World.ownsRow.stored (World.ownsRow.stored (World.ownsRow.stored (World.ownsRow.stored h.row _ _).1 _ _).1 _ _).1 _ _).1
  · by_cases e : i = k
    · subst e
      simp [List.getD, h.le, hk]
    · have : (es.set k (E k)).getD i e0S = es.getD i e0S := by simp [List.getD, List.getElem?_set_ne (show k ≠ i by omega)]
      rw [this]
      exact h.ee i (by omega)
  · by_cases e : i = k
    · subst e
      have : (fvs.set i v).getD i vvv0 = v := by simp [List.getD, h.lv, hk]
      rw [this]
      exact ⟨T.row h1 (NT h1 (by decide)), T.row h2 (NT h2 (by decide)), T.row h3 (NT h3 (by decide))⟩
    · have : (fvs.set k v).getD i vvv0 = fvs.getD i vvv0 := by simp [List.getD, List.getElem?_set_ne (show k ≠ i by omega)]
      rw [this]
      obtain ⟨a1, a2, a3⟩ := h.each i (by omega)
      exact ⟨T.row a1 (NT a1 (by decide)), T.row a2 (NT a2 (by decide)), T.row a3 (NT a3 (by decide))⟩
theorem LearnX.done {w wr : World} {q n : Nat} {es : List ES} {fvs : List (Value × Value × Value)} {E : Nat → ES} {B : Nat → List Nat} (h : LearnX w wr q n n es fvs E B) : BndX wr (.slice (some ⟨q, 0, none⟩) n n) fvs ((List.range n).map E) ((List.range n).map B) := by
  have e : es = (List.range n).map E := by
    apply List.ext_getElem
    · simp [h.le]
    · intro i h1 h2
      have := h.ee i (by rw [← h.le]; exact h1)
      rw [List.getD, List.getElem?_eq_getElem h1] at this
      simpa using this
  subst e
  have hl : ((List.range n).map E).length = n := by simp
  refine ⟨by rw [hl]; exact h.row, by rw [hl]; exact h.lv, fun i hi => ?_⟩
  rw [hl] at hi
  have e1 : ((List.range n).map E).getD i e0S = E i := by simp [List.getD, hi]
  have e2 : ((List.range n).map B).getD i [] = B i := by simp [List.getD, hi]
  rw [e1, e2]
  exact h.each i hi

theorem OwnS.mono0 {w : World} {b : Nat} {v : Value} {L : List ByteArray} (h : OwnS w b v L) : OwnS w 0 v L := by
  refine ⟨h.1, ?_⟩
  rcases h.2 with hn | ⟨g, cap, cur, e, hg, r⟩
  · exact .inl hn
  · exact .inr ⟨g, cap, cur, e, Nat.zero_le _, r⟩
theorem binS_lt (e : ES) (x : VS) : binS e x < e.cnt + 2 := by
  unfold binS
  split
  · omega
  · split
    · rename_i h
      have : e.ww.findIdx (fun y => decide (y = x.word)) ≤ e.ww.length := List.findIdx_le_length
      have : e.cnt = e.ww.length := by simp [ES.cnt, cntE, h]
      omega
    · rename_i h
      have : e.bs.countP (fun b => decide (b < x.num)) ≤ e.bs.length := List.countP_le_length
      have : e.cnt = e.bs.length := by simp [ES.cnt, cntE, h]
      omega

/-- The function of a feature that learns, and where its numbers lie. -/
def LearnsF (w : World) (wd : Bool) (g ka kb k3 : Nat) (ct bins : Int) (size : Nat) : Prop :=
  (wd = true ∧ g = 210 ∧ w.heap[ka]? = some (.cells #[.int .i64 ct] 3 (0, 0)) ∧ w.heap[kb]? = some (.cells #[.int .i64 bins] 3 (0, 0)) ∧ w.heap[k3]? = some (.cells #[.func (.func 213) #[] #[]] 261 (0, 0))) ∨
  (wd = false ∧ g = 216 ∧ w.heap[ka]? = some (.cells #[.int .i64 bins] 3 (0, 0)) ∧ w.heap[kb]? = some (.cells #[.int .i64 (size : Nat)] 3 (0, 0)) ∧ w.heap[k3]? = some (.cells #[.func (.func 218) #[] #[]] 261 (0, 0)))
theorem FeatF.learns {w : World} {K : Nat → Prop} {v0 v1 v2 : Value} {wd : Bool} {u ct bins : Int} {size : Nat} (h : FeatF w K v0 v1 v2 wd u ct bins size) : ∃ f0 c0 g ka kb k3, v0 = .func f0 #[] c0 ∧ v1 = .func (.func g) #[] #[.pointer (some ⟨ka, 0, none⟩), .pointer (some ⟨kb, 0, none⟩)] ∧ v2 = .func (.func 266) #[] #[.pointer (some ⟨k3, 0, none⟩)] ∧ LearnsF w wd g ka kb k3 ct bins size := by
  rcases h with ⟨h0, k1, k2, k3, e0, e1, e2, _, _, _, h1, h2, h3⟩ | ⟨h0, k0, k1, k2, k3, e0, e1, e2, _, _, _, _, h1, h2, h3, h4⟩
  · exact ⟨_, _, 210, k1, k2, k3, e0, e1, e2, .inl ⟨h0, rfl, h1, h2, h3⟩⟩
  · exact ⟨_, _, 216, k1, k2, k3, e0, e1, e2, .inr ⟨h0, rfl, h2, h3, h4⟩⟩

/-- How a feature of words learns. -/
def LwOk (lw : List VS → List Int → Int → Int → ES) : Prop := ∀ (va wa : Option Addr) (n vcap wcap k1 k2 : Nat) (ct bins : Int) (L : List VS) (ws : List Int) (w : World), OwnV w 0 (.slice va n vcap) L → IntsV w wa n ws → L.length = n → n ≤ 200 → (∀ z ∈ ws, 0 ≤ z ∧ z ≤ 99) → w.cell? ⟨k1, 0, none⟩ = some (.int .i64 ct) → w.cell? ⟨k2, 0, none⟩ = some (.int .i64 bins) → k1 < w.heap.size → k2 < w.heap.size → 2 ≤ bins → bins ≤ 16 →
  Calls Tryz.prog 210 #[.slice va n vcap, .slice wa n wcap, .pointer (some ⟨k1, 0, none⟩), .pointer (some ⟨k2, 0, none⟩)] w fun e w' => ∃ v, e = .returned v ∧ EdgM w' w.heap.size v (lw L ws ct bins) ∧ Below w.heap.size w w'
/-- What a feature learns. -/
def learnE (lw : List VS → List Int → Int → Int → ES) (wd : Bool) (ct bins : Int) (size : Nat) (L : List VS) (ws : List Int) : ES := if wd = true then lw L ws ct bins else ⟨false, learnB L ws bins size, []⟩

set_option maxRecDepth 100000 in
set_option maxHeartbeats 8000000 in
theorem dataset_any (lw : List VS → List Int → Int → Int → ES) (K M : Nat → Prop) (tb rb fb cb m size budget len : Nat) (wd : Nat → Bool) (sc ct : Nat → Int) (bins : Int) (s : RS) (E : Nat → ES) (w : World)
    (hT : w.heap[tb]? = some (.cells #[.slice (some ⟨fb, 0, none⟩) (m + 1) (m + 1), .int .i64 (budget : Nat), .pointer (some ⟨rb, 0, none⟩), .int .i64 (len : Nat)] 158 (0, 0)))
    (hR : RdM w K M rb fb cb (m + 1) wd sc ct bins size s) (hI : RInv (m + 1) s) (hm : m + 1 ≤ 4) (hb : budget ≤ 20)
    (hlw : (∃ i, i < m + 1 ∧ wd i = true) → LwOk lw) (hE : ∀ i, E i = learnE lw (wd i) (ct i) bins size (s.cols i) s.ws) (hok : ∀ i, i < m + 1 → EdgOk (E i) ∧ (E i).wd = wd i ∧ (E i).cnt ≤ 16)
    (hr : ∀ i, i < m + 1 → ∀ v ∈ s.cols i, -1000000000 ≤ v.num ∧ v.num ≤ 1000000000) (hz : ∀ z ∈ s.ws, 0 ≤ z ∧ z ≤ 99) (hs : 2 ≤ size) (hs2 : size ≤ 32) (hb1 : 2 ≤ bins) (hb2 : bins ≤ 16) :
    Calls Tryz.prog 92 #[.pointer (some ⟨tb, 0, none⟩)] w fun e w' => ∃ db, e = .returned (.pointer (some ⟨db, 0, none⟩)) ∧ w.heap.size ≤ db ∧ MadeD w' db (makeF m s.ws.length budget ((List.range (m + 1)).map E) ((List.range (m + 1)).map (fun i => (s.cols i).map (binS (E i))))) ∧ Below w.heap.size w w' := by
  obtain ⟨vW, vr, wv, vc, hX⟩ := hR
  obtain ⟨wa, wc, hvW, hWV, _⟩ := hX.ow.seen (fun z hz' => by have := hz z hz'; omega)
  subst hvW
  have hws := hI.ws
  have HTB := table_any rb _ wa _ _ wc _ _ _ _ _ _ w hX.rd
  have t0 : w.cell? ⟨tb, 0, none⟩ = some (.slice (some ⟨fb, 0, none⟩) (m + 1) (m + 1)) := cell_of_row _ _ 0 _ 158 (0, 0) hT
  have t1 : w.cell? ⟨tb, 1, none⟩ = some (.int .i64 (budget : Nat)) := cell_of_row _ _ 1 _ 158 (0, 0) hT
  have t2 : w.cell? ⟨tb, 2, none⟩ = some (.pointer (some ⟨rb, 0, none⟩)) := cell_of_row _ _ 2 _ 158 (0, 0) hT
  have htl : tb < w.heap.size := (Array.getElem?_eq_some_iff.1 hT).1
  have HX : Hid (RdX w K M rb fb cb (m + 1) wd sc ct bins size s (.slice wa s.ws.length wc) vr wv vc) := hX
  have HWV : Hid (IntsV w wa s.ws.length s.ws) := hWV
  have HCL : Hid (∀ i, i < m + 1 → (s.cols i).length = s.ws.length) := hI.col
  have HOK : Hid (∀ i, i < m + 1 → EdgOk (E i) ∧ (E i).wd = wd i ∧ (E i).cnt ≤ 16) := hok
  have HMK : ∀ W : World, (Instr.makeSlice 258 (.int .i64 ((m : Int) + 1)) (.int .i64 ((m : Int) + 1))).run Tryz.prog W = .ok (.slice (some ⟨W.heap.size, 0, none⟩) (m + 1) (m + 1)) (W.alloc (.cells (madeCells #[.bool false, .slice none 0 0, .slice none 0 0, .slice none 0 0] ((m + 1) * 4)) 266)) := make_bd (m + 1) hm
  have HE : Hid (∀ i, E i = learnE lw (wd i) (ct i) bins size (s.cols i) s.ws) := hE
  clear hT hX hWV hI hok hE
  go_enter Tryz.func92, Tryz.ntmps92
  go_wp2_with fail
  refine HTB.mono ?_
  rintro e w1 ⟨rfl, hw1⟩
  obtain rfl := hw1
  clear HTB
  go_upto_region 2 with fail
  generalize hW1 : (w.alloc (.cells #[.slice wa s.ws.length wc, .slice (some ⟨cb, 0, none⟩) (m + 1) (m + 1)] 250)).alloc (.cells #[.slice wa s.ws.length wc, .slice (some ⟨cb, 0, none⟩) (m + 1) (m + 1)] 250) = w1
  have hB1 : Below w.heap.size w w1 := by rw [← hW1]; exact ((Below.refl _ _).alloc (Nat.le_refl _) _).alloc (by simp) _
  have hs1 : w1.heap.size = w.heap.size + 1 + 1 := by rw [← hW1]; simp
  have hT1 : w1.heap[w.heap.size + 1]? = some (.cells #[.slice wa s.ws.length wc, .slice (some ⟨cb, 0, none⟩) (m + 1) (m + 1)] 250 (0, 0)) := by rw [← hW1]; exact alloc_in _ _ _ (by simp)
  have r0 := (hB1.cell (p := ⟨tb, 0, none⟩) htl).trans t0
  have HS1 : Hid (w1.heap.size = w.heap.size + 1 + 1) := hs1
  clear hW1 hs1
  go_upto_region 3 with fail
  rw [HS1.out]
  have HL0 : Hid (LearnX w (w1.alloc (.cells (madeCells #[.bool false, .slice none 0 0, .slice none 0 0, .slice none 0 0] ((m + 1) * 4)) 266)) (w.heap.size + 1 + 1) (m + 1) 0 (List.replicate (m + 1) e0S) (List.replicate (m + 1) vvv0) E (fun i => (s.cols i).map (binS (E i)))) := by
    refine ⟨?_, by simp, by simp, fun i hi => absurd hi (Nat.not_lt_zero _), fun i hi => absurd hi (Nat.not_lt_zero _), hB1.alloc hB1.size _⟩
    have h1 := World.ownsRow_lit (base := 0) (size := 4) (e := 266) w1 (madeCells #[.bool false, .slice none 0 0, .slice none 0 0, .slice none 0 0] ((m + 1) * 4)) (m + 1) (Nat.zero_le _) (by unfold maxLen; omega) (by simp [madeCells])
    rw [made_bd _ hm, HS1.out] at h1
    exact h1
  have HT2 : Hid ((w1.alloc (.cells (madeCells #[.bool false, .slice none 0 0, .slice none 0 0, .slice none 0 0] ((m + 1) * 4)) 266)).heap[w.heap.size + 1]? = some (.cells #[.slice wa s.ws.length wc, .slice (some ⟨cb, 0, none⟩) (m + 1) (m + 1)] 250 (0, 0))) := (Below.heap_alloc _ _ _ (by rw [HS1.out]; omega)).trans hT1
  have hs2' : w.heap.size + 1 + 1 < (w1.alloc (.cells (madeCells #[.bool false, .slice none 0 0, .slice none 0 0, .slice none 0 0] ((m + 1) * 4)) 266)).heap.size := by simp [HS1.out]
  generalize w1.alloc (.cells (madeCells #[.bool false, .slice none 0 0, .slice none 0 0, .slice none 0 0] ((m + 1) * 4)) 266) = w2 at *
  clear HMK r0 hT1 hB1 HS1
  have q0 := (HL0.out.bl.cell (p := ⟨tb, 0, none⟩) htl).trans t0
  have q1 := (HL0.out.bl.cell (p := ⟨tb, 1, none⟩) htl).trans t1
  go_wp2_with fail
  go_loopw [25] (fun ti wr => ∃ (k : Nat) (es : List ES) (fvs : List (Value × Value × Value)), ti = .int .i64 k ∧ k ≤ m + 1 ∧ Hid (LearnX w wr (w.heap.size + 1 + 1) (m + 1) k es fvs E (fun i => (s.cols i).map (binS (E i)))) ∧ Hid (wr.heap[w.heap.size + 1]? = some (.cells #[.slice wa s.ws.length wc, .slice (some ⟨cb, 0, none⟩) (m + 1) (m + 1)] 250 (0, 0)))) (fun ti _ => m + 1 - (intOf ti).toNat)
  case atStart => exact ⟨0, _, _, rfl, Nat.zero_le _, HL0.out, HT2.out⟩
  case round =>
    clear HL0 HT2 q0 q1 hs2'
    obtain ⟨k, es, fvs, rfl, hkm, HR, HT⟩ := hrel
    have hbw := HR.out.bl
    have hsz := hbw.size
    have hTl : w.heap.size + 1 < wr.heap.size := (Array.getElem?_eq_some_iff.1 HT.out).1
    by_cases hkl : k < m + 1
    · obtain ⟨cur, hc1, hc2, _, hc3⟩ := HX.out.fs.ex
      obtain ⟨v0, v1, v2, hv0, hv1, hv2, hff⟩ := hc3 k hkl
      obtain ⟨f0, c0, g, ka, kb, k3, e0, e1, e2, hlf⟩ := hff.learns
      subst e0 e1 e2
      have hfl : fb < w.heap.size := (Array.getElem?_eq_some_iff.1 hc1).1
      have a0 : wr.cell? ⟨fb, k * 3, none⟩ = some (.func f0 #[] c0) := (hbw.cell (p := ⟨fb, k * 3, none⟩) hfl).trans ((cell_of_row _ _ (k * 3) _ 263 (0, 0) hc1).trans hv0)
      have a1 : wr.cell? ⟨fb, k * 3 + 1, none⟩ = some (.func (.func g) #[] #[.pointer (some ⟨ka, 0, none⟩), .pointer (some ⟨kb, 0, none⟩)]) := (hbw.cell (p := ⟨fb, k * 3 + 1, none⟩) hfl).trans ((cell_of_row _ _ (k * 3 + 1) _ 263 (0, 0) hc1).trans hv1)
      have a2 : wr.cell? ⟨fb, k * 3 + 2, none⟩ = some (.func (.func 266) #[] #[.pointer (some ⟨k3, 0, none⟩)]) := (hbw.cell (p := ⟨fb, k * 3 + 2, none⟩) hfl).trans ((cell_of_row _ _ (k * 3 + 2) _ 263 (0, 0) hc1).trans hv2)
      obtain ⟨ccur, hd1, hd2, hd3⟩ := HX.out.cl
      have hcbl : cb < w.heap.size := (Array.getElem?_eq_some_iff.1 hd1).1
      have hoc := HX.out.oc k hkl
      obtain ⟨va, vcap, hvc⟩ := hoc.form
      rw [HCL.out k hkl] at hvc
      have a3 : wr.cell? ⟨cb, k, none⟩ = some (.slice va s.ws.length vcap) := (hbw.cell (p := ⟨cb, k, none⟩) hcbl).trans ((cell_of_row _ _ k _ 251 (0, 0) hd1).trans ((hd3 k hkl).trans (congrArg some hvc)))
      rw [hvc] at hoc
      have x1 : wr.cell? ⟨w.heap.size + 1, 1, none⟩ = some (.slice (some ⟨cb, 0, none⟩) (m + 1) (m + 1)) := cell_of_row _ _ 1 _ 250 (0, 0) HT.out
      have x0 : wr.cell? ⟨w.heap.size + 1, 0, none⟩ = some (.slice wa s.ws.length wc) := cell_of_row _ _ 0 _ 250 (0, 0) HT.out
      have HEK : Hid (EdgOk (E k) ∧ (E k).wd = wd k) := ⟨(HOK.out k hkl).1, (HOK.out k hkl).2.1⟩
      have HLE : Hid (∀ W : World, Below w.heap.size w W → Calls Tryz.prog g #[.slice va s.ws.length vcap, .slice wa s.ws.length wc, .pointer (some ⟨ka, 0, none⟩), .pointer (some ⟨kb, 0, none⟩)] W fun e w' => ∃ v, e = .returned v ∧ EdgM w' W.heap.size v (E k) ∧ Below W.heap.size W w') := fun W hW => by
        have hV : OwnV W 0 (.slice va s.ws.length vcap) (s.cols k) := (Touch.of_below (S := fun _ => False) (hW.mono (Nat.le_refl _))).row hoc (fun _ _ => id)
        have hsW := hW.size
        rw [HE.out k]
        rcases hlf with ⟨h0, rfl, h1, h2, _⟩ | ⟨h0, rfl, h1, h2, _⟩
        · unfold learnE
          rw [if_pos h0]
          have l1 := (Array.getElem?_eq_some_iff.1 h1).1
          have l2 := (Array.getElem?_eq_some_iff.1 h2).1
          exact hlw ⟨k, hkl, h0⟩ va wa _ vcap wc ka kb (ct k) bins _ _ W hV (HWV.out.below hW) (HCL.out k hkl) hws hz ((hW.cell (p := ⟨ka, 0, none⟩) l1).trans (cell_of_row _ _ 0 _ 3 (0, 0) h1)) ((hW.cell (p := ⟨kb, 0, none⟩) l2).trans (cell_of_row _ _ 0 _ 3 (0, 0) h2)) (by omega) (by omega) hb1 hb2
        · unfold learnE
          rw [if_neg (by rw [h0]; decide)]
          have l1 := (Array.getElem?_eq_some_iff.1 h1).1
          have l2 := (Array.getElem?_eq_some_iff.1 h2).1
          exact learnN_any va wa _ vcap wc ka kb size bins _ _ W hV (HWV.out.below hW) (HCL.out k hkl) hws (hr k hkl) hz hs hs2 hb1 hb2 ((hW.cell (p := ⟨ka, 0, none⟩) l1).trans (cell_of_row _ _ 0 _ 3 (0, 0) h1)) ((hW.cell (p := ⟨kb, 0, none⟩) l2).trans (cell_of_row _ _ 0 _ 3 (0, 0) h2)) (by omega) (by omega)
      have HK3 : Hid (w.cell? ⟨k3, 0, none⟩ = some (.func (.func (if (E k).wd = true then 213 else 218)) #[] #[]) ∧ k3 < w.heap.size) := by
        rw [HEK.out.2]
        rcases hlf with ⟨h0, _, _, _, h3⟩ | ⟨h0, _, _, _, h3⟩
        · rw [if_pos h0]
          exact ⟨cell_of_row _ _ 0 _ 261 (0, 0) h3, (Array.getElem?_eq_some_iff.1 h3).1⟩
        · rw [if_neg (by rw [h0]; decide)]
          exact ⟨cell_of_row _ _ 0 _ 261 (0, 0) h3, (Array.getElem?_eq_some_iff.1 h3).1⟩
      have HOC : Hid (OwnV w 0 (.slice va s.ws.length vcap) (s.cols k)) := hoc
      have bk1 : (0 : Int) ≤ (k : Int) := by omega
      have bk2 : (k : Int) < (m : Int) + 1 := by omega
      have HBW : Hid (Below w.heap.size w wr) := hbw
      have hcb2 : cb < wr.heap.size := by omega
      have hg : g = 210 ∨ g = 216 := by
        rcases hlf with ⟨_, h0, _⟩ | ⟨_, h0, _⟩
        · exact .inl h0
        · exact .inr h0
      clear hc1 hc2 hc3 hv0 hv1 hv2 hff hlf hd1 hd2 hd3 hoc hvc hbw
      rcases hg with hg | hg
      · subst hg
        go_wp2_with fail
        refine (HLE.out _ (HBW.out.trans (Below.mono ((Below.refl wr.heap.size wr).alloc (Nat.le_refl _) _) hsz))).mono ?_
        rintro e w2 ⟨ve, rfl, hEd, hbb⟩
        have HED : Hid (EdgM w2 0 ve (E k)) := by
          obtain ⟨vb, vw, g1, g2, g3⟩ := hEd
          exact ⟨vb, vw, g1, OwnI.mono g2 (Nat.zero_le _), OwnS.mono0 g3⟩
        obtain ⟨eb, ecb, ew, ecw, hve, hEb, hEw⟩ := HED.out.form
        subst hve
        have hBx : w2.heap[wr.heap.size]? = some (.cells #[.func f0 #[] c0, .func (.func 210) #[] #[.pointer (some ⟨ka, 0, none⟩), .pointer (some ⟨kb, 0, none⟩)], .func (.func 266) #[] #[.pointer (some ⟨k3, 0, none⟩)]] 263 (0, 0)) := (hbb.block _ (by simp)).trans (heap_alloc_new _ _)
        have hB2 : Below wr.heap.size wr w2 := ((Below.refl wr.heap.size wr).alloc (Nat.le_refl _) _).trans (hbb.mono (by simp))
        have hsl : wr.heap.size < w2.heap.size := (Array.getElem?_eq_some_iff.1 hBx).1
        have HOW : Hid (OwnI w2 0 (.slice eb (E k).bs.length ecb) (E k).bs ∧ OwnS w2 0 (.slice ew (E k).ww.length ecw) (E k).ww) := ⟨hEb, hEw⟩
        have HB2 : Hid (Below wr.heap.size wr w2) := hB2
        clear hEd hbb hEb hEw HLE a0 a1 a2 a3 hB2
        go_upto_region 8 with fail
        generalize hW3 : w2.alloc (.cells #[.bool (E k).wd, .slice eb (E k).bs.length ecb, .slice ew (E k).ww.length ecw] 170) = w3
        have hB3 : Below w2.heap.size w2 w3 := by rw [← hW3]; exact (Below.refl _ _).alloc (Nat.le_refl _) _
        have hY : w3.heap[w2.heap.size]? = some (.cells #[.bool (E k).wd, .slice eb (E k).bs.length ecb, .slice ew (E k).ww.length ecw] 170 (0, 0)) := by rw [← hW3]; exact heap_alloc_new _ _
        have hXb := (hB3.block _ hsl).trans hBx
        clear hW3 hBx
        have x0 : w3.cell? ⟨wr.heap.size, 0, none⟩ = some (.func f0 #[] c0) := cell_of_row _ _ 0 _ 263 (0, 0) hXb
        have x1 : w3.cell? ⟨wr.heap.size, 1, none⟩ = some (.func (.func 210) #[] #[.pointer (some ⟨ka, 0, none⟩), .pointer (some ⟨kb, 0, none⟩)]) := cell_of_row _ _ 1 _ 263 (0, 0) hXb
        have x2 : w3.cell? ⟨wr.heap.size, 2, none⟩ = some (.func (.func 266) #[] #[.pointer (some ⟨k3, 0, none⟩)]) := cell_of_row _ _ 2 _ 263 (0, 0) hXb
        have y0 : w3.cell? ⟨w2.heap.size, 0, none⟩ = some (.bool (E k).wd) := cell_of_row _ _ 0 _ 170 (0, 0) hY
        have y1 : w3.cell? ⟨w2.heap.size, 1, none⟩ = some (.slice eb (E k).bs.length ecb) := cell_of_row _ _ 1 _ 170 (0, 0) hY
        have y2 : w3.cell? ⟨w2.heap.size, 2, none⟩ = some (.slice ew (E k).ww.length ecw) := cell_of_row _ _ 2 _ 170 (0, 0) hY
        have ly : w2.heap.size < w3.heap.size := (Array.getElem?_eq_some_iff.1 hY).1
        have lx : wr.heap.size < w3.heap.size := by omega
        have hql : w.heap.size + 1 + 1 < wr.heap.size := by
          obtain ⟨cq, hcq⟩ := row_type HR.out.row (k := w.heap.size + 1 + 1) rfl
          exact (Array.getElem?_eq_some_iff.1 hcq).1
        have nx : wr.heap.size ≠ w.heap.size + 1 + 1 := by omega
        have ny : w2.heap.size ≠ w.heap.size + 1 + 1 := by omega
        have HB3 : Hid (Below wr.heap.size wr w3 ∧ Below w2.heap.size w2 w3) := ⟨HB2.out.trans (hB3.mono (by omega)), hB3⟩
        have HBI : Hid (∀ W : World, Below w3.heap.size w3 W → Calls Tryz.prog 156 #[.agg #[.func f0 #[] c0, .func (.func 210) #[] #[.pointer (some ⟨ka, 0, none⟩), .pointer (some ⟨kb, 0, none⟩)], .func (.func 266) #[] #[.pointer (some ⟨k3, 0, none⟩)]], .agg #[.bool (E k).wd, .slice eb (E k).bs.length ecb, .slice ew (E k).ww.length ecw], .slice va s.ws.length vcap] W fun r w' => ∃ v, r = .returned v ∧ OwnI w' W.heap.size v ((s.cols k).map (fun x => ((binS (E k) x : Nat) : Int))) ∧ Below W.heap.size W w') := fun W hW => by
          have h1 : Below w2.heap.size w2 W := HB3.out.2.trans (hW.mono (by omega))
          have h2 : Below w.heap.size w W := (HBW.out.trans (HB3.out.1.mono hsz)).trans (hW.mono (by omega))
          have hsW := hW.size
          exact bins_any _ _ _ 0 k3 va _ vcap (E k) _ W (HED.out.below h1) HEK.out.1 ((Touch.of_below (S := fun _ => False) h2).row HOC.out (fun _ _ => id)) (HCL.out k hkl) hws ⟨_, _, rfl⟩ ⟨_, _, rfl⟩ ((h2.cell (p := ⟨k3, 0, none⟩) HK3.out.2).trans HK3.out.1) (by have := HK3.out.2; omega)
        have HZC : Hid (∀ W : World, Below w3.heap.size w3 W → ((∃ u, W.cell? ⟨w.heap.size + 1 + 1, k * 4, none⟩ = some u) ∧ (∃ u, W.cell? ⟨w.heap.size + 1 + 1, k * 4 + 1, none⟩ = some u) ∧ (∃ u, W.cell? ⟨w.heap.size + 1 + 1, k * 4 + 2, none⟩ = some u) ∧ (∃ u, W.cell? ⟨w.heap.size + 1 + 1, k * 4 + 3, none⟩ = some u)) ∧ (∀ o, W.frozen? ⟨w.heap.size + 1 + 1, o, none⟩ = false)) := fun W hW => (HR.out.below (HB3.out.1.trans (hW.mono (by omega)))).cells hkl
        clear hXb hY hB3
        go_region_held3 (fun w' => w'.cell? ⟨wr.heap.size, 0, none⟩ = some (.func f0 #[] c0) ∧ w'.cell? ⟨wr.heap.size, 1, none⟩ = some (.func (.func 210) #[] #[.pointer (some ⟨ka, 0, none⟩), .pointer (some ⟨kb, 0, none⟩)]) ∧ w'.cell? ⟨wr.heap.size, 2, none⟩ = some (.func (.func 266) #[] #[.pointer (some ⟨k3, 0, none⟩)]) ∧ w'.cell? ⟨w2.heap.size, 0, none⟩ = some (.bool (E k).wd) ∧ w'.cell? ⟨w2.heap.size, 1, none⟩ = some (.slice eb (E k).bs.length ecb) ∧ w'.cell? ⟨w2.heap.size, 2, none⟩ = some (.slice ew (E k).ww.length ecw)) (first | (with_reducible exact ⟨(set4_cell _ (w.heap.size + 1 + 1) _ _ _ _ _ _ _ _ wr.heap.size 0 nx).trans s0, (set4_cell _ (w.heap.size + 1 + 1) _ _ _ _ _ _ _ _ wr.heap.size 1 nx).trans s1, (set4_cell _ (w.heap.size + 1 + 1) _ _ _ _ _ _ _ _ wr.heap.size 2 nx).trans s2, (set4_cell _ (w.heap.size + 1 + 1) _ _ _ _ _ _ _ _ w2.heap.size 0 ny).trans t0, (set4_cell _ (w.heap.size + 1 + 1) _ _ _ _ _ _ _ _ w2.heap.size 1 ny).trans t1, (set4_cell _ (w.heap.size + 1 + 1) _ _ _ _ _ _ _ _ w2.heap.size 2 ny).trans t2⟩) | (exact ⟨(Below.cell (B := w3.heap.size) (w := w3) (p := ⟨wr.heap.size, 0, none⟩) (by repeat (first | assumption | with_reducible exact Below.refl _ _ | with_reducible apply Below.drew | (refine Below.alloc ?_ (by first | omega | (simp; omega) | simp) _))) lx).trans x0, (Below.cell (B := w3.heap.size) (w := w3) (p := ⟨wr.heap.size, 1, none⟩) (by repeat (first | assumption | with_reducible exact Below.refl _ _ | with_reducible apply Below.drew | (refine Below.alloc ?_ (by first | omega | (simp; omega) | simp) _))) lx).trans x1, (Below.cell (B := w3.heap.size) (w := w3) (p := ⟨wr.heap.size, 2, none⟩) (by repeat (first | assumption | with_reducible exact Below.refl _ _ | with_reducible apply Below.drew | (refine Below.alloc ?_ (by first | omega | (simp; omega) | simp) _))) lx).trans x2, (Below.cell (B := w3.heap.size) (w := w3) (p := ⟨w2.heap.size, 0, none⟩) (by repeat (first | assumption | with_reducible exact Below.refl _ _ | with_reducible apply Below.drew | (refine Below.alloc ?_ (by first | omega | (simp; omega) | simp) _))) ly).trans y0, (Below.cell (B := w3.heap.size) (w := w3) (p := ⟨w2.heap.size, 1, none⟩) (by repeat (first | assumption | with_reducible exact Below.refl _ _ | with_reducible apply Below.drew | (refine Below.alloc ?_ (by first | omega | (simp; omega) | simp) _))) ly).trans y1, (Below.cell (B := w3.heap.size) (w := w3) (p := ⟨w2.heap.size, 2, none⟩) (by repeat (first | assumption | with_reducible exact Below.refl _ _ | with_reducible apply Below.drew | (refine Below.alloc ?_ (by first | omega | (simp; omega) | simp) _))) ly).trans y2⟩)) (first | (go_at_call 156; refine (HBI.out _ (by repeat (first | assumption | with_reducible exact Below.refl _ _ | with_reducible apply Below.drew | (refine Below.alloc ?_ (by first | omega | (simp; omega) | simp) _)))).mono ?_; rintro e w5 ⟨v5, rfl, hO5, hb5⟩; have hb35 : Below w3.heap.size w3 w5 := Below.trans (by repeat (first | assumption | with_reducible exact Below.refl _ _ | with_reducible apply Below.drew | (refine Below.alloc ?_ (by first | omega | (simp; omega) | simp) _))) (hb5.mono (by first | omega | (simp; omega) | simp)); have hs35 := hb35.size; have s0 := (Below.cell (B := w3.heap.size) (w := w3) (p := ⟨wr.heap.size, 0, none⟩) hb35 lx).trans x0; have s1 := (Below.cell (B := w3.heap.size) (w := w3) (p := ⟨wr.heap.size, 1, none⟩) hb35 lx).trans x1; have s2 := (Below.cell (B := w3.heap.size) (w := w3) (p := ⟨wr.heap.size, 2, none⟩) hb35 lx).trans x2; have t0 := (Below.cell (B := w3.heap.size) (w := w3) (p := ⟨w2.heap.size, 0, none⟩) hb35 ly).trans y0; have t1 := (Below.cell (B := w3.heap.size) (w := w3) (p := ⟨w2.heap.size, 1, none⟩) hb35 ly).trans y1; have t2 := (Below.cell (B := w3.heap.size) (w := w3) (p := ⟨w2.heap.size, 2, none⟩) hb35 ly).trans y2; obtain ⟨⟨⟨u0, z0⟩, ⟨u1, z1⟩, ⟨u2, z2⟩, ⟨u3, z3⟩⟩, zf⟩ := HZC.out w5 hb35; have zf0 := zf (k * 4); have zf1 := zf (k * 4 + 1); have zf2 := zf (k * 4 + 2); have zf3 := zf (k * 4 + 3); clear zf; obtain ⟨b5, c5, hv5⟩ := hO5.shape; rw [List.length_map] at hv5; subst hv5; have HO5 : Hid (OwnI w5 0 (.slice b5 (s.cols k).length c5) ((s.cols k).map (fun x => ((binS (E k) x : Nat) : Int)))) := OwnI.mono hO5 (Nat.zero_le _); clear hb5 hO5))
        have hL5 := HR.out.below (HB3.out.1.trans (hb35.mono (Nat.le_of_lt lx)))
        have hB25 : Below w2.heap.size w2 w5 := HB3.out.2.trans (hb35.mono (Nat.le_of_lt ly))
        have hN := hL5.put hkl (by omega) (v := (.slice eb (E k).bs.length ecb, .slice ew (E k).ww.length ecw, .slice b5 (s.cols k).length c5)) (HOW.out.1.below hB25) (HOW.out.2.below hB25) (by
          have h1 : natI ((s.cols k).map (binS (E k))) = (s.cols k).map (fun x => ((binS (E k) x : Nat) : Int)) := by simp [natI]
          rw [h1]
          exact HO5.out)
        have HT5 : Hid (((((w5.setCell ⟨w.heap.size + 1 + 1, k * 4, none⟩ (.bool (E k).wd)).setCell ⟨w.heap.size + 1 + 1, k * 4 + 1, none⟩ (.slice eb (E k).bs.length ecb)).setCell ⟨w.heap.size + 1 + 1, k * 4 + 2, none⟩ (.slice ew (E k).ww.length ecw)).setCell ⟨w.heap.size + 1 + 1, k * 4 + 3, none⟩ (.slice b5 (s.cols k).length c5)).heap[w.heap.size + 1]? = some (.cells #[.slice wa s.ws.length wc, .slice (some ⟨cb, 0, none⟩) (m + 1) (m + 1)] 250 (0, 0))) := by
          have h1 : ∀ (W : World) (j : Nat) (v : Value), (W.setCell ⟨w.heap.size + 1 + 1, j, none⟩ v).heap[w.heap.size + 1]? = W.heap[w.heap.size + 1]? := fun W j v => Below.heap_setCell W ⟨w.heap.size + 1 + 1, j, none⟩ v _ (by show w.heap.size + 1 ≠ w.heap.size + 1 + 1; omega)
          show _ = _
          rw [h1, h1, h1, h1]
          exact ((HB3.out.1.trans (hb35.mono (Nat.le_of_lt lx))).block _ hTl).trans HT.out
        have HN : Hid _ := hN
        clear hL5 hB25 hN HR HT HZC HBI HO5 HOW HED HB2 HB3 hb35 x0 x1 x2 y0 y1 y2 z0 z1 z2 z3 zf0 zf1 zf2 zf3 s0 s1 s2 t0 t1 t2
        generalize ((((w5.setCell ⟨w.heap.size + 1 + 1, k * 4, none⟩ (.bool (E k).wd)).setCell ⟨w.heap.size + 1 + 1, k * 4 + 1, none⟩ (.slice eb (E k).bs.length ecb)).setCell ⟨w.heap.size + 1 + 1, k * 4 + 2, none⟩ (.slice ew (E k).ww.length ecw)).setCell ⟨w.heap.size + 1 + 1, k * 4 + 3, none⟩ (.slice b5 (s.cols k).length c5)) = w7 at *
        go_wp2
        go_roundw
        case rel => exact ⟨k + 1, _, _, by go_num, by omega, HN, HT5⟩
        case measure => simp [intOf]; omega
      · subst hg
        go_wp2_with fail
        refine (HLE.out _ (HBW.out.trans (Below.mono ((Below.refl wr.heap.size wr).alloc (Nat.le_refl _) _) hsz))).mono ?_
        rintro e w2 ⟨ve, rfl, hEd, hbb⟩
        have HED : Hid (EdgM w2 0 ve (E k)) := by
          obtain ⟨vb, vw, g1, g2, g3⟩ := hEd
          exact ⟨vb, vw, g1, OwnI.mono g2 (Nat.zero_le _), OwnS.mono0 g3⟩
        obtain ⟨eb, ecb, ew, ecw, hve, hEb, hEw⟩ := HED.out.form
        subst hve
        have hBx : w2.heap[wr.heap.size]? = some (.cells #[.func f0 #[] c0, .func (.func 216) #[] #[.pointer (some ⟨ka, 0, none⟩), .pointer (some ⟨kb, 0, none⟩)], .func (.func 266) #[] #[.pointer (some ⟨k3, 0, none⟩)]] 263 (0, 0)) := (hbb.block _ (by simp)).trans (heap_alloc_new _ _)
        have hB2 : Below wr.heap.size wr w2 := ((Below.refl wr.heap.size wr).alloc (Nat.le_refl _) _).trans (hbb.mono (by simp))
        have hsl : wr.heap.size < w2.heap.size := (Array.getElem?_eq_some_iff.1 hBx).1
        have HOW : Hid (OwnI w2 0 (.slice eb (E k).bs.length ecb) (E k).bs ∧ OwnS w2 0 (.slice ew (E k).ww.length ecw) (E k).ww) := ⟨hEb, hEw⟩
        have HB2 : Hid (Below wr.heap.size wr w2) := hB2
        clear hEd hbb hEb hEw HLE a0 a1 a2 a3 hB2
        go_upto_region 8 with fail
        generalize hW3 : w2.alloc (.cells #[.bool (E k).wd, .slice eb (E k).bs.length ecb, .slice ew (E k).ww.length ecw] 170) = w3
        have hB3 : Below w2.heap.size w2 w3 := by rw [← hW3]; exact (Below.refl _ _).alloc (Nat.le_refl _) _
        have hY : w3.heap[w2.heap.size]? = some (.cells #[.bool (E k).wd, .slice eb (E k).bs.length ecb, .slice ew (E k).ww.length ecw] 170 (0, 0)) := by rw [← hW3]; exact heap_alloc_new _ _
        have hXb := (hB3.block _ hsl).trans hBx
        clear hW3 hBx
        have x0 : w3.cell? ⟨wr.heap.size, 0, none⟩ = some (.func f0 #[] c0) := cell_of_row _ _ 0 _ 263 (0, 0) hXb
        have x1 : w3.cell? ⟨wr.heap.size, 1, none⟩ = some (.func (.func 216) #[] #[.pointer (some ⟨ka, 0, none⟩), .pointer (some ⟨kb, 0, none⟩)]) := cell_of_row _ _ 1 _ 263 (0, 0) hXb
        have x2 : w3.cell? ⟨wr.heap.size, 2, none⟩ = some (.func (.func 266) #[] #[.pointer (some ⟨k3, 0, none⟩)]) := cell_of_row _ _ 2 _ 263 (0, 0) hXb
        have y0 : w3.cell? ⟨w2.heap.size, 0, none⟩ = some (.bool (E k).wd) := cell_of_row _ _ 0 _ 170 (0, 0) hY
        have y1 : w3.cell? ⟨w2.heap.size, 1, none⟩ = some (.slice eb (E k).bs.length ecb) := cell_of_row _ _ 1 _ 170 (0, 0) hY
        have y2 : w3.cell? ⟨w2.heap.size, 2, none⟩ = some (.slice ew (E k).ww.length ecw) := cell_of_row _ _ 2 _ 170 (0, 0) hY
        have ly : w2.heap.size < w3.heap.size := (Array.getElem?_eq_some_iff.1 hY).1
        have lx : wr.heap.size < w3.heap.size := by omega
        have hql : w.heap.size + 1 + 1 < wr.heap.size := by
          obtain ⟨cq, hcq⟩ := row_type HR.out.row (k := w.heap.size + 1 + 1) rfl
          exact (Array.getElem?_eq_some_iff.1 hcq).1
        have nx : wr.heap.size ≠ w.heap.size + 1 + 1 := by omega
        have ny : w2.heap.size ≠ w.heap.size + 1 + 1 := by omega
        have HB3 : Hid (Below wr.heap.size wr w3 ∧ Below w2.heap.size w2 w3) := ⟨HB2.out.trans (hB3.mono (by omega)), hB3⟩
        have HBI : Hid (∀ W : World, Below w3.heap.size w3 W → Calls Tryz.prog 156 #[.agg #[.func f0 #[] c0, .func (.func 216) #[] #[.pointer (some ⟨ka, 0, none⟩), .pointer (some ⟨kb, 0, none⟩)], .func (.func 266) #[] #[.pointer (some ⟨k3, 0, none⟩)]], .agg #[.bool (E k).wd, .slice eb (E k).bs.length ecb, .slice ew (E k).ww.length ecw], .slice va s.ws.length vcap] W fun r w' => ∃ v, r = .returned v ∧ OwnI w' W.heap.size v ((s.cols k).map (fun x => ((binS (E k) x : Nat) : Int))) ∧ Below W.heap.size W w') := fun W hW => by
          have h1 : Below w2.heap.size w2 W := HB3.out.2.trans (hW.mono (by omega))
          have h2 : Below w.heap.size w W := (HBW.out.trans (HB3.out.1.mono hsz)).trans (hW.mono (by omega))
          have hsW := hW.size
          exact bins_any _ _ _ 0 k3 va _ vcap (E k) _ W (HED.out.below h1) HEK.out.1 ((Touch.of_below (S := fun _ => False) h2).row HOC.out (fun _ _ => id)) (HCL.out k hkl) hws ⟨_, _, rfl⟩ ⟨_, _, rfl⟩ ((h2.cell (p := ⟨k3, 0, none⟩) HK3.out.2).trans HK3.out.1) (by have := HK3.out.2; omega)
        have HZC : Hid (∀ W : World, Below w3.heap.size w3 W → ((∃ u, W.cell? ⟨w.heap.size + 1 + 1, k * 4, none⟩ = some u) ∧ (∃ u, W.cell? ⟨w.heap.size + 1 + 1, k * 4 + 1, none⟩ = some u) ∧ (∃ u, W.cell? ⟨w.heap.size + 1 + 1, k * 4 + 2, none⟩ = some u) ∧ (∃ u, W.cell? ⟨w.heap.size + 1 + 1, k * 4 + 3, none⟩ = some u)) ∧ (∀ o, W.frozen? ⟨w.heap.size + 1 + 1, o, none⟩ = false)) := fun W hW => (HR.out.below (HB3.out.1.trans (hW.mono (by omega)))).cells hkl
        clear hXb hY hB3
        go_region_held3 (fun w' => w'.cell? ⟨wr.heap.size, 0, none⟩ = some (.func f0 #[] c0) ∧ w'.cell? ⟨wr.heap.size, 1, none⟩ = some (.func (.func 216) #[] #[.pointer (some ⟨ka, 0, none⟩), .pointer (some ⟨kb, 0, none⟩)]) ∧ w'.cell? ⟨wr.heap.size, 2, none⟩ = some (.func (.func 266) #[] #[.pointer (some ⟨k3, 0, none⟩)]) ∧ w'.cell? ⟨w2.heap.size, 0, none⟩ = some (.bool (E k).wd) ∧ w'.cell? ⟨w2.heap.size, 1, none⟩ = some (.slice eb (E k).bs.length ecb) ∧ w'.cell? ⟨w2.heap.size, 2, none⟩ = some (.slice ew (E k).ww.length ecw)) (first | (with_reducible exact ⟨(set4_cell _ (w.heap.size + 1 + 1) _ _ _ _ _ _ _ _ wr.heap.size 0 nx).trans s0, (set4_cell _ (w.heap.size + 1 + 1) _ _ _ _ _ _ _ _ wr.heap.size 1 nx).trans s1, (set4_cell _ (w.heap.size + 1 + 1) _ _ _ _ _ _ _ _ wr.heap.size 2 nx).trans s2, (set4_cell _ (w.heap.size + 1 + 1) _ _ _ _ _ _ _ _ w2.heap.size 0 ny).trans t0, (set4_cell _ (w.heap.size + 1 + 1) _ _ _ _ _ _ _ _ w2.heap.size 1 ny).trans t1, (set4_cell _ (w.heap.size + 1 + 1) _ _ _ _ _ _ _ _ w2.heap.size 2 ny).trans t2⟩) | (exact ⟨(Below.cell (B := w3.heap.size) (w := w3) (p := ⟨wr.heap.size, 0, none⟩) (by repeat (first | assumption | with_reducible exact Below.refl _ _ | with_reducible apply Below.drew | (refine Below.alloc ?_ (by first | omega | (simp; omega) | simp) _))) lx).trans x0, (Below.cell (B := w3.heap.size) (w := w3) (p := ⟨wr.heap.size, 1, none⟩) (by repeat (first | assumption | with_reducible exact Below.refl _ _ | with_reducible apply Below.drew | (refine Below.alloc ?_ (by first | omega | (simp; omega) | simp) _))) lx).trans x1, (Below.cell (B := w3.heap.size) (w := w3) (p := ⟨wr.heap.size, 2, none⟩) (by repeat (first | assumption | with_reducible exact Below.refl _ _ | with_reducible apply Below.drew | (refine Below.alloc ?_ (by first | omega | (simp; omega) | simp) _))) lx).trans x2, (Below.cell (B := w3.heap.size) (w := w3) (p := ⟨w2.heap.size, 0, none⟩) (by repeat (first | assumption | with_reducible exact Below.refl _ _ | with_reducible apply Below.drew | (refine Below.alloc ?_ (by first | omega | (simp; omega) | simp) _))) ly).trans y0, (Below.cell (B := w3.heap.size) (w := w3) (p := ⟨w2.heap.size, 1, none⟩) (by repeat (first | assumption | with_reducible exact Below.refl _ _ | with_reducible apply Below.drew | (refine Below.alloc ?_ (by first | omega | (simp; omega) | simp) _))) ly).trans y1, (Below.cell (B := w3.heap.size) (w := w3) (p := ⟨w2.heap.size, 2, none⟩) (by repeat (first | assumption | with_reducible exact Below.refl _ _ | with_reducible apply Below.drew | (refine Below.alloc ?_ (by first | omega | (simp; omega) | simp) _))) ly).trans y2⟩)) (first | (go_at_call 156; refine (HBI.out _ (by repeat (first | assumption | with_reducible exact Below.refl _ _ | with_reducible apply Below.drew | (refine Below.alloc ?_ (by first | omega | (simp; omega) | simp) _)))).mono ?_; rintro e w5 ⟨v5, rfl, hO5, hb5⟩; have hb35 : Below w3.heap.size w3 w5 := Below.trans (by repeat (first | assumption | with_reducible exact Below.refl _ _ | with_reducible apply Below.drew | (refine Below.alloc ?_ (by first | omega | (simp; omega) | simp) _))) (hb5.mono (by first | omega | (simp; omega) | simp)); have hs35 := hb35.size; have s0 := (Below.cell (B := w3.heap.size) (w := w3) (p := ⟨wr.heap.size, 0, none⟩) hb35 lx).trans x0; have s1 := (Below.cell (B := w3.heap.size) (w := w3) (p := ⟨wr.heap.size, 1, none⟩) hb35 lx).trans x1; have s2 := (Below.cell (B := w3.heap.size) (w := w3) (p := ⟨wr.heap.size, 2, none⟩) hb35 lx).trans x2; have t0 := (Below.cell (B := w3.heap.size) (w := w3) (p := ⟨w2.heap.size, 0, none⟩) hb35 ly).trans y0; have t1 := (Below.cell (B := w3.heap.size) (w := w3) (p := ⟨w2.heap.size, 1, none⟩) hb35 ly).trans y1; have t2 := (Below.cell (B := w3.heap.size) (w := w3) (p := ⟨w2.heap.size, 2, none⟩) hb35 ly).trans y2; obtain ⟨⟨⟨u0, z0⟩, ⟨u1, z1⟩, ⟨u2, z2⟩, ⟨u3, z3⟩⟩, zf⟩ := HZC.out w5 hb35; have zf0 := zf (k * 4); have zf1 := zf (k * 4 + 1); have zf2 := zf (k * 4 + 2); have zf3 := zf (k * 4 + 3); clear zf; obtain ⟨b5, c5, hv5⟩ := hO5.shape; rw [List.length_map] at hv5; subst hv5; have HO5 : Hid (OwnI w5 0 (.slice b5 (s.cols k).length c5) ((s.cols k).map (fun x => ((binS (E k) x : Nat) : Int)))) := OwnI.mono hO5 (Nat.zero_le _); clear hb5 hO5))
        have hL5 := HR.out.below (HB3.out.1.trans (hb35.mono (Nat.le_of_lt lx)))
        have hB25 : Below w2.heap.size w2 w5 := HB3.out.2.trans (hb35.mono (Nat.le_of_lt ly))
        have hN := hL5.put hkl (by omega) (v := (.slice eb (E k).bs.length ecb, .slice ew (E k).ww.length ecw, .slice b5 (s.cols k).length c5)) (HOW.out.1.below hB25) (HOW.out.2.below hB25) (by
          have h1 : natI ((s.cols k).map (binS (E k))) = (s.cols k).map (fun x => ((binS (E k) x : Nat) : Int)) := by simp [natI]
          rw [h1]
          exact HO5.out)
        have HT5 : Hid (((((w5.setCell ⟨w.heap.size + 1 + 1, k * 4, none⟩ (.bool (E k).wd)).setCell ⟨w.heap.size + 1 + 1, k * 4 + 1, none⟩ (.slice eb (E k).bs.length ecb)).setCell ⟨w.heap.size + 1 + 1, k * 4 + 2, none⟩ (.slice ew (E k).ww.length ecw)).setCell ⟨w.heap.size + 1 + 1, k * 4 + 3, none⟩ (.slice b5 (s.cols k).length c5)).heap[w.heap.size + 1]? = some (.cells #[.slice wa s.ws.length wc, .slice (some ⟨cb, 0, none⟩) (m + 1) (m + 1)] 250 (0, 0))) := by
          have h1 : ∀ (W : World) (j : Nat) (v : Value), (W.setCell ⟨w.heap.size + 1 + 1, j, none⟩ v).heap[w.heap.size + 1]? = W.heap[w.heap.size + 1]? := fun W j v => Below.heap_setCell W ⟨w.heap.size + 1 + 1, j, none⟩ v _ (by show w.heap.size + 1 ≠ w.heap.size + 1 + 1; omega)
          show _ = _
          rw [h1, h1, h1, h1]
          exact ((HB3.out.1.trans (hb35.mono (Nat.le_of_lt lx))).block _ hTl).trans HT.out
        have HN : Hid _ := hN
        clear hL5 hB25 hN HR HT HZC HBI HO5 HOW HED HB2 HB3 hb35 x0 x1 x2 y0 y1 y2 z0 z1 z2 z3 zf0 zf1 zf2 zf3 s0 s1 s2 t0 t1 t2
        generalize ((((w5.setCell ⟨w.heap.size + 1 + 1, k * 4, none⟩ (.bool (E k).wd)).setCell ⟨w.heap.size + 1 + 1, k * 4 + 1, none⟩ (.slice eb (E k).bs.length ecb)).setCell ⟨w.heap.size + 1 + 1, k * 4 + 2, none⟩ (.slice ew (E k).ww.length ecw)).setCell ⟨w.heap.size + 1 + 1, k * 4 + 3, none⟩ (.slice b5 (s.cols k).length c5)) = w7 at *
        go_wp2
        go_roundw
        case rel => exact ⟨k + 1, _, _, by go_num, by omega, HN, HT5⟩
        case measure => simp [intOf]; omega
    · have hkk : k = m + 1 := by omega
      have hnk : ¬ (k : Int) < (m : Int) + 1 := by omega
      have hB := HR.out
      rw [hkk] at hB
      have hBd := hB.done
      have q1 := (hB.bl.cell (p := ⟨tb, 1, none⟩) htl).trans t1
      have hgE : ∀ i, i < m + 1 → ((List.range (m + 1)).map E).getD i e0S = E i := fun i hi => by simp [List.getD, hi]
      have hgB : ∀ i, i < m + 1 → ((List.range (m + 1)).map (fun i => (s.cols i).map (binS (E i)))).getD i [] = (s.cols i).map (binS (E i)) := fun i hi => by simp [List.getD, hi]
      have hBO : BinOk m s.ws.length ((List.range (m + 1)).map E) ((List.range (m + 1)).map (fun i => (s.cols i).map (binS (E i)))) := by
        refine ⟨by simp, fun i hi => ?_, fun i hi => ?_, fun i hi => ?_, fun i hi b hb => ?_⟩
        · rw [hgB i hi, List.length_map]; exact HCL.out i hi
        · rw [hgE i hi]; exact (HOK.out i hi).1
        · rw [hgE i hi]; exact (HOK.out i hi).2.2
        · rw [hgB i hi] at hb
          rw [hgE i hi]
          obtain ⟨x, _, rfl⟩ := List.mem_map.1 hb
          exact binS_lt _ _
      have HMK := make_any m s.ws.length budget (w.heap.size + 1 + 1) (m + 1) fvs _ _ wr hm hws hb hBd hBO
      have HBW : Hid (Below w.heap.size w wr) := hB.bl
      clear hB hBd hBO hgE hgB HR HT hkk
      go_wp2_with fail
      refine HMK.mono ?_
      rintro e w3 ⟨rfl, hM, hb3⟩
      have HM : Hid (MadeD w3 wr.heap.size (makeF m s.ws.length budget ((List.range (m + 1)).map E) ((List.range (m + 1)).map (fun i => (s.cols i).map (binS (E i))))) ∧ Below w.heap.size w w3) := ⟨hM, HBW.out.trans (hb3.mono hsz)⟩
      clear hM hb3 HMK
      go_wp2
      go_ret
      exact ⟨_, rfl, hsz, HM.out⟩
end Go.Proofs.YtfcgnpchbcmdeaaGreat

namespace Go.Proofs.YtfcgnpchbcmdeaaGreat
open Go.RowKit

theorem close_closed (ib : Nat) (z p : Int) (w : World) (h : DeadX w ib true z p) :
    Calls Tryz.prog 50 #[.pointer (some ⟨ib, 0, none⟩)] w fun e w' => e = .returned (.tuple #[.pointer none, .int .i64 1, .int .i64 0]) ∧ w' = w := by
  have i1 : w.cell? ⟨ib, 1, none⟩ = some (.bool true) := cell_of_row _ _ 1 _ 119 (0, 0) h
  clear h
  go_enter Tryz.func50, Tryz.ntmps50
  go_wp2
  refine bodyPost_ret (v := .tuple #[.pointer none, .int .i64 1, .int .i64 0]) (by simp [results, Tryz.results50, go_sem]) rfl ?_
  exact ⟨rfl, rfl⟩

set_option maxRecDepth 100000 in
theorem close_fault (ib : Nat) (z p : Int) (w : World) (h : DeadX w ib false z p) (hz : z = 2 ∨ z = 3) :
    Calls Tryz.prog 50 #[.pointer (some ⟨ib, 0, none⟩)] w fun e w' => e = .returned (.tuple #[.pointer none, .int .i64 z, .int .i64 p]) ∧ ∃ m, w' = w.drewN m := by
  have i1 : w.cell? ⟨ib, 1, none⟩ = some (.bool false) := cell_of_row _ _ 1 _ 119 (0, 0) h
  have i2 : w.cell? ⟨ib, 2, none⟩ = some (.int .i64 z) := cell_of_row _ _ 2 _ 119 (0, 0) h
  have i3 : w.cell? ⟨ib, 3, none⟩ = some (.int .i64 p) := cell_of_row _ _ 3 _ 119 (0, 0) h
  clear h
  rcases hz with rfl | rfl
  all_goals go_enter Tryz.func50, Tryz.ntmps50
  all_goals go_wp2_with fail
  all_goals go_big_quiet (fail)
  all_goals go_wp2
  · refine bodyPost_ret (v := .tuple #[.pointer none, .int .i64 2, .int .i64 p]) (by simp [results, Tryz.results50, go_sem]) rfl ?_
    exact ⟨rfl, _, rfl⟩
  · refine bodyPost_ret (v := .tuple #[.pointer none, .int .i64 3, .int .i64 p]) (by simp [results, Tryz.results50, go_sem]) rfl ?_
    exact ⟨rfl, _, rfl⟩

/-- What Close leaves of the reader. -/
def CloseP (w w' : World) (ib : Nat) : Prop := DeadX w' ib true 0 0 ∧ Touch (fun k => k = ib) w w'
/-- A DATASET that is handed out. -/
structure OutD (w : World) (gb db : Nat) (D : DSS) : Prop where
  gp : w.heap[gb]? = some (.cells #[.pointer (some ⟨db, 0, none⟩)] 110 (0, 0))
  md : MadeD w db D

section
variable {w : World} {K M : Nat → Prop} {ib tb rb fb cb m : Nat} {wd : Nat → Bool} {sc ct : Nat → Int} {bins : Int} {size budget : Nat} {s : RS} {len : Nat}

theorem InX.shut (hX : InX w K M ib tb rb fb cb (m + 1) wd sc ct bins size budget s len) : Touch (fun k => k = ib) w ((w.setCell ⟨ib, 1, none⟩ (.bool true)).setCell ⟨ib, 0, none⟩ (.pointer none)) ∧ DeadX ((w.setCell ⟨ib, 1, none⟩ (.bool true)).setCell ⟨ib, 0, none⟩ (.pointer none)) ib true 0 0 :=
  ⟨((Touch.refl (fun k => k = ib) w).setCell (p := ⟨ib, 1, none⟩) (fun _ => rfl) _).setCell (p := ⟨ib, 0, none⟩) (fun _ => rfl) _, heap_setCell_same _ ib 0 _ 119 _ (heap_setCell_same _ ib 1 _ 119 _ hX.ik)⟩

set_option maxRecDepth 100000 in
set_option maxHeartbeats 4000000 in
theorem close_torn (hX : InX w K M ib tb rb fb cb (m + 1) wd sc ct bins size budget s len) (hwt : s.wt ≠ 0) :
    Calls Tryz.prog 50 #[.pointer (some ⟨ib, 0, none⟩)] w fun e w' => e = .returned (.tuple #[.pointer none, .int .i64 2, .int .i64 (len : Nat)]) ∧ CloseP w w' ib := by
  obtain ⟨ht, hd⟩ := hX.shut
  have i0 : w.cell? ⟨ib, 0, none⟩ = some (.pointer (some ⟨tb, 0, none⟩)) := cell_of_row _ _ 0 _ 119 (0, 0) hX.ik
  have i1 : w.cell? ⟨ib, 1, none⟩ = some (.bool false) := cell_of_row _ _ 1 _ 119 (0, 0) hX.ik
  have i2 : w.cell? ⟨ib, 2, none⟩ = some (.int .i64 0) := cell_of_row _ _ 2 _ 119 (0, 0) hX.ik
  have g0 : w.frozen? ⟨ib, 0, none⟩ = false := frozen_of_row _ _ 0 _ 119 hX.ik
  have g1 : w.frozen? ⟨ib, 1, none⟩ = false := frozen_of_row _ _ 1 _ 119 hX.ik
  have hT := ht.at_ hX.tx (fun e => hX.ne e.symm)
  obtain ⟨vW, vr, wv, vc, hR⟩ := hX.rd.touch ht (fun k hk e => by rw [e] at hk; exact hk.elim hX.ni.1 hX.ni.2)
  have HW := whole_any rb _ _ _ _ _ _ _ _ hR.rd
  have hdec : decide (s.wt = 0) = false := by simp [hwt]
  rw [hdec] at HW
  have HD : Hid (CloseP w ((w.setCell ⟨ib, 1, none⟩ (.bool true)).setCell ⟨ib, 0, none⟩ (.pointer none)) ib) := ⟨hd, ht⟩
  have t2 := cell_of_row _ _ 2 _ 158 (0, 0) hT
  have t3 := cell_of_row _ _ 3 _ 158 (0, 0) hT
  clear ht hd hT hR hX hdec
  go_enter Tryz.func50, Tryz.ntmps50
  go_upto_region 7 with fail
  generalize (w.setCell ⟨ib, 1, none⟩ (.bool true)).setCell ⟨ib, 0, none⟩ (.pointer none) = w1 at *
  clear i0 i1 i2 g0 g1
  go_wp2_with fail
  refine HW.mono ?_
  rintro e w2 ⟨rfl, hw⟩
  obtain rfl := hw.symm
  go_wp2_with fail
  go_big_quiet (fail)
  go_wp2
  refine bodyPost_ret (v := .tuple #[.pointer none, .int .i64 2, .int .i64 (len : Nat)]) (by simp [results, Tryz.results50, go_sem]) rfl ?_
  exact ⟨rfl, HD.out.1, ⟨HD.out.2.os, HD.out.2.tape, HD.out.2.output, HD.out.2.size, HD.out.2.block⟩⟩

set_option maxRecDepth 100000 in
set_option maxHeartbeats 4000000 in
theorem close_whole (lw : List VS → List Int → Int → Int → ES) (E : Nat → ES) (hX : InX w K M ib tb rb fb cb (m + 1) wd sc ct bins size budget s len) (hwt : s.wt = 0) (hI : RInv (m + 1) s) (hm : m + 1 ≤ 4) (hb : budget ≤ 20)
    (hlw : (∃ i, i < m + 1 ∧ wd i = true) → LwOk lw) (hE : ∀ i, E i = learnE lw (wd i) (ct i) bins size (s.cols i) s.ws) (hok : ∀ i, i < m + 1 → EdgOk (E i) ∧ (E i).wd = wd i ∧ (E i).cnt ≤ 16)
    (hr : ∀ i, i < m + 1 → ∀ v ∈ s.cols i, -1000000000 ≤ v.num ∧ v.num ≤ 1000000000) (hz : ∀ z ∈ s.ws, 0 ≤ z ∧ z ≤ 99) (hs : 2 ≤ size) (hs2 : size ≤ 32) (hb1 : 2 ≤ bins) (hb2 : bins ≤ 16) :
    Calls Tryz.prog 50 #[.pointer (some ⟨ib, 0, none⟩)] w fun e w' => ∃ gb db, e = .returned (.tuple #[.pointer (some ⟨gb, 0, none⟩), .int .i64 0, .int .i64 0]) ∧ w.heap.size ≤ gb ∧ w.heap.size ≤ db ∧ OutD w' gb db (makeF m s.ws.length budget ((List.range (m + 1)).map E) ((List.range (m + 1)).map (fun i => (s.cols i).map (binS (E i))))) ∧ CloseP w w' ib := by
  obtain ⟨ht, hd⟩ := hX.shut
  have i0 : w.cell? ⟨ib, 0, none⟩ = some (.pointer (some ⟨tb, 0, none⟩)) := cell_of_row _ _ 0 _ 119 (0, 0) hX.ik
  have i1 : w.cell? ⟨ib, 1, none⟩ = some (.bool false) := cell_of_row _ _ 1 _ 119 (0, 0) hX.ik
  have i2 : w.cell? ⟨ib, 2, none⟩ = some (.int .i64 0) := cell_of_row _ _ 2 _ 119 (0, 0) hX.ik
  have g0 : w.frozen? ⟨ib, 0, none⟩ = false := frozen_of_row _ _ 0 _ 119 hX.ik
  have g1 : w.frozen? ⟨ib, 1, none⟩ = false := frozen_of_row _ _ 1 _ 119 hX.ik
  have hT := ht.at_ hX.tx (fun e => hX.ne e.symm)
  have hR := hX.rd.touch ht (fun k hk e => by rw [e] at hk; exact hk.elim hX.ni.1 hX.ni.2)
  have HDS := dataset_any lw K M tb rb fb cb m size budget len wd sc ct bins s E _ hT hR hI hm hb hlw hE hok hr hz hs hs2 hb1 hb2
  obtain ⟨vW, vr, wv, vc, hR⟩ := hR
  have HW := whole_any rb _ _ _ _ _ _ _ _ hR.rd
  have hdec : decide (s.wt = 0) = true := by simp [hwt]
  rw [hdec] at HW
  have HD : Hid (CloseP w ((w.setCell ⟨ib, 1, none⟩ (.bool true)).setCell ⟨ib, 0, none⟩ (.pointer none)) ib) := ⟨hd, ht⟩
  have t2 := cell_of_row _ _ 2 _ 158 (0, 0) hT
  clear ht hd hT hR hX hdec hI hlw hok hr hz hs hs2 hb1 hb2 hb hm hwt
  have HE : Hid (∀ i, E i = learnE lw (wd i) (ct i) bins size (s.cols i) s.ws) := hE
  clear hE
  go_enter Tryz.func50, Tryz.ntmps50
  go_upto_region 7 with fail
  generalize (w.setCell ⟨ib, 1, none⟩ (.bool true)).setCell ⟨ib, 0, none⟩ (.pointer none) = w1 at *
  clear i0 i1 i2 g0 g1
  obtain ⟨D, hD⟩ : ∃ D, D = makeF m s.ws.length budget ((List.range (m + 1)).map E) ((List.range (m + 1)).map (fun i => (s.cols i).map (binS (E i)))) := ⟨_, rfl⟩
  rw [← hD] at HDS
  have HDD : Hid (D = makeF m s.ws.length budget ((List.range (m + 1)).map E) ((List.range (m + 1)).map (fun i => (s.cols i).map (binS (E i))))) := hD
  clear hD
  go_wp2_with fail
  refine HW.mono ?_
  rintro e w2 ⟨rfl, hw⟩
  obtain rfl := hw.symm
  go_wp2_with fail
  refine HDS.mono ?_
  rintro e w3 ⟨db, rfl, hdb, hM, hb3⟩
  have hs0 := HD.out.2.size
  have hs3 := hb3.size
  have HF : Hid (w.heap.size ≤ w3.heap.size ∧ w.heap.size ≤ db ∧ OutD (w3.alloc (.cells #[.pointer (some ⟨db, 0, none⟩)] 110)) w3.heap.size db D ∧ CloseP w (w3.alloc (.cells #[.pointer (some ⟨db, 0, none⟩)] 110)) ib) := by
    have hb4 : Below w1.heap.size w1 (w3.alloc (.cells #[.pointer (some ⟨db, 0, none⟩)] 110)) := hb3.alloc hs3 _
    refine ⟨by omega, by omega, ⟨heap_alloc_new _ _, ?_⟩, ?_, HD.out.2.below hb4⟩
    · obtain ⟨vK, vB, vX, kvs, bvs, X, hX⟩ := hM
      have hb5 : Below w3.heap.size w3 (w3.alloc (.cells #[.pointer (some ⟨db, 0, none⟩)] 110)) := (Below.refl _ _).alloc (Nat.le_refl _) _
      exact ⟨vK, vB, vX, kvs, bvs, X, hX.ds.below hb5, hX.kn.below hb5, hX.perm, hX.sorted⟩
    · exact (hb4.block ib (Array.getElem?_eq_some_iff.1 HD.out.1).1).trans HD.out.1
  clear hM hb3 hs3 hs0 hdb
  go_wp2
  refine bodyPost_ret (v := .tuple #[.pointer (some ⟨w3.heap.size, 0, none⟩), .int .i64 0, .int .i64 0]) (by simp [results, Tryz.results50, go_sem]) rfl ?_
  rw [← HDD.out]
  exact ⟨_, _, rfl, HF.out⟩
end
end Go.Proofs.YtfcgnpchbcmdeaaGreat

namespace Go.Proofs.YtfcgnpchbcmdeaaGreat
open Go.RowKit

/-- What putting something behind v leaves: only v's own row may be written; the new one is that, or new. -/
def AppP (w : World) (v : Value) (w' : World) (v' : Value) : Prop := Touch (fun k => v.ownBlock = some k) w w' ∧ ∀ k, v'.ownBlock = some k → v.ownBlock = some k ∨ w.heap.size ≤ k
theorem AppP.refl (w : World) (v : Value) : AppP w v w v := ⟨Touch.refl _ _, fun _ h => .inl h⟩
theorem AppP.trans {w w1 w2 : World} {v v1 v2 : Value} (h : AppP w v w1 v1) (k : AppP w1 v1 w2 v2) : AppP w v w2 v2 := by
  refine ⟨h.1.trans2 k.1 (fun z hz => h.2 z hz), fun z hz => ?_⟩
  rcases k.2 z hz with e | e
  · exact h.2 z e
  · have := h.1.size
    exact .inr (by omega)
theorem AppP.pre {w w1 w2 : World} {v v2 : Value} (h : Below w.heap.size w w1) (k : AppP w1 v w2 v2) : AppP w v w2 v2 :=
  ⟨(Touch.of_below h).trans k.1, fun z hz => (k.2 z hz).imp id (fun e => Nat.le_trans h.size e)⟩
theorem AppP.post {w w1 w2 : World} {v v1 : Value} (k : AppP w v w1 v1) (h : Below w1.heap.size w1 w2) : AppP w v w2 v1 := ⟨k.1.below h, k.2⟩
theorem AppP.of_mark {w w' : World} {v v' : Value} {N : Nat} (g : w.grownBy w' v.ownBlock) (d : v'.ownBlock = v.ownBlock ∨ v'.ownBlock = some N ∧ Below N w w') (hN : w.heap.size ≤ N) : AppP w v w' v' := by
  refine ⟨(Touch.refl _ w).grown g (fun k hk _ => hk), fun k hk => ?_⟩
  rcases d with e | e
  · exact .inl (e ▸ hk)
  · rw [e.1] at hk
    injection hk with hk
    exact .inr (by omega)
/-- What an appending call gives. -/
def AppB (w : World) (v : Value) (bs news : List Int) (e : Ending) (w' : World) : Prop := ∃ v', e = .returned v' ∧ OwnB w' 0 v' (bs ++ news) ∧ AppP w v w' v'
theorem OwnB.more {w : World} {base : Nat} {v : Value} {bs news : List Int} {n : Nat} (h : w.ownsRow base 5 1 v (bs.length + n) (bs.map (Value.int .u8) ++ news.map (Value.int .u8))) (hn : news.length = n) : OwnB w base v (bs ++ news) := by
  unfold OwnB
  rw [List.length_append, List.map_append, hn]
  exact h

/-- The low bytes of a number, the lowest first. -/
def shr8 : Nat → Int → Int
  | 0, n => n
  | j + 1, n => shr8 j n / 256
def lowL (n : Int) : Nat → List Int
  | 0 => []
  | j + 1 => lowL n j ++ [shr8 j n % 256]
theorem lowL_len (n : Int) : ∀ j, (lowL n j).length = j
  | 0 => rfl
  | j + 1 => by simp [lowL, lowL_len n j]
theorem shr8_in {n : Int} (h1 : -1000000000000 ≤ n) (h2 : n ≤ 1000000000000) : ∀ j, -1000000000000 ≤ shr8 j n ∧ shr8 j n ≤ 1000000000000
  | 0 => ⟨h1, h2⟩
  | j + 1 => by
    have := shr8_in h1 h2 j
    unfold shr8
    omega

set_option maxRecDepth 100000 in
set_option maxHeartbeats 4000000 in
theorem appendLow_any (a : Option Addr) (c k : Nat) (bs : List Int) (n : Int) (w : World) (h : OwnB w 0 (.slice a bs.length c) bs) (hk : k ≤ 8) (hl : bs.length ≤ 1000000) (h1 : -1000000000000 ≤ n) (h2 : n ≤ 1000000000000) :
    Calls Tryz.prog 102 #[.slice a bs.length c, .int .i64 n, .int .i64 (k : Nat)] w fun e w' => AppB w (.slice a bs.length c) bs (lowL n k) e w' := by
  have H0 : Hid (OwnB w 0 (.slice a bs.length c) bs) := h
  have HIN : Hid (∀ j, -1000000000000 ≤ shr8 j n ∧ shr8 j n ≤ 1000000000000) := shr8_in h1 h2
  obtain ⟨i0, hinf, hz0, hz1, hz2⟩ := info_parts info5
  clear h h1 h2
  go_enter Tryz.func102, Tryz.ntmps102
  go_wp2_with fail
  go_loopw [0, 1, 8] (fun tv tn ti wr => ∃ (j : Nat) (aj : Option Addr) (cj : Nat), tv = .slice aj (bs.length + j) cj ∧ tn = .int .i64 (shr8 j n) ∧ ti = .int .i64 j ∧ j ≤ k ∧ Hid (OwnB wr 0 (.slice aj (bs.length + j) cj) (bs ++ lowL n j) ∧ AppP w (.slice a bs.length c) wr (.slice aj (bs.length + j) cj))) (fun _ _ ti _ => k - (intOf ti).toNat)
  case atStart => exact ⟨0, a, c, rfl, rfl, rfl, Nat.zero_le _, by show OwnB _ _ _ (bs ++ []) ∧ _; rw [List.append_nil]; exact ⟨H0.out, AppP.refl _ _⟩⟩
  case round =>
    obtain ⟨j, aj, cj, rfl, rfl, rfl, hj, HR⟩ := hrel
    by_cases hjk : j < k
    · have hin := HIN.out j
      have HX : Hid (shr8 (j + 1) n = shr8 j n / 256 ∧ bs ++ lowL n (j + 1) = (bs ++ lowL n j) ++ [shr8 j n % 256]) := ⟨rfl, (List.append_assoc _ _ _).symm⟩
      have HLL : Hid ((bs ++ lowL n j).length = bs.length + j) := by show _ = _; rw [List.length_append, lowL_len]
      generalize shr8 j n = x at *
      have HRW : Hid (wr.ownsRow 0 5 1 (.slice aj (bs.length + j) cj) (bs.length + j) ((bs ++ lowL n j).map (Value.int .u8))) := by
        have h1 := HR.out.1
        unfold OwnB at h1
        rw [HLL.out] at h1
        exact h1
      generalize bs ++ lowL n j = L0 at *
      generalize hbl : bs.length + j = bl at *
      go_wp2_with (at_builtin; refine wpList_append_mark rfl (.tmp 10) (.tmp 13) 66 rfl 0 5 i0 (.int .u8 0) 1 1 Tryz.underlying66 hinf hz0 hz1 hz2 rfl (by decide) _ bl (L0.map (Value.int .u8)) rfl (HRW.out.alloc _) ⟨wr.heap.size, 0, none⟩ 1 1 [.int .u8 (x % 256)] rfl rfl ?_ ?_ ?_ ?_ ?_ ?_ ?_)
      · exact one_new wr #[.int .u8 (x % 256)] 5
      · intro u hu; simp at hu; rcases hu with rfl; rfl
      · decide
      · unfold maxLen; omega
      · omega
      · simp
      intro v4 w4 H4
      obtain ⟨r4, g4, d4, _, q4, p4, hv4⟩ := H4.out
      have HN : Hid (OwnB w4 0 v4 (bs ++ lowL n (j + 1)) ∧ AppP w (.slice a bs.length c) w4 v4) := by
        refine ⟨?_, HR.out.2.trans (AppP.pre ((Below.refl _ _).alloc (Nat.le_refl _) _) (AppP.of_mark g4 d4 (by simp)))⟩
        rw [HX.out.2]
        refine OwnB.more (n := 1) ?_ rfl
        rw [HLL.out]
        exact r4
      subst hv4
      clear H4 r4 g4 d4 HRW HR
      go_wp2
      go_roundw
      case rel => exact ⟨j + 1, some ⟨q4, 0, none⟩, p4, by rw [← hbl]; rfl, by rw [HX.out.1], by go_num, by omega, by rw [← hbl] at HN; exact HN⟩
      case measure => simp [intOf]; omega
    · have hnj : ¬ (j : Int) < (k : Int) := by omega
      have hjk2 : j = k := by omega
      subst hjk2
      go_wp2
      go_ret
      exact ⟨_, rfl, HR.out⟩
end Go.Proofs.YtfcgnpchbcmdeaaGreat

namespace Go.Proofs.YtfcgnpchbcmdeaaGreat
open Go.RowKit

/-- A checksum, one bit on; eight; a byte on; whole, ahead of its turning. -/
def crc1 (z : Int) : Int := if (bits .and .u32 z 1 == 1) = true then bits .xor .u32 (z / 2) 3988292384 else z / 2
def crc8 : Nat → Int → Int
  | 0, z => z
  | j + 1, z => crc1 (crc8 j z)
def crcB (z b : Int) : Int := crc8 8 (bits .xor .u32 z b)
def crcF (bs : List Int) : Int := bs.foldl crcB 4294967295
/-- The checksum. -/
def crcR (bs : List Int) : Int := bits .xor .u32 4294967295 (crcF bs)
theorem bits_in (op : BinOp) (x y : Int) : 0 ≤ bits op .u32 x y ∧ bits op .u32 x y < 4294967296 := by
  unfold bits
  simp only [IntKind.wrap]
  constructor
  · exact Int.emod_nonneg _ (by decide)
  · exact Int.emod_lt_of_pos _ (by decide)
theorem crc1_in {z : Int} (h : 0 ≤ z ∧ z < 4294967296) : 0 ≤ crc1 z ∧ crc1 z < 4294967296 := by
  unfold crc1
  split
  · exact bits_in _ _ _
  · omega
theorem crc8_in {z : Int} (h : 0 ≤ z ∧ z < 4294967296) : ∀ j, 0 ≤ crc8 j z ∧ crc8 j z < 4294967296
  | 0 => h
  | j + 1 => crc1_in (crc8_in h j)
theorem crcF_in : ∀ (bs : List Int) (z : Int), 0 ≤ z ∧ z < 4294967296 → 0 ≤ bs.foldl crcB z ∧ bs.foldl crcB z < 4294967296
  | [], _, h => h
  | b :: bs, z, _ => crcF_in bs (crcB z b) (crc8_in (bits_in _ _ _) 8)
theorem OwnB.atK {w : World} {base : Nat} {a : Option Addr} {n c : Nat} {zs : List Int} (h : OwnB w base (.slice a n c) zs) (hn : zs.length = n) {k : Nat} (hk : k < n) : ∃ q, a = some ⟨q, 0, none⟩ ∧ q < w.heap.size ∧ w.cell? ⟨q, k, none⟩ = some (.int .u8 (zs.getD k 0)) := by
  subst hn
  have h' := h
  rcases h'.2 with ⟨e, h0⟩ | ⟨g, cap, cur, e, _, hh, hnc, _⟩
  · omega
  · injection e with e1 e2 e3
    subst e1
    refine ⟨g, rfl, (Array.getElem?_eq_some_iff.1 hh).1, ?_⟩
    have hr : w.ownsRow base 5 1 (.slice (some ⟨g, 0, none⟩) zs.length c) zs.length (zs.map (Value.int .u8)) := h
    rw [World.ownsRow.cellAt hr k (by omega)]
    simp [List.getD, hk]

set_option maxRecDepth 100000 in
set_option maxHeartbeats 4000000 in
theorem checksum_any (a : Option Addr) (c : Nat) (bs : List Int) (w : World) (h : OwnB w 0 (.slice a bs.length c) bs) (hl : bs.length ≤ 1000000) (hb : ∀ b ∈ bs, 0 ≤ b ∧ b < 256) :
    Calls Tryz.prog 103 #[.slice a bs.length c] w fun e w' => e = .returned (.int .u32 (crcR bs)) ∧ w' = w := by
  have H0 : Hid (OwnB w 0 (.slice a bs.length c) bs) := h
  have HB : Hid (∀ b ∈ bs, 0 ≤ b ∧ b < 256) := hb
  clear h hb
  obtain ⟨n, hn⟩ : ∃ n, n = bs.length := ⟨_, rfl⟩
  have HN : Hid (bs.length = n) := hn.symm
  rw [← hn] at H0 hl ⊢
  clear hn
  go_enter Tryz.func103, Tryz.ntmps103
  go_wp2_with fail
  go_loopw [9, 3] (fun ti tr wr => ∃ (k : Nat) (z : Int), ti = .int .i64 k ∧ tr = .int .u32 z ∧ k ≤ n ∧ Hid (z = (bs.take k).foldl crcB 4294967295) ∧ Hid (w = wr)) (fun ti _ _ => n - (intOf ti).toNat)
  case atStart => exact ⟨0, 4294967295, rfl, rfl, Nat.zero_le _, rfl, rfl⟩
  case round =>
    obtain ⟨k, z, rfl, rfl, hk, HZ, hw⟩ := hrel
    have hw2 := hw.out
    subst hw2
    clear hw
    have hz : 0 ≤ z ∧ z < 4294967296 := by rw [HZ.out]; exact crcF_in _ _ (by decide)
    by_cases hkn : k < n
    · obtain ⟨q, ha, hql, c0⟩ := H0.out.atK HN.out hkn
      subst ha
      have hkl : k < bs.length := by rw [HN.out]; exact hkn
      have hbk : bs.getD k 0 = bs[k] := by simp [List.getD, hkl]
      have HNX : Hid ((bs.take (k + 1)).foldl crcB 4294967295 = crc8 8 (bits .xor .u32 z (bs.getD k 0))) := by
        show _ = _
        rw [List.take_succ_eq_append_getElem hkl, List.foldl_append, ← HZ.out, hbk]; rfl
      have hb0 : 0 ≤ bs.getD k 0 ∧ bs.getD k 0 < 256 := by rw [hbk]; exact HB.out _ (List.getElem_mem hkl)
      clear hbk HZ hkl
      generalize bs.getD k 0 = b at *
      obtain ⟨hz1, hz2⟩ := hz
      obtain ⟨hb1, hb2⟩ := hb0
      have bk1 : (0 : Int) ≤ (k : Int) := by omega
      have bk2 : (k : Int) < (n : Int) := by omega
      have hx := bits_in .xor z b
      go_wp2_with fail
      generalize bits .xor .u32 z b = z0 at *
      have HZ0 : Hid (0 ≤ z0 ∧ z0 < 4294967296) := hx
      clear hx
      go_loopw [17, 3] (fun ti tr wr => ∃ (j : Nat) (y : Int), ti = .int .i64 j ∧ tr = .int .u32 y ∧ j ≤ 8 ∧ Hid (y = crc8 j z0) ∧ Hid (w = wr)) (fun ti _ _ => 8 - (intOf ti).toNat)
      case atStart => exact ⟨0, z0, rfl, rfl, Nat.zero_le _, rfl, rfl⟩
      case round =>
        obtain ⟨j, y, rfl, rfl, hj, HY, hw⟩ := hrel
        have hw2 := hw.out
        subst hw2
        clear hw
        have hy : 0 ≤ y ∧ y < 4294967296 := by rw [HY.out]; exact crc8_in HZ0.out j
        obtain ⟨hy1, hy2⟩ := hy
        by_cases hj8 : j < 8
        · have bj : (j : Int) < 8 := by omega
          have hx := bits_in .xor (y / 2) 3988292384
          have hx2 := bits_in .and y 1
          have HY1 : Hid (crc8 (j + 1) z0 = if (bits .and .u32 y 1 == 1) = true then bits .xor .u32 (y / 2) 3988292384 else y / 2) := by
            show crc1 (crc8 j z0) = _
            rw [← HY.out]; rfl
          generalize hA : bits .and .u32 y 1 = A at *
          generalize hX : bits .xor .u32 (y / 2) 3988292384 = X at *
          by_cases hb : (A == 1) = true
          · have HY2 : Hid (X = crc8 (j + 1) z0) := by have := HY1.out; rw [if_pos hb] at this; exact this.symm
            clear HY1 HY
            go_wp2
            go_roundw
            case rel => exact ⟨j + 1, X, by go_num, rfl, by omega, HY2, True.intro⟩
            case measure => simp [intOf]; omega
          · have hb' : (A == 1) = false := by simpa using hb
            have HY2 : Hid (y / 2 = crc8 (j + 1) z0) := by have := HY1.out; rw [if_neg hb] at this; exact this.symm
            clear HY1 HY hb
            go_wp2
            go_roundw
            case rel => exact ⟨j + 1, y / 2, by go_num, rfl, by omega, HY2, True.intro⟩
            case measure => simp [intOf]; omega
        · have hnj : ¬ (j : Int) < 8 := by omega
          have hj2 : j = 8 := by omega
          have HF : Hid (y = (bs.take (k + 1)).foldl crcB 4294967295) := by
            show _ = _
            rw [HNX.out, ← hj2]; exact HY.out
          clear hj2 HY HNX
          go_wp2
          go_roundw
          case rel => exact ⟨k + 1, y, by go_num, rfl, by omega, HF, True.intro⟩
          case measure => simp [intOf]; omega
    · have hnk : ¬ (k : Int) < (n : Int) := by omega
      have htk : bs.take k = bs := List.take_of_length_le (by have := HN.out; omega)
      have HF : Hid (z = crcF bs) := by
        have := HZ.out
        rw [htk] at this
        exact this
      clear htk HZ
      obtain ⟨hz1, hz2⟩ := hz
      go_wp2
      go_ret
      unfold crcR
      rw [← HF.out]
      exact ⟨rfl, rfl⟩
end Go.Proofs.YtfcgnpchbcmdeaaGreat
