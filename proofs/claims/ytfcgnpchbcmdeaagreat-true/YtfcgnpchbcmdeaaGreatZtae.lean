/-
  The contract of the reference's part: what a summary has to do with a value.
  The contract of the reference's Join: it hands back the joined summary, in memory of its own.
-/
import Derived.Test.YtfcgnpchbcmdeaaGreatZtad
import Derived.Deep.RegionWith
import Derived.Deep.DeepCutAuto
import Derived.BigRegion
namespace Go.Proofs.YtfcgnpchbcmdeaaGreat
open Go.RowKit

/-- WHAT A SUMMARY HAS TO DO WITH A VALUE: i is the first place whose value is not less. -/
def partL (L : List Ent) (i : Nat) (v : Int) : Ent := if i < L.length ∧ (L.getD i e0).v = v then L.getD i e0 else ⟨v, belowL L i, perhL L i, 0⟩

/-- A BOX OF FOUR NUMBERS. -/
def Box4 (w : World) (b : Nat) (x0 x1 x2 x3 : Int) : Prop := w.heap[b]? = some (.cells #[.int .i64 x0, .int .i64 x1, .int .i64 x2, .int .i64 x3] 98 (0, 0))

theorem Box4.cells {w : World} {b : Nat} {x0 x1 x2 x3 : Int} (h : Box4 w b x0 x1 x2 x3) : w.cell? ⟨b, 0, none⟩ = some (.int .i64 x0) ∧ w.cell? ⟨b, 1, none⟩ = some (.int .i64 x1) ∧ w.cell? ⟨b, 2, none⟩ = some (.int .i64 x2) ∧ w.cell? ⟨b, 3, none⟩ = some (.int .i64 x3) ∧ (∀ o, w.frozen? ⟨b, o, none⟩ = false) := by
  unfold Box4 at h
  refine ⟨?_, ?_, ?_, ?_, fun o => frozen_of_row w b o _ 98 h⟩ <;> simp [World.cell?, h]
theorem Box4.lt {w : World} {b : Nat} {x0 x1 x2 x3 : Int} (h : Box4 w b x0 x1 x2 x3) : b < w.heap.size := (Array.getElem?_eq_some_iff.1 h).1

theorem Box4.set1 {w : World} {b : Nat} {x0 x1 x2 x3 : Int} (h : Box4 w b x0 x1 x2 x3) (y : Int) : Box4 (w.setCell ⟨b, 1, none⟩ (.int .i64 y)) b x0 y x2 x3 := by
  have := heap_setCell_same w b 1 _ 98 (.int .i64 y) h
  exact this
theorem Box4.set2 {w : World} {b : Nat} {x0 x1 x2 x3 : Int} (h : Box4 w b x0 x1 x2 x3) (y : Int) : Box4 (w.setCell ⟨b, 2, none⟩ (.int .i64 y)) b x0 x1 y x3 := by
  have := heap_setCell_same w b 2 _ 98 (.int .i64 y) h
  exact this
theorem Box4.other {w : World} {b : Nat} {x0 x1 x2 x3 : Int} (h : Box4 w b x0 x1 x2 x3) {p : Addr} (hp : b ≠ p.block) (u : Value) : Box4 (w.setCell p u) b x0 x1 x2 x3 := by
  unfold Box4 at *
  rw [Below.heap_setCell w p u b hp]; exact h
theorem Box4.alloc {w : World} {b : Nat} {x0 x1 x2 x3 : Int} (h : Box4 w b x0 x1 x2 x3) (o : Obj) : Box4 (w.alloc o) b x0 x1 x2 x3 := by
  have hl := h.lt
  unfold Box4 at *
  rw [Below.heap_alloc w o b hl]; exact h
theorem Box4.new (w : World) (x0 x1 x2 x3 : Int) : Box4 (w.alloc (.cells #[.int .i64 x0, .int .i64 x1, .int .i64 x2, .int .i64 x3] 98)) w.heap.size x0 x1 x2 x3 := heap_alloc_new w _
theorem Box4.drew {w : World} {b : Nat} {x0 x1 x2 x3 : Int} (h : Box4 w b x0 x1 x2 x3) : Box4 w.drew b x0 x1 x2 x3 := h

set_option maxHeartbeats 1000000 in
theorem part_any (a : Option Addr) (L : List Ent) (cap i0 : Nat) (v : Int) (w : World) (h : EntsV w a L) (g : Good L) (hi : i0 ≤ L.length) (hlt : ∀ i, i < i0 → (L.getD i e0).v < v) (hge : i0 < L.length → v ≤ (L.getD i0 e0).v) :
    Calls Tryz.prog 175 #[.slice a L.length cap, .int .i64 v] w fun e w' => e = .returned (.agg #[.int .i64 (partL L i0 v).v, .int .i64 (partL L i0 v).lo, .int .i64 (partL L i0 v).hi, .int .i64 (partL L i0 v).wt]) ∧ Below w.heap.size w w' := by
  have hl := h.1
  have HE : Hid (EntsV w a L) := h
  have HG : Hid (Good L) := g
  have HL : Hid (∀ i, i < i0 → (L.getD i e0).v < v) := hlt
  have HU : Hid (i0 < L.length → v ≤ (L.getD i0 e0).v) := hge
  clear h g hlt hge
  go_enter Tryz.func175, Tryz.ntmps175
  go_wp2_with fail
  refine (total80 a L cap _ (HE.out.below ((Below.refl _ _).alloc (Nat.le_refl _) _))).mono ?_
  rintro e w' ⟨rfl, rfl⟩
  go_wp2_with fail
  go_loopw [6] (fun i wr => ∃ k : Nat, k ≤ i0 ∧ i = .int .i64 k ∧ Below w.heap.size w wr ∧ Box4 wr w.heap.size 0 0 0 0 ∧ Box4 wr (w.heap.size + 1) v (belowL L k) (totalL L) 0) (fun i _ => L.length - (intOf i).toNat)
  case atStart =>
    refine ⟨0, Nat.zero_le _, rfl, ((Below.refl _ _).alloc (Nat.le_refl _) _).alloc (by simp) _, ?_, ?_⟩
    · exact (Box4.new w 0 0 0 0).alloc _
    · have hs : (w.alloc (.cells #[.int .i64 0, .int .i64 0, .int .i64 0, .int .i64 0] 98)).heap.size = w.heap.size + 1 := by simp
      have := Box4.new (w.alloc (.cells #[.int .i64 0, .int .i64 0, .int .i64 0, .int .i64 0] 98)) v 0 (totalL L) 0
      rw [hs] at this
      exact this
  case round =>
    obtain ⟨k, hk, rfl, hbel, hN, hM⟩ := hrel
    obtain ⟨n0, n1, n2, n3, nf⟩ := hN.cells
    obtain ⟨m0, m1, m2, m3, mf⟩ := hM.cells
    have HN : Hid (Box4 wr w.heap.size 0 0 0 0) := hN
    have HM : Hid (Box4 wr (w.heap.size + 1) v (belowL L k) (totalL L) 0) := hM
    clear hN hM
    by_cases hkl : k < L.length
    · rcases HE.out with ⟨_, h0 | ⟨b, off, rfl, hA⟩⟩
      · omega
      have hb := hA.lt (by omega)
      have hA' := hA.below hbel
      have c0 := hA'.v k hkl
      have c1 := hA'.lo k hkl
      have c2 := hA'.hi k hkl
      have c3 := hA'.wt k hkl
      have gd := HG.out.at hkl
      obtain ⟨g1, g2, g3, g4, g5, g6⟩ := gd
      have bk1 : (0 : Int) ≤ (k : Int) := by omega
      have bk2 : (k : Int) < (L.length : Int) := by omega
      by_cases hki : k < i0
      · have hv := HL.out k hki
        have hnb : ((L.getD k e0).v == v) = false := beq_eq_false_iff_ne.2 (by omega)
        have HB : Hid (belowL L (k + 1) = (L.getD k e0).lo + (L.getD k e0).wt) := show _ = _ by simp [belowL]
        clear hA hA'
        generalize (L.getD k e0).v = x0 at *
        generalize (L.getD k e0).lo = x1 at *
        generalize (L.getD k e0).hi = x2 at *
        generalize (L.getD k e0).wt = x3 at *
        go_wp2_with fail
        go_region
        all_goals go_wp2
        all_goals
          go_roundw
          case rel =>
            refine ⟨k + 1, by omega, by go_num, (hbel.setCell (by simp) _).drew, (HN.out.other (by simp) _).drew, ?_⟩
            rw [HB.out]
            exact (HM.out.set1 _).drew
          case measure => simp [intOf]; omega
      · have hk0 : i0 = k := by omega
        subst hk0
        have hv := HU.out hkl
        by_cases he : (L.getD i0 e0).v = v
        · have HP : Hid (partL L i0 v = L.getD i0 e0) := show _ = _ by unfold partL; rw [if_pos ⟨hkl, he⟩]
          have hnb : ((L.getD i0 e0).v == v) = true := beq_iff_eq.2 he
          have HV : Hid ((L.getD i0 e0).v = v) := he
          clear hA hA' he hv
          generalize L.getD i0 e0 = x at *
          go_wp2
          exact bodyPost_ret (v := .agg #[.int .i64 x.v, .int .i64 x.lo, .int .i64 x.hi, .int .i64 x.wt]) (by simp [results, Tryz.results175, go_sem, n0, n1, n2, n3]) rfl ⟨by rw [HP.out], (((hbel.setCell (by simp) _).setCell (by simp) _).setCell (by simp) _).setCell (by simp) _⟩
        · have HP : Hid (partL L i0 v = ⟨v, belowL L i0, (L.getD i0 e0).hi - (L.getD i0 e0).wt, 0⟩) := show _ = _ by unfold partL; rw [if_neg (fun hc => he hc.2)]; unfold perhL; rw [if_neg (by omega)]
          have hnb : ((L.getD i0 e0).v == v) = false := beq_eq_false_iff_ne.2 he
          have hgt : v < (L.getD i0 e0).v := by omega
          clear hA hA' he hv
          generalize (L.getD i0 e0).v = x0 at *
          generalize (L.getD i0 e0).lo = x1 at *
          generalize (L.getD i0 e0).hi = x2 at *
          generalize (L.getD i0 e0).wt = x3 at *
          go_wp2_with fail
          go_region
          all_goals go_wp2
          all_goals exact bodyPost_ret (v := .agg #[.int .i64 v, .int .i64 (belowL L i0), .int .i64 (x2 - x3), .int .i64 0]) (by simp [results, Tryz.results175, go_sem, n0, n1, n2, n3]) rfl ⟨by rw [HP.out], (by repeat (first | with_reducible exact hbel | with_reducible refine Below.drew ?_ | with_reducible refine Below.setCell ?_ (by simp) _))⟩
    · have hk0 : i0 = k := by omega
      subst hk0
      have HP : Hid (partL L i0 v = ⟨v, belowL L i0, totalL L, 0⟩) := show _ = _ by unfold partL; rw [if_neg (fun hc => hkl hc.1)]; unfold perhL; rw [if_pos (by omega)]
      go_wp2
      exact bodyPost_ret (v := .agg #[.int .i64 v, .int .i64 (belowL L i0), .int .i64 (totalL L), .int .i64 0]) (by simp [results, Tryz.results175, go_sem, n0, n1, n2, n3]) rfl ⟨by rw [HP.out], (by repeat (first | with_reducible exact hbel | with_reducible refine Below.drew ?_ | with_reducible refine Below.setCell ?_ (by simp) _))⟩
end Go.Proofs.YtfcgnpchbcmdeaaGreat

namespace Go.Proofs.YtfcgnpchbcmdeaaGreat
open Go.RowKit

/-- THE CELLS OF ENTRIES, ONE BEHIND THE OTHER. -/
def cellsE (e : Ent) : List Value := [.int .i64 e.v, .int .i64 e.lo, .int .i64 e.hi, .int .i64 e.wt]
def flat : List Ent → List Value
  | [] => []
  | e :: L => cellsE e ++ flat L

theorem flat_append (a b : List Ent) : flat (a ++ b) = flat a ++ flat b := by
  induction a with
  | nil => rfl
  | cons e L ih => simp [flat, ih]
theorem flat_len (L : List Ent) : (flat L).length = L.length * 4 := by
  induction L with
  | nil => rfl
  | cons e L ih => simp [flat, cellsE, ih]; omega
theorem flat_one (x : Ent) : flat [x] = [.int .i64 x.v, .int .i64 x.lo, .int .i64 x.hi, .int .i64 x.wt] := rfl

theorem info98 : (Tryz.prog.info? 98).map (fun i => (i.zero, i.size, i.bytes)) = some (some (.agg #[.int .i64 0, .int .i64 0, .int .i64 0, .int .i64 0]), 4, 32) := by kernel_rfl

/-- A SLICE OF ENTRIES OF THE CALL's OWN. -/
def OwnE (w : World) (base : Nat) (v : Value) (L : List Ent) : Prop := w.ownsRow base 98 4 v L.length (flat L)

theorem OwnE.nil (w : World) (base : Nat) : OwnE w base (.slice none 0 0) [] := World.ownsRow_nil w base 98 4
theorem OwnE.alloc {w : World} {base : Nat} {v : Value} {L : List Ent} (h : OwnE w base v L) (o : Obj) : OwnE (w.alloc o) base v L := World.ownsRow.alloc h o
theorem OwnE.below {w w' : World} {base : Nat} {v : Value} {L : List Ent} (h : OwnE w base v L) (hb : Below w.heap.size w w') : OwnE w' base v L := by
  refine ⟨h.1, ?_⟩
  rcases h.2 with hn | ⟨g, cap, cur, e, hg, hh, r⟩
  · exact .inl hn
  · exact .inr ⟨g, cap, cur, e, hg, (hb.block g (Array.getElem?_eq_some_iff.1 hh).1).trans hh, r⟩

theorem joinF_len (a b : List Ent) : ∀ n i j, (joinF a b n i j).length ≤ n
  | 0, _, _ => by simp [joinF]
  | n + 1, i, j => by
    have h1 := joinF_len a b n (i + 1) j
    have h2 := joinF_len a b n i (j + 1)
    have h3 := joinF_len a b n (i + 1) (j + 1)
    simp only [joinF]
    split
    · simp; omega
    · split
      · simp; omega
      · split
        · simp; omega
        · simp
theorem joinL_len (a b : List Ent) : (joinL a b).length ≤ a.length + b.length := joinF_len a b _ 0 0

/-- THE NEXT ENTRY, AS THE REFERENCE MAKES IT. -/
def nextJ (a b : List Ent) (i j : Nat) (v : Int) : Ent := ⟨v, (partL a i v).lo + (partL b j v).lo, (partL a i v).hi + (partL b j v).hi, (partL a i v).wt + (partL b j v).wt⟩

theorem partL_hit {L : List Ent} {i : Nat} (hi : i < L.length) : partL L i (L.getD i e0).v = L.getD i e0 := by unfold partL; rw [if_pos ⟨hi, rfl⟩]
theorem partL_miss {L : List Ent} {i : Nat} {v : Int} (h : i < L.length → (L.getD i e0).v ≠ v) : partL L i v = ⟨v, belowL L i, perhL L i, 0⟩ := by unfold partL; rw [if_neg fun hc => h hc.1 hc.2]

theorem nextJ_a {a b : List Ent} {i j : Nat} (hi : i < a.length) (h : j < b.length → (a.getD i e0).v < (b.getD j e0).v) : nextJ a b i j (a.getD i e0).v = seen b j (a.getD i e0) := by
  unfold nextJ seen
  rw [partL_hit hi, partL_miss (fun hj => by have := h hj; omega)]
  simp
theorem nextJ_b {a b : List Ent} {i j : Nat} (hj : j < b.length) (h : i < a.length → (b.getD j e0).v < (a.getD i e0).v) : nextJ a b i j (b.getD j e0).v = seen a i (b.getD j e0) := by
  unfold nextJ seen
  rw [partL_hit hj, partL_miss (fun hi => by have := h hi; omega)]
  simp only [Ent.mk.injEq, true_and]
  omega
theorem nextJ_ab {a b : List Ent} {i j : Nat} (hi : i < a.length) (hj : j < b.length) (h : (a.getD i e0).v = (b.getD j e0).v) : nextJ a b i j (a.getD i e0).v = sum2 (a.getD i e0) (b.getD j e0) := by
  unfold nextJ sum2
  rw [partL_hit hi, h, partL_hit hj]

theorem partL_in {L : List Ent} (g : Good L) {i : Nat} (hi : i ≤ L.length) (v : Int) : 0 ≤ (partL L i v).lo ∧ (partL L i v).lo ≤ 1000000000000 ∧ 0 ≤ (partL L i v).hi ∧ (partL L i v).hi ≤ 1000000000000 ∧ 0 ≤ (partL L i v).wt ∧ (partL L i v).wt ≤ 1000000000000 := by
  unfold partL
  split
  · rename_i h
    have := g.at h.1; omega
  · have h1 := perh_le g hi
    have h2 := total_pos g
    simp only
    omega

/-- WHERE THE TWO LISTS STAND. -/
structure StandJ (a b : List Ent) (i j : Nat) : Prop where
  hi : i ≤ a.length
  hj : j ≤ b.length
  va : i < a.length → 0 < j → (b.getD (j - 1) e0).v < (a.getD i e0).v
  vb : j < b.length → 0 < i → (a.getD (i - 1) e0).v < (b.getD j e0).v

theorem below_all {L : List Ent} (g : Good L) {i : Nat} {v : Int} (hi : i ≤ L.length) (h : 0 < i → (L.getD (i - 1) e0).v < v) : ∀ k, k < i → (L.getD k e0).v < v := by
  intro k hk
  have h1 := h (by omega)
  by_cases e : k = i - 1
  · rw [e]; exact h1
  · have := (g.lt (show k < i - 1 by omega) (by omega)).1; omega

theorem StandJ.a {a b : List Ent} (ga : Good a) {i j : Nat} (s : StandJ a b i j) (hi : i < a.length) (h : j < b.length → (a.getD i e0).v < (b.getD j e0).v) : StandJ a b (i + 1) j :=
  ⟨by omega, s.hj, fun h1 h0 => by have := s.va hi h0; have := (ga.lt (show i < i + 1 by omega) h1).1; omega, fun h1 _ => by simpa using h h1⟩
theorem StandJ.b {a b : List Ent} (gb : Good b) {i j : Nat} (s : StandJ a b i j) (hj : j < b.length) (h : i < a.length → (b.getD j e0).v < (a.getD i e0).v) : StandJ a b i (j + 1) :=
  ⟨s.hi, by omega, fun h1 _ => by simpa using h h1, fun h1 h0 => by have := s.vb hj h0; have := (gb.lt (show j < j + 1 by omega) h1).1; omega⟩
theorem StandJ.ab {a b : List Ent} (ga : Good a) (gb : Good b) {i j : Nat} (_s : StandJ a b i j) (hi : i < a.length) (hj : j < b.length) (h : (a.getD i e0).v = (b.getD j e0).v) : StandJ a b (i + 1) (j + 1) :=
  ⟨by omega, by omega, fun h1 _ => by have := (ga.lt (show i < i + 1 by omega) h1).1; simp only [Nat.add_sub_cancel]; omega, fun h1 _ => by have := (gb.lt (show j < j + 1 by omega) h1).1; simp only [Nat.add_sub_cancel]; omega⟩

/-- THE RELATION OF THE LOOP, THE WORLD ASIDE. -/
structure RelJ (a b : List Ent) (i j : Nat) (out : List Ent) : Prop where
  st : StandJ a b i j
  eq : out ++ restJ a b i j = joinL a b

theorem RelJ.len {a b : List Ent} {i j : Nat} {out : List Ent} (h : RelJ a b i j out) : out.length ≤ a.length + b.length := by
  have h1 := congrArg List.length h.eq
  have h2 := joinL_len a b
  simp at h1; omega

theorem RelJ.a {a b : List Ent} (ga : Good a) {i j : Nat} {out : List Ent} (r : RelJ a b i j out) (hi : i < a.length) (h : j < b.length → (a.getD i e0).v < (b.getD j e0).v) : RelJ a b (i + 1) j (out ++ [seen b j (a.getD i e0)]) :=
  ⟨r.st.a ga hi h, by rw [List.append_assoc, ← r.eq, restJ_a hi h]; rfl⟩
theorem RelJ.b {a b : List Ent} (gb : Good b) {i j : Nat} {out : List Ent} (r : RelJ a b i j out) (hj : j < b.length) (h : i < a.length → (b.getD j e0).v < (a.getD i e0).v) : RelJ a b i (j + 1) (out ++ [seen a i (b.getD j e0)]) :=
  ⟨r.st.b gb hj h, by rw [List.append_assoc, ← r.eq, restJ_b hj h]; rfl⟩
theorem RelJ.ab {a b : List Ent} (ga : Good a) (gb : Good b) {i j : Nat} {out : List Ent} (r : RelJ a b i j out) (hi : i < a.length) (hj : j < b.length) (h : (a.getD i e0).v = (b.getD j e0).v) : RelJ a b (i + 1) (j + 1) (out ++ [sum2 (a.getD i e0) (b.getD j e0)]) :=
  ⟨r.st.ab ga gb hi hj h, by rw [List.append_assoc, ← r.eq, restJ_ab hi hj h]; rfl⟩

end Go.Proofs.YtfcgnpchbcmdeaaGreat
