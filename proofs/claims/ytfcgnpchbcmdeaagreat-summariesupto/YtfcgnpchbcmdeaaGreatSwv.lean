/-
  The contract of stillEntries: what was handed over reads as before; then all of it is written over.
-/
import Derived.Test.YtfcgnpchbcmdeaaGreatSwu
namespace Go.Proofs.YtfcgnpchbcmdeaaGreat
open Go.RowKit

def m9 : Ent := ⟨-9, 0, 0, 0⟩
def wroteE (L : List Ent) (k : Nat) : List Ent := List.replicate k m9 ++ (lentE L 8).drop k

theorem wroteE_len (L : List Ent) {k : Nat} (hk : k ≤ L.length + 8) : (wroteE L k).length = L.length + 8 := by
  unfold wroteE; rw [List.length_append, List.length_replicate, List.length_drop, lentE_len L (by omega)]; omega
theorem lent_get (L : List Ent) {k : Nat} (hk : k < L.length + 8) : (lentE L 8).getD k e0 = if k < L.length then L.getD k e0 else ⟨-7 - (k : Int), 0, 0, 0⟩ := by
  unfold lentE
  rw [show (8 - 8 : Nat) = 0 from rfl, List.replicate_zero, List.append_nil]
  by_cases h : k < L.length
  · rw [if_pos h, List.getD, List.getD, List.getElem?_append_left h]
  · rw [if_neg h]
    simp [List.getD, List.getElem?_append, h, marksE]
    rw [List.getElem?_range (by omega)]
    simp; omega
theorem wroteE_at (L : List Ent) {k : Nat} (hk : k < L.length + 8) : wroteE L k = List.replicate k m9 ++ (if k < L.length then L.getD k e0 else ⟨-7 - (k : Int), 0, 0, 0⟩) :: (lentE L 8).drop (k + 1) := by
  have hl : k < (lentE L 8).length := by rw [lentE_len L (by omega)]; exact hk
  unfold wroteE
  rw [List.drop_eq_getElem_cons hl, ← lent_get L hk]
  simp [List.getD, hl]
theorem wroteE_next (L : List Ent) (k : Nat) : wroteE L (k + 1) = List.replicate k m9 ++ m9 :: (lentE L 8).drop (k + 1) := by
  unfold wroteE; rw [List.replicate_succ']; simp

set_option maxRecDepth 100000 in
set_option maxHeartbeats 2000000 in
theorem stillEntries_any (p : Addr) (L : List Ent) (c g base : Nat) (w : World) (h : EntsV w (some p) L) (hl : L.length ≤ 2097152) (hr : OwnE w base (.slice (some ⟨g, 0, none⟩) (L.length + 8) (L.length + 8)) (lentE L 8)) (hpg : 0 < L.length → p.block ≠ g) :
    Calls Tryz.prog 119 #[.slice (some ⟨g, 0, none⟩) L.length (L.length + 8), .slice (some p) L.length c] w fun e w' => e = .returned (.bool true) ∧ w.grownBy w' (some g) := by
  have HV : Hid (EntsV w (some p) L) := h
  obtain ⟨n, hn⟩ : ∃ n, n = L.length := ⟨_, rfl⟩
  have HNL : Hid (n = L.length) := hn
  have HR0 : Hid (OwnE w base (.slice (some ⟨g, 0, none⟩) (n + 8) (n + 8)) (wroteE L 0)) := by rw [hn]; simpa [wroteE, Hid] using hr
  rw [← hn]
  rw [← hn] at hl hpg
  clear h hr hn
  have hnil : ∀ W : World, (binOp .eql 29 (.slice (some p) n c) (.slice none 0 0)).run Tryz.prog W = .ok (.bool false) W := fun W => Lib.run_eql_slice_nil W 29 98 (some p) n c 0 0 Tryz.underlying29
  go_enter Tryz.func119, Tryz.ntmps119
  go_wp2_with fail
  go_loopw [6, 7] (fun tok ti wr => ∃ k : Nat, k ≤ n + 8 ∧ tok = .bool true ∧ ti = .int .i64 k ∧ Hid (OwnE wr base (.slice (some ⟨g, 0, none⟩) (n + 8) (n + 8)) (wroteE L k)) ∧ Hid (w.grownBy wr (some g))) (fun _ ti _ => n + 8 - (intOf ti).toNat)
  case atStart => exact ⟨0, Nat.zero_le _, rfl, rfl, HR0.out, World.grownBy.refl _ _⟩
  case round =>
    obtain ⟨k, hk2, rfl, rfl, HR, HG⟩ := hrel
    have hlt := (World.ownsRow.lt HR.out g rfl).2
    by_cases hk : k < n + 8
    · have bk1 : (0 : Int) ≤ (k : Int) := by omega
      have bk2 : (k : Int) < (n : Int) + 8 := by omega
      have hown := HR.out
      have hfl : (wroteE L k).length = n + 8 := by rw [wroteE_len L (by have := HNL.out; omega), HNL.out]
      rw [wroteE_at L (by have := HNL.out; omega)] at hown hfl
      have hAl : (List.replicate k m9).length = k := by simp
      have HE2 : Hid (wroteE L (k + 1) = List.replicate k m9 ++ (⟨-9, 0, 0, 0⟩ : Ent) :: (lentE L 8).drop (k + 1)) := wroteE_next L k
      have HAL : Hid ((List.replicate k m9).length = k) := hAl
      by_cases hkn : k < n
      · rw [if_pos (by have := HNL.out; omega)] at hown hfl
        obtain ⟨c0, c1, c2, c3, cf⟩ := hown.at hfl.symm hAl
        have HOW : Hid (OwnE wr base (.slice (some ⟨g, 0, none⟩) (n + 8) (n + 8)) (List.replicate k m9 ++ L.getD k e0 :: (lentE L 8).drop (k + 1))) := hown
        have HFL : Hid (n + 8 = (List.replicate k m9 ++ L.getD k e0 :: (lentE L 8).drop (k + 1)).length) := hfl.symm
        obtain ⟨_, h2 | ⟨b, o, e, hA⟩⟩ := HV.out
        · have := HNL.out; omega
        simp at e
        subst e
        have hkl : k < L.length := by have := HNL.out; omega
        have d0 := HG.out.cell (hA.v k hkl) (by simpa using hpg (by omega))
        have d1 := HG.out.cell (hA.lo k hkl) (by simpa using hpg (by omega))
        have d2 := HG.out.cell (hA.hi k hkl) (by simpa using hpg (by omega))
        have d3 := HG.out.cell (hA.wt k hkl) (by simpa using hpg (by omega))
        have bk3 : (k : Int) < (n : Int) := by omega
        clear hA hown hfl hAl hkl
        generalize L.getD k e0 = x at *
        go_wp2_with fail
        go_big_quiet (fail)
        go_wp2
        go_roundw
        case rel =>
          refine ⟨k + 1, by omega, rfl, by go_num, ?_, ?_⟩
          · rw [HE2.out]
            exact (((((HOW.out.below (below_drewN (Below.refl _ _) _)).store HFL.out (by simp) (flat_set0 HAL.out _)).store (HFL.out.trans (by simp)) (by simp) (flat_set1 HAL.out _)).store (HFL.out.trans (by simp)) (by simp) (flat_set2 HAL.out _)).store (HFL.out.trans (by simp)) (by simp) (flat_set3 HAL.out _))
          · exact grown_set (grown_set (grown_set (grown_set (grown_trans HG.out (grown_below (below_drewN (Below.refl _ _) _))) _ _) _ _) _ _) _ _
        case measure => simp [intOf]; omega
      · rw [if_neg (by have := HNL.out; omega)] at hown hfl
        obtain ⟨c0, c1, c2, c3, cf⟩ := hown.at hfl.symm hAl
        have HOW : Hid (OwnE wr base (.slice (some ⟨g, 0, none⟩) (n + 8) (n + 8)) (List.replicate k m9 ++ (⟨-7 - (k : Int), 0, 0, 0⟩ : Ent) :: (lentE L 8).drop (k + 1))) := hown
        have HFL : Hid (n + 8 = (List.replicate k m9 ++ (⟨-7 - (k : Int), 0, 0, 0⟩ : Ent) :: (lentE L 8).drop (k + 1)).length) := hfl.symm
        have bk3 : ¬ (k : Int) < (n : Int) := by omega
        clear hown hfl hAl
        simp only at c0 c1 c2 c3
        go_wp2_with fail
        go_roundw
        case rel =>
          refine ⟨k + 1, by omega, rfl, by go_num, ?_, ?_⟩
          · rw [HE2.out]
            exact ((((HOW.out.store HFL.out (by simp) (flat_set0 HAL.out _)).store (HFL.out.trans (by simp)) (by simp) (flat_set1 HAL.out _)).store (HFL.out.trans (by simp)) (by simp) (flat_set2 HAL.out _)).store (HFL.out.trans (by simp)) (by simp) (flat_set3 HAL.out _))
          · exact grown_set (grown_set (grown_set (grown_set HG.out _ _) _ _) _ _) _ _
        case measure => simp [intOf]; omega
    · have hke : k = n + 8 := by omega
      subst hke
      go_wp2
      go_ret
      exact ⟨rfl, HG.out⟩
end Go.Proofs.YtfcgnpchbcmdeaaGreat
