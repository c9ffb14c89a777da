/-
  The contract of the program's walk to the nearest entry.
-/
import Derived.Test.YtfcgnpchbcmdeaaGreatSwf
import Derived.Deep.RegionHeld3
namespace Go.Proofs.YtfcgnpchbcmdeaaGreat
open Go.RowKit

set_option maxHeartbeats 400000 in
theorem middle_eq (x : Ent) (w : World) (h : 0 ≤ x.lo ∧ 0 ≤ x.hi ∧ x.lo ≤ 1000000000000 ∧ x.hi ≤ 1000000000000) : Calls Tryz.prog 154 #[.agg #[.int .i64 x.v, .int .i64 x.lo, .int .i64 x.hi, .int .i64 x.wt]] w fun e w' => e = .returned (.int .i64 (x.lo + x.hi)) ∧ w' = w.alloc (.cells #[.int .i64 x.v, .int .i64 x.lo, .int .i64 x.hi, .int .i64 x.wt] 98) := by
  obtain ⟨h1, h2, h3, h4⟩ := h
  go_enter Tryz.func154, Tryz.ntmps154
  go_wp2
  go_ret
  exact ⟨rfl, rfl⟩

/-- WHERE THE WALK STOPS. -/
structure NearP (L : List Ent) (goal : Int) (k r : Nat) : Prop where
  ge : k ≤ r
  le : r + 2 ≤ L.length
  yes : ∀ i, k ≤ i → i < r → midA L i + midA L (i + 1) < goal
  no : r + 2 = L.length ∨ ¬ midA L r + midA L (r + 1) < goal

set_option maxRecDepth 100000 in
set_option maxHeartbeats 2000000 in
theorem nearest_any (a : Option Addr) (L : List Ent) (cap k0 : Nat) (goal : Int) (w : World) (h : EntsV w a L) (g : Good L) (hk : k0 + 2 ≤ L.length) :
    Calls Tryz.prog 89 #[.slice a L.length cap, .int .i64 k0, .int .i64 goal] w fun e w' => ∃ r : Nat, e = .returned (.int .i64 r) ∧ NearP L goal k0 r ∧ Below w.heap.size w w' := by
  have hl := h.1
  have HE : Hid (EntsV w a L) := h
  have HG : Hid (Good L) := g
  clear h g
  go_enter Tryz.func89, Tryz.ntmps89
  go_wp2_with fail
  go_loopw [1] (fun t wr => ∃ k : Nat, t = .int .i64 k ∧ k0 ≤ k ∧ k + 2 ≤ L.length ∧ Hid (∀ i, k0 ≤ i → i < k → midA L i + midA L (i + 1) < goal) ∧ Below w.heap.size w wr) (fun t _ => L.length - (intOf t).toNat)
  case atStart => exact ⟨k0, rfl, Nat.le_refl _, hk, fun i h1 h2 => absurd h2 (by omega), Below.refl _ _⟩
  case round =>
    obtain ⟨k, rfl, hk1, hk2, HY, hbel⟩ := hrel
    by_cases hkl : k + 2 < L.length
    · rcases HE.out with ⟨_, h0 | ⟨b, off, rfl, hA⟩⟩
      · omega
      have hA' := hA.below hbel
      have hb := hA'.lt (by omega)
      have gx := HG.out.at (show k < L.length by omega)
      have gy := HG.out.at (show k + 1 < L.length by omega)
      obtain ⟨a0, a1, a2, a3⟩ : wr.cell? ⟨b, off + k * 4, none⟩ = some (.int .i64 (L.getD k e0).v) ∧ wr.cell? ⟨b, off + k * 4 + 1, none⟩ = some (.int .i64 (L.getD k e0).lo) ∧ wr.cell? ⟨b, off + k * 4 + 2, none⟩ = some (.int .i64 (L.getD k e0).hi) ∧ wr.cell? ⟨b, off + k * 4 + 3, none⟩ = some (.int .i64 (L.getD k e0).wt) := ⟨hA'.v k (by omega), hA'.lo k (by omega), hA'.hi k (by omega), hA'.wt k (by omega)⟩
      obtain ⟨c0, c1, c2, c3⟩ : wr.cell? ⟨b, off + (k + 1) * 4, none⟩ = some (.int .i64 (L.getD (k + 1) e0).v) ∧ wr.cell? ⟨b, off + (k + 1) * 4 + 1, none⟩ = some (.int .i64 (L.getD (k + 1) e0).lo) ∧ wr.cell? ⟨b, off + (k + 1) * 4 + 2, none⟩ = some (.int .i64 (L.getD (k + 1) e0).hi) ∧ wr.cell? ⟨b, off + (k + 1) * 4 + 3, none⟩ = some (.int .i64 (L.getD (k + 1) e0).wt) := ⟨hA'.v (k + 1) (by omega), hA'.lo (k + 1) (by omega), hA'.hi (k + 1) (by omega), hA'.wt (k + 1) (by omega)⟩
      have hx : 0 ≤ (L.getD k e0).lo ∧ 0 ≤ (L.getD k e0).hi ∧ (L.getD k e0).lo ≤ 1000000000000 ∧ (L.getD k e0).hi ≤ 1000000000000 := by omega
      have hy : 0 ≤ (L.getD (k + 1) e0).lo ∧ 0 ≤ (L.getD (k + 1) e0).hi ∧ (L.getD (k + 1) e0).lo ≤ 1000000000000 ∧ (L.getD (k + 1) e0).hi ≤ 1000000000000 := by omega
      have HMK : Hid (midA L k + midA L (k + 1) = (L.getD k e0).lo + (L.getD k e0).hi + ((L.getD (k + 1) e0).lo + (L.getD (k + 1) e0).hi)) := show _ = _ from rfl
      have d1 : decide ((k : Int) + 2 < (L.length : Int)) = true := decide_eq_true (by omega)
      have d2 : decide (k + 2 < L.length) = true := decide_eq_true (by omega)
      have bk1 : (0 : Int) ≤ (k : Int) := by omega
      have bk2 : (k : Int) + 1 < (L.length : Int) := by omega
      have bk3 : (k : Int) < (L.length : Int) := by omega
      clear hA hA' gx gy
      generalize L.getD k e0 = x at *
      generalize L.getD (k + 1) e0 = y at *
      have HX : Hid (0 ≤ x.lo ∧ 0 ≤ x.hi ∧ x.lo ≤ 1000000000000 ∧ x.hi ≤ 1000000000000) := hx
      have HY2 : Hid (0 ≤ y.lo ∧ 0 ≤ y.hi ∧ y.lo ≤ 1000000000000 ∧ y.hi ≤ 1000000000000) := hy
      obtain ⟨x1, x2, x3, x4⟩ := hx
      obtain ⟨y1, y2, y3, y4⟩ := hy
      have r2 : IntKind.i64.wrap ((k : Int) + 2) = (k : Int) + 2 := by rw [IntKind.wrap_i64]; omega
      have r1 : IntKind.i64.wrap ((k : Int) + 1) = (k : Int) + 1 := by rw [IntKind.wrap_i64]; omega
      have r3 : IntKind.i64.wrap (x.lo + x.hi + (y.lo + y.hi)) = x.lo + x.hi + (y.lo + y.hi) := by rw [IntKind.wrap_i64]; omega
      have bk4 : (0 : Int) ≤ (k : Int) + 1 := by omega
      by_cases hlt : x.lo + x.hi + (y.lo + y.hi) < goal
      · have dl : decide (x.lo + x.hi + (y.lo + y.hi) < goal) = true := decide_eq_true hlt
        have HY3 : Hid (∀ i, k0 ≤ i → i < k + 1 → midA L i + midA L (i + 1) < goal) := fun i h1 h2 => by
          by_cases e : i = k
          · subst e; rw [HMK.out]; exact hlt
          · exact HY.out i h1 (by omega)
        go_wp2_with fail
        go_region_held3 (fun w' => w'.cell? ⟨b, off + k * 4, none⟩ = some (.int .i64 x.v) ∧ w'.cell? ⟨b, off + k * 4 + 1, none⟩ = some (.int .i64 x.lo) ∧ w'.cell? ⟨b, off + k * 4 + 2, none⟩ = some (.int .i64 x.hi) ∧ w'.cell? ⟨b, off + k * 4 + 3, none⟩ = some (.int .i64 x.wt) ∧ w'.cell? ⟨b, off + (k + 1) * 4, none⟩ = some (.int .i64 y.v) ∧ w'.cell? ⟨b, off + (k + 1) * 4 + 1, none⟩ = some (.int .i64 y.lo) ∧ w'.cell? ⟨b, off + (k + 1) * 4 + 2, none⟩ = some (.int .i64 y.hi) ∧ w'.cell? ⟨b, off + (k + 1) * 4 + 3, none⟩ = some (.int .i64 y.wt)) (go_keep) (first | (go_at_call 154; refine (middle_eq _ _ (by first | exact HX.out | exact HY2.out)).mono ?_; rintro e w' ⟨rfl, rfl⟩))
        all_goals go_wp2
        all_goals
          go_roundw
          case rel => exact ⟨k + 1, by go_num, by omega, by omega, HY3.out, ((hbel.alloc hbel.size _).alloc (by have := hbel.size; simp; omega) _).drew⟩
          case measure => simp [intOf]; omega
      · have dl : decide (x.lo + x.hi + (y.lo + y.hi) < goal) = false := decide_eq_false hlt
        have HFI : Hid (NearP L goal k0 k) := ⟨hk1, hk2, HY.out, .inr (by rw [HMK.out]; exact hlt)⟩
        go_wp2_with fail
        go_region_held3 (fun w' => w'.cell? ⟨b, off + k * 4, none⟩ = some (.int .i64 x.v) ∧ w'.cell? ⟨b, off + k * 4 + 1, none⟩ = some (.int .i64 x.lo) ∧ w'.cell? ⟨b, off + k * 4 + 2, none⟩ = some (.int .i64 x.hi) ∧ w'.cell? ⟨b, off + k * 4 + 3, none⟩ = some (.int .i64 x.wt) ∧ w'.cell? ⟨b, off + (k + 1) * 4, none⟩ = some (.int .i64 y.v) ∧ w'.cell? ⟨b, off + (k + 1) * 4 + 1, none⟩ = some (.int .i64 y.lo) ∧ w'.cell? ⟨b, off + (k + 1) * 4 + 2, none⟩ = some (.int .i64 y.hi) ∧ w'.cell? ⟨b, off + (k + 1) * 4 + 3, none⟩ = some (.int .i64 y.wt)) (go_keep) (first | (go_at_call 154; refine (middle_eq _ _ (by first | exact HX.out | exact HY2.out)).mono ?_; rintro e w' ⟨rfl, rfl⟩))
        all_goals go_wp2
        all_goals go_ret
        all_goals exact ⟨k, rfl, HFI.out, ((hbel.alloc hbel.size _).alloc (by have := hbel.size; simp; omega) _).drew⟩
    · have d1 : decide ((k : Int) + 2 < (L.length : Int)) = false := decide_eq_false (by omega)
      have d2 : decide (k + 2 < L.length) = false := decide_eq_false (by omega)
      have HFI : Hid (NearP L goal k0 k) := ⟨hk1, hk2, HY.out, .inl (by omega)⟩
      go_wp2_with fail
      go_big_quiet (fail)
      go_wp2
      go_ret
      exact ⟨k, rfl, HFI.out, below_drewN hbel _⟩
end Go.Proofs.YtfcgnpchbcmdeaaGreat
