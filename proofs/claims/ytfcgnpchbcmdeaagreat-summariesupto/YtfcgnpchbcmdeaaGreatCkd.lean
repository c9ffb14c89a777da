/-
  The contracts of the book of lists when it is empty, and of what is given ahead of a script that plays Checks alone.
-/
import Derived.Test.YtfcgnpchbcmdeaaGreatCkb
import Derived.Deep.DeepCutAuto
namespace Go.Proofs.YtfcgnpchbcmdeaaGreat
open Go.RowKit

set_option maxRecDepth 100000 in
set_option maxHeartbeats 1000000 in
theorem looks_empty (b : Nat) (w : World) (h0 : w.cell? ⟨b, 4, none⟩ = some (.slice none 0 0)) (h1 : w.cell? ⟨b, 6, none⟩ = some (.slice none 0 0)) (h2 : w.cell? ⟨b, 8, none⟩ = some (.slice none 0 0)) (h3 : w.cell? ⟨b, 10, none⟩ = some (.slice none 0 0)) :
    Calls Tryz.prog 43 #[.pointer (some ⟨b, 4, none⟩)] w fun e w' => e = .returned (.bool true) ∧ w' = w := by
  go_enter Tryz.func43, Tryz.ntmps43
  go_wp2_with fail
  go_loop [3] (fun i => i = .int .i64 0) (fun _ => 0)
  case atStart => rfl
  case round =>
    subst hrel
    go_wp2_with fail
    go_loop [5] (fun i => i = .int .i64 0) (fun _ => 0)
    case atStart => rfl
    case round =>
      subst hrel
      go_wp2_with fail
      go_loop [7] (fun i => i = .int .i64 0) (fun _ => 0)
      case atStart => rfl
      case round =>
        subst hrel
        go_wp2_with fail
        go_loop [9] (fun i => i = .int .i64 0) (fun _ => 0)
        case atStart => rfl
        case round =>
          subst hrel
          go_wp2_with fail
          go_ret
          exact ⟨rfl, rfl⟩

/-- WHAT 'given' LAYS AHEAD OF ITS LOOP. -/
structure Given (w wx : World) : Prop where
  bel : Below w.heap.size w wx
  size : wx.heap.size = w.heap.size + 5
  k0 : wx.cell? ⟨w.heap.size + 4, 0, none⟩ = some (.int .i64 2)
  k1 : wx.cell? ⟨w.heap.size + 4, 12, none⟩ = some (.int .i64 5)
  k2 : wx.cell? ⟨w.heap.size + 4, 24, none⟩ = some (.int .i64 6)
  k3 : wx.cell? ⟨w.heap.size + 4, 36, none⟩ = some (.int .i64 7)
  k4 : wx.cell? ⟨w.heap.size + 4, 48, none⟩ = some (.int .i64 5)
  k5 : wx.cell? ⟨w.heap.size + 4, 60, none⟩ = some (.int .i64 15)
  f1 : wx.cell? ⟨w.heap.size + 4, 1, none⟩ = some (.int .i64 0)
  f2 : wx.cell? ⟨w.heap.size + 4, 2, none⟩ = some (.int .i64 0)
  f3 : wx.cell? ⟨w.heap.size + 4, 3, none⟩ = some (.slice none 0 0)
  f4 : wx.cell? ⟨w.heap.size + 4, 4, none⟩ = some (.int .i64 0)
  f5 : wx.cell? ⟨w.heap.size + 4, 5, none⟩ = some (.int .i64 0)
  f6 : wx.cell? ⟨w.heap.size + 4, 6, none⟩ = some (.int .i64 0)
  f7 : wx.cell? ⟨w.heap.size + 4, 7, none⟩ = some (.slice (some ⟨w.heap.size, 0, none⟩) 3 3)
  f8 : wx.cell? ⟨w.heap.size + 4, 8, none⟩ = some (.slice (some ⟨w.heap.size + 1, 0, none⟩) 3 3)
  f9 : wx.cell? ⟨w.heap.size + 4, 9, none⟩ = some (.string ⟨#[]⟩)
  f10 : wx.cell? ⟨w.heap.size + 4, 10, none⟩ = some (.int .i64 0)
  f11 : wx.cell? ⟨w.heap.size + 4, 11, none⟩ = some (.int .i64 0)
  v0 : wx.cell? ⟨w.heap.size, 0, none⟩ = some (.int .i64 5)
  v1 : wx.cell? ⟨w.heap.size, 1, none⟩ = some (.int .i64 3)
  v2 : wx.cell? ⟨w.heap.size, 2, none⟩ = some (.int .i64 5)
  u0 : wx.cell? ⟨w.heap.size + 1, 0, none⟩ = some (.int .i64 1)
  u1 : wx.cell? ⟨w.heap.size + 1, 1, none⟩ = some (.int .i64 2)
  u2 : wx.cell? ⟨w.heap.size + 1, 2, none⟩ = some (.int .i64 4)

set_option maxRecDepth 100000 in
set_option maxHeartbeats 1000000 in
theorem given_one (p : Addr) (w : World) :
    Calls Tryz.prog 40 #[.pointer (some p), .int .i64 1] w fun e w' => e = .returned (.bool true) ∧ Below w.heap.size w w' := by
  go_enter Tryz.func40, Tryz.ntmps40
  go_upto_region 1 with fail
  go_cut [5] (fun v wx => v = .slice (some ⟨w.heap.size + 4, 0, none⟩) 6 6 ∧ Given w wx)
  case first =>
    go_wp2
    go_meet
    refine ⟨rfl, ?_⟩
    refine ⟨?_, ?_, ?_, ?_, ?_, ?_, ?_, ?_, ?_, ?_, ?_, ?_, ?_, ?_, ?_, ?_, ?_, ?_, ?_, ?_, ?_, ?_, ?_, ?_, ?_⟩
    · exact (((((Below.refl _ _).alloc (Nat.le_refl _) _).alloc (by simp <;> omega) _).alloc (by simp <;> omega) _).alloc (by simp <;> omega) _).alloc (by simp <;> omega) _
    · simp
    all_goals go_simp
  case rest =>
    obtain ⟨rfl, G⟩ := hcut
    obtain ⟨hbel, hsz, k0, k1, k2, k3, k4, k5, _⟩ := G
    go_wp2_with fail
    go_loop [6] (fun i => ∃ k : Nat, k ≤ 6 ∧ i = .int .i64 k) (fun i => 6 - (intOf i).toNat)
    case atStart => exact ⟨0, by omega, rfl⟩
    case round =>
      obtain ⟨k, hk, rfl⟩ := hrel
      by_cases h6 : k = 6
      · subst h6
        go_wp2
        go_ret
        exact ⟨rfl, hbel⟩
      · have h : k = 0 ∨ k = 1 ∨ k = 2 ∨ k = 3 ∨ k = 4 ∨ k = 5 := by omega
        rcases h with rfl | rfl | rfl | rfl | rfl | rfl
        all_goals
          go_wp2
          go_round
          case rel => first | exact ⟨1, by omega, rfl⟩ | exact ⟨2, by omega, rfl⟩ | exact ⟨3, by omega, rfl⟩ | exact ⟨4, by omega, rfl⟩ | exact ⟨5, by omega, rfl⟩ | exact ⟨6, by omega, rfl⟩
          case measure => simp [intOf]
end Go.Proofs.YtfcgnpchbcmdeaaGreat
