/-
  The contract of one step of a script that is a Check: it returns true.
-/
import Derived.Test.YtfcgnpchbcmdeaaGreatCkb
import Derived.Deep.RegionWith
namespace Go.Proofs.YtfcgnpchbcmdeaaGreat
open Go.RowKit

set_option maxHeartbeats 1000000 in
theorem step_check (p : Addr) (at_ bb : Int) (fa : Option Addr) (flen fcap : Nat) (bins size budget : Int) (va : Option Addr) (vl vc : Nat) (wa : Option Addr) (wl wc : Nat) (s : ByteArray) (x y : Int)
    (wd : Nat → Bool) (sc ct : Nat → Int) (w : World) (hl : flen ≤ maxLen) (hF : FeatsV w fa flen wd sc ct) :
    Calls Tryz.prog 41 #[.pointer (some p), .agg #[.int .i64 1, .int .i64 at_, .int .i64 bb, .slice fa flen fcap, .int .i64 bins, .int .i64 size, .int .i64 budget, .slice va vl vc, .slice wa wl wc, .string s, .int .i64 x, .int .i64 y]] w
      fun e w' => e = .returned (.bool true) ∧ Below w.heap.size w w' := by
  go_enter Tryz.func41, Tryz.ntmps41
  go_wp2_with fail
  refine (check_any fa flen fcap bins size budget wd sc ct _ hl (hF.below ((Below.refl _ _).alloc (Nat.le_refl _) _))).mono ?_
  rintro e w1 ⟨rfl, hb1⟩
  have hF1 : FeatsV w1 fa flen wd sc ct := hF.below (((Below.refl _ _).alloc (Nat.le_refl _) _).trans (hb1.mono (by simp)))
  have c3 : w1.cell? ⟨w.heap.size, 3, none⟩ = some (.slice fa flen fcap) := by rw [hb1.cell (p := ⟨w.heap.size, 3, none⟩) (by simp)]; simp
  have c4 : w1.cell? ⟨w.heap.size, 4, none⟩ = some (.int .i64 bins) := by rw [hb1.cell (p := ⟨w.heap.size, 4, none⟩) (by simp)]; simp
  have c5 : w1.cell? ⟨w.heap.size, 5, none⟩ = some (.int .i64 size) := by rw [hb1.cell (p := ⟨w.heap.size, 5, none⟩) (by simp)]; simp
  have c6 : w1.cell? ⟨w.heap.size, 6, none⟩ = some (.int .i64 budget) := by rw [hb1.cell (p := ⟨w.heap.size, 6, none⟩) (by simp)]; simp
  have hbw : Below w.heap.size w w1 := ((Below.refl _ _).alloc (Nat.le_refl _) _).trans (hb1.mono (by simp))
  have H1 : Hid (Below w.heap.size w w1) := hbw
  have HF : Hid (FeatsV w1 fa flen wd sc ct) := hF1
  clear hb1 hbw hF hF1
  go_wp2_with fail
  go_region_with (first
    | (go_at_call 68; refine (num_any _ _).mono ?_; rintro e w' ⟨rfl, rfl⟩)
    | (go_at_call 69; refine (refCheck_any fa flen fcap bins size budget wd sc ct _ hl ?_).mono ?_; exact HF.out.below (Below.refl _ _).drew; rintro e w2 ⟨rfl, hb2⟩))
  all_goals go_wp2
  all_goals go_ret
  all_goals exact ⟨ret_bool (by simp), H1.out.trans (((Below.refl _ _).drew.trans hb2).mono H1.out.size)⟩
end Go.Proofs.YtfcgnpchbcmdeaaGreat
