/-
  The contracts of the program's Join and Cut, and of the check that two lists of entries are the same.
-/
import Derived.Test.YtfcgnpchbcmdeaaGreatSwf
import Derived.Test.YtfcgnpchbcmdeaaGreatSwi
namespace Go.Proofs.YtfcgnpchbcmdeaaGreat
open Go.RowKit

theorem granJoin_any (aa ab : Option Addr) (a b : List Ent) (ca cb : Nat) (w : World) (hA : EntsV w aa a) (hB : EntsV w ab b) (ga : Good a) (gb : Good b) :
    Calls Tryz.prog 20 #[.slice aa a.length ca, .slice ab b.length cb] w fun e w' => ∃ v, e = .returned v ∧ OwnE w' w.heap.size v (joinL a b) ∧ Below w.heap.size w w' := by
  go_enter Tryz.func20, Tryz.ntmps20
  go_wp2_with fail
  refine (join_any aa ab a b ca cb w hA hB ga gb).mono ?_
  rintro e w' ⟨v, rfl, h2, h3⟩
  have H1 : Hid (OwnE w' w.heap.size v (joinL a b) ∧ Below w.heap.size w w') := ⟨h2, h3⟩
  clear h2 h3
  go_wp2
  go_ret
  exact ⟨_, rfl, H1.out.1, H1.out.2⟩

theorem granCut_any (a : Option Addr) (L : List Ent) (cap : Nat) (size : Int) (w : World) (h : EntsV w a L) (g : Good L) (hn : a = none → cap = 0) :
    Calls Tryz.prog 21 #[.slice a L.length cap, .int .i64 size] w fun e w' => ∃ v, e = .returned v ∧ OwnE w' w.heap.size v (cutL L size) ∧ Below w.heap.size w w' := by
  go_enter Tryz.func21, Tryz.ntmps21
  go_wp2_with fail
  refine (cut_any a L cap size w h g hn).mono ?_
  rintro e w' ⟨v, rfl, h2, h3⟩
  have H1 : Hid (OwnE w' w.heap.size v (cutL L size) ∧ Below w.heap.size w w') := ⟨h2, h3⟩
  clear h2 h3
  go_wp2
  go_ret
  exact ⟨_, rfl, H1.out.1, H1.out.2⟩

set_option maxRecDepth 100000 in
theorem sameEntries_any (aa ab : Option Addr) (L : List Ent) (ca cb : Nat) (w : World) (hA : EntsV w aa L) (hB : EntsV w ab L) :
    Calls Tryz.prog 173 #[.slice aa L.length ca, .slice ab L.length cb] w fun e w' => e = .returned (.bool true) ∧ Below w.heap.size w w' := by
  have la := hA.1
  have HA : Hid (EntsV w aa L) := hA
  have HB : Hid (EntsV w ab L) := hB
  clear hA hB
  go_enter Tryz.func173, Tryz.ntmps173
  go_wp2_with fail
  go_loopw [5] (fun ti wr => ∃ i : Nat, i ≤ L.length ∧ ti = .int .i64 i ∧ Below w.heap.size w wr) (fun ti _ => L.length - (intOf ti).toNat)
  case atStart => exact ⟨0, Nat.zero_le _, rfl, Below.refl _ _⟩
  case round =>
    obtain ⟨i, hi, rfl, hbel⟩ := hrel
    have hsz := hbel.size
    by_cases hil : i < L.length
    · rcases HA.out.below hbel with ⟨_, h0 | ⟨b1, o1, rfl, hA⟩⟩
      · omega
      rcases HB.out.below hbel with ⟨_, h0 | ⟨b2, o2, rfl, hB⟩⟩
      · omega
      have a0 := hA.v i hil
      have a1 := hA.lo i hil
      have a2 := hA.hi i hil
      have a3 := hA.wt i hil
      have c0 := hB.v i hil
      have c1 := hB.lo i hil
      have c2 := hB.hi i hil
      have c3 := hB.wt i hil
      clear hA hB HA HB
      generalize L.getD i e0 = x at *
      have bi1 : (0 : Int) ≤ (i : Int) := by omega
      have bi2 : (i : Int) < (L.length : Int) := by omega
      go_wp2_with fail
      go_big_quiet (fail)
      go_wp2
      go_roundw
      case rel => exact ⟨i + 1, by omega, by go_num, by repeat (first | exact hbel | refine below_drewN ?_ _ | refine Below.alloc ?_ (by simp <;> omega) _)⟩
      case measure => simp [intOf]; omega
    · have bi2 : ¬ (i : Int) < (L.length : Int) := by omega
      go_wp2
      go_ret
      exact ⟨rfl, hbel⟩
end Go.Proofs.YtfcgnpchbcmdeaaGreat
