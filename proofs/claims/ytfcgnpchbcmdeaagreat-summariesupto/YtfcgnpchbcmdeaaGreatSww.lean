/-
  The lists that are nil: lent they stay nil, and nothing of them can have changed.
-/
import Derived.Test.YtfcgnpchbcmdeaaGreatSwv
namespace Go.Proofs.YtfcgnpchbcmdeaaGreat
open Go.RowKit

theorem nil25 (W : World) : (binOp .eql 25 (.slice none 0 0) (.slice none 0 0)).run Tryz.prog W = .ok (.bool true) W := Lib.run_eql_slice_nil W 25 3 none 0 0 0 0 Tryz.underlying25
theorem nil29 (W : World) : (binOp .eql 29 (.slice none 0 0) (.slice none 0 0)).run Tryz.prog W = .ok (.bool true) W := Lib.run_eql_slice_nil W 29 98 none 0 0 0 0 Tryz.underlying29

theorem lentNumbers_nil (w : World) : Calls Tryz.prog 112 #[.slice none 0 0] w fun e w' => e = .returned (.slice none 0 0) ∧ w' = w := by
  have hnil := nil25
  go_enter Tryz.func112, Tryz.ntmps112
  go_wp2
  go_ret
  exact ⟨rfl, rfl⟩

theorem stillNumbers_nil (o : Value) (w : World) : Calls Tryz.prog 113 #[o, .slice none 0 0] w fun e w' => e = .returned (.bool true) ∧ w' = w := by
  have hnil := nil25
  go_enter Tryz.func113, Tryz.ntmps113
  go_wp2
  go_ret
  exact ⟨rfl, rfl⟩

theorem lentEntries_nil (w : World) : Calls Tryz.prog 118 #[.slice none 0 0] w fun e w' => e = .returned (.slice none 0 0) ∧ w' = w := by
  have hnil := nil29
  go_enter Tryz.func118, Tryz.ntmps118
  go_wp2
  go_ret
  exact ⟨rfl, rfl⟩

theorem stillEntries_nil (o : Value) (w : World) : Calls Tryz.prog 119 #[o, .slice none 0 0] w fun e w' => e = .returned (.bool true) ∧ w' = w := by
  have hnil := nil29
  go_enter Tryz.func119, Tryz.ntmps119
  go_wp2
  go_ret
  exact ⟨rfl, rfl⟩
end Go.Proofs.YtfcgnpchbcmdeaaGreat
