/-
  The lists that are nil: lent they stay nil, and nothing of them can have changed.
-/
import Derived.Test.YtkhcpllmmaiikaaGreatSwv
namespace Go.Proofs.YtkhcpllmmaiikaaGreat
open Go.RowKit

theorem nil25 (W : World) : (binOp .eql 25 (.slice none 0 0) (.slice none 0 0)).run Tryz.prog W = .ok (.bool true) W := Lib.run_eql_slice_nil W 25 3 none 0 0 0 0 Tryz.underlying25
theorem nil29 (W : World) : (binOp .eql 29 (.slice none 0 0) (.slice none 0 0)).run Tryz.prog W = .ok (.bool true) W := Lib.run_eql_slice_nil W 29 81 none 0 0 0 0 Tryz.underlying29

theorem lentNumbers_nil (w : World) : Calls Tryz.prog 81 #[.slice none 0 0] w fun e w' => e = .returned (.slice none 0 0) ∧ w' = w := by
  have hnil := nil25
  go_enter Tryz.func81, Tryz.ntmps81
  go_wp2
  go_ret
  exact ⟨rfl, rfl⟩

theorem stillNumbers_nil (o : Value) (w : World) : Calls Tryz.prog 82 #[o, .slice none 0 0] w fun e w' => e = .returned (.bool true) ∧ w' = w := by
  have hnil := nil25
  go_enter Tryz.func82, Tryz.ntmps82
  go_wp2
  go_ret
  exact ⟨rfl, rfl⟩

theorem lentEntries_nil (w : World) : Calls Tryz.prog 87 #[.slice none 0 0] w fun e w' => e = .returned (.slice none 0 0) ∧ w' = w := by
  have hnil := nil29
  go_enter Tryz.func87, Tryz.ntmps87
  go_wp2
  go_ret
  exact ⟨rfl, rfl⟩

theorem stillEntries_nil (o : Value) (w : World) : Calls Tryz.prog 88 #[o, .slice none 0 0] w fun e w' => e = .returned (.bool true) ∧ w' = w := by
  have hnil := nil29
  go_enter Tryz.func88, Tryz.ntmps88
  go_wp2
  go_ret
  exact ⟨rfl, rfl⟩
end Go.Proofs.YtkhcpllmmaiikaaGreat
