/-
  The closed facts of the row of True, one by one.
-/
import Derived.Test.YtfcgnpchbcmdeaaGreatRows
import Derived.JoinedOf
namespace Go.Proofs.YtfcgnpchbcmdeaaGreat

theorem and_mk6 {a b : Bool} (ha : a = true) (hb : b = true) : (a && b) = true := by rw [ha, hb]; rfl

set_option maxHeartbeats 8000000 in
theorem tr_closed : joinedFacts Tryz.prog 6 Tryz.f6 Rows.trueSpec Rows.trueRow = true := by
  unfold joinedFacts
  repeat refine and_mk6 ?_ ?_
  all_goals as_aux_lemma => kernel_rfl
end Go.Proofs.YtfcgnpchbcmdeaaGreat
