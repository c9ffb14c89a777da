/-
  The closed facts of the row of Checks, one by one.
-/
import Derived.Test.YtfcgnpchbcmdeaaGreatRows
import Derived.JoinedOf
namespace Go.Proofs.YtfcgnpchbcmdeaaGreat

theorem and_mk {a b : Bool} (ha : a = true) (hb : b = true) : (a && b) = true := by rw [ha, hb]; rfl

set_option maxHeartbeats 8000000 in
theorem ck_closed : joinedFacts Tryz.prog 3 Tryz.f3 Rows.checksSpec Rows.checksRow = true := by
  unfold joinedFacts
  repeat refine and_mk ?_ ?_
  all_goals as_aux_lemma => kernel_rfl
end Go.Proofs.YtfcgnpchbcmdeaaGreat
