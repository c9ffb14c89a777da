import Derived.Test.YtfcgnpchbcmdeaaGreatRows
import Derived.JoinedOf
namespace Go.Proofs.YtfcgnpchbcmdeaaGreat
theorem and_mk7 {a b : Bool} (ha : a = true) (hb : b = true) : (a && b) = true := by rw [ha, hb]; rfl
set_option maxHeartbeats 8000000 in
theorem fi_closed : joinedFacts Tryz.prog 7 Tryz.f7 Rows.fittedSpec Rows.fittedRow = true := by
  unfold joinedFacts
  repeat refine and_mk7 ?_ ?_
  all_goals as_aux_lemma => kernel_rfl
end Go.Proofs.YtfcgnpchbcmdeaaGreat
