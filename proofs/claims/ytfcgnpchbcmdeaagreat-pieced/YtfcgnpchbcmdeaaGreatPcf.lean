import Derived.Test.YtfcgnpchbcmdeaaGreatRows
import Derived.JoinedOf
namespace Go.Proofs.YtfcgnpchbcmdeaaGreat
theorem and_mk9 {a b : Bool} (ha : a = true) (hb : b = true) : (a && b) = true := by rw [ha, hb]; rfl
set_option maxHeartbeats 8000000 in
theorem pcf_closed : joinedFacts Tryz.prog 8 Tryz.f8 Rows.piecedSpec Rows.piecedRow = true := by
  unfold joinedFacts
  repeat refine and_mk9 ?_ ?_
  all_goals as_aux_lemma => kernel_rfl
end Go.Proofs.YtfcgnpchbcmdeaaGreat
