/-
  The closed facts of the row of Summaries, one by one.
-/
import Derived.Test.YtfcgnpchbcmdeaaGreatRows
import Derived.JoinedCond
namespace Go.Proofs.YtfcgnpchbcmdeaaGreat

theorem and_both {a b : Bool} (ha : a = true) (hb : b = true) : (a && b) = true := by rw [ha, hb]; rfl

set_option maxHeartbeats 8000000 in
theorem sum_closed : joinedFacts Tryz.prog 4 Tryz.f4 (Rows.OpenSpec.upto Rows.summariesSpec).bare Rows.summariesUptoRow = true := by
  unfold joinedFacts
  repeat refine and_both ?_ ?_
  all_goals as_aux_lemma => kernel_rfl
end Go.Proofs.YtfcgnpchbcmdeaaGreat
