import Derived.Test.YtfcgnpchbcmdeaaGreatRows
import Derived.JoinedOf
import Derived.Test.YtfcgnpchbcmdeaaGreatZf00
namespace Go.Proofs.YtfcgnpchbcmdeaaGreat
set_option maxHeartbeats 8000000
theorem ZnK{a b:Bool}(ha:a=true)(hb:b=true):(a&&b)=true:=by rw[ha,hb];rfl
theorem ZlB:joinedFacts Tryz.prog 7 Tryz.f7 Rows.fittedSpec Rows.fittedRow=true:=by
 unfold joinedFacts
 repeat refine ZnK ?_ ?_
 all_goals as_aux_lemma=>kernel_rfl
end Go.Proofs.YtfcgnpchbcmdeaaGreat
