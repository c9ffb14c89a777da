import Derived.Test.YtfcgnpchbcmdeaaGreatRows
import Derived.JoinedOf
import Derived.Test.YtfcgnpchbcmdeaaGreatZt00
namespace Go.Proofs.YtfcgnpchbcmdeaaGreat
set_option maxHeartbeats 8000000
theorem ZjJ{a b:Bool}(ha:a=true)(hb:b=true):(a&&b)=true:=by rw[ha,hb];rfl
theorem ZiJ:joinedFacts Tryz.prog 6 Tryz.f6 Rows.trueSpec Rows.trueRow=true:=by
 unfold joinedFacts
 repeat refine ZjJ ?_ ?_
 all_goals as_aux_lemma=>kernel_rfl
end Go.Proofs.YtfcgnpchbcmdeaaGreat
