import Derived.Test.YtfcgnpchbcmdeaaGreatRows
import Derived.JoinedOf
import Derived.Test.YtfcgnpchbcmdeaaGreatZl00
namespace Go.Proofs.YtfcgnpchbcmdeaaGreat
set_option maxHeartbeats 8000000
theorem ZqN{a b:Bool}(ha:a=true)(hb:b=true):(a&&b)=true:=by rw[ha,hb];rfl
theorem Zl1:joinedFacts Tryz.prog 13 Tryz.f13 Rows.lastingSpec Rows.lastingRow=true:=by
 unfold joinedFacts
 repeat refine ZqN ?_ ?_
 all_goals as_aux_lemma=>kernel_rfl
end Go.Proofs.YtfcgnpchbcmdeaaGreat
