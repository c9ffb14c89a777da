import Derived.Test.YtfcgnpchbcmdeaaGreatRows
import Derived.JoinedOf
import Derived.Test.YtfcgnpchbcmdeaaGreatZu00
namespace Go.Proofs.YtfcgnpchbcmdeaaGreat
set_option maxHeartbeats 8000000
theorem Zpa{a b:Bool}(ha:a=true)(hb:b=true):(a&&b)=true:=by rw[ha,hb];rfl
theorem ZlB:joinedFacts Tryz.prog 12 Tryz.f12 Rows.turnedSpec Rows.turnedRow=true:=by
 unfold joinedFacts
 repeat refine Zpa ?_ ?_
 all_goals as_aux_lemma=>kernel_rfl
end Go.Proofs.YtfcgnpchbcmdeaaGreat
