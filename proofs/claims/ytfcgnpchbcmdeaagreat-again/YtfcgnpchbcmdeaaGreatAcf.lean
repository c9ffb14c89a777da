import Derived.Test.YtfcgnpchbcmdeaaGreatRows
import Derived.JoinedOf
import Derived.Test.YtfcgnpchbcmdeaaGreatZa00
namespace Go.Proofs.YtfcgnpchbcmdeaaGreat
set_option maxHeartbeats 8000000
theorem Zqm{a b:Bool}(ha:a=true)(hb:b=true):(a&&b)=true:=by rw[ha,hb];rfl
theorem Zlb:joinedFacts Tryz.prog 11 Tryz.f11 Rows.againSpec Rows.againRow=true:=by
 unfold joinedFacts
 repeat refine Zqm ?_ ?_
 all_goals as_aux_lemma=>kernel_rfl
end Go.Proofs.YtfcgnpchbcmdeaaGreat
