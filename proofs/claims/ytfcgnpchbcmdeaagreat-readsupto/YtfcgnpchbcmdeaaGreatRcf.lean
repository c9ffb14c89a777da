import Derived.Test.YtfcgnpchbcmdeaaGreatRows
import Derived.JoinedCond
import Derived.Test.YtfcgnpchbcmdeaaGreatZr00
namespace Go.Proofs.YtfcgnpchbcmdeaaGreat
set_option maxHeartbeats 8000000
theorem Zjp{a b}(c:a=true)(d:b=true):(a&&b)=true:=by rw[c,d];rfl
theorem Zdz:joinedFacts Tryz.prog 5 Tryz.f5 (Rows.OpenSpec.upto Rows.readsSpec).bare Rows.readsUptoRow=true:=by
 unfold joinedFacts
 repeat refine Zjp ?_ ?_
 all_goals as_aux_lemma=>kernel_rfl
end Go.Proofs.YtfcgnpchbcmdeaaGreat
