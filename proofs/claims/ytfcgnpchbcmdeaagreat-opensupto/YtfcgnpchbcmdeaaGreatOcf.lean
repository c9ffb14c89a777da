import Derived.Test.YtfcgnpchbcmdeaaGreatRows
import Derived.Test.YtfcgnpchbcmdeaaGreatHda
namespace Go.Proofs.YtfcgnpchbcmdeaaGreat
open List Nat World Go.Proofs.Tryz Value IntKind Lib Region
set_option maxHeartbeats 8000000
theorem ZkY{a b}(d:a=true)(c:b=true):(a&&b)=true:=by rw[d,c];rfl
theorem Zdt:joinedFacts prog 9 Tryz.f9 (Rows.OpenSpec.upto Rows.opensSpec).bare Rows.opensUptoRow=true:=by
 unfold joinedFacts
 repeat refine ZkY ?_ ?_
 all_goals as_aux_lemma=>kernel_rfl
end Go.Proofs.YtfcgnpchbcmdeaaGreat
