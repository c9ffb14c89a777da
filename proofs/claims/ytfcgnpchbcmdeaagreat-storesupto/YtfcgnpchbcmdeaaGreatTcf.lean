import Derived.Test.YtfcgnpchbcmdeaaGreatRows
import Derived.Test.YtfcgnpchbcmdeaaGreatHda
open Bool renaming true->Z0
open Go.Proofs.Tryz renaming prog->Y8
namespace Go.Proofs.YtfcgnpchbcmdeaaGreat
open List Nat Go.World Go.Proofs.Tryz Go.Value Go.IntKind Go.Lib Go.Region
set_option maxHeartbeats 8000000
theorem Zmn{a b}(c:a=Z0)(d:b=Z0):(a&&b)=Z0:=by rw[c,d];rfl
theorem Zfb:joinedFacts Y8 10 f10 (Rows.OpenSpec.upto Rows.storesSpec).bare Rows.storesUptoRow=Z0:=by
 unfold joinedFacts
 repeat refine Zmn ?_ ?_
 all_goals as_aux_lemma=>kernel_rfl
end Go.Proofs.YtfcgnpchbcmdeaaGreat
