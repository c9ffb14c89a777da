import Derived.Test.YtfcgnpchbcmdeaaGreatZfaa
import Derived.Deep.DeepCutAuto
namespace Go.Proofs.YtfcgnpchbcmdeaaGreat
set_option linter.unusedSimpArgs false
set_option maxRecDepth 100000
set_option maxHeartbeats 1000000
open Go.RowKit
end Go.Proofs.YtfcgnpchbcmdeaaGreat
