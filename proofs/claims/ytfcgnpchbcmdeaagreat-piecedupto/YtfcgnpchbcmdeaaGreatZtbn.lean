import Derived.Test.YtfcgnpchbcmdeaaGreatZtaj
import Derived.Test.YtfcgnpchbcmdeaaGreatZtac
import Derived.Test.YtfcgnpchbcmdeaaGreatZtag
namespace Go.Proofs.YtfcgnpchbcmdeaaGreat
open Go.RowKit
def noLess (ps : List (Int × Int)) (x : Int) : Bool := ps.all fun p => !decide (p.1 < x)
def noMore (ps : List (Int × Int)) (x : Int) : Bool := ps.all fun p => decide (p.1 <= x)
end Go.Proofs.YtfcgnpchbcmdeaaGreat
