import Derived.Test.YtfcgnpchbcmdeaaGreatHda
import Derived.Test.YtfcgnpchbcmdeaaGreatProg
namespace Go.Proofs.YtfcgnpchbcmdeaaGreat
open List Nat World Go.Proofs.Tryz Value IntKind Lib Region
set_option linter.all false
@[reducible] def C_ (c:Nat) (b:Array Value) (d:World) (a:Ending->World->Prop):Prop:=Calls prog c b d a
def dl_{a b:Prop}(x:b)(c:b->a:=by intro x;delta C_ U_ V_ I P_ L_ V N_ Q_ J;exact x):a:=c x
end Go.Proofs.YtfcgnpchbcmdeaaGreat
