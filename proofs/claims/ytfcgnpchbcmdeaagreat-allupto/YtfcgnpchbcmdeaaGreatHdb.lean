import Derived.Test.YtfcgnpchbcmdeaaGreatHda
import Derived.Test.YtfcgnpchbcmdeaaGreatProg
open _root_ renaming Nat->H,Array->YZ
open Go renaming Value->ZY,World->ZT
open Go.Proofs.Tryz renaming prog->Y8
namespace Go.Proofs.YtfcgnpchbcmdeaaGreat
open List Nat Go.World Go.Proofs.Tryz Go.Value Go.IntKind Go.Lib Go.Region
set_option linter.all false
@[reducible] def C_ (c:H) (b:YZ ZY) (d:ZT) (a:Ending->ZT->Prop):Prop:=Calls Y8 c b d a
def dl_{a b:Prop}(x:b)(c:b->a:=by intro x;delta C_ U_ V_ I P_ L_ V N_ Q_ J;exact x):a:=c x
end Go.Proofs.YtfcgnpchbcmdeaaGreat
