import Derived.Test.YtfcgnpchbcmdeaaGreatHdb
namespace Go.Proofs.YtfcgnpchbcmdeaaGreat
set_option linter.all false
open Go.RowKit List Nat Go.World Go.Proofs.Tryz Go.Value Go.IntKind Go.Lib Go.Region
def J_{a b:Prop}(x:b)(c:b->a:=by intro x;go_wp2;go_roundw;(case rel=>exact x);(case measure=>exact z_)):a:=c x
end Go.Proofs.YtfcgnpchbcmdeaaGreat
