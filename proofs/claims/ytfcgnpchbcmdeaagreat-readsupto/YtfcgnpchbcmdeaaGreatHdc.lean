import Derived.Test.YtfcgnpchbcmdeaaGreatHdb
import Derived.LoopTactic
namespace Go.Proofs.YtfcgnpchbcmdeaaGreat
set_option linter.all false
open Go.RowKit
def rd_{p q:Prop}(x:q)(h:q->p:=by intro x;go_wp2;go_roundw;(case rel=>exact x);(case measure=>exact z_)):p:=h x
end Go.Proofs.YtfcgnpchbcmdeaaGreat
