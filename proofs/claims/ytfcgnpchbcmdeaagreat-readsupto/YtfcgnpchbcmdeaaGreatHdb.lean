import Derived.Test.YtfcgnpchbcmdeaaGreatHda
import Derived.Test.YtfcgnpchbcmdeaaGreatProg
namespace Go.Proofs.YtfcgnpchbcmdeaaGreat
set_option linter.all false
@[reducible] def C_ (n:Nat) (a:Array Value) (w:World) (Q:Ending->World->Prop):Prop:=Calls Tryz.prog n a w Q
end Go.Proofs.YtfcgnpchbcmdeaaGreat
