import Derived.Test.YtfcgnpchbcmdeaaGreatZrag
import Derived.Test.YtfcgnpchbcmdeaaGreatZras
namespace Go.Proofs.YtfcgnpchbcmdeaaGreat
set_option linter.all false
open Go.ChangeShapes Go.WideShapes Go.ChangeAt Go.RowKit
open Go.Deep
def Zhd{H}(d:DataW H):1<=Rows.uptoBulk d:=by
 cases d with
 |lit l=>cases l<;>simp[Rows.uptoBulk]
 |_=>simp[Rows.uptoBulk]
def fj{H}:∀l:List (DataW H),l.length<=Rows.uptoBulkAll l
 |[]=>s_
 |d::r=>by have:=Zhd d;have:=fj r;simp[Rows.uptoBulkAll];omega
def Zaz{H}:∀l (d:DataW H),d∈l->Rows.uptoBulk d<=Rows.uptoBulkAll l
 |[],d,h=>by cases h
 | x::r,d,h=>by
  simp only[Rows.uptoBulkAll]
  rcases List.mem_cons.1 h with rfl|h
  omega;have:=Zaz r d h;omega
section
variable {H:Type} {enc:TypeId×Value->H} {w:World} {held:Bool}
end
end Go.Proofs.YtfcgnpchbcmdeaaGreat
