import Derived.Test.YtfcgnpchbcmdeaaGreatZfab
import Derived.Deep.RegionWith
namespace Go.Proofs.YtfcgnpchbcmdeaaGreat
set_option linter.unusedSimpArgs false
open Go.RowKit
def ZM(w:World)(a:Option Addr)(len:Nat)(zs:List Int):Prop:=
 zs.length=len/\(∀z∈zs,(Lit.int .i64 z).wf=true)/\(len=0∨∃b off,a=some ⟨b,off,none⟩/\b<w.heap.size/\∀i,i<len->w.cell? ⟨b,off+i,none⟩=some (.int .i64 (zs.getD i 0)))
end Go.Proofs.YtfcgnpchbcmdeaaGreat
