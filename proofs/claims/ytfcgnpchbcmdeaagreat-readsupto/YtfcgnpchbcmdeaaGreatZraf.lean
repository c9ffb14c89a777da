import Derived.Test.YtfcgnpchbcmdeaaGreatZrae
import Derived.Deep.RegionWith
namespace Go.Proofs.YtfcgnpchbcmdeaaGreat
set_option linter.all false
open Go.RowKit
structure OpD where
 kd:Int
 pk:Int
 bb:Int
 fa:Option Addr
 fl:Nat
 fc:Nat
 bins:Int
 size:Int
 budget:Int
 va:Option Addr
 vl:Nat
 vc:Nat
 wa:Option Addr
 wl:Nat
 wc:Nat
 st:ByteArray
 x:Int
 y:Int
 fw:Nat->Bool
 fs:Nat->Int
 ft:Nat->Int
 vz:List Int
 wz:List Int
def Cq(w:World)(a:Option Addr)(len:Nat)(zs:List Int):Prop:=
 zs.length=len/\(∀z∈zs,(Lit.int .i64 z).wf=true)/\(len=0∨∃b off,a=some ⟨b,off,none⟩/\b<w.heap.size/\∀i,i<len->w.cell? (A_ b (off+i))=some (I_ (zs.getD i 0)))
structure OpR(w)(d:OpD):Prop where
 fl:d.fl<=maxLen
 vl:d.vl<=maxLen
 wl:d.wl<=maxLen
 feats:Ej w d.fa d.fl d.fw d.fs d.ft
 vz:Cq w d.va d.vl d.vz
 wz:Cq w d.wa d.wl d.wz
 vnil:d.va=none->d.vl=0/\d.vc=0
 wnil:d.wa=none->d.wl=0/\d.wc=0
structure OpC(w:World)(b off)(d:OpD):Prop where
 c0:w.cell? (A_ b off)=some (I_ d.kd)
 c1:w.cell? (A_ b (off+1))=some (I_ d.pk)
 c2:w.cell? (A_ b (off+2))=some (I_ d.bb)
 c3:w.cell? (A_ b (off+3))=some (.slice d.fa d.fl d.fc)
 c4:w.cell? (A_ b (off+4))=some (I_ d.bins)
 c5:w.cell? (A_ b (off+5))=some (I_ d.size)
 c6:w.cell? (A_ b (off+6))=some (I_ d.budget)
 c7:w.cell? (A_ b (off+7))=some (.slice d.va d.vl d.vc)
 c8:w.cell? (A_ b (off+8))=some (.slice d.wa d.wl d.wc)
 c9:w.cell? (A_ b (off+9))=some (.string d.st)
 c10:w.cell? (A_ b (off+10))=some (I_ d.x)
 c11:w.cell? (A_ b (off+11))=some (I_ d.y)
def az(w:World)(a:Option Addr)(len:Nat)(D:Nat->OpD):Prop:=
 len<=maxLen/\(len=0∨∃b off,a=some ⟨b,off,none⟩/\b<w.heap.size/\∀i,i<len->OpC w b (off+i*12) (D i)/\OpR w (D i))
def OpC.below{w g B b a d}(h:OpC w b a d)(q:Below B w g)(f:b<B):OpC g b a d:=by obtain⟨i,v,n,s,j,u,r,m,t,l,e,c⟩:=h;have k:=λo=>q.cell (p:=(A_ b o)) f;exact⟨(k _).trans i,(k _).trans v,(k _).trans n,(k _).trans s,(k _).trans j,(k _).trans u,(k _).trans r,(k _).trans m,(k _).trans t,(k _).trans l,(k _).trans e,(k _).trans c⟩
end Go.Proofs.YtfcgnpchbcmdeaaGreat
