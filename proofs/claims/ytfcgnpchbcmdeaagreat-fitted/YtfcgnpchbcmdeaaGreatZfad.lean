import Derived.Test.YtfcgnpchbcmdeaaGreatZfac
import Derived.Test.YtfcgnpchbcmdeaaGreatRows
import Derived.ProofKit
import Derived.OpenShut
import Derived.ShutString
import Derived.ChangeOld
import Derived.Below
import Derived.Deep.Slices
import Derived.Deep.Strs
namespace Go.Proofs.YtfcgnpchbcmdeaaGreat
set_option linter.unusedSimpArgs false
open Go.ChangeShapes Go.WideShapes Go.ChangeAt Go.RowKit
open Go.Deep
theorem ZoN:Tryz.prog.cellsOf 3=1:=by kernel_rfl
theorem ZnN{w:World}{a:Addr}{v:Value}(h:w.cell? a=some v):a.block<w.heap.size:=by
 unfold World.cell? at h
 by_cases hb:a.block<w.heap.size
 exact hb;rw[Array.getElem?_eq_none (by omega)] at h;simp at h
section
variable {H:Type} {enc:TypeId×Value->H} {w:World} {held:Bool}
theorem ZfB{n:Nat}{cs:List Value}{x:DataW H×List MemPlace}(h:DataW.trod enc Tryz.prog w 0 (fun _=>true) held n 25 cs=some x):∃a len cap zs,cs=[.slice a len cap]/\len<=maxLen/\ZM w a len zs/\(a=none->len=0/\cap=0):=by
 rcases open_ints Tryz.underlying25 Tryz.underlying3 ZoN h with⟨rfl,_⟩|⟨a,len,cap,zs,rfl,_,hl,hm,hz,_,hcell,hwf⟩
 exact⟨none,0,0,[],rfl,by unfold maxLen;omega,⟨rfl,by simp,Or.inl rfl⟩,fun _=>⟨rfl,rfl⟩⟩;simp only[if_true] at hz;refine⟨some a,len,cap,zs.take len,rfl,by omega,⟨by simp;omega,fun z hz'=>hwf z (List.mem_of_mem_take hz'),?_⟩,by simp⟩
 by_cases h0:len=0
 exact Or.inl h0;right;obtain⟨b,off,rfl,hc⟩:=ints_at hcell (by omega);refine⟨b,off,rfl,ZnN (hc 0 (by omega)),fun i hi=>?_⟩;rw[hc i (by omega)];simp[List.getD,hi]
end
end Go.Proofs.YtfcgnpchbcmdeaaGreat
