import Derived.Test.YtfcgnpchbcmdeaaGreatZlad
import Derived.Test.YtfcgnpchbcmdeaaGreatZlbq
namespace Go.Proofs.YtfcgnpchbcmdeaaGreat
open Go.ChangeShapes Go.WideShapes Go.ChangeAt Go.RowKit
open Go.Deep
theorem Zm5:Tryz.prog.cellsOf 73=3:=by kernel_rfl
section
variable {H:Type} {enc:TypeId×Value->H} {w:World} {held:Bool}
theorem Zrj{n:Nat}{cs:List Value}{x:DataW H×List MemPlace}(h:DataW.trod enc Tryz.prog w 0 (fun _=>true) held n 73 cs=some x):∃a b c,cs=[.int .i64 a,.int .i64 b,.int .i64 c]/\(Lit.int .i64 a).wf=true/\(Lit.int .i64 b).wf=true/\(Lit.int .i64 c).wf=true:=by obtain⟨y0,y1,y2,m,_,hl,h0,h1,h2⟩:=trod_struct3 Tryz.underlying73 h;rw[Zm5] at hl;obtain⟨v0,v1,v2,rfl⟩:=Zsw hl;simp only[ZpA,List.drop_zero,List.drop_succ_cons,List.take_succ_cons,List.take_zero] at h0 h1 h2;obtain⟨a,e0,_,w0⟩:=DataW.trod_int Tryz.underlying3 h0;obtain⟨b,e1,_,w1⟩:=DataW.trod_int Tryz.underlying3 h1;obtain⟨c,e2,_,w2⟩:=DataW.trod_int Tryz.underlying3 h2;simp only[List.cons.injEq,and_true] at e0 e1 e2;exact⟨a,b,c,by rw[e0,e1,e2],w0,w1,w2⟩
theorem Zqa{n:Nat}{cs:List Value}{x:DataW H×List MemPlace}(h:DataW.trod enc Tryz.prog w 0 (fun _=>true) held n 68 cs=some x):∃a len cap A,cs=[.slice a len cap]/\Zgd w a len A/\(len=0∨∃E F,x.1=.slice E F/\E.length=len):=by
 rcases open_slice Tryz.underlying68 h with⟨rfl,_⟩|⟨a,len,cap,m,k,D,Pl,rfl,hD,hl,hm,hmm,hk,hx⟩
 exact⟨none,0,0,fun _=>(0,0,0),rfl,⟨fun i hi=>by omega,.inl rfl⟩,.inl rfl⟩;simp only[if_true] at hmm;subst hmm;rw[Zm5] at hx
 have hx':∀i,i<m->∃t:Int×Int×Int,(w.cell? (a.add (i*3))=some (.int .i64 t.1)/\w.cell? (a.add (i*3+1))=some (.int .i64 t.2.1)/\w.cell? (a.add (i*3+2))=some (.int .i64 t.2.2))/\(Lit.int .i64 t.1).wf=true/\(Lit.int .i64 t.2.1).wf=true/\(Lit.int .i64 t.2.2).wf=true:=by
  intro i hi;obtain⟨cs',h1,h2⟩:=hx i hi;obtain⟨p,q,r,rfl,w0,w1,w2⟩:=Zrj h2;obtain⟨_,_,hc⟩:=World.cells?_some h1;refine⟨(p,q,r),⟨?_,?_,?_⟩,w0,w1,w2⟩
  ·have:=hc 0 (by omega);rw[add_add] at this;simpa using this
  ·have:=hc 1 (by omega);rw[add_add] at this;simpa using this
  have:=hc 2 (by omega);rw[add_add] at this;simpa using this
 obtain⟨f,hf⟩:=choose_lt hx';refine⟨some a,len,m,f,rfl,⟨fun i hi=>(hf i (by omega)).2,?_⟩,.inr ⟨_,_,by rw[hk],by simp⟩⟩
 by_cases h0:len=0
 exact Or.inl h0;right;obtain⟨b,off,spot⟩:=a
 have hspot:spot=none:=by simpa [Addr.add] using World.cell?_spot (hf 0 (by omega)).1.1
 subst hspot;simp only[add_plain] at hf;exact⟨b,off,rfl,Zm4 (hf 0 (by omega)).1.1,fun i hi=>(hf i (by omega)).1⟩
end
end Go.Proofs.YtfcgnpchbcmdeaaGreat
