import Derived.Test.YtfcgnpchbcmdeaaGreatZraf
import Derived.Test.YtfcgnpchbcmdeaaGreatRows
import Derived.ProofKit
import Derived.OpenShut
import Derived.ShutString
import Derived.Deep.Strs
namespace Go.Proofs.YtfcgnpchbcmdeaaGreat
set_option linter.all false
open Go.ChangeShapes Go.WideShapes Go.ChangeAt Go.RowKit
open Go.Deep
def Zeg:Tryz.prog.cellsOf 93=12:=k_
def Zee:Tryz.prog.cellsOf 37=4:=k_
def Zef:Tryz.prog.cellsOf 51=3:=k_
def Zjy:Tryz.prog.cellsOf 25=1:=k_
def Zed:Tryz.prog.cellsOf 35=1:=k_
def xg:Tryz.prog.cellsOf 3=1:=k_
def Zk1:Tryz.prog.cellsOf 4=1:=k_
def Zhe:Tryz.prog.cellsOf 9=1:=k_
def xe{w:World}{a v}(h:w.cell? a=some v):a.block<w.heap.size:=by
 unfold World.cell? at h
 grind
def ZlU{α:Type}{l:List α}(h:l.length=3):∃a b c,l=[a,b,c]:=by
 match l,h with
 |[a,b,c],_=>grind
def ZkM{α:Type}{l:List α}(h:l.length=4):∃a b c d,l=[a,b,c,d]:=by
 match l,h with
 |[a,b,c,d],_=>grind
def ZkN{α:Type}{l:List α}(h:l.length=9):∃a b c d e f g i j,l=[a,b,c,d,e,f,g,i,j]:=by
 match l,h with
 |[a,b,c,d,e,f,g,i,j],_=>grind
def Zlk{α:Type}{l:List α}(h:l.length=12):∃a b c d e f g i j k m n,l=[a,b,c,d,e,f,g,i,j,k,m,n]:=by
 match l,h with
 |[a,b,c,d,e,f,g,i,j,k,m,n],_=>grind
section
variable {H:Type} {enc:TypeId×Value->H} {w:World} {held:Bool}
def Zbt{n d x}(h:DataW.trod enc Tryz.prog w 0 (λ_=>true) held n 25 d=some x):∃a len cap zs,d=[.slice a len cap]/\len<=maxLen/\Cq w a len zs/\(a=none->len=0/\cap=0):=by
 rcases open_ints Tryz.underlying25 Tryz.underlying3 xg h with⟨rfl,_⟩|⟨a,len,cap,zs,rfl,_,hl,hm,hz,_,hcell,hwf⟩
 exact⟨none,0,0,[],rfl,o_,⟨rfl,s_,Or.inl rfl⟩,λ_=>⟨rfl,rfl⟩⟩;simp only[if_true] at hz;refine⟨some a,len,cap,zs.take len,rfl,o_,⟨t_,λz hz'=>hwf z (List.mem_of_mem_take hz'),?_⟩,s_⟩
 by_cases h0:len=0
 exact Or.inl h0;right;obtain⟨b,c,rfl,e⟩:=ints_at hcell o_;refine⟨b,c,rfl,xe (e 0 o_),λi hi=>?_⟩
 grind
def Zig{n d x}(h:DataW.trod enc Tryz.prog w 0 (λ_=>true) held n 51 d=some x):∃a b c,d=[.bool a,I_ b,I_ c]:=by
 obtain⟨j,p,s,m,_,e,f,i,g⟩:=trod_struct3 Tryz.underlying51 h;rw[Zef] at e;obtain⟨o,r,l,rfl⟩:=ZlU e;simp only[xg,Zk1,List.drop_zero,List.drop_succ_cons,List.take_succ_cons,List.take_zero] at f i g;obtain⟨a,e0,_⟩:=DataW.trod_bool Tryz.underlying4 f;obtain⟨b,k,_⟩:=DataW.trod_int Tryz.underlying3 i;obtain⟨c,q,_⟩:=DataW.trod_int Tryz.underlying3 g
 grind
def ZfT{n s x}(h:DataW.trod enc Tryz.prog w 0 (λ_=>true) held n 35 s=some x):∃a len cap fw fs ft,s=[.slice a len cap]/\len<=maxLen/\Ej w a len fw fs ft:=by
 rcases open_slice Tryz.underlying35 h with⟨rfl,_⟩|⟨a,len,cap,m,k,D,Pl,rfl,_,hl,hm,hmm,_,hx⟩
 exact⟨none,0,0,λ_=>false,λ_=>0,λ_=>0,rfl,o_,Or.inl rfl⟩;simp only[if_true] at hmm;subst hmm;rw[Zef] at hx
 have j:∀i,i<m->∃t:Bool×Int×Int,w.cell? (a.add (i*3))=some (.bool t.1)/\w.cell? (a.add (i*3+1))=some (I_ t.2.1)/\w.cell? (a.add (i*3+2))=some (I_ t.2.2):=by
  intro i g;obtain⟨u,y,v⟩:=hx i g;obtain⟨p,q,r,rfl⟩:=Zig v;obtain⟨_,_,o⟩:=World.cells?_some y;refine⟨(p,q,r),?_,?_,?_⟩
  ·have:=o 0 o_;rw[add_add] at this;simpa using this
  ·have:=o 1 o_;rw[add_add] at this;simpa using this
  have:=o 2 o_;rw[add_add] at this;simpa using this
 obtain⟨f,d⟩:=choose_lt j;refine⟨some a,len,m,λi=>(f i).1,λi=>(f i).2.1,λi=>(f i).2.2,rfl,o_,?_⟩
 by_cases h0:len=0
 exact Or.inl h0;right;obtain⟨b,l,e⟩:=a
 have c:e=none:=by simpa [Addr.add] using World.cell?_spot (d 0 o_).1
 subst c;simp only[add_plain] at d;exact⟨b,l,rfl,o_,λ_=>xe (d 0 o_).1,λi g=>(d i o_).1,λi g=>(d i o_).2.1,λi g=>(d i o_).2.2⟩
def Zlr{n cs x}(h:DataW.trod enc Tryz.prog w 0 (λ_=>true) held n 93 cs=some x):∃d:OpD,cs=[I_ d.kd,I_ d.pk,I_ d.bb,.slice d.fa d.fl d.fc,I_ d.bins,I_ d.size,I_ d.budget,.slice d.va d.vl d.vc,.slice d.wa d.wl d.wc,.string d.st,I_ d.x,I_ d.y]/\OpR w d:=by
 obtain⟨xs,m,_,_,hl,hlen,hf⟩:=DataW.trod_struct Tryz.underlying93 h;rw[Zeg] at hl;obtain⟨v0,v1,v2,v3,v4,v5,v6,v7,v8,v9,v10,v11,rfl⟩:=Zlk hl;obtain⟨x0,x1,x2,x3,x4,x5,x6,x7,x8,rfl⟩:=ZkN hlen;have g0:=hf 0 ⟨ "Kind",3,0,false, "", "",0⟩ rfl;have g1:=hf 1 ⟨ "At",3,1,false, "", "",8⟩ rfl;have g2:=hf 2 ⟨ "B",3,2,false, "", "",16⟩ rfl;have g3:=hf 3 ⟨ "C",37,3,false, "", "",24⟩ rfl;have g4:=hf 4 ⟨ "V",25,7,false, "", "",72⟩ rfl;have g5:=hf 5 ⟨ "W",25,8,false, "", "",96⟩ rfl;have g6:=hf 6 ⟨ "S",9,9,false, "", "",120⟩ rfl;have g7:=hf 7 ⟨ "X",3,10,false, "", "",136⟩ rfl;have g8:=hf 8 ⟨ "Y",3,11,false, "", "",144⟩ rfl
 simp only[xg,Zee,Zjy,Zhe,List.drop_zero,List.drop_succ_cons,List.take_succ_cons,List.take_zero,List.getElem?_cons_zero,List.getElem?_cons_succ] at g0 g1 g2 g3 g4 g5 g6 g7 g8;obtain⟨kd,e0,_⟩:=DataW.trod_int Tryz.underlying3 g0;obtain⟨pk,e1,_⟩:=DataW.trod_int Tryz.underlying3 g1;obtain⟨bb,e2,_⟩:=DataW.trod_int Tryz.underlying3 g2;obtain⟨va,vl,vc,vz,e7,hvl,hv,hvn⟩:=Zbt g4;obtain⟨wa,wl,wc,wz,e8,hwl,hw,hwn⟩:=Zbt g5;obtain⟨st,e9,_⟩:=DataW.trod_string Tryz.underlying9 g6;obtain⟨px,e10,_⟩:=DataW.trod_int Tryz.underlying3 g7;obtain⟨py,e11,_⟩:=DataW.trod_int Tryz.underlying3 g8;obtain⟨ys,m',_,_,_,hlen',hf'⟩:=DataW.trod_struct Tryz.underlying37 g3;obtain⟨y0,y1,y2,y3,rfl⟩:=ZkM hlen';have k0:=hf' 0 ⟨ "Features",35,0,false, "", "",0⟩ rfl
 have k1:=hf' 1 ⟨ "Bins",3,1,false, "", "",24⟩ rfl;have k2:=hf' 2 ⟨ "Size",3,2,false, "", "",32⟩ rfl;have k3:=hf' 3 ⟨ "Budget",3,3,false, "", "",40⟩ rfl;simp only[xg,Zed,List.drop_zero,List.drop_succ_cons,List.take_succ_cons,List.take_zero,List.getElem?_cons_zero,List.getElem?_cons_succ] at k0 k1 k2 k3;obtain⟨fa,fl,fc,fw,fs,ft,e3,hfl,hfe⟩:=ZfT k0;obtain⟨bins,e4,_⟩:=DataW.trod_int Tryz.underlying3 k1;obtain⟨size,e5,_⟩:=DataW.trod_int Tryz.underlying3 k2;obtain⟨budget,e6,_⟩:=DataW.trod_int Tryz.underlying3 k3;simp only[List.cons.injEq,and_true] at e0 e1 e2 e3 e4 e5 e6 e7 e8 e9 e10 e11;subst e0 e1 e2 e3 e4 e5 e6 e7 e8 e9 e10 e11;exact⟨⟨kd,pk,bb,fa,fl,fc,bins,size,budget,va,vl,vc,wa,wl,wc,st,px,py,fw,fs,ft,vz,wz⟩,rfl,⟨hfl,hvl,hwl,hfe,hv,hw,hvn,hwn⟩⟩
end
end Go.Proofs.YtfcgnpchbcmdeaaGreat
