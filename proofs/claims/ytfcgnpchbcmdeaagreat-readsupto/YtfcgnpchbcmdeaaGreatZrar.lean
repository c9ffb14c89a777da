import Derived.Test.YtfcgnpchbcmdeaaGreatZrap
import Derived.Test.YtfcgnpchbcmdeaaGreatZraq
namespace Go.Proofs.YtfcgnpchbcmdeaaGreat
set_option linter.all false
set_option maxRecDepth 100000
set_option maxHeartbeats 4000000
open Go.RowKit
def ZhD n:List.replicate (n*4) (I_ 0)=flat (List.replicate n e0):=by
 induction n with
 |zero=>rfl
 | succ n ih=>
  rw[List.replicate_succ,show(n+1)*4=n*4+4 by omega];show _=Ee e0++flat (List.replicate n e0);rw[<- ih];rfl
def ZfM n:(madeCells #[I_ 0,I_ 0,I_ 0,I_ 0] (n*4)).toList=flat (List.replicate n e0):=by
 have a:(madeCells #[I_ 0,I_ 0,I_ 0,I_ 0] (n*4)).toList=List.replicate (n*4) (I_ 0):=by
  apply List.ext_getElem;simp[madeCells];intro i a b;simp[madeCells]
  grind
 rw[a,ZhD]
def Zfx{A B}{x:Ct}{k}(a:A.length=k) y:(flat (A++x::B)).set (k*4) (I_ y)=flat (A++⟨y,x.lo,x.hi,x.wt⟩::B):=by have:=Uw (B:=B) (x:=x) a (show 0<4 by omega) (I_ y);rw[Nat.add_zero] at this;rw[this,Cu];rfl
def Ov(P:List (Int×Int))(k:Nat):List Ct:=(P.take k).map Jd++List.replicate (P.length-k) e0
def Zfo P {k}(h:k<=P.length):(Ov P k).length=P.length:=by simp[Ov];omega
def ud{a b k} c:(Ar a b)[k]=(Ga (a.getD k 0),It (b.getD k 0)):=by grind [Ar]
def Cq.below{w l a d k}(h:Cq w a d k)(j:Below w.heap.size w l):Cq l a d k:=by
 obtain⟨m,o,g⟩:=h;refine⟨m,o,?_⟩
 rcases g with g|⟨b,c,e,f,n⟩
 exact .inl g;exact .inr ⟨b,c,e,Qh f j.size,λi hi=>(j.cell (p:=(A_ b (c+i))) f).trans (n i hi)⟩
def ZaT L:∀i r,i<L.length->r<4->(flat L)[i*4+r]? =(Ee (L.getD i e0))[r]?:=by
 induction L with
 |nil=>grind
 | cons e L ih=>
  intro i r a b
  cases i with
  |zero=>grind [flat,Ee]
  | succ i=>
   grind [flat,Ee]
def gz(d:List (Int×Int)):(Go.Sort.flatK Zm 4 d.toArray).toList=flat (d.map Jd):=by
 apply List.ext_getElem?;intro t
 by_cases ht:t<d.length*4
 ·have a:=ZaT (d.map Jd) (t/4) (t%4) t_ o_;rw[show t/4*4+t%4=t by omega] at a;rw[a,Array.getElem?_toList];have c:t/4<d.length:=o_;have e:t%4<4:=o_;have b:(d.map Jd).getD (t/4) e0=Jd d[t/4]:=w_;rw[b];simp only[Go.Sort.flatK];rw[Array.getElem?_map];simp[ht,c,Zm,Ee,Jd]
  grind
 rw[List.getElem?_eq_none t_,List.getElem?_eq_none (by rw[Ef];simp;omega)]
def ln a F (h:F.size<=a.size):(Go.Sort.putCells id 0 F a).toList.take F.size=F.toList:=by
 apply List.ext_getElem?;intro j
 by_cases hj:j<F.size
 rw[List.getElem?_take_of_lt hj,Array.getElem?_toList,Array.getElem?_toList];simp[Go.Sort.putCells,hj,show j<a.size by omega]
 grind
def Zdr{w b g a m os}{P D:List (Int×Int)}(d:D.length=P.length)(h:Aj w b (L_ g P.length a) (P.map Jd)):Aj (Go.Proofs.sortWorldK Zm 4 w g 0 m D.toArray os) b (L_ g P.length a) (D.map Jd)/\w.grownBy (Go.Proofs.sortWorldK Zm 4 w g 0 m D.toArray os) (some g):=by
 rcases h.2 with⟨e,_⟩|⟨g',cap',cur,e,hb,hg,hnc,hcm,hcs,htake⟩
 simp at e;simp only[Value.slice.injEq,Option.some.injEq,Addr.mk.injEq,and_true] at e;obtain⟨rfl,_,rfl⟩:=e;have c:=(Qb hg).1;have j:(Go.Sort.flatK Zm 4 D.toArray).size=P.length*4:=by simp[d]
 have f:P.length<=a:=by simpa using hnc
 have i:(Go.Proofs.sortWorldK Zm 4 w g 0 m D.toArray os).heap[g]? =some (.cells (Go.Sort.putCells id 0 (Go.Sort.flatK Zm 4 D.toArray) cur) 98 (0,0)):=(by unfold Go.Proofs.sortWorldK Go.Sort.putRowK;rw[Go.Sort.heap_grow_old _ _ (by simpa using c)];simp[Go.Sort.putRow,Go.Sort.mapBlock,Go.Sort.ahead,Array.getElem?_modify,hg,Go.Sort.onCells]);refine⟨⟨by rw[Ef],.inr ⟨g,a,_,by simp[d],hb,i,w_,hcm,by simp[Go.Sort.putCells,hcs],?_⟩⟩,⟨rfl,rfl,rfl,?_,λk hk hne=>?_⟩⟩
 ·grind [gz,ln]
 unfold Go.Proofs.sortWorldK Go.Sort.putRowK;simp;unfold Go.Proofs.sortWorldK Go.Sort.putRowK;rw[Go.Sort.heap_grow_old _ _ (by simpa using hk)];have:g≠k:=λe=>hne (by rw[e]);simp[Go.Sort.putRow,Go.Sort.mapBlock,Go.Sort.ahead,Array.getElem?_modify,this]
def ZfV{w a g b}{P:List (Int×Int)}(h:Aj w a (L_ g P.length b) (P.map Jd)):Go.Sort.HoldsK Zm 4 w g 0 P.toArray:=by
 intro j e
 have c:j<P.length*4:=by simpa using e
 have d:Aj w a (L_ g (P.map Jd).length b) (P.map Jd):=by simpa using h
 refine⟨?_,?_⟩
 ·rw[Nat.zero_add,World.ownsRow.cellAt d j (by simpa using c),<- gz]
  grind
 rw[Nat.zero_add];exact World.ownsRow.frozenAt d j
def Zid va wa E vc H wc c d w (hv:Cq w va E c)(hw:Cq w wa H d)(lv:E<=2097152)(lw:H<=2097152):C_ 45 #[.slice va E vc,.slice wa H wc] w λe w'=>∃v M,e=.returned v/\Ed (Ar c d) M/\Aj w' w.heap.size v (Bv 0 M)/\Below w.heap.size w w':=by
 obtain⟨i0,U,aK,aD,a6⟩:=info_parts Qq;have F:=Jo c d;rw[hv.1,hw.1] at F;obtain⟨n,hn⟩:=ex_ (min E H);have aB:∀W:World,(Instr.makeSlice 29 (I_ n) (I_ n)).run Tryz.prog W=.ok (L_ W.heap.size n n) (W.alloc (.cells (madeCells #[I_ 0,I_ 0,I_ 0,I_ 0] (n*4)) 98)):=(by intro W;have:=run_make (P:=Tryz.prog) W 29 98 i0 _ Tryz.underlying29 U aK .i64 .i64 (n:Int) (n:Int) o_ o_ (by rw[a6];omega) o_;rw[aD] at this;rw[this,Int.toNat_natCast];rfl);have b:=x1_ (F.trans hn.symm);have HV:=x1_ hv;have HW:=x1_ hw
 have HM:Hid (Aj (w.alloc (.cells (madeCells #[I_ 0,I_ 0,I_ 0,I_ 0] (n*4)) 98)) w.heap.size (L_ w.heap.size n n) (Ov (Ar c d) 0)):=by
  have:=World.ownsRow_lit (base:=w.heap.size) (size:=4) (e:=98) w (madeCells #[I_ 0,I_ 0,I_ 0,I_ 0] (n*4)) n qa_ m_ (size_madeCells _ _);rw[ZfM] at this;have e:Ov (Ar c d) 0=List.replicate n e0:=(by unfold Ov;rw[b];simp);show Aj _ _ _ _;unfold Aj
  grind
 have aQ:n<=E:=o_;have aT:n<=H:=o_;have Q:=x1_ hn;clear hv hw F hn;go_enter Tryz.func45,Tryz.ntmps45;go_upto_region 1 with fail;go_cut [5] (λv wx=>v=.slice (some ⟨w.heap.size,0,none⟩) n n/\wx=w.alloc (.cells (madeCells #[.int .i64 0,.int .i64 0,.int .i64 0,.int .i64 0] (n*4)) 98))
 case first=>
  have aR:min (E:Int) H=n:=(by have:=Q.out;omega);go_wp2;go_meet
  grind
 case rest =>
  obtain⟨rfl,rfl⟩:=hcut;clear aB;go_wp2_with fail
  go_loopw [15] (λti wr=>∃k:Nat,k<=n/\ti=.int .i64 k/\Hid (Aj wr w.heap.size (.slice (some ⟨w.heap.size,0,none⟩) n n) (Ov (Ar c d) k))/\E_ w wr) (λti _=>n-(intOf ti).toNat)
  case atStart=>exact⟨0,qg_,rfl,HM,bA_⟩
  case round=>
   clear HM;obtain⟨k,hk,rfl,HO,f⟩:=hrel
   by_cases hkn:k<n
   ·have a0:k<(Ar c d).length:=(by rw[b];exact hkn);have B:Ov (Ar c d) k=((Ar c d).take k).map Jd++e0::List.replicate (n-(k+1)) e0:=(by unfold Ov;rw[b,show n-k=n-(k+1)+1 by omega,List.replicate_succ]);have I:(((Ar c d).take k).map Jd).length=k:=t_;have a:=HO.out;have l:=Zfo _ (show k<=(Ar c d).length by omega);rw[B] at a l;rw[b] at l;obtain⟨c0,c1,c2,c3,cf⟩:=a.at l.symm I;have a7:=x1_ a;have t:=x1_ l.symm;have s:=x1_ I
    have a8:Hid (Ov (Ar c d) (k+1)=((Ar c d).take k).map Jd++⟨Ga (c.getD k 0),0,0,It (d.getD k 0)⟩::List.replicate (n-(k+1)) e0):=show _=_ by unfold Ov;rw[b,Qi a0,ud _];simp[Jd]
    rcases HV.out with⟨hv1,hv2,hv3|⟨b1,o1,rfl,z,hv3⟩⟩;omega;rcases HW.out with⟨hw1,hw2,hw3|⟨b2,o2,rfl,o,hw3⟩⟩;omega;have d1:=(f.cell (p:=(A_ b1 (o1+k))) z).trans (hv3 k o_);have d2:=(f.cell (p:=(A_ b2 (o2+k))) o).trans (hw3 k o_);simp only[e0] at c0 c1 c2 c3;have aM:0<=(k:Int):=o_;have aU:k<(n:Int):=o_;have aV:k<(E:Int):=o_;have aP:k<(H:Int):=o_;clear B I a l hv1 hv2 hv3 hw1 hw2 hw3 a0;generalize c.getD k 0=x,d.getD k 0=y at *;go_wp2_with fail
    go_region_with (first|(go_at_call 79;refine(Wi _ _).mono ?_;rintro e w' ⟨rfl,rfl⟩)|(go_at_call 80;refine(Up _ _).mono ?_;rintro e w' ⟨rfl,rfl⟩))
    all_goals go_wp2
    all_goals
     go_roundw
     case rel=>
      refine⟨k+1,o_,g_,?_,?_⟩;rw[a8];exact((((a7.store t s_ (Zfx s _)).store (t.trans s_) s_ (Wx s _)).store (t.trans s_) s_ (Wy s _)).store (t.trans s_) s_ (Wz s _));exact((((f.setCell qa_ _).setCell qa_ _).setCell qa_ _).setCell qa_ _).drew
     case measure=>exact z_
   have aL:k=n:=o_;have a:Aj wr w.heap.size (L_ w.heap.size (Ar c d).length n) ((Ar c d).map Jd):=(by have e:Ov (Ar c d) k=(Ar c d).map Jd:=(by unfold Ov;rw[List.take_of_length_le (by rw[b];omega),b,show n-k=0 by omega];simp);rw[<- e,b];exact HO);have aO:¬k<(n:Int):=o_;have aG:=f.size;have Y:∀p∈Ar c d,_:=λp hp=>(Ig hp).1;have r:=x1_ Y;have A:=(rl_ a w.heap.size rfl).2
   have hS:C_ 81 #[.slice (some ⟨w.heap.size,0,none⟩) n n,.func (.func 82) #[] #[]] wr λe w'=>e=.returned (.tuple #[])/\∃D:List (Int×Int),D.Perm (Ar c d)/\(D.Pairwise λp q=>p.1<=q.1)/\Aj w' w.heap.size (.slice (some ⟨w.heap.size,0,none⟩) D.length n) (D.map Jd)/\wr.grownBy w' (some w.heap.size):=by
    have hs:=ZiH _ n _ _ (ZfV a) A (by simp[b.out];omega);rw[show(Ar c d).toArray.size=n by simp[b.out]] at hs;refine hs.mono ?_;rintro e w' ⟨rfl,J,m,os,G,L,rfl⟩;obtain⟨aH,_,aN⟩:=G;have aF:J.size=n:=(by rw[aH];simp[b.out]);have hD:J.toList.length=(Ar c d).length:=o_;have ho:=Zdr (m:=m) (os:=os) hD a;rw[show J.toList.toArray=J by simp] at ho;refine⟨rfl,J.toList,?_,?_,?_,ho.2⟩
    ·have e1:J.extract 0 n=J:=by rw[<- aF];simp
     grind
    ·rw[List.pairwise_iff_getElem];intro i j hi hj aJ;simp at hi hj;have:=L i j qg_ aJ o_;rw[Zj7] at this
     grind
    grind
   have aA:=x1_ hS;clear a Y A hS;go_wp2_with fail
   refine(show Calls _ _ _ _ _ from aA).mono ?_;rintro e w1 ⟨rfl,D,u,a4,Z,a1⟩;have aI:D.length=n:=(by rw[u.length_eq,b]);have z:=f.grown a1 aG (λq hq=>by simp at hq;omega);have C:=jc _ n D _ _ Z a4 (λp hp=>r p (u.mem_iff.1 hp)) o_;rw[aI] at C;have a9:=x1_ C;have aE:=x1_ u;clear C u a4 Z a1;go_wp2_with fail
   refine(show Calls _ _ _ _ _ from a9).mono ?_;rintro e w2 ⟨M,rfl,N,aS,a3,T⟩;have o:=z.grown T z.size (λq hq=>by simp at hq;omega);have g:=N.perm aE
   have V:∀p∈M,0<=p.2:=λp hp=>by rw[g.wt p hp];exact We (λq hq=>(r q hq).1) _
   have S:By M<=1000000000000:=(by have h1:=Zac (ps:=Ar _ _) (λq hq=>(r q hq).1) g.rise;have h2:=Ry (ps:=Ar _ _) (λq hq=>(r q hq).2);rw[Wd g.wt];rw[b] at h2;omega);have aC:=x1_ g;have R:=Ziv _ n M _ _ a3 V S o_;have X:=x1_ R;clear R N a3 T g V S;go_wp2_with fail
   refine(show Calls _ _ _ _ _ from X).mono ?_;rintro e w3 ⟨rfl,a2,O⟩;have a5:=o.grown O o.size (λq hq=>by simp at hq;omega);have HF:=x1_ a2;clear a2 O;go_wp2;go_ret;exact⟨_,M,rfl,aC,HF,a5⟩
def ZbZ h g c o a wc d f w (j:Cq w h c d)(p:Cq w g a f)(l:c<=2097152)(i:a<=2097152):C_ 19 #[.slice h c o,.slice g a wc] w λe w'=>∃v M,e=.returned v/\Ed (Ar d f) M/\Aj w' w.heap.size v (Bv 0 M)/\Below w.heap.size w w':=by
 go_enter Tryz.func19,Tryz.ntmps19;go_wp2_with fail
 refine(Zid _ _ _ _ _ _ _ _ w j p l i).mono ?_;rintro e w' ⟨v,M,rfl,n,k,m⟩;have b:=x3_ n k m;go_wp2;go_ret;exact⟨_,M,rfl,b.1,b.2.1,b.2.2⟩
def lenOf:Value->Nat
 |.slice _ n _=>n
 |_=>0
def Ag.form{w d v e}(h:Ag w d v e):∃a c,v=.slice a e.length c/\∀i,i<e.length->∃b,a=some ⟨b,0,none⟩/\b<w.heap.size/\w.cell? (A_ b i)=some (I_ (e.getD i 0)):=by
 rcases h.2 with⟨rfl,h0⟩|⟨g,cap,cur,rfl,hb,hg,r⟩
 ·grind
 refine⟨some _,cap,rfl,λi hi=>⟨g,rfl,(Qb hg).1,?_⟩⟩;rw[World.ownsRow.cellAt h i (by simp;exact hi)];simp[hi]
def Aj.form{w d v L}(h:Aj w d v L):∃a c,v=.slice a L.length c/\∀A x,L=A++[x]->∃b,a=some ⟨b,0,none⟩/\b<w.heap.size/\w.cell? (A_ b (A.length*4))=some (I_ x.v):=by
 rcases h.2 with⟨rfl,h0⟩|⟨g,cap,cur,rfl,hb,hg,r⟩
 ·grind
 grind [Aj.at]
def Yl{w a v u L b}(h:Aj w a v L)(g:Ag w a u b):u.ownBlock=none∨u.ownBlock≠v.ownBlock:=by
 rcases g.2 with⟨rfl,_⟩|⟨g1,wu,cur1,rfl,_,hg1,_⟩
 exact .inl rfl
 rcases h.2 with⟨rfl,_⟩|⟨g2,cap2,cur2,rfl,_,hg2,_⟩
 exact .inr (by simp[Value.ownBlock]);refine .inr λe=>?_;simp[Value.ownBlock] at e
 grind
def Pf.bound{P M i f a b}(d:∀p∈P,1<=p.2/\p.2<=1000)(h:Pf P M i f a b):0<=b/\b<=1000*P.length:=by
 cases f with
 |false=>obtain⟨_,e,_⟩:=h.no rfl;omega
 | true=>
  obtain⟨_,_,e⟩:=h.yes rfl;have c:∀p∈P.take i,_:=λp hq=>(d p (List.mem_of_mem_take hq)).1;have g:=We c a;have j:=ZiY c a;have k:=Ry (ps:=P.take i) (λp hq=>(d p (List.mem_of_mem_take hq)).2)
  grind
def Is.bound{P M}(b:∀p∈P,1<=p.2/\p.2<=1000)(h:Is P M):0<=By M/\By M<=1000*P.length:=by have a:=λp hq=>(b p hq).1;have d:=Zac a h.rise;have e:=Wd h.wt;have f:=Ry (ps:=P) (λp hq=>(b p hq).2);have c:=(Oc (M:=M) (λp hq=>by rw[h.wt p hq];exact We a _) 0).2;simp[By] at c;omega
def Zc1{M}{x}:(M.length=0/\Fn M x=true)∨∃N p,M=N++[p]/\Fn M x=decide (p.1<x):=by
 rcases List.eq_nil_or_concat M with a|⟨N,p,a⟩
 subst a;exact .inl ⟨rfl,rfl⟩;rw[List.concat_eq_append] at a;subst a;exact .inr ⟨N,p,rfl,Tq N p x⟩
def js N p:Bv 0 (N++[p])=Bv 0 N++[⟨p.1,By N,By N+p.2,p.2⟩]:=by rw[Vt];simp[Bv]
def Ti{p:Prop}(h:p:=by
 go_wp2_with fail
 go_roundw;case rel=>exact⟨_,_,_,i+1,rfl,rfl,g_,g_,o_,HX,o_⟩
 case measure=>exact z_):p:=h
def Qx va wa L vc wl wc t z w (hv:Cq w va L t)(hw:Cq w wa wl z)(lv:L<=2097152)(lw:wl<=2097152):C_ 115 #[.slice va L vc,.slice wa wl wc] w λe w'=>∃v M,e=.returned v/\Ed (Ar t z) M/\Aj w' w.heap.size v (Bv 0 M)/\Below w.heap.size w w':=by
 obtain⟨i0,aR,cD,c4,bK⟩:=info_parts Qq;obtain⟨j0,X,aV,aN,bH⟩:=info_parts Su;have aH:=Jo t z;rw[hv.1,hw.1] at aH;have aG:=x1_ aH;have HV:=x1_ hv;have HW:=x1_ hw;clear hv hw aH;go_enter Tryz.func115,Tryz.ntmps115;go_wp2_with fail
 go_loopw [5,6,7] (λtv tw ti wr=>∃k:Nat,k<=L/\k<=wl/\ti=.int .i64 k/\Hid (Ag wr w.heap.size tv (((Ar t z).take k).map Prod.fst)/\Ag wr w.heap.size tw (((Ar t z).take k).map Prod.snd)/\Ch tv tw)/\E_ w wr) (λ_ _ ti _=>L-(intOf ti).toNat)
 case atStart=>exact⟨0,qg_,qg_,rfl,⟨Ag.nil _ _,Ag.nil _ _,.inl rfl⟩,bz_⟩
 case round=>
  obtain⟨k,cI,cM,rfl,HR,a⟩:=hrel;obtain⟨bE,aO,aX⟩:=HR;have E:=x1_ bE;have F:=x1_ aO;have bB:=x1_ aX;have W:=a.size;clear bE aO aX
  by_cases hkk:k<L/\k<wl
  ·obtain⟨bI,bL⟩:=hkk;have aF:k<(Ar t z).length:=(by rw[aG];omega);have b7:=ud aF
   have HT:Hid ((Ar _ _).take _=_):=show _=_ by rw[Qi aF,b7]
   have bV:Hid (((Ar t z).take k).length=k):=show _=_ by simp;omega
   rcases HV.out with⟨hv1,hv2,hv3|⟨b1,o1,rfl,hb1,hv3⟩⟩;omega;rcases HW.out with⟨hw1,hw2,hw3|⟨b2,o2,rfl,hb2,hw3⟩⟩;omega;have d1:=(a.cell (p:=(A_ b1 (o1+k))) hb1).trans (hv3 k bI);have d2:=(a.cell (p:=(A_ b2 (o2+k))) hb2).trans (hw3 k bL);have cL:0<=(k:Int):=o_;have b8:k<(L:Int):=o_;have cC:k<(wl:Int):=o_;clear hv1 hv2 hv3 hw1 hw2 hw3 aF b7;generalize (Ar t z).take k=Q,t.getD k 0=x,z.getD k 0=y at *;go_upto_if 34 with fail
   go_cut [8] (λv wx=>v=.int .i64 (wu x)/\wx=wr)
   case first=>
    by_cases h:1000000000<x
    ·have s:Hid (wu x=_):=if_pos h;go_wp2;go_meet
     exact⟨by rw[s],rfl⟩
    have s:Hid (wu x=x):=if_neg h;go_wp2;go_meet
    exact⟨by rw[s],rfl⟩
   case rest =>
    obtain⟨rfl,d⟩:=hcut;have c:=d.symm;clear d;subst c;go_upto_if 36 with fail
    go_cut [8] (λv wx=>v=.int .i64 (Ga x)/\wx=wr)
    case first=>
     by_cases h:wu x< -1000000000
     ·have s:=x1_ ((fx x).trans (if_pos h));go_wp2;go_meet
      exact⟨by rw[s],rfl⟩
     have s:=x1_ ((fx x).trans (if_neg h));go_wp2;go_meet
     exact⟨by rw[s],rfl⟩
    case rest=>
     obtain⟨rfl,d⟩:=hcut;have c:=d.symm;clear d;subst c;go_upto_region 12 with fail;go_cut [46] (λv wx=>v=.bool (Zcs y)/\wx=wr)
     case first=>
      by_cases h:y<1
      ·have s:Hid (Zcs y=_):=decide_eq_true (.inl h);go_wp2;go_meet
       exact⟨by rw[s],rfl⟩
      by_cases Z:1000<y
      ·have s:Hid (Zcs y=_):=decide_eq_true (.inr Z);go_wp2;go_meet
       exact⟨by rw[s],rfl⟩
      have s:Hid (Zcs y=_):=decide_eq_false o_;go_wp2;go_meet
      exact⟨by rw[s],rfl⟩
     case rest=>
      obtain⟨rfl,d⟩:=hcut;have c:=d.symm;clear d;subst c;have a9:=x1_ (ZcI y);generalize Zcs y=bw at *;go_upto_if 46 with fail
      go_cut [9] (λv wx=>v=.int .i64 (It y)/\wx=wr)
      case first=>
       cases bw
       ·have s:Hid (_=y):=a9.out;go_wp2;go_meet
        exact⟨by rw[s],rfl⟩
       have s:Hid (It y=1):=a9.out;go_wp2;go_meet
       exact⟨by rw[s],rfl⟩
      case rest=>
       obtain⟨rfl,d⟩:=hcut;have c:=d.symm;clear d a9;subst c;generalize Ga x=cx,It y=cy at *;have bD:=bV.out;go_wp2_with (at_builtin;refine Hn rfl (.tmp 47) (.tmp 49) 25 rfl w.heap.size 3 j0 (I_ 0) 1 8 Tryz.underlying25 X aV aN bH rfl d_ u5 (Q.map Prod.fst).length ((Q.map Prod.fst).map (Value.int .i64)) rfl (E.below bA_) (A_ wr.heap.size 0) 1 1 [I_ cx] rfl rfl (ZeR wr rfl cx) (by simp[Value.oneCell']) d_ (by unfold maxLen;simp;omega) t_ t_ ?_)
       intro v1 w1 hX;obtain⟨J,g,D,_,bX,c9,O⟩:=hX;have aB:Ag (wr.alloc (.cells #[I_ cx] 3)) _ _ _:=F.below bA_;have bW:=x1_ (Ag.more (by rw[List.length_map,List.map_map,bD];exact J));have bG:=x1_ (aB.kept g bB.keeps);have aT:=x1_ (bB.moved aB (by simpa using D));have b9:=λq hq=>(rl_ E q hq).1;have B:=(a.alloc W _).grown g t_ b9;have aW:=B.size;have cF:wr.heap.size<w1.heap.size:=(by have:=g.size;simp at this;omega);clear J g D aB b9 O
       go_wp2_with (at_builtin;refine Hn rfl (.tmp 51) (.tmp 53) 25 rfl w.heap.size 3 j0 (I_ 0) 1 8 Tryz.underlying25 X aV aN bH rfl d_ u6 (Q.map Prod.snd).length ((Q.map Prod.snd).map (Value.int .i64)) rfl (bG.below bA_) (A_ w1.heap.size 0) 1 1 [I_ cy] rfl rfl (ZeR w1 rfl cy) (by simp[Value.oneCell']) d_ (by unfold maxLen;simp;omega) t_ t_ ?_)
       intro v2 w2 hX;obtain⟨bC,aJ,bF,_,cJ,cQ,bR⟩:=hX;have a8:Ag (w1.alloc (.cells #[I_ cy] 3)) _ _ _:=bW.below bA_;have bM:=x1_ (Ag.more (by rw[List.length_map,List.map_map,bD];exact bC));have bS:=x1_ (a8.kept aJ aT.symm.keeps);have bQ:=x1_ ((aT.symm.moved a8 (by simpa using bF)).symm);have a0:=λq hq=>(rl_ bG q hq).1;have aU:=(B.alloc aW _).grown aJ t_ a0;clear bC aJ bF a8 a0 bR;refine rd_ ?_;exact⟨k+1,o_,o_,g_,⟨by rw[HT,List.map_append];exact bS,by rw[HT,List.map_append];exact bM,bQ⟩,aU⟩
  go_upto_region 4 with fail;go_cut [26] (λv wx=>v=.bool false/\wx=wr)
  case first=>
   by_cases h1:k<L
   ·have Z:¬_:=λh=>hkk ⟨h1,h⟩;have b8:k<(L:Int):=o_;have cC:¬k<(wl:Int):=o_;go_wp2;go_meet
    exact⟨u_,rfl⟩
   have b8:¬k<(L:Int):=o_;go_wp2;go_meet
   exact⟨u_,rfl⟩
  case rest =>
   obtain⟨rfl,d⟩:=hcut;have c:=d.symm;clear d;subst c;have aZ:k=(Ar t z).length:=(by rw[aG];omega);have hP:(Ar t z).take k=Ar t z:=(by rw[aZ];exact List.take_of_length_le qa_);rw[hP] at E F;have T:Hid (∀p∈Ar t z,_):=λp hp=>(Ig hp).1;have aP:(Ar t z).length<=2097152:=o_;clear aG HV HW hP aZ;obtain⟨P,aD⟩:=ex_ (Ar t z);rw[<- aD] at E F T aP;have cE:=x1_ aD;clear aD
   rename World=>wr1
   go_wp2_with fail
   go_loopw [10,11] (λo tl wx=>∃M,tl=.int .i64 (By M)/\Hid (Is P M/\Aj wx w.heap.size o (Bv 0 M)/\Ag wx w.heap.size u5 (P.map Prod.fst)/\Ag wx w.heap.size u6 (P.map Prod.snd))/\E_ w wx) (λo _ _=>P.length-lenOf o)
   case atStart=>exact⟨[],rfl,⟨Is.nil P,Aj.nil _ _,E,F⟩,a⟩
   case round=>
    clear E F a W;obtain⟨M,rfl,HR,a⟩:=hrel
    rename World=>wo
    obtain⟨C,G,a4,aE⟩:=HR;have a3:=x1_ C;have HO:=x1_ G;have bU:=x1_ a4;have bY:=x1_ aE;have cP:=C.bound T;have c3:=C.len;have W:=a.size;have aS:=Ku 0 M;obtain⟨a5,c5,aY,bP⟩:=a4.form;obtain⟨a6,c6,b3,cA⟩:=aE.form;obtain⟨V,aL,a2,a1⟩:=G.form;rw[List.length_map] at aY b3;rw[aS] at a2
    have U:Hid (∀i hi,∃b,a5=some ⟨b,0,none⟩/\b<wo.heap.size/\wo.cell? (A_ b i)=some (I_ P[i].1)):=λi hi=>w_
    have R:Hid (∀i hi,∃b,a6=some ⟨b,0,none⟩/\b<wo.heap.size/\wo.cell? (A_ b i)=some (I_ P[i].2)):=λi hi=>w_
    have r:Hid (∀x,(M.length=0/\Fn M x=true)∨∃n b pv,M.length=n+1/\V=some ⟨b,0,none⟩/\b<wo.heap.size/\wo.cell? (A_ b (n*4))=some (I_ pv)/\Fn M x=decide (pv<x)):=λx=>by
     rcases Zc1 (M:=M) (x:=x) with h|⟨N,p,hM,hf⟩
     exact .inl h;obtain⟨b,e,hb,hc⟩:=a1 (Bv 0 N) ⟨p.1,By N,By N+p.2,p.2⟩ (by rw[hM,js]);exact .inr ⟨N.length,b,p.1,by rw[hM];simp,e,hb,by rw[Ku] at hc;exact hc,hf⟩
    clear C G a4 aE bP cA a1;subst aY b3 a2;have c7:∃m,m=M.length:=⟨_,rfl⟩;obtain⟨m,hm⟩:=c7;rw[<- hm] at r HO c3 aS ⊢;have HM:=x1_ hm;clear hm;go_wp2_with fail
    go_loopw [12,13,14,15] (λtf tl tw ti wq=>∃(fd:Bool) (l j:Int) (i:Nat),tf=.bool fd/\tl=.int .i64 l/\tw=.int .i64 j/\ti=.int .i64 i/\i<=P.length/\Hid (Pf P M i fd l j)/\E_ wo wq) (λ_ _ _ ti _=>P.length-(intOf ti).toNat)
    case atStart=>exact⟨false,0,0,0,rfl,rfl,rfl,rfl,qg_,Pf.start P M,bz_⟩
    case round=>
     obtain⟨fd,l,j,i,rfl,rfl,rfl,rfl,hi,HI,f⟩:=hrel;have cR:=HI.bound T
     by_cases hil:i<P.length
     ·obtain⟨b5,rfl,bT,d5⟩:=U i hil;obtain⟨b6,rfl,bO,d6⟩:=R i hil;have e5:=(f.cell (p:=(A_ b5 i)) bT).trans d5;have e6:=(f.cell (p:=(A_ b6 i)) bO).trans d6;have bA:=r P[i].1;have Y:=x1_ (λh1 Z=>HI.new hil h1 Z)
      have H:Hid (fd=true->P[i].1=l->Pf P M (i+1) true l (j+P[i].2)):=λh1 Z=>by have:=HI.out;rw[h1] at this;exact this.same _ Z
      have A:=x1_ (λh1 Z=>HI.pass hil h1 Z);have hy:=T _ (Qf hil);have cN:0<=(i:Int):=o_;have cB:i<(P.length:Int):=o_;clear d5 d6 U R HI;generalize P[i].2=y,P[i].1=x at *;generalize hfe:Fn M x=fr at *;go_upto_region 24 with fail;go_cut [16] (λv wy=>v=.bool fr/\E_ wr wy)
      case first=>
       rcases bA with⟨hm0,rfl⟩|⟨n,b,pv,hmn,rfl,hb,hc,hf⟩
       ·have D:=decide_eq_true hm0;subst hm0;go_big_quiet (fail);go_wp2;go_meet
        exact⟨rfl,below_drewN bz_ _⟩
       have e7:=(f.cell (p:=(A_ b (n*4))) hb).trans hc;have HF:=x1_ hf;clear hc hf;have D:decide (m=0)=_:=decide_eq_false o_;subst hmn;have g1:((n:Int)+1==0)=_:=beq_eq_false_iff_ne.2 o_;have g2:(((n+1:_):Int)==0)=_:=beq_eq_false_iff_ne.2 o_;have g3:decide ((n:Int)+1=0)=_:=decide_eq_false o_;have g4:((n:Int)+1=0)=_:=eq_false o_;have g5:n<(n:Int)+1:=o_;have g6:0<=(n:Int):=o_;have g7:n+1-1=(n:Int):=o_;go_big_quiet (fail);go_wp2;go_meet
       exact⟨by rw[HF],below_drewN bz_ _⟩
      case rest=>
       obtain⟨rfl,S⟩:=hcut
       rename World=>wy
       have hq:=f.size;have y5:=(S.cell (p:=(A_ b5 i)) (by show b5<_;omega)).trans e5;have y6:=(S.cell (p:=(A_ b6 i)) (by show b6<_;omega)).trans e6;have cO:=f.trans (S.mono hq);clear e5 e6 S f bA r
       cases fr with
       | false=>
        cases fd with
        | false=>
         have HX:=x1_ (A (λ_=>rfl) (λh=>by cases h));exact Ti
        | true=>
         by_cases I:x=l
         have HX:=x1_ (H rfl I);have b1:=beq_iff_eq.2 I;exact Ti;have HX:=x1_ (A (λh=>by cases h) (λ_=>⟨I,λh=>by cases h⟩));have b1:=beq_eq_false_iff_ne.2 I;exact Ti
       | true=>
        cases fd with
        | false=>
         have HX:=x1_ (Y rfl (.inl rfl));have b1:(x==x)=_:=beq_self_eq_true _;exact Ti
        | true=>
         rcases Int.lt_trichotomy x l with I|I|I
         have HX:=x1_ (Y rfl (.inr I));have b0:=decide_eq_true I;have b1:(x==x)=_:=beq_self_eq_true _;exact Ti;have HX:=x1_ (H rfl I);have b0:decide (x<l)=_:=decide_eq_false o_;have b1:=beq_iff_eq.2 I;exact Ti;have HX:=x1_ (A (λh=>by cases h) (λ_=>⟨o_,λ_=>o_⟩));have b0:decide (x<l)=_:=decide_eq_false o_;have b1:(x==l)=_:=beq_eq_false_iff_ne.2 o_;exact Ti
     have bN:i=P.length:=o_;subst bN;have aA:=a.trans (f.mono W);have aK:=x1_ (HO.below f);have cB:¬(P.length<(P.length:Int)):=o_
     cases fd with
     | false=>
      have HD:=x1_ (a3.done HI);clear U R r;go_wp2;go_ret;exact⟨_,rfl,M,by rw[<- cE];exact HD,aK,aA⟩
     | true=>
      have HD:=x1_ (a3.more HI);clear U R r;have aQ:Hid (wr.ownsRow w.heap.size 98 4 (.slice V m aL) m (flat (Bv 0 M))):=(by have:=aK.out;unfold Aj at this;rw[Ku,<- HM] at this;exact this);have H5:=x1_ (bU.below f);have H6:=x1_ (bY.below f);have aM:=aA.size;go_wp2_with (at_builtin;refine Hn rfl (.tmp 113) (.tmp 121) 29 rfl w.heap.size 98 i0 (.agg #[I_ 0,I_ 0,I_ 0,I_ 0]) 4 32 Tryz.underlying29 aR cD c4 bK rfl d_ (.slice V m aL) m (flat (Bv 0 M)) rfl (ra_ aQ _) (A_ wr.heap.size 0) 1 1 [I_ l,I_ (By M),I_ (By M+j),I_ j] rfl rfl (Am wr #[I_ l,I_ (By M),I_ (By M+j),I_ j] 98) (by intro u hu;simp at hu;rcases hu with rfl|rfl|rfl|rfl<;>rfl) d_ m_ o_ t_ ?_)
      intro v1 w1 hX;obtain⟨J,g,D,_,bX,c9,O⟩:=hX;have aC:Ag (wr.alloc (.cells #[I_ l,I_ (By M),I_ (By M+j),I_ j] 98)) _ _ _:=ra_ H5 _;have aI:Ag (wr.alloc (.cells #[I_ l,I_ (By M),I_ (By M+j),I_ j] 98)) _ _ _:=ra_ H6 _;have a7:Aj (wr.alloc (.cells #[I_ l,I_ (By M),I_ (By M+j),I_ j] 98)) _ _ _:=ra_ aK _;have bZ:=x1_ (aC.kept g (Yl a7 aC));have c8:=x1_ (aI.kept g (Yl a7 aI));have HN:Hid (Aj w1 w.heap.size v1 (Bv 0 (M++[(l,j)]))):=by show Aj _ _ _ _;rw[js];refine Aj.more ?_;rw[Ku,<- HM];exact J
      have HS:Hid (By (M++[(l,j)])=By M+j):=show _=_ by rw[Rd];simp[By]
      have B:=(aA.alloc aM _).grown g t_ (λq hq=>(rl_ aQ q hq).1);have cH:lenOf v1=m+1:=(by rw[O];rfl);have cG:m+1<=P.length:=(by have:=HD.len;rw[Qe,<- HM] at this;exact this);clear J g D aC aI a7 O;go_wp2;go_roundw;case rel=>exact⟨M++[(l,j)],by rw[HS]<;>go_num,⟨HD,HN,bZ,c8⟩,B⟩
      case measure=>
       have e1:lenOf (Value.slice V m aL)=m:=rfl;omega
end Go.Proofs.YtfcgnpchbcmdeaaGreat
