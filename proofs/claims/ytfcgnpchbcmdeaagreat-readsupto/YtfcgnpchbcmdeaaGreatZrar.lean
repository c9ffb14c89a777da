import Derived.Test.YtfcgnpchbcmdeaaGreatZrap
import Derived.Test.YtfcgnpchbcmdeaaGreatZraq
namespace Go.Proofs.YtfcgnpchbcmdeaaGreat
set_option linter.all false
set_option maxRecDepth 100000
set_option maxHeartbeats 4000000
open Go.RowKit
def ZhG n:List.replicate (n*4) (I_ 0)=flat (List.replicate n e0):=by
 induction n with
 |zero=>rfl
 | succ n ih=>
  rw[List.replicate_succ,show(n+1)*4=n*4+4 by omega];show _=Ee e0++flat (List.replicate n e0);rw[<- ih];rfl
def ZfN n:(madeCells #[I_ 0,I_ 0,I_ 0,I_ 0] (n*4)).toList=flat (List.replicate n e0):=by
 have a:(madeCells #[I_ 0,I_ 0,I_ 0,I_ 0] (n*4)).toList=List.replicate (n*4) (I_ 0):=by
  apply List.ext_getElem;simp[madeCells];intro i a b;simp[madeCells]
  grind
 rw[a,ZhG]
def Zfx{A B}{x:Ct}{k}(a:A.length=k) y:(flat (A++x::B)).set (k*4) (I_ y)=flat (A++⟨y,x.lo,x.hi,x.wt⟩::B):=by have:=Ut (B:=B) (x:=x) a (show 0<4 by omega) (I_ y);rw[Nat.add_zero] at this;rw[this,Cu];rfl
def Ov(P:List (Int×Int))(k:Nat):List Ct:=(P.take k).map Jc++List.replicate (P.length-k) e0
def Zfo P {k}(h:k<=P.length):(Ov P k).length=P.length:=by simp[Ov];omega
def ue{a b k} c:(Ar a b)[k]=(Ga (a.getD k 0),Is (b.getD k 0)):=by grind [Ar]
def Cq.below{w l a c k}(h:Cq w a c k)(j:Below w.heap.size w l):Cq l a c k:=by
 obtain⟨o,m,g⟩:=h;refine⟨o,m,?_⟩
 rcases g with g|⟨b,d,e,f,n⟩
 exact .inl g;exact .inr ⟨b,d,e,Qh f j.size,λi hi=>(j.cell (p:=(A_ b (d+i))) f).trans (n i hi)⟩
def ZaU L:∀i r,i<L.length->r<4->(flat L)[i*4+r]? =(Ee (L.getD i e0))[r]?:=by
 induction L with
 |nil=>grind
 | cons e L ih=>
  intro i r a b
  cases i with
  |zero=>grind [flat,Ee]
  | succ i=>
   grind [flat,Ee]
theorem ic(d:List (Int×Int)):(Go.Sort.flatK Zn 4 d.toArray).toList=flat (d.map Jc):=by
 apply List.ext_getElem?;intro t
 by_cases ht:t<d.length*4
 ·have a:=ZaU (d.map Jc) (t/4) (t%4) t_ o_;rw[show t/4*4+t%4=t by omega] at a;rw[a,Array.getElem?_toList];have b:t/4<d.length:=o_;have e:t%4<4:=o_;have c:(d.map Jc).getD (t/4) e0=Jc d[t/4]:=w_;rw[c];simp only[Go.Sort.flatK];rw[Array.getElem?_map];simp[ht,b,Zn,Ee,Jc]
  grind
 rw[List.getElem?_eq_none t_,List.getElem?_eq_none (by rw[Ef];simp;omega)]
theorem lp a F (h:F.size<=a.size):(Go.Sort.putCells id 0 F a).toList.take F.size=F.toList:=by
 apply List.ext_getElem?;intro j
 by_cases hj:j<F.size
 rw[List.getElem?_take_of_lt hj,Array.getElem?_toList,Array.getElem?_toList];simp[Go.Sort.putCells,hj,show j<a.size by omega]
 grind
def Zdr{w b g a m os}{P D:List (Int×Int)}(f:D.length=P.length)(h:Aj w b (L_ g P.length a) (P.map Jc)):Aj (Go.Proofs.sortWorldK Zn 4 w g 0 m D.toArray os) b (L_ g P.length a) (D.map Jc)/\w.grownBy (Go.Proofs.sortWorldK Zn 4 w g 0 m D.toArray os) (some g):=by
 rcases h.2 with⟨e,_⟩|⟨g',cap',cur,e,hb,hg,hnc,hcm,hcs,htake⟩
 simp at e;simp only[Value.slice.injEq,Option.some.injEq,Addr.mk.injEq,and_true] at e;obtain⟨rfl,_,rfl⟩:=e;have c:=(Qb hg).1;have j:(Go.Sort.flatK Zn 4 D.toArray).size=P.length*4:=by simp[f]
 have d:P.length<=a:=by simpa using hnc
 have i:(Go.Proofs.sortWorldK Zn 4 w g 0 m D.toArray os).heap[g]? =some (.cells (Go.Sort.putCells id 0 (Go.Sort.flatK Zn 4 D.toArray) cur) 98 (0,0)):=(by unfold Go.Proofs.sortWorldK Go.Sort.putRowK;rw[Go.Sort.heap_grow_old _ _ (by simpa using c)];simp[Go.Sort.putRow,Go.Sort.mapBlock,Go.Sort.ahead,Array.getElem?_modify,hg,Go.Sort.onCells]);refine⟨⟨by rw[Ef],.inr ⟨g,a,_,by simp[f],hb,i,w_,hcm,by simp[Go.Sort.putCells,hcs],?_⟩⟩,⟨rfl,rfl,rfl,?_,λk hk hne=>?_⟩⟩
 ·grind [ic,lp]
 unfold Go.Proofs.sortWorldK Go.Sort.putRowK;simp;unfold Go.Proofs.sortWorldK Go.Sort.putRowK;rw[Go.Sort.heap_grow_old _ _ (by simpa using hk)];have:g≠k:=λe=>hne (by rw[e]);simp[Go.Sort.putRow,Go.Sort.mapBlock,Go.Sort.ahead,Array.getElem?_modify,this]
def ZfW{w a g b}{P:List (Int×Int)}(h:Aj w a (L_ g P.length b) (P.map Jc)):Go.Sort.HoldsK Zn 4 w g 0 P.toArray:=by
 intro j e
 have c:j<P.length*4:=by simpa using e
 have d:Aj w a (L_ g (P.map Jc).length b) (P.map Jc):=by simpa using h
 refine⟨?_,?_⟩
 ·rw[Nat.zero_add,World.ownsRow.cellAt d j (by simpa using c),<- ic]
  grind
 rw[Nat.zero_add];exact World.ownsRow.frozenAt d j
def Zif va wa F vc C wc d c w (hv:Cq w va F d)(hw:Cq w wa C c)(lv:F<=2097152)(lw:C<=2097152):C_ 45 #[.slice va F vc,.slice wa C wc] w λe w'=>∃v M,e=.returned v/\Ed (Ar d c) M/\Aj w' w.heap.size v (Bv 0 M)/\Below w.heap.size w w':=by
 obtain⟨i0,R,aK,aH,aF⟩:=info_parts Qq;have E:=Jm d c;rw[hv.1,hw.1] at E;obtain⟨n,hn⟩:=ex_ (min F C);have aE:∀W:World,(Instr.makeSlice 29 (I_ n) (I_ n)).run Tryz.prog W=.ok (L_ W.heap.size n n) (W.alloc (.cells (madeCells #[I_ 0,I_ 0,I_ 0,I_ 0] (n*4)) 98)):=(by intro W;have:=run_make (P:=Tryz.prog) W 29 98 i0 _ Tryz.underlying29 R aK .i64 .i64 (n:Int) (n:Int) o_ o_ (by rw[aF];omega) o_;rw[aH] at this;rw[this,Int.toNat_natCast];rfl);have b:=x1_ (E.trans hn.symm);have HV:=x1_ hv;have HW:=x1_ hw
 have HM:Hid (Aj (w.alloc (.cells (madeCells #[I_ 0,I_ 0,I_ 0,I_ 0] (n*4)) 98)) w.heap.size (L_ w.heap.size n n) (Ov (Ar d c) 0)):=by
  have:=World.ownsRow_lit (base:=w.heap.size) (size:=4) (e:=98) w (madeCells #[I_ 0,I_ 0,I_ 0,I_ 0] (n*4)) n qa_ m_ (size_madeCells _ _);rw[ZfN] at this;have e:Ov (Ar d c) 0=List.replicate n e0:=(by unfold Ov;rw[b];simp);show Aj _ _ _ _;unfold Aj
  grind
 have aQ:n<=F:=o_;have aR:n<=C:=o_;have Y:=x1_ hn;clear hv hw E hn;go_enter Tryz.func45,Tryz.ntmps45;go_upto_region 1 with fail;go_cut [5] (λv wx=>v=.slice (some ⟨w.heap.size,0,none⟩) n n/\wx=w.alloc (.cells (madeCells #[.int .i64 0,.int .i64 0,.int .i64 0,.int .i64 0] (n*4)) 98))
 case first=>
  have aS:min (F:Int) C=n:=(by have:=Y.out;omega);go_wp2;go_meet
  grind
 case rest =>
  obtain⟨rfl,rfl⟩:=hcut;clear aE;go_wp2_with fail
  go_loopw [15] (λti wr=>∃k:Nat,k<=n/\ti=.int .i64 k/\Hid (Aj wr w.heap.size (.slice (some ⟨w.heap.size,0,none⟩) n n) (Ov (Ar d c) k))/\E_ w wr) (λti _=>n-(intOf ti).toNat)
  case atStart=>exact⟨0,qg_,rfl,HM,bA_⟩
  case round=>
   clear HM;obtain⟨k,hk,rfl,HO,f⟩:=hrel
   by_cases hkn:k<n
   ·have Q:k<(Ar d c).length:=(by rw[b];exact hkn);have B:Ov (Ar d c) k=((Ar d c).take k).map Jc++e0::List.replicate (n-(k+1)) e0:=(by unfold Ov;rw[b,show n-k=n-(k+1)+1 by omega,List.replicate_succ]);have J:(((Ar d c).take k).map Jc).length=k:=t_;have a:=HO.out;have g:=Zfo _ (show k<=(Ar d c).length by omega);rw[B] at a g;rw[b] at g;obtain⟨c0,c1,c2,c3,cf⟩:=a.at g.symm J;have aC:=x1_ a;have o:=x1_ g.symm;have t:=x1_ J
    have a7:Hid (Ov (Ar d c) (k+1)=((Ar d c).take k).map Jc++⟨Ga (d.getD k 0),0,0,Is (c.getD k 0)⟩::List.replicate (n-(k+1)) e0):=show _=_ by unfold Ov;rw[b,Qi Q,ue _];simp[Jc]
    rcases HV.out with⟨hv1,hv2,hv3|⟨b1,o1,rfl,s,hv3⟩⟩;omega;rcases HW.out with⟨hw1,hw2,hw3|⟨b2,o2,rfl,u,hw3⟩⟩;omega;have d1:=(f.cell (p:=(A_ b1 (o1+k))) s).trans (hv3 k o_);have d2:=(f.cell (p:=(A_ b2 (o2+k))) u).trans (hw3 k o_);simp only[e0] at c0 c1 c2 c3;have aT:0<=(k:Int):=o_;have aN:k<(n:Int):=o_;have aV:k<(F:Int):=o_;have aU:k<(C:Int):=o_;clear B J a g hv1 hv2 hv3 hw1 hw2 hw3 Q;generalize d.getD k 0=x,c.getD k 0=y at *;go_wp2_with fail
    go_region_with (first|(go_at_call 79;refine(Wi _ _).mono ?_;rintro e w' ⟨rfl,rfl⟩)|(go_at_call 80;refine(Um _ _).mono ?_;rintro e w' ⟨rfl,rfl⟩))
    all_goals go_wp2
    all_goals
     go_roundw
     case rel=>
      refine⟨k+1,o_,g_,?_,?_⟩;rw[a7];exact((((aC.store o s_ (Zfx t _)).store (o.trans s_) s_ (Wx t _)).store (o.trans s_) s_ (Wy t _)).store (o.trans s_) s_ (Wz t _));exact((((f.setCell qa_ _).setCell qa_ _).setCell qa_ _).setCell qa_ _).drew
     case measure=>exact z_
   have aL:k=n:=o_;have a:Aj wr w.heap.size (L_ w.heap.size (Ar d c).length n) ((Ar d c).map Jc):=(by have e:Ov (Ar d c) k=(Ar d c).map Jc:=(by unfold Ov;rw[List.take_of_length_le (by rw[b];omega),b,show n-k=0 by omega];simp);rw[<- e,b];exact HO);have aP:¬k<(n:Int):=o_;have aG:=f.size;have a4:∀p∈Ar d c,_:=λp hp=>(Ig hp).1;have z:=x1_ a4;have A:=(rl_ a w.heap.size rfl).2
   have hS:C_ 81 #[.slice (some ⟨w.heap.size,0,none⟩) n n,.func (.func 82) #[] #[]] wr λe w'=>e=.returned (.tuple #[])/\∃D:List (Int×Int),D.Perm (Ar d c)/\(D.Pairwise λp q=>p.1<=q.1)/\Aj w' w.heap.size (.slice (some ⟨w.heap.size,0,none⟩) D.length n) (D.map Jc)/\wr.grownBy w' (some w.heap.size):=by
    have hs:=ZiJ _ n _ _ (ZfW a) A (by simp[b.out];omega);rw[show(Ar d c).toArray.size=n by simp[b.out]] at hs;refine hs.mono ?_;rintro e w' ⟨rfl,G,m,os,H,L,rfl⟩;obtain⟨aJ,_,aO⟩:=H;have aI:G.size=n:=(by rw[aJ];simp[b.out]);have hD:G.toList.length=(Ar d c).length:=o_;have ho:=Zdr (m:=m) (os:=os) hD a;rw[show G.toList.toArray=G by simp] at ho;refine⟨rfl,G.toList,?_,?_,?_,ho.2⟩
    ·have e1:G.extract 0 n=G:=by rw[<- aI];simp
     grind
    ·rw[List.pairwise_iff_getElem];intro i j hi hj aA;simp at hi hj;have:=L i j qg_ aA o_;rw[Zka] at this
     grind
    grind
   have aD:=x1_ hS;clear a a4 A hS;go_wp2_with fail
   refine(show Calls _ _ _ _ _ from aD).mono ?_;rintro e w1 ⟨rfl,D,r,V,U,a2⟩;have a6:D.length=n:=(by rw[r.length_eq,b]);have s:=f.grown a2 aG (λq hq=>by simp at hq;omega);have I:=jd _ n D _ _ U V (λp hp=>z p (r.mem_iff.1 hp)) o_;rw[a6] at I;have aB:=x1_ I;have a5:=x1_ r;clear I r V U a2;go_wp2_with fail
   refine(show Calls _ _ _ _ _ from aB).mono ?_;rintro e w2 ⟨M,rfl,T,aM,a3,Z⟩;have u:=s.grown Z s.size (λq hq=>by simp at hq;omega);have l:=T.perm a5
   have a0:∀p∈M,0<=p.2:=λp hp=>by rw[l.wt p hp];exact We (λq hq=>(z q hq).1) _
   have S:By M<=1000000000000:=(by have h1:=Zad (ps:=Ar _ _) (λq hq=>(z q hq).1) l.rise;have h2:=Rw (ps:=Ar _ _) (λq hq=>(z q hq).2);rw[Wd l.wt];rw[b] at h2;omega);have a9:=x1_ l;have X:=Zix _ n M _ _ a3 a0 S o_;have O:=x1_ X;clear X T a3 Z l a0 S;go_wp2_with fail
   refine(show Calls _ _ _ _ _ from O).mono ?_;rintro e w3 ⟨rfl,a1,N⟩;have a8:=u.grown N u.size (λq hq=>by simp at hq;omega);have HF:=x1_ a1;clear a1 N;go_wp2;go_ret;exact⟨_,M,rfl,a9,HF,a8⟩
def ZbZ g d b i a wc h f w (j:Cq w g b h)(n:Cq w d a f)(p:b<=2097152)(m:a<=2097152):C_ 19 #[.slice g b i,.slice d a wc] w λe w'=>∃v M,e=.returned v/\Ed (Ar h f) M/\Aj w' w.heap.size v (Bv 0 M)/\Below w.heap.size w w':=by
 go_enter Tryz.func19,Tryz.ntmps19;go_wp2_with fail
 refine(Zif _ _ _ _ _ _ _ _ w j n p m).mono ?_;rintro e w' ⟨v,M,rfl,o,l,k⟩;have c:=x3_ o l k;go_wp2;go_ret;exact⟨_,M,rfl,c.1,c.2.1,c.2.2⟩
def lenOf:Value->Nat
 |.slice _ n _=>n
 |_=>0
def Ag.form{w d v e}(h:Ag w d v e):∃a c,v=.slice a e.length c/\∀i,i<e.length->∃b,a=some ⟨b,0,none⟩/\b<w.heap.size/\w.cell? (A_ b i)=some (I_ (e.getD i 0)):=by
 rcases h.2 with⟨rfl,h0⟩|⟨g,cap,cur,rfl,hb,hg,r⟩
 ·grind
 refine⟨some _,cap,rfl,λi hi=>⟨g,rfl,(Qb hg).1,?_⟩⟩;rw[World.ownsRow.cellAt h i (by simp;exact hi)];simp[hi]
def Aj.form{w d v L}(h:Aj w d v L):∃a c,v=.slice a L.length c/\∀A x,L=A++[x]->∃b,a=some ⟨b,0,none⟩/\b<w.heap.size/\w.cell? (A_ b (A.length*4))=some (I_ x.v):=by
 rcases h.2 with⟨rfl,h0⟩|⟨g,cap,cur,rfl,hb,hg,r⟩
 ·grind
 grind [Aj.at]
def Ym{w a v u L b}(h:Aj w a v L)(g:Ag w a u b):u.ownBlock=none∨u.ownBlock≠v.ownBlock:=by
 rcases g.2 with⟨rfl,_⟩|⟨g1,xd,cur1,rfl,_,hg1,_⟩
 exact .inl rfl
 rcases h.2 with⟨rfl,_⟩|⟨g2,cap2,cur2,rfl,_,hg2,_⟩
 exact .inr (by simp[Value.ownBlock]);refine .inr λe=>?_;simp[Value.ownBlock] at e
 grind
def Pf.bound{P M i d b a}(c:∀p∈P,1<=p.2/\p.2<=1000)(h:Pf P M i d b a):0<=a/\a<=1000*P.length:=by
 cases d with
 |false=>obtain⟨_,e,_⟩:=h.no rfl;omega
 | true=>
  obtain⟨_,_,e⟩:=h.yes rfl;have f:∀p∈P.take i,_:=λp hq=>(c p (List.mem_of_mem_take hq)).1;have g:=We f b;have k:=Zi0 f b;have j:=Rw (ps:=P.take i) (λp hq=>(c p (List.mem_of_mem_take hq)).2)
  grind
def Ir.bound{P M}(a:∀p∈P,1<=p.2/\p.2<=1000)(h:Ir P M):0<=By M/\By M<=1000*P.length:=by have b:=λp hq=>(a p hq).1;have d:=Zad b h.rise;have f:=Wd h.wt;have e:=Rw (ps:=P) (λp hq=>(a p hq).2);have c:=(Oc (M:=M) (λp hq=>by rw[h.wt p hq];exact We b _) 0).2;simp[By] at c;omega
def Zc1{M}{x}:(M.length=0/\Fn M x=true)∨∃N p,M=N++[p]/\Fn M x=decide (p.1<x):=by
 rcases List.eq_nil_or_concat M with a|⟨N,p,a⟩
 subst a;exact .inl ⟨rfl,rfl⟩;rw[List.concat_eq_append] at a;subst a;exact .inr ⟨N,p,rfl,To N p x⟩
def jt N p:Bv 0 (N++[p])=Bv 0 N++[⟨p.1,By N,By N+p.2,p.2⟩]:=by rw[Vs];simp[Bv]
def Tg{p:Prop}(h:p:=by
 go_wp2_with fail
 go_roundw;case rel=>exact⟨_,_,_,i+1,rfl,rfl,g_,g_,o_,HX,o_⟩
 case measure=>exact z_):p:=h
def Qx va wa L vc wl wc A t w (hv:Cq w va L A)(hw:Cq w wa wl t)(lv:L<=2097152)(lw:wl<=2097152):C_ 115 #[.slice va L vc,.slice wa wl wc] w λe w'=>∃v M,e=.returned v/\Ed (Ar A t) M/\Aj w' w.heap.size v (Bv 0 M)/\Below w.heap.size w w':=by
 obtain⟨i0,aP,cA,c7,c3⟩:=info_parts Qq;obtain⟨j0,Y,aQ,b9,aW⟩:=info_parts Ss;have aC:=Jm A t;rw[hv.1,hw.1] at aC;have aJ:=x1_ aC;have HV:=x1_ hv;have HW:=x1_ hw;clear hv hw aC;go_enter Tryz.func115,Tryz.ntmps115;go_wp2_with fail
 go_loopw [5,6,7] (λtv tw ti wr=>∃k:Nat,k<=L/\k<=wl/\ti=.int .i64 k/\Hid (Ag wr w.heap.size tv (((Ar A t).take k).map Prod.fst)/\Ag wr w.heap.size tw (((Ar A t).take k).map Prod.snd)/\Ch tv tw)/\E_ w wr) (λ_ _ ti _=>L-(intOf ti).toNat)
 case atStart=>exact⟨0,qg_,qg_,rfl,⟨Ag.nil _ _,Ag.nil _ _,.inl rfl⟩,bz_⟩
 case round=>
  obtain⟨k,cN,cH,rfl,HR,d⟩:=hrel;obtain⟨aS,aL,b8⟩:=HR;have D:=x1_ aS;have I:=x1_ aL;have aU:=x1_ b8;have U:=d.size;clear aS aL b8
  by_cases hkk:k<L/\k<wl
  ·obtain⟨bS,bK⟩:=hkk;have a7:k<(Ar A t).length:=(by rw[aJ];omega);have aX:=ue a7
   have HT:Hid ((Ar _ _).take _=_):=show _=_ by rw[Qi a7,aX]
   have bH:Hid (((Ar A t).take k).length=k):=show _=_ by simp;omega
   rcases HV.out with⟨hv1,hv2,hv3|⟨b1,o1,rfl,hb1,hv3⟩⟩;omega;rcases HW.out with⟨hw1,hw2,hw3|⟨b2,o2,rfl,hb2,hw3⟩⟩;omega;have d1:=(d.cell (p:=(A_ b1 (o1+k))) hb1).trans (hv3 k bS);have d2:=(d.cell (p:=(A_ b2 (o2+k))) hb2).trans (hw3 k bK);have cP:0<=(k:Int):=o_;have aN:k<(L:Int):=o_;have cC:k<(wl:Int):=o_;clear hv1 hv2 hv3 hw1 hw2 hw3 a7 aX;generalize (Ar A t).take k=Q,A.getD k 0=x,t.getD k 0=y at *;go_upto_if 34 with fail
   go_cut [8] (λv wx=>v=.int .i64 (xd x)/\wx=wr)
   case first=>
    by_cases h:1000000000<x
    ·have s:Hid (xd x=_):=if_pos h;go_wp2;go_meet
     exact⟨by rw[s],rfl⟩
    have s:Hid (xd x=x):=if_neg h;go_wp2;go_meet
    exact⟨by rw[s],rfl⟩
   case rest =>
    obtain⟨rfl,c⟩:=hcut;have a:=c.symm;clear c;subst a;go_upto_if 36 with fail
    go_cut [8] (λv wx=>v=.int .i64 (Ga x)/\wx=wr)
    case first=>
     by_cases h:xd x< -1000000000
     ·have s:=x1_ ((gh x).trans (if_pos h));go_wp2;go_meet
      exact⟨by rw[s],rfl⟩
     have s:=x1_ ((gh x).trans (if_neg h));go_wp2;go_meet
     exact⟨by rw[s],rfl⟩
    case rest=>
     obtain⟨rfl,c⟩:=hcut;have a:=c.symm;clear c;subst a;go_upto_region 12 with fail;go_cut [46] (λv wx=>v=.bool (Zcs y)/\wx=wr)
     case first=>
      by_cases h:y<1
      ·have s:Hid (Zcs y=_):=decide_eq_true (.inl h);go_wp2;go_meet
       exact⟨by rw[s],rfl⟩
      by_cases h2:1000<y
      ·have s:Hid (Zcs y=_):=decide_eq_true (.inr h2);go_wp2;go_meet
       exact⟨by rw[s],rfl⟩
      have s:Hid (Zcs y=_):=decide_eq_false o_;go_wp2;go_meet
      exact⟨by rw[s],rfl⟩
     case rest=>
      obtain⟨rfl,c⟩:=hcut;have a:=c.symm;clear c;subst a;have aB:=x1_ (ZcI y);generalize Zcs y=bw at *;go_upto_if 46 with fail
      go_cut [9] (λv wx=>v=.int .i64 (Is y)/\wx=wr)
      case first=>
       cases bw
       ·have s:Hid (_=y):=aB.out;go_wp2;go_meet
        exact⟨by rw[s],rfl⟩
       have s:Hid (Is y=1):=aB.out;go_wp2;go_meet
       exact⟨by rw[s],rfl⟩
      case rest=>
       obtain⟨rfl,c⟩:=hcut;have a:=c.symm;clear c aB;subst a;generalize Ga x=cx,Is y=cy at *;have aT:=bH.out;go_wp2_with (at_builtin;refine Hn rfl (.tmp 47) (.tmp 49) 25 rfl w.heap.size 3 j0 (I_ 0) 1 8 Tryz.underlying25 Y aQ b9 aW rfl d_ u5 (Q.map Prod.fst).length ((Q.map Prod.fst).map (Value.int .i64)) rfl (D.below bA_) (A_ wr.heap.size 0) 1 1 [I_ cx] rfl rfl (ZeR wr rfl cx) (by simp[Value.oneCell']) d_ (by unfold maxLen;simp;omega) t_ t_ ?_)
       intro v1 w1 hX;obtain⟨J,g,E,_,c8,bI,T⟩:=hX;have a3:Ag (wr.alloc (.cells #[I_ cx] 3)) _ _ _:=I.below bA_;have cD:=x1_ (Ag.more (by rw[List.length_map,List.map_map,aT];exact J));have b7:=x1_ (a3.kept g aU.keeps);have bB:=x1_ (aU.moved a3 (by simpa using E));have bG:=λq hq=>(rl_ D q hq).1;have B:=(d.alloc U _).grown g t_ bG;have aM:=B.size;have cG:wr.heap.size<w1.heap.size:=(by have:=g.size;simp at this;omega);clear J g E a3 bG T
       go_wp2_with (at_builtin;refine Hn rfl (.tmp 51) (.tmp 53) 25 rfl w.heap.size 3 j0 (I_ 0) 1 8 Tryz.underlying25 Y aQ b9 aW rfl d_ u6 (Q.map Prod.snd).length ((Q.map Prod.snd).map (Value.int .i64)) rfl (b7.below bA_) (A_ w1.heap.size 0) 1 1 [I_ cy] rfl rfl (ZeR w1 rfl cy) (by simp[Value.oneCell']) d_ (by unfold maxLen;simp;omega) t_ t_ ?_)
       intro v2 w2 hX;obtain⟨bF,aF,aO,_,cQ,cL,bX⟩:=hX;have a4:Ag (w1.alloc (.cells #[I_ cy] 3)) _ _ _:=cD.below bA_;have c4:=x1_ (Ag.more (by rw[List.length_map,List.map_map,aT];exact bF));have bL:=x1_ (a4.kept aF bB.symm.keeps);have bQ:=x1_ ((bB.symm.moved a4 (by simpa using aO)).symm);have X:=λq hq=>(rl_ b7 q hq).1;have bC:=(B.alloc aM _).grown aF t_ X;clear bF aF aO a4 X bX;refine rd_ ?_;exact⟨k+1,o_,o_,g_,⟨by rw[HT,List.map_append];exact bL,by rw[HT,List.map_append];exact c4,bQ⟩,bC⟩
  go_upto_region 4 with fail;go_cut [26] (λv wx=>v=.bool false/\wx=wr)
  case first=>
   by_cases h1:k<L
   ·have h2:¬_:=λh=>hkk ⟨h1,h⟩;have aN:k<(L:Int):=o_;have cC:¬k<(wl:Int):=o_;go_wp2;go_meet
    exact⟨u_,rfl⟩
   have aN:¬k<(L:Int):=o_;go_wp2;go_meet
   exact⟨u_,rfl⟩
  case rest =>
   obtain⟨rfl,c⟩:=hcut;have a:=c.symm;clear c;subst a;have b3:k=(Ar A t).length:=(by rw[aJ];omega);have hP:(Ar A t).take k=Ar A t:=(by rw[b3];exact List.take_of_length_le qa_);rw[hP] at D I;have W:Hid (∀p∈Ar A t,_):=λp hp=>(Ig hp).1;have aR:(Ar A t).length<=2097152:=o_;clear aJ HV HW hP b3;obtain⟨P,aK⟩:=ex_ (Ar A t);rw[<- aK] at D I W aR;have bW:=x1_ aK;clear aK
   rename World=>wr1
   go_wp2_with fail
   go_loopw [10,11] (λo tl wx=>∃M,tl=.int .i64 (By M)/\Hid (Ir P M/\Aj wx w.heap.size o (Bv 0 M)/\Ag wx w.heap.size u5 (P.map Prod.fst)/\Ag wx w.heap.size u6 (P.map Prod.snd))/\E_ w wx) (λo _ _=>P.length-lenOf o)
   case atStart=>exact⟨[],rfl,⟨Ir.nil P,Aj.nil _ _,D,I⟩,d⟩
   case round=>
    clear D I d U;obtain⟨M,rfl,HR,d⟩:=hrel
    rename World=>wo
    obtain⟨C,G,aD,aG⟩:=HR;have a0:=x1_ C;have HO:=x1_ G;have bT:=x1_ aD;have bP:=x1_ aG;have cJ:=C.bound W;have bY:=C.len;have U:=d.size;have bA:=Kq 0 M;obtain⟨a5,c5,bD,bO⟩:=aD.form;obtain⟨a6,c6,aZ,bN⟩:=aG.form;obtain⟨S,aI,a2,Z⟩:=G.form;rw[List.length_map] at bD aZ;rw[bA] at a2
    have O:Hid (∀i hi,∃b,a5=some ⟨b,0,none⟩/\b<wo.heap.size/\wo.cell? (A_ b i)=some (I_ P[i].1)):=λi hi=>w_
    have V:Hid (∀i hi,∃b,a6=some ⟨b,0,none⟩/\b<wo.heap.size/\wo.cell? (A_ b i)=some (I_ P[i].2)):=λi hi=>w_
    have r:Hid (∀x,(M.length=0/\Fn M x=true)∨∃n b pv,M.length=n+1/\S=some ⟨b,0,none⟩/\b<wo.heap.size/\wo.cell? (A_ b (n*4))=some (I_ pv)/\Fn M x=decide (pv<x)):=λx=>by
     rcases Zc1 (M:=M) (x:=x) with h|⟨N,p,hM,hf⟩
     exact .inl h;obtain⟨b,e,hb,hc⟩:=Z (Bv 0 N) ⟨p.1,By N,By N+p.2,p.2⟩ (by rw[hM,jt]);exact .inr ⟨N.length,b,p.1,by rw[hM];simp,e,hb,by rw[Kq] at hc;exact hc,hf⟩
    clear C G aD aG bO bN Z;subst bD aZ a2;have bM:∃m,m=M.length:=⟨_,rfl⟩;obtain⟨m,hm⟩:=bM;rw[<- hm] at r HO bY bA ⊢;have HM:=x1_ hm;clear hm;go_wp2_with fail
    go_loopw [12,13,14,15] (λtf tl tw ti wq=>∃(fd:Bool) (j l:Int) (i:Nat),tf=.bool fd/\tl=.int .i64 j/\tw=.int .i64 l/\ti=.int .i64 i/\i<=P.length/\Hid (Pf P M i fd j l)/\E_ wo wq) (λ_ _ _ ti _=>P.length-(intOf ti).toNat)
    case atStart=>exact⟨false,0,0,0,rfl,rfl,rfl,rfl,qg_,Pf.start P M,bz_⟩
    case round=>
     obtain⟨fd,j,l,i,rfl,rfl,rfl,rfl,hi,HI,f⟩:=hrel;have cO:=HI.bound W
     by_cases hil:i<P.length
     ·obtain⟨b5,rfl,bV,d5⟩:=O i hil;obtain⟨b6,rfl,bR,d6⟩:=V i hil;have e5:=(f.cell (p:=(A_ b5 i)) bV).trans d5;have e6:=(f.cell (p:=(A_ b6 i)) bR).trans d6;have aV:=r P[i].1;have a1:=x1_ (λh1 h2=>HI.new hil h1 h2)
      have H:Hid (fd=true->P[i].1=j->Pf P M (i+1) true j (l+P[i].2)):=λh1 h2=>by have:=HI.out;rw[h1] at this;exact this.same _ h2
      have z:=x1_ (λh1 h2=>HI.pass hil h1 h2);have hy:=W _ (Qf hil);have cM:0<=(i:Int):=o_;have bU:i<(P.length:Int):=o_;clear d5 d6 O V HI;generalize P[i].2=y,P[i].1=x at *;generalize hfe:Fn M x=fr at *;go_upto_region 24 with fail;go_cut [16] (λv wy=>v=.bool fr/\E_ wr wy)
      case first=>
       rcases aV with⟨hm0,rfl⟩|⟨n,b,pv,hmn,rfl,hb,hc,hf⟩
       ·have E:=decide_eq_true hm0;subst hm0;go_big_quiet (fail);go_wp2;go_meet
        exact⟨rfl,below_drewN bz_ _⟩
       have e7:=(f.cell (p:=(A_ b (n*4))) hb).trans hc;have HF:=x1_ hf;clear hc hf;have E:decide (m=0)=_:=decide_eq_false o_;subst hmn;have g1:((n:Int)+1==0)=_:=beq_eq_false_iff_ne.2 o_;have g2:(((n+1:_):Int)==0)=_:=beq_eq_false_iff_ne.2 o_;have g3:decide ((n:Int)+1=0)=_:=decide_eq_false o_;have g4:((n:Int)+1=0)=_:=eq_false o_;have g5:n<(n:Int)+1:=o_;have g6:0<=(n:Int):=o_;have g7:n+1-1=(n:Int):=o_;go_big_quiet (fail);go_wp2;go_meet
       exact⟨by rw[HF],below_drewN bz_ _⟩
      case rest=>
       obtain⟨rfl,R⟩:=hcut
       rename World=>wy
       have hq:=f.size;have y5:=(R.cell (p:=(A_ b5 i)) (by show b5<_;omega)).trans e5;have y6:=(R.cell (p:=(A_ b6 i)) (by show b6<_;omega)).trans e6;have cI:=f.trans (R.mono hq);clear e5 e6 R f aV r
       cases fr with
       | false=>
        cases fd with
        | false=>
         have HX:=x1_ (z (λ_=>rfl) (λh=>by cases h));exact Tg
        | true=>
         by_cases F:x=j
         have HX:=x1_ (H rfl F);have b1:=beq_iff_eq.2 F;exact Tg;have HX:=x1_ (z (λh=>by cases h) (λ_=>⟨F,λh=>by cases h⟩));have b1:=beq_eq_false_iff_ne.2 F;exact Tg
       | true=>
        cases fd with
        | false=>
         have HX:=x1_ (a1 rfl (.inl rfl));have b1:(x==x)=_:=beq_self_eq_true _;exact Tg
        | true=>
         rcases Int.lt_trichotomy x j with F|F|F
         have HX:=x1_ (a1 rfl (.inr F));have b0:=decide_eq_true F;have b1:(x==x)=_:=beq_self_eq_true _;exact Tg;have HX:=x1_ (H rfl F);have b0:decide (x<j)=_:=decide_eq_false o_;have b1:=beq_iff_eq.2 F;exact Tg;have HX:=x1_ (z (λh=>by cases h) (λ_=>⟨o_,λ_=>o_⟩));have b0:decide (x<j)=_:=decide_eq_false o_;have b1:(x==j)=_:=beq_eq_false_iff_ne.2 o_;exact Tg
     have cB:i=P.length:=o_;subst cB;have a9:=d.trans (f.mono U);have aE:=x1_ (HO.below f);have bU:¬(P.length<(P.length:Int)):=o_
     cases fd with
     | false=>
      have HD:=x1_ (a0.done HI);clear O V r;go_wp2;go_ret;exact⟨_,rfl,M,by rw[<- bW];exact HD,aE,a9⟩
     | true=>
      have HD:=x1_ (a0.more HI);clear O V r;have aY:Hid (wr.ownsRow w.heap.size 98 4 (.slice S m aI) m (flat (Bv 0 M))):=(by have:=aE.out;unfold Aj at this;rw[Kq,<- HM] at this;exact this);have H5:=x1_ (bT.below f);have H6:=x1_ (bP.below f);have bE:=a9.size;go_wp2_with (at_builtin;refine Hn rfl (.tmp 113) (.tmp 121) 29 rfl w.heap.size 98 i0 (.agg #[I_ 0,I_ 0,I_ 0,I_ 0]) 4 32 Tryz.underlying29 aP cA c7 c3 rfl d_ (.slice S m aI) m (flat (Bv 0 M)) rfl (ra_ aY _) (A_ wr.heap.size 0) 1 1 [I_ j,I_ (By M),I_ (By M+l),I_ l] rfl rfl (Am wr #[I_ j,I_ (By M),I_ (By M+l),I_ l] 98) (by intro u hu;simp at hu;rcases hu with rfl|rfl|rfl|rfl<;>rfl) d_ m_ o_ t_ ?_)
      intro v1 w1 hX;obtain⟨J,g,E,_,c8,bI,T⟩:=hX;have a8:Ag (wr.alloc (.cells #[I_ j,I_ (By M),I_ (By M+l),I_ l] 98)) _ _ _:=ra_ H5 _;have aH:Ag (wr.alloc (.cells #[I_ j,I_ (By M),I_ (By M+l),I_ l] 98)) _ _ _:=ra_ H6 _;have aA:Aj (wr.alloc (.cells #[I_ j,I_ (By M),I_ (By M+l),I_ l] 98)) _ _ _:=ra_ aE _;have bZ:=x1_ (a8.kept g (Ym aA a8));have c9:=x1_ (aH.kept g (Ym aA aH));have HN:Hid (Aj w1 w.heap.size v1 (Bv 0 (M++[(j,l)]))):=by show Aj _ _ _ _;rw[jt];refine Aj.more ?_;rw[Kq,<- HM];exact J
      have HS:Hid (By (M++[(j,l)])=By M+l):=show _=_ by rw[Rc];simp[By]
      have B:=(a9.alloc bE _).grown g t_ (λq hq=>(rl_ aY q hq).1);have cE:lenOf v1=m+1:=(by rw[T];rfl);have cF:m+1<=P.length:=(by have:=HD.len;rw[Qe,<- HM] at this;exact this);clear J g E a8 aH aA T;go_wp2;go_roundw;case rel=>exact⟨M++[(j,l)],by rw[HS]<;>go_num,⟨HD,HN,bZ,c9⟩,B⟩
      case measure=>
       have e1:lenOf (Value.slice S m aI)=m:=rfl;omega
end Go.Proofs.YtfcgnpchbcmdeaaGreat
