import Derived.Test.YtfcgnpchbcmdeaaGreatZrap
import Derived.Test.YtfcgnpchbcmdeaaGreatZraq
namespace Go.Proofs.YtfcgnpchbcmdeaaGreat
set_option linter.all false
set_option maxRecDepth 100000
set_option maxHeartbeats 4000000
open Go.RowKit
def ZhG n:List.replicate (n*4) (I_ 0)=flat (List.replicate n e0):=by
 induction n with
 |zero=>rfl
 | succ n ih=>
  rw[List.replicate_succ,show(n+1)*4=n*4+4 by omega];show _=Ee e0++flat (List.replicate n e0);rw[<- ih];rfl
def ZfN n:(madeCells #[I_ 0,I_ 0,I_ 0,I_ 0] (n*4)).toList=flat (List.replicate n e0):=by
 have a:(madeCells #[I_ 0,I_ 0,I_ 0,I_ 0] (n*4)).toList=List.replicate (n*4) (I_ 0):=by
  apply List.ext_getElem;simp[madeCells];intro i a b;simp[madeCells]
  grind
 rw[a,ZhG]
def Zfx{A B}{x:Ct}{k}(a:A.length=k) y:(flat (A++x::B)).set (k*4) (I_ y)=flat (A++⟨y,x.lo,x.hi,x.wt⟩::B):=by have:=Ut (B:=B) (x:=x) a (show 0<4 by omega) (I_ y);rw[Nat.add_zero] at this;rw[this,Cu];rfl
def Ov(P:List (Int×Int))(k:Nat):List Ct:=(P.take k).map Jc++List.replicate (P.length-k) e0
def Zfo P {k}(h:k<=P.length):(Ov P k).length=P.length:=by simp[Ov];omega
def ue{b a k} c:(Ar b a)[k]=(Ga (b.getD k 0),Is (a.getD k 0)):=by grind [Ar]
def Cq.below{w k a f l}(h:Cq w a f l)(j:Below w.heap.size w k):Cq k a f l:=by
 obtain⟨n,o,g⟩:=h;refine⟨n,o,?_⟩
 rcases g with g|⟨b,c,e,d,m⟩
 exact .inl g;exact .inr ⟨b,c,e,Qh d j.size,λi hi=>(j.cell (p:=(A_ b (c+i))) d).trans (m i hi)⟩
def ZaU L:∀i r,i<L.length->r<4->(flat L)[i*4+r]? =(Ee (L.getD i e0))[r]?:=by
 induction L with
 |nil=>grind
 | cons e L ih=>
  intro i r b a
  cases i with
  |zero=>grind [flat,Ee]
  | succ i=>
   grind [flat,Ee]
theorem ic(d:List (Int×Int)):(Go.Sort.flatK Zn 4 d.toArray).toList=flat (d.map Jc):=by
 apply List.ext_getElem?;intro t
 by_cases ht:t<d.length*4
 ·have a:=ZaU (d.map Jc) (t/4) (t%4) t_ o_;rw[show t/4*4+t%4=t by omega] at a;rw[a,Array.getElem?_toList];have c:t/4<d.length:=o_;have e:t%4<4:=o_;have b:(d.map Jc).getD (t/4) e0=Jc d[t/4]:=w_;rw[b];simp only[Go.Sort.flatK];rw[Array.getElem?_map];simp[ht,c,Zn,Ee,Jc]
  grind
 rw[List.getElem?_eq_none t_,List.getElem?_eq_none (by rw[Ef];simp;omega)]
theorem lp a F (h:F.size<=a.size):(Go.Sort.putCells id 0 F a).toList.take F.size=F.toList:=by
 apply List.ext_getElem?;intro j
 by_cases hj:j<F.size
 rw[List.getElem?_take_of_lt hj,Array.getElem?_toList,Array.getElem?_toList];simp[Go.Sort.putCells,hj,show j<a.size by omega]
 grind
def Zdr{w b g a m os}{P D:List (Int×Int)}(d:D.length=P.length)(h:Aj w b (L_ g P.length a) (P.map Jc)):Aj (Go.Proofs.sortWorldK Zn 4 w g 0 m D.toArray os) b (L_ g P.length a) (D.map Jc)/\w.grownBy (Go.Proofs.sortWorldK Zn 4 w g 0 m D.toArray os) (some g):=by
 rcases h.2 with⟨e,_⟩|⟨g',cap',cur,e,hb,hg,hnc,hcm,hcs,htake⟩
 simp at e;simp only[Value.slice.injEq,Option.some.injEq,Addr.mk.injEq,and_true] at e;obtain⟨rfl,_,rfl⟩:=e;have c:=(Qb hg).1;have j:(Go.Sort.flatK Zn 4 D.toArray).size=P.length*4:=by simp[d]
 have f:P.length<=a:=by simpa using hnc
 have i:(Go.Proofs.sortWorldK Zn 4 w g 0 m D.toArray os).heap[g]? =some (.cells (Go.Sort.putCells id 0 (Go.Sort.flatK Zn 4 D.toArray) cur) 98 (0,0)):=(by unfold Go.Proofs.sortWorldK Go.Sort.putRowK;rw[Go.Sort.heap_grow_old _ _ (by simpa using c)];simp[Go.Sort.putRow,Go.Sort.mapBlock,Go.Sort.ahead,Array.getElem?_modify,hg,Go.Sort.onCells]);refine⟨⟨by rw[Ef],.inr ⟨g,a,_,by simp[d],hb,i,w_,hcm,by simp[Go.Sort.putCells,hcs],?_⟩⟩,⟨rfl,rfl,rfl,?_,λk hk hne=>?_⟩⟩
 ·grind [ic,lp]
 unfold Go.Proofs.sortWorldK Go.Sort.putRowK;simp;unfold Go.Proofs.sortWorldK Go.Sort.putRowK;rw[Go.Sort.heap_grow_old _ _ (by simpa using hk)];have:g≠k:=λe=>hne (by rw[e]);simp[Go.Sort.putRow,Go.Sort.mapBlock,Go.Sort.ahead,Array.getElem?_modify,this]
def ZfW{w a g b}{P:List (Int×Int)}(h:Aj w a (L_ g P.length b) (P.map Jc)):Go.Sort.HoldsK Zn 4 w g 0 P.toArray:=by
 intro j e
 have c:j<P.length*4:=by simpa using e
 have d:Aj w a (L_ g (P.map Jc).length b) (P.map Jc):=by simpa using h
 refine⟨?_,?_⟩
 ·rw[Nat.zero_add,World.ownsRow.cellAt d j (by simpa using c),<- ic]
  grind
 rw[Nat.zero_add];exact World.ownsRow.frozenAt d j
def Zig va wa H vc J wc c d w (hv:Cq w va H c)(hw:Cq w wa J d)(lv:H<=2097152)(lw:J<=2097152):C_ 45 #[.slice va H vc,.slice wa J wc] w λe w'=>∃v M,e=.returned v/\Ed (Ar c d) M/\Aj w' w.heap.size v (Bv 0 M)/\Below w.heap.size w w':=by
 obtain⟨i0,a4,aA,aG,aE⟩:=info_parts Qq;have L:=Jm c d;rw[hv.1,hw.1] at L;obtain⟨n,hn⟩:=ex_ (min H J);have aJ:∀W:World,(Instr.makeSlice 29 (I_ n) (I_ n)).run Tryz.prog W=.ok (L_ W.heap.size n n) (W.alloc (.cells (madeCells #[I_ 0,I_ 0,I_ 0,I_ 0] (n*4)) 98)):=(by intro W;have:=run_make (P:=Tryz.prog) W 29 98 i0 _ Tryz.underlying29 a4 aA .i64 .i64 (n:Int) (n:Int) o_ o_ (by rw[aE];omega) o_;rw[aG] at this;rw[this,Int.toNat_natCast];rfl);have b:=x1_ (L.trans hn.symm);have HV:=x1_ hv;have HW:=x1_ hw
 have HM:Hid (Aj (w.alloc (.cells (madeCells #[I_ 0,I_ 0,I_ 0,I_ 0] (n*4)) 98)) w.heap.size (L_ w.heap.size n n) (Ov (Ar c d) 0)):=by
  have:=World.ownsRow_lit (base:=w.heap.size) (size:=4) (e:=98) w (madeCells #[I_ 0,I_ 0,I_ 0,I_ 0] (n*4)) n qa_ m_ (size_madeCells _ _);rw[ZfN] at this;have e:Ov (Ar c d) 0=List.replicate n e0:=(by unfold Ov;rw[b];simp);show Aj _ _ _ _;unfold Aj
  grind
 have aO:n<=H:=o_;have aR:n<=J:=o_;have a2:=x1_ hn;clear hv hw L hn;go_enter Tryz.func45,Tryz.ntmps45;go_upto_region 1 with fail;go_cut [5] (λv wx=>v=.slice (some ⟨w.heap.size,0,none⟩) n n/\wx=w.alloc (.cells (madeCells #[.int .i64 0,.int .i64 0,.int .i64 0,.int .i64 0] (n*4)) 98))
 case first=>
  have aS:min (H:Int) J=n:=(by have:=a2.out;omega);go_wp2;go_meet
  grind
 case rest =>
  obtain⟨rfl,rfl⟩:=hcut;clear aJ;go_wp2_with fail
  go_loopw [15] (λti wr=>∃k:Nat,k<=n/\ti=.int .i64 k/\Hid (Aj wr w.heap.size (.slice (some ⟨w.heap.size,0,none⟩) n n) (Ov (Ar c d) k))/\E_ w wr) (λti _=>n-(intOf ti).toNat)
  case atStart=>exact⟨0,qg_,rfl,HM,bA_⟩
  case round=>
   clear HM;obtain⟨k,hk,rfl,HO,f⟩:=hrel
   by_cases hkn:k<n
   ·have T:k<(Ar c d).length:=(by rw[b];exact hkn);have A:Ov (Ar c d) k=((Ar c d).take k).map Jc++e0::List.replicate (n-(k+1)) e0:=(by unfold Ov;rw[b,show n-k=n-(k+1)+1 by omega,List.replicate_succ]);have F:(((Ar c d).take k).map Jc).length=k:=t_;have a:=HO.out;have g:=Zfo _ (show k<=(Ar c d).length by omega);rw[A] at a g;rw[b] at g;obtain⟨c0,c1,c2,c3,cf⟩:=a.at g.symm F;have aD:=x1_ a;have o:=x1_ g.symm;have t:=x1_ F
    have a6:Hid (Ov (Ar c d) (k+1)=((Ar c d).take k).map Jc++⟨Ga (c.getD k 0),0,0,Is (d.getD k 0)⟩::List.replicate (n-(k+1)) e0):=show _=_ by unfold Ov;rw[b,Qi T,ue _];simp[Jc]
    rcases HV.out with⟨hv1,hv2,hv3|⟨b1,o1,rfl,u,hv3⟩⟩;omega;rcases HW.out with⟨hw1,hw2,hw3|⟨b2,o2,rfl,z,hw3⟩⟩;omega;have d1:=(f.cell (p:=(A_ b1 (o1+k))) u).trans (hv3 k o_);have d2:=(f.cell (p:=(A_ b2 (o2+k))) z).trans (hw3 k o_);simp only[e0] at c0 c1 c2 c3;have aP:0<=(k:Int):=o_;have aM:k<(n:Int):=o_;have aQ:k<(H:Int):=o_;have aT:k<(J:Int):=o_;clear A F a g hv1 hv2 hv3 hw1 hw2 hw3 T;generalize c.getD k 0=x,d.getD k 0=y at *;go_wp2_with fail
    go_region_with (first|(go_at_call 79;refine(Wi _ _).mono ?_;rintro e w' ⟨rfl,rfl⟩)|(go_at_call 80;refine(Um _ _).mono ?_;rintro e w' ⟨rfl,rfl⟩))
    all_goals go_wp2
    all_goals
     go_roundw
     case rel=>
      refine⟨k+1,o_,g_,?_,?_⟩;rw[a6];exact((((aD.store o s_ (Zfx t _)).store (o.trans s_) s_ (Wx t _)).store (o.trans s_) s_ (Wy t _)).store (o.trans s_) s_ (Wz t _));exact((((f.setCell qa_ _).setCell qa_ _).setCell qa_ _).setCell qa_ _).drew
     case measure=>exact z_
   have aL:k=n:=o_;have a:Aj wr w.heap.size (L_ w.heap.size (Ar c d).length n) ((Ar c d).map Jc):=(by have e:Ov (Ar c d) k=(Ar c d).map Jc:=(by unfold Ov;rw[List.take_of_length_le (by rw[b];omega),b,show n-k=0 by omega];simp);rw[<- e,b];exact HO);have aN:¬k<(n:Int):=o_;have aI:=f.size;have R:∀p∈Ar c d,_:=λp hp=>(Ig hp).1;have r:=x1_ R;have B:=(rl_ a w.heap.size rfl).2
   have hS:C_ 81 #[.slice (some ⟨w.heap.size,0,none⟩) n n,.func (.func 82) #[] #[]] wr λe w'=>e=.returned (.tuple #[])/\∃D:List (Int×Int),D.Perm (Ar c d)/\(D.Pairwise λp q=>p.1<=q.1)/\Aj w' w.heap.size (.slice (some ⟨w.heap.size,0,none⟩) D.length n) (D.map Jc)/\wr.grownBy w' (some w.heap.size):=by
    have hs:=ZiK _ n _ _ (ZfW a) B (by simp[b.out];omega);rw[show(Ar c d).toArray.size=n by simp[b.out]] at hs;refine hs.mono ?_;rintro e w' ⟨rfl,E,m,os,G,I,rfl⟩;obtain⟨a8,_,aV⟩:=G;have aC:E.size=n:=(by rw[a8];simp[b.out]);have hD:E.toList.length=(Ar c d).length:=o_;have ho:=Zdr (m:=m) (os:=os) hD a;rw[show E.toList.toArray=E by simp] at ho;refine⟨rfl,E.toList,?_,?_,?_,ho.2⟩
    ·have e1:E.extract 0 n=E:=by rw[<- aC];simp
     grind
    ·rw[List.pairwise_iff_getElem];intro i j hi hj a5;simp at hi hj;have:=I i j qg_ a5 o_;rw[Zka] at this
     grind
    grind
   have a7:=x1_ hS;clear a R B hS;go_wp2_with fail
   refine(show Calls _ _ _ _ _ from a7).mono ?_;rintro e w1 ⟨rfl,D,s,Q,N,Y⟩;have aF:D.length=n:=(by rw[s.length_eq,b]);have u:=f.grown Y aI (λq hq=>by simp at hq;omega);have C:=jd _ n D _ _ N Q (λp hp=>r p (s.mem_iff.1 hp)) o_;rw[aF] at C;have aK:=x1_ C;have aB:=x1_ s;clear C s Q N Y;go_wp2_with fail
   refine(show Calls _ _ _ _ _ from aK).mono ?_;rintro e w2 ⟨M,rfl,O,aU,a1,U⟩;have z:=u.grown U u.size (λq hq=>by simp at hq;omega);have l:=O.perm aB
   have X:∀p∈M,0<=p.2:=λp hp=>by rw[l.wt p hp];exact We (λq hq=>(r q hq).1) _
   have Z:By M<=1000000000000:=(by have h1:=Zad (ps:=Ar _ _) (λq hq=>(r q hq).1) l.rise;have h2:=Rw (ps:=Ar _ _) (λq hq=>(r q hq).2);rw[Wd l.wt];rw[b] at h2;omega);have a9:=x1_ l;have a0:=Ziy _ n M _ _ a1 X Z o_;have V:=x1_ a0;clear a0 O a1 U l X Z;go_wp2_with fail
   refine(show Calls _ _ _ _ _ from V).mono ?_;rintro e w3 ⟨rfl,a3,S⟩;have aH:=z.grown S z.size (λq hq=>by simp at hq;omega);have HF:=x1_ a3;clear a3 S;go_wp2;go_ret;exact⟨_,M,rfl,a9,HF,aH⟩
def ZbZ d g b l a wc f h w (p:Cq w d b f)(m:Cq w g a h)(i:b<=2097152)(k:a<=2097152):C_ 19 #[.slice d b l,.slice g a wc] w λe w'=>∃v M,e=.returned v/\Ed (Ar f h) M/\Aj w' w.heap.size v (Bv 0 M)/\Below w.heap.size w w':=by
 go_enter Tryz.func19,Tryz.ntmps19;go_wp2_with fail
 refine(Zig _ _ _ _ _ _ _ _ w p m i k).mono ?_;rintro e w' ⟨v,M,rfl,o,j,n⟩;have c:=x3_ o j n;go_wp2;go_ret;exact⟨_,M,rfl,c.1,c.2.1,c.2.2⟩
def lenOf:Value->Nat
 |.slice _ n _=>n
 |_=>0
def Ag.form{w d v e}(h:Ag w d v e):∃a c,v=.slice a e.length c/\∀i,i<e.length->∃b,a=some ⟨b,0,none⟩/\b<w.heap.size/\w.cell? (A_ b i)=some (I_ (e.getD i 0)):=by
 rcases h.2 with⟨rfl,h0⟩|⟨g,cap,cur,rfl,hb,hg,r⟩
 ·grind
 refine⟨some _,cap,rfl,λi hi=>⟨g,rfl,(Qb hg).1,?_⟩⟩;rw[World.ownsRow.cellAt h i (by simp;exact hi)];simp[hi]
def Aj.form{w d v L}(h:Aj w d v L):∃a c,v=.slice a L.length c/\∀A x,L=A++[x]->∃b,a=some ⟨b,0,none⟩/\b<w.heap.size/\w.cell? (A_ b (A.length*4))=some (I_ x.v):=by
 rcases h.2 with⟨rfl,h0⟩|⟨g,cap,cur,rfl,hb,hg,r⟩
 ·grind
 grind [Aj.at]
def Ym{w a v u L b}(h:Aj w a v L)(g:Ag w a u b):u.ownBlock=none∨u.ownBlock≠v.ownBlock:=by
 rcases g.2 with⟨rfl,_⟩|⟨g1,xd,cur1,rfl,_,hg1,_⟩
 exact .inl rfl
 rcases h.2 with⟨rfl,_⟩|⟨g2,cap2,cur2,rfl,_,hg2,_⟩
 exact .inr (by simp[Value.ownBlock]);refine .inr λe=>?_;simp[Value.ownBlock] at e
 grind
def Pf.bound{P M i d a b}(f:∀p∈P,1<=p.2/\p.2<=1000)(h:Pf P M i d a b):0<=b/\b<=1000*P.length:=by
 cases d with
 |false=>obtain⟨_,e,_⟩:=h.no rfl;omega
 | true=>
  obtain⟨_,_,e⟩:=h.yes rfl;have c:∀p∈P.take i,_:=λp hq=>(f p (List.mem_of_mem_take hq)).1;have g:=We c a;have k:=Zi1 c a;have j:=Rw (ps:=P.take i) (λp hq=>(f p (List.mem_of_mem_take hq)).2)
  grind
def Ir.bound{P M}(b:∀p∈P,1<=p.2/\p.2<=1000)(h:Ir P M):0<=By M/\By M<=1000*P.length:=by have a:=λp hq=>(b p hq).1;have d:=Zad a h.rise;have f:=Wd h.wt;have e:=Rw (ps:=P) (λp hq=>(b p hq).2);have c:=(Oc (M:=M) (λp hq=>by rw[h.wt p hq];exact We a _) 0).2;simp[By] at c;omega
def Zc1{M}{x}:(M.length=0/\Fn M x=true)∨∃N p,M=N++[p]/\Fn M x=decide (p.1<x):=by
 rcases List.eq_nil_or_concat M with a|⟨N,p,a⟩
 subst a;exact .inl ⟨rfl,rfl⟩;rw[List.concat_eq_append] at a;subst a;exact .inr ⟨N,p,rfl,To N p x⟩
def jt N p:Bv 0 (N++[p])=Bv 0 N++[⟨p.1,By N,By N+p.2,p.2⟩]:=by rw[Vs];simp[Bv]
def Tg{p:Prop}(h:p:=by
 go_wp2_with fail
 go_roundw;case rel=>exact⟨_,_,_,i+1,rfl,rfl,g_,g_,o_,HX,o_⟩
 case measure=>exact z_):p:=h
def Qx va wa L vc wl wc t z w (hv:Cq w va L t)(hw:Cq w wa wl z)(lv:L<=2097152)(lw:wl<=2097152):C_ 115 #[.slice va L vc,.slice wa wl wc] w λe w'=>∃v M,e=.returned v/\Ed (Ar t z) M/\Aj w' w.heap.size v (Bv 0 M)/\Below w.heap.size w w':=by
 obtain⟨i0,bC,bQ,c8,c4⟩:=info_parts Qq;obtain⟨j0,a2,bE,aY,aS⟩:=info_parts Ss;have aI:=Jm t z;rw[hv.1,hw.1] at aI;have aA:=x1_ aI;have HV:=x1_ hv;have HW:=x1_ hw;clear hv hw aI;go_enter Tryz.func115,Tryz.ntmps115;go_wp2_with fail
 go_loopw [5,6,7] (λtv tw ti wr=>∃k:Nat,k<=L/\k<=wl/\ti=.int .i64 k/\Hid (Ag wr w.heap.size tv (((Ar t z).take k).map Prod.fst)/\Ag wr w.heap.size tw (((Ar t z).take k).map Prod.snd)/\Ch tv tw)/\E_ w wr) (λ_ _ ti _=>L-(intOf ti).toNat)
 case atStart=>exact⟨0,qg_,qg_,rfl,⟨Ag.nil _ _,Ag.nil _ _,.inl rfl⟩,bz_⟩
 case round=>
  obtain⟨k,cH,cJ,rfl,HR,a⟩:=hrel;obtain⟨bF,aV,aZ⟩:=HR;have D:=x1_ bF;have I:=x1_ aV;have bB:=x1_ aZ;have W:=a.size;clear bF aV aZ
  by_cases hkk:k<L/\k<wl
  ·obtain⟨bK,bS⟩:=hkk;have a7:k<(Ar t z).length:=(by rw[aA];omega);have bA:=ue a7
   have HT:Hid ((Ar _ _).take _=_):=show _=_ by rw[Qi a7,bA]
   have cD:Hid (((Ar t z).take k).length=k):=show _=_ by simp;omega
   rcases HV.out with⟨hv1,hv2,hv3|⟨b1,o1,rfl,hb1,hv3⟩⟩;omega;rcases HW.out with⟨hw1,hw2,hw3|⟨b2,o2,rfl,hb2,hw3⟩⟩;omega;have d1:=(a.cell (p:=(A_ b1 (o1+k))) hb1).trans (hv3 k bK);have d2:=(a.cell (p:=(A_ b2 (o2+k))) hb2).trans (hw3 k bS);have cM:0<=(k:Int):=o_;have aR:k<(L:Int):=o_;have bV:k<(wl:Int):=o_;clear hv1 hv2 hv3 hw1 hw2 hw3 a7 bA;generalize (Ar t z).take k=Q,t.getD k 0=x,z.getD k 0=y at *;go_upto_if 34 with fail
   go_cut [8] (λv wx=>v=.int .i64 (xd x)/\wx=wr)
   case first=>
    by_cases h:1000000000<x
    ·have s:Hid (xd x=_):=if_pos h;go_wp2;go_meet
     exact⟨by rw[s],rfl⟩
    have s:Hid (xd x=x):=if_neg h;go_wp2;go_meet
    exact⟨by rw[s],rfl⟩
   case rest =>
    obtain⟨rfl,c⟩:=hcut;have d:=c.symm;clear c;subst d;go_upto_if 36 with fail
    go_cut [8] (λv wx=>v=.int .i64 (Ga x)/\wx=wr)
    case first=>
     by_cases h:xd x< -1000000000
     ·have s:=x1_ ((gh x).trans (if_pos h));go_wp2;go_meet
      exact⟨by rw[s],rfl⟩
     have s:=x1_ ((gh x).trans (if_neg h));go_wp2;go_meet
     exact⟨by rw[s],rfl⟩
    case rest=>
     obtain⟨rfl,c⟩:=hcut;have d:=c.symm;clear c;subst d;go_upto_region 12 with fail;go_cut [46] (λv wx=>v=.bool (Zcs y)/\wx=wr)
     case first=>
      by_cases h:y<1
      ·have s:Hid (Zcs y=_):=decide_eq_true (.inl h);go_wp2;go_meet
       exact⟨by rw[s],rfl⟩
      by_cases h2:1000<y
      ·have s:Hid (Zcs y=_):=decide_eq_true (.inr h2);go_wp2;go_meet
       exact⟨by rw[s],rfl⟩
      have s:Hid (Zcs y=_):=decide_eq_false o_;go_wp2;go_meet
      exact⟨by rw[s],rfl⟩
     case rest=>
      obtain⟨rfl,c⟩:=hcut;have d:=c.symm;clear c;subst d;have a8:=x1_ (ZcI y);generalize Zcs y=bw at *;go_upto_if 46 with fail
      go_cut [9] (λv wx=>v=.int .i64 (Is y)/\wx=wr)
      case first=>
       cases bw
       ·have s:Hid (_=y):=a8.out;go_wp2;go_meet
        exact⟨by rw[s],rfl⟩
       have s:Hid (Is y=1):=a8.out;go_wp2;go_meet
       exact⟨by rw[s],rfl⟩
      case rest=>
       obtain⟨rfl,c⟩:=hcut;have d:=c.symm;clear c a8;subst d;generalize Ga x=cx,Is y=cy at *;have aM:=cD.out;go_wp2_with (at_builtin;refine Hn rfl (.tmp 47) (.tmp 49) 25 rfl w.heap.size 3 j0 (I_ 0) 1 8 Tryz.underlying25 a2 bE aY aS rfl d_ u5 (Q.map Prod.fst).length ((Q.map Prod.fst).map (Value.int .i64)) rfl (D.below bA_) (A_ wr.heap.size 0) 1 1 [I_ cx] rfl rfl (ZeR wr rfl cx) (by simp[Value.oneCell']) d_ (by unfold maxLen;simp;omega) t_ t_ ?_)
       intro v1 w1 hX;obtain⟨G,g,E,_,c7,bT,T⟩:=hX;have a9:Ag (wr.alloc (.cells #[I_ cx] 3)) _ _ _:=I.below bA_;have cA:=x1_ (Ag.more (by rw[List.length_map,List.map_map,aM];exact G));have bD:=x1_ (a9.kept g bB.keeps);have aT:=x1_ (bB.moved a9 (by simpa using E));have aL:=λq hq=>(rl_ D q hq).1;have B:=(a.alloc W _).grown g t_ aL;have aX:=B.size;have cF:wr.heap.size<w1.heap.size:=(by have:=g.size;simp at this;omega);clear G g E a9 aL T
       go_wp2_with (at_builtin;refine Hn rfl (.tmp 51) (.tmp 53) 25 rfl w.heap.size 3 j0 (I_ 0) 1 8 Tryz.underlying25 a2 bE aY aS rfl d_ u6 (Q.map Prod.snd).length ((Q.map Prod.snd).map (Value.int .i64)) rfl (bD.below bA_) (A_ w1.heap.size 0) 1 1 [I_ cy] rfl rfl (ZeR w1 rfl cy) (by simp[Value.oneCell']) d_ (by unfold maxLen;simp;omega) t_ t_ ?_)
       intro v2 w2 hX;obtain⟨bG,aE,aW,_,cL,cP,bM⟩:=hX;have a4:Ag (w1.alloc (.cells #[I_ cy] 3)) _ _ _:=cA.below bA_;have bH:=x1_ (Ag.more (by rw[List.length_map,List.map_map,aM];exact bG));have bW:=x1_ (a4.kept aE aT.symm.keeps);have bU:=x1_ ((aT.symm.moved a4 (by simpa using aW)).symm);have X:=λq hq=>(rl_ bD q hq).1;have aU:=(B.alloc aX _).grown aE t_ X;clear bG aE aW a4 X bM;refine rd_ ?_;exact⟨k+1,o_,o_,g_,⟨by rw[HT,List.map_append];exact bW,by rw[HT,List.map_append];exact bH,bU⟩,aU⟩
  go_upto_region 4 with fail;go_cut [26] (λv wx=>v=.bool false/\wx=wr)
  case first=>
   by_cases h1:k<L
   ·have h2:¬_:=λh=>hkk ⟨h1,h⟩;have aR:k<(L:Int):=o_;have bV:¬k<(wl:Int):=o_;go_wp2;go_meet
    exact⟨u_,rfl⟩
   have aR:¬k<(L:Int):=o_;go_wp2;go_meet
   exact⟨u_,rfl⟩
  case rest =>
   obtain⟨rfl,c⟩:=hcut;have d:=c.symm;clear c;subst d;have aO:k=(Ar t z).length:=(by rw[aA];omega);have hP:(Ar t z).take k=Ar t z:=(by rw[aO];exact List.take_of_length_le qa_);rw[hP] at D I;have V:Hid (∀p∈Ar t z,_):=λp hp=>(Ig hp).1;have b9:(Ar t z).length<=2097152:=o_;clear aA HV HW hP aO;obtain⟨P,aG⟩:=ex_ (Ar t z);rw[<- aG] at D I V b9;have cB:=x1_ aG;clear aG
   rename World=>wr1
   go_wp2_with fail
   go_loopw [10,11] (λo tl wx=>∃M,tl=.int .i64 (By M)/\Hid (Ir P M/\Aj wx w.heap.size o (Bv 0 M)/\Ag wx w.heap.size u5 (P.map Prod.fst)/\Ag wx w.heap.size u6 (P.map Prod.snd))/\E_ w wx) (λo _ _=>P.length-lenOf o)
   case atStart=>exact⟨[],rfl,⟨Ir.nil P,Aj.nil _ _,D,I⟩,a⟩
   case round=>
    clear D I a W;obtain⟨M,rfl,HR,a⟩:=hrel
    rename World=>wo
    obtain⟨C,H,aF,aB⟩:=HR;have Z:=x1_ C;have HO:=x1_ H;have bO:=x1_ aF;have bY:=x1_ aB;have cN:=C.bound V;have c9:=C.len;have W:=a.size;have aP:=Kq 0 M;obtain⟨a5,c5,aN,bL⟩:=aF.form;obtain⟨a6,c6,aQ,bI⟩:=aB.form;obtain⟨O,a3,a1,Y⟩:=H.form;rw[List.length_map] at aN aQ;rw[aP] at a1
    have R:Hid (∀i hi,∃b,a5=some ⟨b,0,none⟩/\b<wo.heap.size/\wo.cell? (A_ b i)=some (I_ P[i].1)):=λi hi=>w_
    have U:Hid (∀i hi,∃b,a6=some ⟨b,0,none⟩/\b<wo.heap.size/\wo.cell? (A_ b i)=some (I_ P[i].2)):=λi hi=>w_
    have r:Hid (∀x,(M.length=0/\Fn M x=true)∨∃n b pv,M.length=n+1/\O=some ⟨b,0,none⟩/\b<wo.heap.size/\wo.cell? (A_ b (n*4))=some (I_ pv)/\Fn M x=decide (pv<x)):=λx=>by
     rcases Zc1 (M:=M) (x:=x) with h|⟨N,p,hM,hf⟩
     exact .inl h;obtain⟨b,e,hb,hc⟩:=Y (Bv 0 N) ⟨p.1,By N,By N+p.2,p.2⟩ (by rw[hM,jt]);exact .inr ⟨N.length,b,p.1,by rw[hM];simp,e,hb,by rw[Kq] at hc;exact hc,hf⟩
    clear C H aF aB bL bI Y;subst aN aQ a1;have bZ:∃m,m=M.length:=⟨_,rfl⟩;obtain⟨m,hm⟩:=bZ;rw[<- hm] at r HO c9 aP ⊢;have HM:=x1_ hm;clear hm;go_wp2_with fail
    go_loopw [12,13,14,15] (λtf tl tw ti wq=>∃(fd:Bool) (l j:Int) (i:Nat),tf=.bool fd/\tl=.int .i64 l/\tw=.int .i64 j/\ti=.int .i64 i/\i<=P.length/\Hid (Pf P M i fd l j)/\E_ wo wq) (λ_ _ _ ti _=>P.length-(intOf ti).toNat)
    case atStart=>exact⟨false,0,0,0,rfl,rfl,rfl,rfl,qg_,Pf.start P M,bz_⟩
    case round=>
     obtain⟨fd,l,j,i,rfl,rfl,rfl,rfl,hi,HI,f⟩:=hrel;have cI:=HI.bound V
     by_cases hil:i<P.length
     ·obtain⟨b5,rfl,bP,d5⟩:=R i hil;obtain⟨b6,rfl,cC,d6⟩:=U i hil;have e5:=(f.cell (p:=(A_ b5 i)) bP).trans d5;have e6:=(f.cell (p:=(A_ b6 i)) cC).trans d6;have b7:=r P[i].1;have a0:=x1_ (λh1 h2=>HI.new hil h1 h2)
      have F:Hid (fd=true->P[i].1=l->Pf P M (i+1) true l (j+P[i].2)):=λh1 h2=>by have:=HI.out;rw[h1] at this;exact this.same _ h2
      have A:=x1_ (λh1 h2=>HI.pass hil h1 h2);have hy:=V _ (Qf hil);have cO:0<=(i:Int):=o_;have bX:i<(P.length:Int):=o_;clear d5 d6 R U HI;generalize P[i].2=y,P[i].1=x at *;generalize hfe:Fn M x=fr at *;go_upto_region 24 with fail;go_cut [16] (λv wy=>v=.bool fr/\E_ wr wy)
      case first=>
       rcases b7 with⟨hm0,rfl⟩|⟨n,b,pv,hmn,rfl,hb,hc,hf⟩
       ·have E:=decide_eq_true hm0;subst hm0;go_big_quiet (fail);go_wp2;go_meet
        exact⟨rfl,below_drewN bz_ _⟩
       have e7:=(f.cell (p:=(A_ b (n*4))) hb).trans hc;have HF:=x1_ hf;clear hc hf;have E:decide (m=0)=_:=decide_eq_false o_;subst hmn;have g1:((n:Int)+1==0)=_:=beq_eq_false_iff_ne.2 o_;have g2:(((n+1:_):Int)==0)=_:=beq_eq_false_iff_ne.2 o_;have g3:decide ((n:Int)+1=0)=_:=decide_eq_false o_;have g4:((n:Int)+1=0)=_:=eq_false o_;have g5:n<(n:Int)+1:=o_;have g6:0<=(n:Int):=o_;have g7:n+1-1=(n:Int):=o_;go_big_quiet (fail);go_wp2;go_meet
       exact⟨by rw[HF],below_drewN bz_ _⟩
      case rest=>
       obtain⟨rfl,S⟩:=hcut
       rename World=>wy
       have hq:=f.size;have y5:=(S.cell (p:=(A_ b5 i)) (by show b5<_;omega)).trans e5;have y6:=(S.cell (p:=(A_ b6 i)) (by show b6<_;omega)).trans e6;have cQ:=f.trans (S.mono hq);clear e5 e6 S f b7 r
       cases fr with
       | false=>
        cases fd with
        | false=>
         have HX:=x1_ (A (λ_=>rfl) (λh=>by cases h));exact Tg
        | true=>
         by_cases J:x=l
         have HX:=x1_ (F rfl J);have b1:=beq_iff_eq.2 J;exact Tg;have HX:=x1_ (A (λh=>by cases h) (λ_=>⟨J,λh=>by cases h⟩));have b1:=beq_eq_false_iff_ne.2 J;exact Tg
       | true=>
        cases fd with
        | false=>
         have HX:=x1_ (a0 rfl (.inl rfl));have b1:(x==x)=_:=beq_self_eq_true _;exact Tg
        | true=>
         rcases Int.lt_trichotomy x l with J|J|J
         have HX:=x1_ (a0 rfl (.inr J));have b0:=decide_eq_true J;have b1:(x==x)=_:=beq_self_eq_true _;exact Tg;have HX:=x1_ (F rfl J);have b0:decide (x<l)=_:=decide_eq_false o_;have b1:=beq_iff_eq.2 J;exact Tg;have HX:=x1_ (A (λh=>by cases h) (λ_=>⟨o_,λ_=>o_⟩));have b0:decide (x<l)=_:=decide_eq_false o_;have b1:(x==l)=_:=beq_eq_false_iff_ne.2 o_;exact Tg
     have bR:i=P.length:=o_;subst bR;have aH:=a.trans (f.mono W);have aD:=x1_ (HO.below f);have bX:¬(P.length<(P.length:Int)):=o_
     cases fd with
     | false=>
      have HD:=x1_ (Z.done HI);clear R U r;go_wp2;go_ret;exact⟨_,rfl,M,by rw[<- cB];exact HD,aD,aH⟩
     | true=>
      have HD:=x1_ (Z.more HI);clear R U r;have b8:Hid (wr.ownsRow w.heap.size 98 4 (.slice O m a3) m (flat (Bv 0 M))):=(by have:=aD.out;unfold Aj at this;rw[Kq,<- HM] at this;exact this);have H5:=x1_ (bO.below f);have H6:=x1_ (bY.below f);have b3:=aH.size;go_wp2_with (at_builtin;refine Hn rfl (.tmp 113) (.tmp 121) 29 rfl w.heap.size 98 i0 (.agg #[I_ 0,I_ 0,I_ 0,I_ 0]) 4 32 Tryz.underlying29 bC bQ c8 c4 rfl d_ (.slice O m a3) m (flat (Bv 0 M)) rfl (ra_ b8 _) (A_ wr.heap.size 0) 1 1 [I_ l,I_ (By M),I_ (By M+j),I_ j] rfl rfl (Am wr #[I_ l,I_ (By M),I_ (By M+j),I_ j] 98) (by intro u hu;simp at hu;rcases hu with rfl|rfl|rfl|rfl<;>rfl) d_ m_ o_ t_ ?_)
      intro v1 w1 hX;obtain⟨G,g,E,_,c7,bT,T⟩:=hX;have aJ:Ag (wr.alloc (.cells #[I_ l,I_ (By M),I_ (By M+j),I_ j] 98)) _ _ _:=ra_ H5 _;have aK:Ag (wr.alloc (.cells #[I_ l,I_ (By M),I_ (By M+j),I_ j] 98)) _ _ _:=ra_ H6 _;have aC:Aj (wr.alloc (.cells #[I_ l,I_ (By M),I_ (By M+j),I_ j] 98)) _ _ _:=ra_ aD _;have bN:=x1_ (aJ.kept g (Ym aC aJ));have c3:=x1_ (aK.kept g (Ym aC aK));have HN:Hid (Aj w1 w.heap.size v1 (Bv 0 (M++[(l,j)]))):=by show Aj _ _ _ _;rw[jt];refine Aj.more ?_;rw[Kq,<- HM];exact G
      have HS:Hid (By (M++[(l,j)])=By M+j):=show _=_ by rw[Rc];simp[By]
      have B:=(aH.alloc b3 _).grown g t_ (λq hq=>(rl_ b8 q hq).1);have cG:lenOf v1=m+1:=(by rw[T];rfl);have cE:m+1<=P.length:=(by have:=HD.len;rw[Qe,<- HM] at this;exact this);clear G g E aJ aK aC T;go_wp2;go_roundw;case rel=>exact⟨M++[(l,j)],by rw[HS]<;>go_num,⟨HD,HN,bN,c3⟩,B⟩
      case measure=>
       have e1:lenOf (Value.slice O m a3)=m:=rfl;omega
end Go.Proofs.YtfcgnpchbcmdeaaGreat
