import Derived.Test.YtfcgnpchbcmdeaaGreatZsas
open _root_ renaming Nat->H,Int->E,Bool->ZG,ByteArray->ZC,rfl->X,Option->Y0,List->U
open Option renaming some->T,none->ZP
open Go renaming Value->ZY,World->ZT
open Go.Value renaming bool->ZR,string->YW,agg->Y9,int->ZX,slice->ZH
open Array renaming size->B
open Bool renaming false->ZZ,true->Z0
open Go.World renaming cell?->ZV,frozen?->YT,ownsRow->ZD,setCell->ZO,alloc->ZN,drewN->Y1
open List renaming length->F,getD->Z,take->ZU,replicate->Y6
open Go.IntKind renaming i64->ZQ
open Or renaming inl->ZM,inr->ZJ
open Int renaming toNat->ZL
open Go.Ending renaming returned->ZI
open Decidable renaming decide->ZE
open Go.Proofs renaming intOf->ZA
namespace Go.Proofs.YtfcgnpchbcmdeaaGreat
set_option linter.all false
set_option maxRecDepth 100000
set_option maxHeartbeats 16000000
open Go.RowKit List Nat Go.World Go.Proofs.Tryz Go.Value Go.IntKind Go.Lib Go.Region
def jb(e:ZT)(a:H)(f:ZG)(c d:ZY)(b:E):Prop:=e.1[a]? =T (O_ #[ZR f,c,d,I b] 227)
def jb.cells{b a h f g e}(c:jb b a h f g e):(ZV b (J a 0)=T (ZR h)/\ZV b (J a 1)=T f/\ZV b (J a 2)=T g/\ZV b (J a 3)=T (I e))/\(∀d,YT b (J a d)=ZZ)/\a<B b.1:=
 ⟨⟨M_ 0 _ 227 (0,0) c,M_ 1 _ 227 (0,0) c,M_ 2 _ 227 (0,0) c,M_ 3 _ 227 (0,0) c⟩,λd=>R_ d _ 227 c,(Qb c).1⟩
def Bj.add{d b c a}{x:ZC}(e:ZD d b 9 1 c (F a+1) (a.map YW++[Q_ x])):Bj d b c (a++[x]):=by
 unfold Bj
 simpa using e
def lq(b:ZT)(a:H):H:=(ZV b (J a 2)).elim 0 Zej
structure WdI(i g a:ZT)(d b)(e)(f)(c):Prop where
 r:jb a d Z0 (N_) (V e b f) 0
 D:Bj a (B g.1) (V e b f) c
 y:F c=b
 u:Aa (λh=>h=d) g a
def WdI.q{j k d e f i h g c}(a:WdI j k d f i g h c)(b:E_ d e):WdI j k e f i g h c:=⟨(b.block _ a.r.cells.2.2).T a.r,a.D.q b,a.y,a.u.q b⟩
def Zjz{p:Prop}(h:p:=by
 have⟨⟨W,N,Q,b7⟩,_,_⟩:=j.r.cells;have g:jb _ _ _ _ _ 0:=j.u.g t.2.2 O;have⟨⟨a7,a8,b0,b2⟩,n,_⟩:=g.cells;have b5:=n 0;have c4:=n 1;have a4:=n 2;have c5:=n 3;have z:=t.1.T (j.u.b t.1.size (λb1 a0=>O));have l:K (jb wr (B d.1+1) ZZ (N_) (N_) 0/\Bj wr (B d.1) (V q c r) s/\E_ d wr):=(by refine⟨g,?_,z⟩;rw[<- y];exact j.D.c t.1.size);have D:c=F s:=(by rw[<- y];exact j.y.s);clear j g n z o;subst D;go_wp2;apply bodyPost_ret (v:=Y9 #[ZR Z0,N_,V q (F s) r,I 0]) (by simp[results,results238,go_sem, *]) X;have A:=Aa.h wr (B d.1+1) (ZR Z0) (N_) (V q (F s) r) (I 0)
 exact⟨q,r,X,A.M l.2.1 (λc u i=>Ag l.2.1 u l.1 C i),l.2.2.T (A.b l.2.2.size (λc u=>O))⟩):p:=h
def ZeO d3 w v d7 b m a2 a3 f M R a d (h:Xq d d3 w v a)(e5:b<v)(e6:kt a)(i1:w<=200)(h7:2<=m)(h8:m<=16)(e2:D_ d M (b*3+2) (I f))(g1:1<=f):C_ 238 #[Y9 #[L_ M v R,I m,I a2,I a3],V d3 w d7,I b] d λi g=>∃c e,i=ZI (Y9 #[ZR Z0,ZH ZP 0 0,ZH c (F (Ra (Bn a b) (Jp a) f m).c) e,ZX ZQ 0])/\Bj g (B d.1) (V c (F (Ra (Bn a b) (Jp a) f m).c) e) (Ra (Bn a b) (Jp a) f m).c/\E_ d g:=by
 have d0:=Y h;have f0:∀e∈a,0<=e.1/\e.1<=99:=λe g4=>p_ (e6 e g4).1;have⟨f5,b4⟩:=Y_ f0 h.1;have⟨s,b8⟩:=ez_ ((Ra (Bn a b) (Jp a) f m).c);rw[b8.out];have b3:K (s=(ZU _ (Wp _ _ _)).map _):=b8.out.s;have c8:K (∀c,c<=_->_):=λc u=>ZhY (L:=a) (i:=b) g1 u;have⟨p,b9⟩:=Z_ (Wp (Bn a b) (Jp a) f);rw[b9] at b3 c8
 have f4:K (∀L∈p,_):=λL a9=>by rw[<- b9] at a9;exact((Zgg.1 a9).2.2)
 have⟨x,a1⟩:=W_ (ZN (ZN (ZN d (O_ #[L_ M v R,I m,I a2,I a3] 37)) (O_ #[ZR ZZ,N_,N_,I 0] 227)) (O_ #[ZR Z0,N_,N_,I 0] 227));have d8:E_ d x:=a1 ▸ ((r_.alloc s_ _).alloc t_ _);have g5:B x.1=B d.1+1+1+1:=by rw[a1];simp
 have a6:H_ x (B d.1) #[L_ M v R,I m,I a2,I a3] 37/\jb x (B d.1+1) ZZ (N_) (N_) 0/\jb x (B d.1+1+1) Z0 (N_) (N_) 0:=by
  rw[a1];refine⟨?_,?_,?_⟩;exact((hc_ t_).T (hc_ s_)).T hn_;exact(hc_ s_).T (by have i:=ha_ (ZN d (O_ #[L_ M v R,I m,I a2,I a3] 37)) (O_ #[ZR ZZ,N_,N_,I 0] 227);simpa using i);have i:=ha_ (ZN (ZN d (O_ #[L_ M v R,I m,I a2,I a3] 37)) (O_ #[ZR ZZ,N_,N_,I 0] 227)) (O_ #[ZR Z0,N_,N_,I 0] 227)
  simpa [jb] using i
 have t:=x3_ d8 a6.1 a6.2.1;have c6:K (WdI d _ _ _ 0 _ 0 _):=⟨a6.2.2,Bj.nil,X,Aa.refl _ _⟩;have d1:=Y a1;have e4:=aJ _ _ e2;simp only at e4;clear h e6 f0 b8 a1 d8 g5 a6 e4 b9;refine q_ ?_;go_upto_region 2 with fail;rw[<- d1];clear d1;go_loopw [8] (λ_ g=>∃(c:H) (q:Y0 Addr) (r:H),c<=F p/\(c:E)<=m/\K (WdI d x g (B d.1+1+1) c q r ((ZU c p).map WS.a))) (λ_ g=>ZL m-lq g (B d.1+1+1))
 exact⟨0,ZP,0,v_,O,c6⟩;clear c6;obtain⟨c,q,r,g3,i0,o⟩:=hrel;have⟨⟨f7,f8,b6,f9⟩,_,h9⟩:=o.r.cells;have c0:=o.u.g t.2.1 O;have g9:=n_ 0 c0;have i5:=n_ 1 c0;have e1:=t.1.T (o.u.b t.1.size (λb1 a0=>O));clear c0
 by_cases g2:(c:E)<m
 ·have ⟨f2, g6⟩:=W_ wr;subst g6;have⟨k,a5⟩:=Z_ ((ZU c p).map WS.a);have c7:K (pkF k (Ua a b) f (Bn a b)=if h:c<F p then(p[c].a,p[c].g) else(⟨#[]⟩,0)):=(by rw[<- a5];exact c8 c g3);have c9:=Y a5;rw[a5] at o;clear a5;go_wp2_with fail
  go_loopw [8,9,10] (λi j g l=>∃e:H,g=ZX ZQ e/\e<=w/\i=YW (pkF k (Ua a b) f (ZU e (Bn a b))).1/\j=ZX ZQ (pkF k (Ua a b) f (ZU e (Bn a b))).2/\E_ f2 l) (λ_ _ g _=>w-ZL (ZA g))
  exact⟨0,X,v_,X,X,y_⟩;obtain⟨e,rfl,i2,rfl,rfl,P⟩:=hrel;have S:=e1.T (P.m e1.size)
  by_cases c1:e<w
  ·rcases(d0.q S).2 with h6|⟨b1,rfl,a0⟩
   omega;have⟨_,h5,h2,f6,_,d9⟩:=a0 e c1;have⟨d4,d5,d6⟩:=d9 b e5;have e3:e<F (Bn a b):=by unfold Bn;rw[length_map,b4];exact c1
   have e7:pkF k (Ua a b) f (ZU (e+1) (Bn a b))=pkS k (Ua a b) f (pkF k (Ua a b) f (ZU e (Bn a b))) (Z (Z a e oy).2 b Ax):=by have g:e<F a:=b4 ▸ c1;rw[qn e3,Zb3];congr 1;simp[Bn,Z,g]
   have a4:=Y e7;clear a0 d9 e7 e3;generalize (Z (Z a e oy).2) b Ax=L at *;generalize pkF k (Ua a b) f (ZU e (Bn a b))=g8 at *;obtain⟨Q,f3,g⟩:=L;obtain⟨n,l⟩:=g8;simp only at d4 d5 d6 ⊢;have h0:=F_ e w;have h1:=F_ b v;have c4:=Ah P b6;have⟨c5,b0⟩:=W_ (ZN wr (O_ #[ZR Q,I f3,Q_ g] 335));have a8:E_ wr c5:=b0 ▸ r_;have c3:H_ c5 (B wr.1) #[ZR Q,I f3,Q_ g] 335:=b0 ▸ hn_;have i6:=n_ 0 c3;have i7:=n_ 2 c3;have i9:=Ah a8 c4;have d2:=Y b0;have a7:=P.T (a8.m P.size);clear b0 c3;go_upto_region 9 with fail;rw[<- d2];clear d2 f6 d4 d5 d6;go_wp2_with fail
   apply (Zcb (B x.1) c r q k g ((o.q a7).D) o.y O).m;rintro i i3 ⟨rfl,e8⟩;obtain rfl:=e8.s;clear e8;have⟨b2,c2⟩:=Z_ (containsS k g);rw[c2];have b5:=Y c2;clear c2
   by_cases W:Q=Z0∨b2=Z0
   ·have y:K (pkF k (Ua a b) f (ZU (e+1) (Bn a b))=(n,l)):=by
     show _=_;rw[a4];refine aC (λh=>?_);have A:=h.1.1;have D:=h.1.2.1;simp only[b5.out] at A D
     rcases W with i|i
     rw[i] at A;cases A;rw[i] at D;cases D
    clear a4
    cases Q<;>cases b2
    ·rcases W with i|i<;>cases i
    all_goals
     go_wp2;go_roundw;exact⟨e+1,g_,O,by rw[y],by rw[y],a7⟩;exact z_
   obtain⟨rfl,rfl⟩:Q=ZZ/\b2=ZZ:=⟨by cases Q;rfl;exact absurd (ZM X) W,by cases b2;rfl;exact absurd (ZJ X) W⟩;clear W;go_wp2_with fail
   apply (Zcj (T (J b1 0)) w v d7 b a g (d0.q (S.T (a8.m S.size))) e5 f5 O).m;rintro i i4 ⟨rfl,f1,e9⟩;obtain rfl:=e9.s;clear e9;have y:K (pkF k (Ua a b) f (ZU (e+1) (Bn a b))=if f<=Ua a b g/\(l<Ua a b g∨Ua a b g=l/\Jx g n) then(g,Ua a b g) else(n,l)):=(by show _=_;rw[a4];unfold pkS lj Zfy;simp only[b5.out,true_and]);have g7:=S.T (a8.m S.size);have h3:=Ah a7 g9;have h4:=Ah g7 e2;have e0:=below_drewN a7 f1;clear a4 b5;generalize Ua a b g=j at *;go_upto_region 12 with fail;go_cut [73] (λz A=>z=ZR (ZE (f<=j/\(l<j∨j=l/\Jx g n)))/\A=Y1 c5 f1)
   case first=>
    by_cases A:f<=j
    ·by_cases D:l<j
     ·go_wp2;go_meet
      exact⟨by rw[aF (p:=_/\_) ⟨A,ZM D⟩],X⟩
     by_cases G:j=l
     ·have b7:=beq_iff_eq.2 G
      by_cases N:Jx g n
      ·have g0:Op.bytesLess g.toList n.toList=Z0:=(by rw[zk];exact aF N);have z:K (_/\(l<j∨_/\_)):=⟨A,ZJ ⟨G,N⟩⟩;clear G N;go_wp2;go_meet
       exact⟨by rw[aF z.out],X⟩
      have g0:Op.bytesLess g.toList n.toList=ZZ:=by rw[zk];exact aE N
      have z:K (¬(f<=j/\(l<j∨j=l/\Jx g n))):=λh=>by rcases h.2 with h|h;exact D h;exact N h.2
      clear G N;go_wp2;go_meet
      exact⟨by rw[aE z],X⟩
     have b7:=aO G
     have z:K (¬(f<=j/\(l<j∨j=l/\Jx g n))):=λh=>by rcases h.2 with h|h;exact D h;exact G h.1
     clear G;go_wp2;go_meet
     exact⟨by rw[aE z],X⟩
    have z:K (¬(_/\(l<j∨j=l/\Jx g n))):=λh=>A h.1;go_wp2;go_meet
    exact⟨by rw[aE z],X⟩
   obtain⟨rfl,D⟩:=hcut;obtain rfl:=D.s;clear D
   by_cases z:f<=j/\(l<j∨j=l/\Jx g n)
   ·rw[aF z];have A:K (pkF k (Ua a b) f (ZU (e+1) (Bn a b))=(g,j)):=(by show _=_;rw[y,aD z]);clear z y;go_wp2;go_roundw;exact⟨e+1,g_,O,by rw[A],by rw[A],e0⟩;exact z_
   rw[aE z];have A:K (pkF k (Ua a b) f (ZU (e+1) (Bn a b))=(n,l)):=(by show _=_;rw[y,aC z]);clear z y;go_wp2;go_roundw;exact⟨e+1,g_,O,by rw[A],by rw[A],e0⟩;exact z_
  have c2:¬e<(w:E):=O;have c3:ZU e (Bn a b)=_:=aI (by unfold Bn;rw[length_map,b4];omega);rw[c3,c7]
  by_cases G:c<F p
  ·rw[dif_pos G];have b7:=f4 _ (Qf G);have b5:K ((ZU (c+1) p).map WS.a=k++[p[c].a]):=(by show _=_;rw[Qi G,map_append,c9];rfl);generalize p[c]=L at *;obtain⟨g,d4⟩:=L;simp only at b7 ⊢;have W:(d4==0)=_:=aO O;have j:=o.q P;have⟨⟨_,_,c4,_⟩,_,d5⟩:=j.r.cells;have z:K (∀y,WdI d _ (ZN wr y) _ c _ _ k):=λy=>j.q r_;have d6:=j.u.size;have Q:=o.y
   have A:K (∀y,ZD (ZN wr y) (B x.1) 9 1 (V q c r) c (k.map YW)):=λy=>by have:=(z y).D;unfold Bj at this;rw[Q] at this;exact this
   clear j o c7;go_wp2_with (at_builtin;refine ap_ [Q_ g] (A _) ?_)
   rintro b0 b1 ⟨a7,N,_,_,d2,c5,a0⟩;have a8:=(Aa.refl _ _).grown N (λc u _=>u);have D:jb _ _ _ _ _ 0:=a8.g (z _).r (λi=>Ag (A (O_ #[] 9)) i (z _).r C X);have l:K (WdI d x (ZO b1 (J (B d.1+1+1) 2) b0) (B d.1+1+1) (c+1) (T (J d2 0)) c5 (k++[g])):=by subst a0;refine⟨ht_ 2 _ _ _ D,?_,by rw[Qe,Q];rfl,?_⟩;have i:=Bj.add (by rw[Q];exact a7);exact Am i D C;exact((z _).u.grown N (λL a9 i=>p_ (B_ (A (O_ #[] 9)) L a9).1)).setCell (p:=(J (B d.1+1+1) 2)) (λ_=>X) _
   have⟨⟨_,_,d9,_⟩,n,_⟩:=D.cells;have a4:=n 2;have i:K (lq f2 (B d.1+1+1)=c):=by show _=_;unfold lq;rw[b6];rfl
   have b2:K (lq (ZO b1 (J (B d.1+1+1) 2) b0) (B d.1+1+1)=c+1):=(by show _=_;unfold lq;rw[l.r.cells.1.2.2.1];rfl);subst a0;clear a7 N a8 D n z A c4 f7 f8 b6 f9;go_wp2;go_roundw;exact⟨c+1,_,_,O,O,b5 ▸ l⟩;rw[i,b2];omega
  rw[dif_neg G];have y:K (k=s):=(by show _=_;rw[b3,<- c9,aI O,aI O]);have j:=o.q P;exact Zjz
 have c2:=g2;have y:K ((ZU c p).map WS.a=s):=(by show _=_;rw[b3,show ZL m=c by omega]);have j:=o.out;exact Zjz
end Go.Proofs.YtfcgnpchbcmdeaaGreat
namespace Go.Proofs.YtfcgnpchbcmdeaaGreat
set_option linter.all false
set_option maxRecDepth 100000
set_option maxHeartbeats 16000000
open Go.RowKit Go.Sort List Nat Go.World Go.Proofs.Tryz Go.Value Go.IntKind Go.Lib Go.Region
section
variable {α:Type} [Inhabited α]
def Rx{g h}{c:α->Nat}(f:∀x e,c e<c x->g x e=h x e):∀a b,a<b.size->(∀d,d<a->c b[d]!<c b[a]!)->insInner g 0 a b=insInner h 0 a b
 |0,_,_,_=>rfl
 | a +1,b,j,i=>by
  unfold insInner;rw[f _ _ (i a O)];split
  ·refine Rx f a _ (by rw[Go.Sort.swp_size];omega) (λd k=>?_)
   grind [swp_other,swp_right]
  rfl
def fn e (f:α->Nat) c:∀d b,d<=c->c<b.size->(∀a,a<=c->f b[a]!<=c)->(∀a,a<=c->f (insInner e 0 d b)[a]!<=c)/\(∀a,c<a->(insInner e 0 d b)[a]! =b[a]!)/\(insInner e 0 d b).size=b.size
 |0,_,_,_,g=>⟨g,λ_ _=>rfl,rfl⟩
 | d+1,b,m,l,g=>by
  unfold insInner;split;obtain⟨i,j,k⟩:=fn e f c d (swp b (d+1) d) O (by rw[Go.Sort.swp_size];exact l) (λa h=>by grind [swp_right,swp_left,swp_other]);exact⟨i,λa h=>by rw[j a h,swp_other b _ _ a O O],by rw[k,Go.Sort.swp_size]⟩
  grind
def Ry{h f}{e:α->Nat}(l:∀x k,e k<e x->h x k=f x k) d:∀i a c,d-a=i->a<=d->c.size=d->(∀b,b<a->e c[b]!<a)->(∀b,a<=b->b<d->e c[b]! =b)->insOuter h 0 d a c=insOuter f 0 d a c
 |0,a,c,p,q,_,_,_=>by rw[insOuter.eq_1 h,insOuter.eq_1 f,aC O,aC O]
 |i+1,a,c,p,q,r,u,o=>by have g:a<d:=O;have s:=o a x_ g;rw[insOuter.eq_1 h,insOuter.eq_1 f,aD g,aD g,Rx l a c O (λb j=>w_)];have⟨m,t,n⟩:=fn f e a a c x_ O (λb j=>w_);exact Ry l d i _ _ O g (n ▸ r) (λb j=>lt_succ_of_le (m b O)) (λb j v=>w_)
end
def Ik(a:U (U ZG))(b:H):H:=Dt (Z a b [])
def ltG{m}(a:U (U ZG))(x b:Fin m):ZG:=ZE (Ik a b.val<Ik a x.val∨Ik a x.val=Ik a b.val/\x.val<b.val)
def Zq4{e b}:SWO (ltG (m:=e) b):=by
 refine⟨λa=>?_,λa f g c d=>?_,λa f g c d=>?_⟩;simp[ltG];simp only[ltG,decide_eq_true_eq] at *;omega
 grind [ltG]
def Zbt{b a}(c:a<b+1):((Js b)[a]!).val=a:=by rw[getElem!_pos (Js b) a (by simp[Js];exact c)];simp[Js]
theorem ZhT a c:insertionSort (ltOf (Vg (m:=a+1) c)) (Js a) 0 (a+1)=insertionSort (ltG c) (Js a) 0 (a+1):=by
 unfold insertionSort;refine Ry (λe f b=>?_) _ _ 1 _ X O (by simp[Js]) (λd b=>by rw[Zbt O];exact b) (λd _ b=>Zbt b)
 grind [ltF,ltG,Ik]
def ZhS a b {i j}(d:i<j)(e:j<a+1):Ik b (Z (Dp a b) j 0)<=Ik b (Z (Dp a b) i 0)/\(Ik b (Z (Dp a b) j 0)=Ik b (Z (Dp a b) i 0)->Z (Dp a b) i 0<=Z (Dp a b) j 0):=by
 have c:=(insertionSort_holds (lt:=ltG (m:=a+1) b) (Zq4) (Js a) 0 (a+1) v_ (by simp[Js]));have h:=c.1.1;have f:=c.2 i j v_ d e;have g:B (Js a)=a+1:=by simp[Js]
 grind [Dp,ltG,ZhT]
end Go.Proofs.YtfcgnpchbcmdeaaGreat
namespace Go.Proofs.YtfcgnpchbcmdeaaGreat
set_option linter.all false
set_option maxRecDepth 100000
set_option maxHeartbeats 16000000
open Go.RowKit List Nat Go.World Go.Proofs.Tryz Go.Value Go.IntKind Go.Lib Go.Region
def rc(d:U KS)(c:U (U H))(e:H)(f:U H):H×H:=f.foldl (λa b=>(if sO d c b e=Z0/\a.1=0 then a.2+Z (Z c b []) e 0 else a.1,a.2+(Z d b Aj).g)) (0,1)
def Hs(b:U KS)(a:U (U H))(c:U H)(d:H):U H:=(range d).map (λe=>(rc b a e c).1)
theorem Zbb{Ks Bb r}{a:U H}{b}(d:b<F a):rc Ks Bb r (ZU (b+1) a)=(if sO Ks Bb (Z a b 0) r=Z0/\(rc Ks Bb r (ZU b a)).1=0 then(rc Ks Bb r (ZU b a)).2+Z (Z Bb (Z a b 0) []) r 0 else(rc Ks Bb r (ZU b a)).1,(rc Ks Bb r (ZU b a)).2+(Z Ks (Z a b 0) Aj).g):=by have c:Z a b 0=a[b]:=w_;unfold rc;rw[Qi d,foldl_append,c];rfl
def ZjS{d h f j c}(n:c<j)(l:∀b,b<F d->Z (Z h b []) c ZZ=sO d f b c):∀(g:U H) a e,(∀b∈g,b<F d)->Z a.N c 0=e.1->a.off=e.2->Z (g.foldl (Al d h f j) a).N c 0=(g.foldl (λa b=>(if sO d f b c=Z0/\a.1=0 then a.2+Z (Z f b []) c 0 else a.1,a.2+(Z d b Aj).g)) e).1
 |[],a,e,_,i,_=>i
 | b::g,a,e,m,i,k=>by
  simp only[foldl_cons];refine ZjS n l _ _ _ (λp o=>m p (by simp[o])) ?_ ?_
  ·grind [Al,Zh,pi]
  show a.off+_=_;rw[k]
def ZjN{b f e a d}(k:∀c,c<a->∀g,g<F b->Z (Z f g []) c ZZ=sO b e g c)(l:∀g∈d,g<F b)(j:F (Ke b f e a d)=a):Hs b e d a=Ke b f e a d:=by apply ext_getElem;rw[j];simp[Hs];intro c m n;have h:c<a:=O;have:=ZjS h (k c h) d ⟨Y6 a 0,[],1⟩ (0,1) l w_ X;simp only[Hs,getElem_map,getElem_range];have i:(Ke b f e a d)[c]=Z (Ke b f e a d) c 0:=w_;rw[i];exact this.s
def ZdL{Ks Bb r}{b:U H}(d:∀c∈b,Z (Z Bb c []) r 0<=5000/\(Z Ks c Aj).g<=5000):∀a,a<=F b->(rc Ks Bb r (ZU a b)).1<=5000*a+5001/\(rc Ks Bb r (ZU a b)).2<=5000*a+1
 |0,_=>by simp[rc]
 | a+1,g=>by
  have⟨e,f⟩:=ZdL d a O
  grind [Zbb]
def Zb8{L a1} d e9 b7 {b} c e f (z:MkV f L a1 d c e)(A:NuV f b7 b)(d0:∀g∈b,g<F c)(h2:d<=200)(f9:F b<=1000)(a3:∀g∈b,∀a,Z (Z e g []) a 0<=5000/\(Z c g Aj).g<=5000):C_ 242 #[P_ L,V b7 (F b) e9] f λa2 h=>∃n,a2=ZI n/\Ad h (B f.1) n (An (Hs c e b d))/\E_ f h:=by
 have b3:=Y z;have b1:=K_ A d0;have⟨e4,e2⟩:=Y_ (λa k d1=>ZdL (λg A=>a3 g A a) k d1) a3;have d3:=z.i;have f3:=z.j.g;have e5:K (An (Hs c e b d)=Ct (λa=>(rc c e a b).1) d d):=(by show _=_;rw[Im];simp[An,Hs]);have⟨t,a4⟩:=Z_ (F b);have b2:=Y a4;rw[a4] at f9 ⊢;have g0:=Gm d O;clear z A d0 a4 a3;refine q_ ?_;go_wp2_with fail
 go_loopw [6] (λh i=>∃a:H,h=ZX ZQ a/\a<=d/\K (Ad i (B f.1) (ZH (T ⟨B f.1,0,ZP⟩) d d) (Ct (λa=>(((rc c e a b).1:H):E)) d a))/\K (E_ f i)) (λh _=>d-ZL (ZA h))
 case atStart=>
  refine⟨0,X,v_,?_,?_⟩;rw[In];exact Gl d f _ O x_;exact r_
 clear g0;obtain⟨a,rfl,h3,i,j⟩:=hrel;have a7:=Ah j d3;have f4:=Ah j f3
 by_cases s:a<d
 ·have f6:=F_ a d;have N:K (d=F (Ct (λa=>(rc c e a b).1) d a)):=(Fg _ O).s;have e7:=Y (Kg (λa=>(((rc c e a b).1:H):E)) s);have e8:K ((Ct (λa=>(rc c e a b).1) d a).set a 0=Ct (λa=>(rc c e a b).1) d a):=(by show _=_;unfold Ct;rw[show d-a=(d-a-1)+1 by omega,replicate_succ,set_append_right _ _ s_];simp);generalize Ct (λa=>(((rc c e a b).1:H):E)) d a=a9 at *;go_wp2_with fail
  rename_i h9;go_loopw [7,8] (λm h l=>∃k:H,h=ZX ZQ k/\k<=t/\m=ZX ZQ ((rc c e a (ZU k b)).2:H)/\K (Ad l (B f.1) (ZH (T ⟨B f.1,0,ZP⟩) d d) (a9.set a ((rc c e a (ZU k b)).1:H)))/\K (E_ f l)) (λ_ h _=>t-ZL (ZA h))
  exact⟨0,X,v_,X,by have:=i.out;rw[<- e8] at this;exact this,j⟩;clear i j a7 f4;obtain⟨k,rfl,d1,rfl,i,j⟩:=hrel
  by_cases f8:k<t
  ·have D:k<F b:=b2 ▸ f8;have q:=j.out;obtain⟨d5,rfl,S⟩:=b1.1 k D;have r:=b1.2 _ (Pp D);have g9:=e2 _ (Pp D) a;have c0:=Ah q S;have l:=b3.q q;obtain⟨a8,g4⟩:=i.c (k:=a) (by rw[length_set];exact N) s;rw[Qc,getElem?_set_self (by rw[<- N];exact s)] at a8;simp only[Option.getD_some] at a8;have h0:=e4 a k O;have b5:=Y (Zbb (Ks:=c) (Bb:=e) (r:=a) D);have⟨h6,c2,c8⟩:=l.k;obtain⟨d6,f2,g7,f1,rfl,R,b8⟩:=c8.2 (Z b k 0) (l.y ▸ r);have a6:=l.u _ (l.y ▸ r);rw[a6] at R;obtain⟨c7,rfl,b9⟩:=b8 a (a6 ▸ s);have⟨w,f0,P,W,Q,a0,c1,c3,c4,c5,c6⟩:=b3.j.z r;have G:=l.j.x _ r;have c9:=Km P Q (F (Z c (Z b k 0) Aj).e.f) (F (Z c (Z b k 0) Aj).e.c) W a0 (Z c (Z b k 0) Aj).e.a (Z c (Z b k 0) Aj).d
   have e1:K (∀y:ZT,C_ 189 #[Y9 #[ZR (Z c (Z b k 0) Aj).e.a,V P (F (Z c (Z b k 0) Aj).e.f) W,V Q (F (Z c (Z b k 0) Aj).e.c) a0,I (Z c (Z b k 0) Aj).d]] y (U_ (ZX ZQ (Z c (Z b k 0) Aj).g) y)):=λy=>by rw[<- G.g];exact c9 y G.1 G.2.1
   have b4:=Y l;have h1:=l.y;have a7:=l.i;clear c9 G l c8 a6 b8;generalize (Z c (Z b k 0) Aj).g=d4 at *;generalize (Z c (Z b k 0) Aj).e.a=g6 at *;generalize (F (Z c (Z b k 0) Aj).e.f)=g2 at *;generalize (F (Z c (Z b k 0) Aj).e.c)=g3 at *;generalize (Z c (Z b k 0) Aj).d=f5 at *;generalize (Z (Z e (Z b k 0) [])) a 0=p at *;generalize (Z b) k 0=g at *;generalize rc c e a (ZU k b)=g5 at *;obtain⟨n,o⟩:=g5;simp only at *;have f7:=F_ k t;have g8:=F_ g (F c);have h4:_=(o:E)+(d4:_):=Au O O;have h5:_=(o:E)+(p:_):=Au O O;go_wp2_with fail
   apply (b4.a r s).m;rintro a2 h7 ⟨rfl,u,g1⟩;subst g1;have⟨v,a5⟩:=Z_ (sO c e g a);rw[a5];have b6:K (rc c e a (ZU (k+1) b)=(if v=Z0/\n=0 then o+p else n,o+d4)):=(by rw[<- a5];exact b5);clear a5 b5 b4;go_upto_region 10 with fail;go_cut [49] (λm h=>m=ZR (ZE (v=Z0/\n=0))/\h=Y1 wr u)
   case first=>
    cases v<;>
     (go_wp2
      go_meet
      exact⟨by first|(simp;done)|(simp;rw[Bool.eq_iff_iff];simp),X⟩)
   obtain⟨rfl,d2⟩:=hcut;obtain rfl:=d2.s;clear d2;go_upto_if 49 with fail
   go_cut [9] (λ_ h=>K (Ad h (B f.1) (ZH (T ⟨B f.1,0,ZP⟩) d d) (a9.set a ((if v=Z0/\n=0 then o+p else n:H))))/\K (E_ f h))
   case first=>
    by_cases m:v=Z0/\n=0
    ·rw[aF m];have M:=Y m;have x:K (Below _ f (Y1 wr u)):=below_drewN q _;have d7:K (∀b0,Ad _ _ _ ((a9.set a _).set a b0)):=λb0=>(Ad.put (i.q ((below_drewN y_ u).drew)) (by rw[length_set];exact N) b0).1;clear m i;go_upto_region 11 with fail;refine Af (λh=>D_ h L 1 (L_ d6 (F e) f2)/\D_ h d5 k (I (g:H))/\D_ h d6 g (L_ c7 d f1)/\D_ h c7 a (I (p:H))) 18 k_ ⟨c2,c0,R,b9⟩ (λhHeld=>?_);refine G_ ?_;refine le_ ?_;go_wp2;go_meet
     refine⟨?_,x.out.drew.setCell x_ _⟩;rw[aD M.out];have:=d7 ((o+p:H):E);rw[set_set] at this;exact this
    rw[aE m];have M:=Y m;have x:K (Ad (Y1 wr u) _ _ _/\Below _ f (Y1 wr u)):=⟨i.q (below_drewN y_ _),below_drewN q _⟩;clear m i;go_wp2;go_meet
    exact⟨(aC M) ▸ x.1,x.2⟩
   obtain⟨e6,e3⟩:=hcut;have m:=e3.out;have x:=Ah m d3;have M:=Ah m c1;have b0:=Ah m S;have d7:=Ah m c3;have d8:=Ah m c4;have d9:=Ah m c5;have e0:=Ah m c6;clear a7 c0 c1 S c3 c4 c5 c6 c2 R b9 a8 g4 i j q;go_upto_region 12 with fail;go_region_held3 (λh=>D_ h L 0 (P_ a1)/\D_ h a1 1 (L_ w (F c) f0)/\D_ h d5 k (I (g:H))/\D_ h w (g*4) (ZR g6)/\D_ h w (g*4+1) (V P g2 W)/\D_ h w (g*4+2) (V Q g3 a0)/\D_ h w (g*4+3) (I (f5:H))) (first|exact⟨x,M,b0,d7,d8,d9,e0⟩|exact⟨Ah aA x,Ah aA M,Ah aA b0,Ah aA d7,Ah aA d8,Ah aA d9,Ah aA e0⟩) (first|(go_at_call 189;apply (e1 _).m;rintro a2 h8 ⟨rfl,h⟩;have aA:Below (B wc.1) _ _:=y_.drew.T h))
   go_wp2;go_roundw;exact⟨k+1,g_,O,by rw[b6];go_num,b6 ▸ (e6.q aA),m.T (aA.m m.size)⟩;exact z_
  have f7:¬k<(t:E):=O;have h:ZU k b=_:=aI (p_ b2.out);rw[h] at i;rw[h,e7] at *;go_wp2;go_roundw;exact⟨a+1,g_,O,i,j⟩;exact z_
 have f6:¬a<(d:E):=O;obtain rfl:a=d:=O;have h:K (Ad wr (B f.1) (L_ (B f.1) a a) (An (Hs c e b a))):=e5 ▸ i;clear i;go_wp2;go_ret;exact⟨_,X,h,j⟩
def GUn(d:U (U ZG))(c:H)(a:GS):Prop:=F a.out=c/\∀b,b<c->Z a.out b ZZ=a.fs.any (λe=>Z (Z d e []) b ZZ)
def Zo8{c a}(d:F c=F a){b}(e:b<F a):Z (orL c a) b ZZ=(Z c b ZZ||Z a b ZZ):=by grind [orL]
def GUn.add{a e b i c}(d:GUn a e c)(f:F (Z a b [])=e):GUn a e (Ve c b (Z a b []) i):=by refine⟨?_,λh g=>?_⟩;show F (orL c.out (Z a b []))=e;rw[Mg (by rw[d.1,f])];exact d.1;show Z (orL c.out (Z a b [])) h ZZ=(c.fs++[b]).any _;rw[Zo8 (by rw[d.1,f]) (f ▸ g),d.2 h g,any_append];simp
def GUn.a{b a}:GUn b a (Ju a):=⟨by simp[Ju],λd c=>by simp[Ju,Z,c]⟩
def Zeh{k b e l i h}(f:∀a∈h,GUn b e a)(j:F (Z b i [])=e):∀a∈Be k b e l h i,GUn b e a:=λa d=>by
 unfold Be at d;split at d
 ·rename_i m
  rcases mem_or_eq_of_mem_set d with g|c
  exact f a g;rw[c,Z,Qd m];exact(f _ (Qf _)).add j
 rcases mem_append.1 d with g|c
 exact f a g;simp only[mem_singleton] at c;rw[c];exact(GUn.a).add j
def ZkB{Ks b e budget k}(h:∀j,j<k+1->F (Z b j [])=e):∀(d:U H) a,(∀c∈d,c<k+1)->(∀f∈a,GUn b e f)->∀f∈d.foldl (Be Ks b e budget) a,GUn b e f
 |[],a,_,g=>g
 |c::d,a,i,g=>ZkB h d _ (λm l=>i m (by simp[l])) (Zeh g (h c (i c s_)))
def ew{a b n}(e:F a=n)(f:F b=n):Ig a b=(range n).map (λc=>Z a c ZZ&&Z b c ZZ):=by
 apply ext_getElem;simp[Ig,e,f];intro c g d;simp only[getElem_map,getElem_range]
 have h:c<n:=by simpa using d
 have:=lf (a:=a) (b:=b) O (k:=c) O
 grind
def ZdI{b g h e c f}(i:GUn g e f)(m:F (Z g c [])=e)(k:∀a,a<e->∀d,d<F b->Z (Z g d []) a ZZ=sO b h d a)(l:c<F b)(o:∀d∈f.fs,d<F b):Gd f.out (Z g c [])=clF b h f.fs c e:=by
 unfold Gd clF Dt;rw[ew i.1 m,count_eq_countP,countP_map];refine countP_congr λa n=>?_
 have j:a<e:=by simpa using n
 simp only[Function.comp_apply,beq_true];rw[i.2 a j,k a j c l,Bool.and_comm]
 grind
def Yu(e:H)(b:U KS)(a:U (U ZG))(f c d:H):U GS:=(ZU d (Dp e a)).foldl (Be b a f c) []
def Zhz{b Ks Os n budget a}(c:a<b+1):Yu b Ks Os n budget (a+1)=Be Ks Os n budget (Yu b Ks Os n budget a) (Z (Dp b Os) a 0):=by
 have d:a<F (Dp b Os):=(by rw[Lg];exact c);unfold Yu
 grind [Qi]
def Zkz a b c e d:Yu a b c e d (a+1)=Ib a b c e d:=by grind [Yu,Ib,Lg]
def Zpf{b a c d}(r:c<b+1)(k:d<b+1)(v:d ∉ ZU c (Dp b a))(u:∀e,e<b+1->e ∉ ZU c (Dp b a)->Ik a e<=Ik a d/\(e<d->Ik a e<Ik a d)):d=Z (Dp b a) c 0:=by
 have h:=cs b a;have w:=h.nodup_iff.2 nodup_range;have t:=Lg b a;have m:c<F (Dp b a):=O;have g:∀i _,Z (Dp b a) i 0=(Dp b a)[i]:=w_;have l:=h.mem_iff.2 (by simpa using k);have⟨f,n,j⟩:=aM l;have s:c<=f:=by grind [mem_iff_getElem]
 by_cases p:c=f
 ·grind
 have o:=ZhS b a (i:=c) (j:=f) O O;rw[g f n,j,g c m] at o;have x:(Dp b a)[c]<b+1:=w_
 have y:(Dp b a)[c] ∉ ZU c (Dp b a):=λq=>by grind [getElem_of_mem,getElem_inj]
 grind
def dnL(a:H)(b:U (U ZG))(d:H):U ZG:=(range (a+1)).map (λc=>ZE (c∈ZU d (Dp a b)))
def ZmE{b c d a}(e:a<b+1):Z (dnL b c d) a ZZ=ZE (a∈ZU d (Dp b c)):=by simp[dnL,Z,e]
def ZmF a b c:F (dnL a b c)=a+1:=by simp[dnL]
def ZjV a b:dnL a b 0=Y6 (a+1) ZZ:=by apply ext_getElem;simp[dnL];intro e c d;simp[dnL]
def ZmG{b Os a}(d:a<b+1):(dnL b Os a).set (Z (Dp b Os) a 0) Z0=dnL b Os (a+1):=by
 have e:a<F (Dp b Os):=(by rw[Lg];exact d);have c:Z (Dp b Os) a 0=(Dp b Os)[a]:=w_;rw[c];apply ext_getElem;simp[dnL];intro h f g;rw[getElem_set];simp only[dnL,getElem_map,getElem_range,Qi e,mem_append,mem_singleton]
 grind
end Go.Proofs.YtfcgnpchbcmdeaaGreat
