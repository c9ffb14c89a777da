import Derived.Test.YtfcgnpchbcmdeaaGreatZsao
open _root_ renaming Nat->H,Int->E,List->U,ByteArray->ZC,rfl->X,Bool->ZG,Option->Y0
open Go renaming World->ZT,Value->ZY,maxLen->Y2
open List renaming length->F,getD->Z,take->ZU,drop->ZF
open Array renaming size->B,toList->Y4
open Option renaming some->T,none->ZP
open Bool renaming false->ZZ,true->Z0
open Go.Value renaming int->ZX,bool->ZR,slice->ZH,agg->Y9,tuple->Y5,ownBlock->ZW,pointer->Y7
open Go.World renaming cell?->ZV,setCell->ZO,alloc->ZN,drew->YY,drewN->Y1,ownsRow->ZD,grownBy->Y3
open Go.IntKind renaming i64->ZQ
open Or renaming inl->ZM,inr->ZJ
open Int renaming toNat->ZL
open ByteArray renaming size->ZK
open Go.Ending renaming returned->ZI
open Go.Proofs renaming intOf->ZA
open Decidable renaming decide->ZE
namespace Go.Proofs.YtfcgnpchbcmdeaaGreat
set_option linter.all false
set_option maxRecDepth 100000
set_option maxHeartbeats 16000000
open Go.RowKit List Nat Go.World Go.Proofs.Tryz Go.Value Go.IntKind Go.Lib Go.Region
def RwP(i:ZT)(e h:H)(g:ZC)(c:U Mc)(a:E×U VS×H×E)(b:ZT):Prop:=
 ∃f d,Fl b h g a.2.2.1 a.2.2.2 f/\Hd b e f d/\d.map Mc.o=(if a.2.2.2=0 then c.map Mc.o++[(a.1,a.2.1)] else c.map Mc.o)/\Below e i b
def ZlJ{q} v {M} b r a4 c W t b4 b5 b6 {g f} d7 l (G:Fl l v c M 0 W)(g5:Hd l q W t)(g6:q<=v)(j2:M<=ZK c)(c2:Du l r 0 b g f d7)(e2:r<q)(k1:b<=4)(h5:∀a,a<b->0<=f a/\(g a=ZZ->f a<=3))(j8:F t<=1000)(a8:ZK c<=1000000000000000):C_ 236 #[P_ v,Y9 #[L_ r b a4,I b4,I b5,I b6]] l λd i=>d=ZI (Y5 #[])/\RwP l q v c t (iq c b g f M) i:=by
 have⟨u,d3⟩:=ez_ (iq c b g f M);rw[d3];have⟨f6,c4⟩:=W_ (ZN l (O_ #[L_ r b a4,I b4,I b5,I b6] 37));have g4:q<=B l.1:=p_ G.lt;have a2:E_ l f6:=c4 ▸ r_;have g8:H_ f6 (B l.1) #[L_ r b a4,I b4,I b5,I b6] 37:=c4 ▸ hn_;have⟨d6,e1⟩:=W_ (B l.1);have a0:=gh M 2 c 0 ZZ (G.q a2) O a8;have e5:=ZkX (S:=c) 0 2 ZZ j2;have⟨i3,c9⟩:=ez_ (Oh c M 0 2 ZZ);rw[c9] at a0 e5;obtain⟨m,f1,h7,f8⟩:=i3;simp only at a0 e5;have y:=K_ (G.q a2) (g5.q a2)
 have i4:K (∀a1,Below q l a1->∀a,a<b->D_ a1 r (a*3) (ZR (g a))/\D_ a1 r (a*3+1) (I (ZL (f a)))/\D_ a1 r (a*3+2) (I (d7 a))):=λa1 e0 a a7=>by have d:=c2.t a a7;have e:=c2.D a a7;have c0:=c2.G a a7;rw[Nat.zero_add] at d e c0;refine⟨(e0.cell (p:=(J r (a*3))) e2).T d,?_,(e0.cell (p:=(J r (a*3+2))) e2).T c0⟩;rw[Int.toNat_of_nonneg (h5 a a7).1];exact(e0.cell (p:=(J r (a*3+1))) e2).T e
 have g1:=Y c4;have b8:K (_/\_[d6]? =T _):=⟨a2,e1 ▸ g8⟩;have d0:=Y e1;clear c4 a2 g8 G g5 c2 e1;refine q_ ?_;go_wp2_with fail
 rw[<- g1,<- d0];apply a0.m;rintro d k3 ⟨rfl,a6,h9⟩;have d5:=K_ a6 h9;clear a6 h9 a0 g1;have d1:=ed _ _ c _ 44 _ _ d5.1 C a8;have h3:=Zgh (S:=c) (z:=f8) (b:=44) C e5.2;have⟨S,e4⟩:=Z_ (Pa c h7 f8 44);have⟨b7,h6⟩:=Z_ (Pt c h7 f8 44);rw[e4,h6] at d1;rw[e4] at h3
 have d2:K (u=if b7=0 then(m,(Vv c b g f b 0 [] S).1,(Vv c b g f b 0 [] S).2.1,(Vv c b g f b 0 [] S).2.2) else(m,[],S,b7)):=by
  show _=_;rw[<- d3];unfold iq;simp only;rw[c9]
  grind
 clear e4 h6 d3 c9;go_wp2_with fail
 apply d1.m;rintro d f7 ⟨rfl,g3,i0⟩;have⟨i2,c5⟩:=W_ (ZN f7 (O_ #[I m,N_] 338));have⟨c7,b0⟩:=W_ (B f7.1)
 have f9:K (RwI l i2 q v d6 c7 c S b7 W t #[L_ r b a4,I b4,I b5,I b6] m (N_) []):=by have e:=d5.2.T i0;have h:E_ f7 i2:=c5 ▸ r_;have i:=y.2.p e (λs j d=>Ag y.2.M j y.1 C d) (λp a9 s j d=>Ag (y.2.j p a9) j y.1 C d);have n:q<=B f6.1:=p_ y.1.lt;have k:=e.g b8.2 (λd=>by have j:=b8.2;have a6:=y.1;unfold Fl at a6;grind);refine⟨g3.q h,i.q h,(h.block _ (Qb k).1).T k,by rw[c5,b0];exact hn_,rn_,?_,g6,d0 ▸ g4,?_,λp a9 s j=>?_,λs j=>?_⟩;exact((b8.1.m g4).T (e.b n (λs j=>O))).T (h.m (p_ e.size));have:=e.size;omega;rw[b0];exact(B_ (i.j p a9) s j).2;rw[b0];exact(B_ i.M s j).2
 have d4:=K_ c5 b0;clear g3 i0 d1 c5 b0 y d5 b8 d0;go_upto_region 5 with fail;rw[<- d4.1,<- d4.2];clear d4;go_loopw [7] (λw h=>∃(a k:H) (D:E) (a5:ZY) (e:U VS),w=ZX ZQ a/\a<=b/\k<=ZK c/\K ((D=0/\F e=a/\u=(m,(Vv c b g f (b-a) a e k).1,(Vv c b g f (b-a) a e k).2.1,(Vv c b g f (b-a) a e k).2.2))∨(D≠0/\u.2.2.1=k/\u.2.2.2=D))/\K (RwI l h q v d6 c7 c k D W t #[ZH (T ⟨r,0,ZP⟩) b a4,ZX ZQ b4,ZX ZQ b5,ZX ZQ b6] m a5 e)) (λw _=>b-ZL (ZA w))
 case atStart=>
  refine⟨0,S,b7,_,[],X,v_,h3.2,?_,f9⟩
  by_cases n:b7=0
  ·grind
  exact ZJ ⟨n,by rw[d2,aC n],by rw[d2,aC n]⟩
 clear f9 d2;obtain⟨a,k,D,a5,e,rfl,a7,h1,b9,h⟩:=hrel;have⟨_,_,c0,_⟩:=h.r.cells;have g2:=M_ 0 _ _ _ h.out.cf;simp only[getElem?_toArray,getElem?_cons_zero] at g2
 by_cases L:a<b/\D=0
 ·obtain⟨L,rfl⟩:=L;have o:K (F e=a/\u=(m,(Vv c b g f (b-a) a e k).1,(Vv c b g f (b-a) a e k).2.1,(Vv c b g f (b-a) a e k).2.2)):=w_;clear b9;have d9:=F_ a b;go_upto_if 38 with fail
  go_cut [8] (λi j=>i=ZX .u8 (El a b)/\j=wr)
  case first=>
   by_cases j:a+1=b
   ·have i:K (El a b=_):=aD j;go_wp2;go_meet
    exact⟨by rw[i],X⟩
   have i:K (El a b=_):=aC j;have n:((a:_)==(b:E)-1)=_:=aO O;go_wp2;go_meet
   exact⟨by rw[i],X⟩
  obtain⟨rfl,g0⟩:=hcut;obtain rfl:=g0.s;clear g0;have⟨g9,h2,h4⟩:=i4 wr h.t a L;have R:=Ze5 (ZL (f a)) c (d7 a) h.r h1 (λd=>p_ ((h5 a L).2 d)) (dv a b) a8;have i5:=ZnW (S:=c) (g a) (ZL (f a)) (dv a b) h1;have⟨j,b1⟩:=ez_ (jn c k (g a) (ZL (f a)) (El a b));rw[b1] at R i5
  have a0:K ((j.2.2=0/\F (e++[j.1])=a+1/\u=(m,(Vv c b g f (b-(a+1)) (a+1) (e++[j.1]) j.2.1).1,(Vv c b g f (b-(a+1)) (a+1) (e++[j.1]) j.2.1).2.1,(Vv c b g f (b-(a+1)) (a+1) (e++[j.1]) j.2.1).2.2))∨(j.2.2≠0/\u.2.2.1=j.2.1/\u.2.2.2=j.2.2)):=by
   have d:Vv c b g f (b-a) a e k=if j.2.2=0 then Vv c b g f (b-(a+1)) (a+1) (e++[j.1]) j.2.1 else(e++[j.1],j.2.1,j.2.2):=by rw[show b-a=(b-(a+1))+1 by omega,Vv];rw[b1]
   by_cases n:j.2.2=0
   exact ZM ⟨n,by rw[Qe,o.1];rfl,by rw[o.2,d,aD n]⟩;exact ZJ ⟨n,by rw[o.2,d,aC n],by rw[o.2,d,aC n]⟩
  have e6:=Y o.1;clear o b1;generalize g a=j4,ZL (f a)=j3 at *;go_wp2_with fail
  apply R.m;rintro d N ⟨rfl,f4,g7⟩;have f3:=Y (h.i f4 g7);clear f4 g7 h R c0 g2 g9 h2 h4;have P:=f3.out;have j1:=(Qb P.x).1;obtain⟨⟨n,s,w⟩,i6,i7⟩:=j;have⟨A,z⟩:=W_ (ZN (ZN N (O_ #[ZR n,I s,Q_ w] 335)) (O_ #[ZR n,I s,Q_ w] 335));have a3:E_ N A:=z ▸ (r_.alloc s_ _);have i:K (RwI l _ _ _ _ _ c i6 i7 _ t _ _ _ e):=P.q a3;have a9:=Y z;have i1:_=T a5:=M_ 1 _ _ _ P.x;have h0:=e6.out;have⟨f0,e3,e8,e9,c6⟩:=info_parts ZmV;clear P z a3 f3;go_wp2_with (at_builtin;rw[<- a9];refine Dl X (.tmp 48) (.tmp 50) 336 X c7 335 f0 _ 3 32 underlying336 e3 e8 e9 c6 X C a5 (F e) (Lb e) X i.A _ 1 1 [ZR n,I s,Q_ w] X X ?_ ?_ ?_ ?_ ?_ ?_ ?_)
  have d:=one_new (ZN N (O_ #[ZR n,I s,Q_ w] 335)) #[ZR n,I s,Q_ w] 335;rw[show B (ZN N (O_ #[ZR n,I s,Q_ w] 335)).1=B N.1+1 by simp] at d;rw[a9];exact d
  ·intro c8 Q;simp at Q;rcases Q with rfl|rfl|rfl<;>rfl
  decide;unfold Y2;omega;omega;have:=(Qb i.out.x).1;omega;intro j7 b3 c3;have⟨b2,Q,d8,_,f5,f2,e7⟩:=c3.out;subst e7;have⟨c8,c1⟩:=i.out.P (x:=⟨n,s,w⟩) Q (e6.out ▸ b2);have i9:=Y c8;have h8:=M_ 1 _ _ _ c1;have j0:=R_ 1 _ _ c1;simp at h8;clear c8 c1 b2 Q d8 c3 i i1 a9;go_wp2;go_roundw
  grind
  exact z_
 by_cases n:D=0
 ·subst n;have h4:a=b:=O
  have o:K (u=(m,e,k,0)):=by
   rcases b9.out with G|G
   show _=_;rw[G.2.2,h4,Nat.sub_self,Vv];omega
  have d9:¬a<(b:E):=O;clear b9 L h4;have⟨j5,j6,j4⟩:=h.u.d
  obtain⟨N,c1,j1⟩:∃i6 i7,a5=ZH i6 (F e) i7:=by
   rcases h.out.A.2 with⟨d,i⟩|⟨R,s,w,d,_⟩
   ·grind
   grind
  subst j4 j1;have f3:=h.r.cells.2.2.2;have h8:=n_ 0 h.x;have f4:=n_ 1 h.x;obtain⟨f0,e3,e8,e9,c6⟩:=info_parts ZmW;generalize h0:F e=P at h f4;generalize h2:F t=b1 at h f3;have k0:b1<=1000:=O;have g0:=Y h2;clear h0 h2;go_upto_region 13 with fail;refine Af (λi=>ZV i _=T _/\ZV i _=T _/\ZV i _=T _) 10 k_ ⟨f3,h8,f4⟩ (λhHeld=>?_);refine G_ ?_;refine on_ 6 λKK hK=>?_;go_simp;have⟨A,z⟩:=W_ (YY (ZN wr (O_ #[I m,V N P c1] 338)));have a3:E_ wr A:=z ▸ r_.drew;have i:=Y (h.q a3);have j3:∀f1 c8,(Y4 (#[I m,V N P c1]))[f1]? =T c8->ZV A (((J (B wr.1) 0):Addr).add f1)=T c8:=z ▸ (one_new _ _ _);rw[<- z]
  have i9:_/\ZV A _=T (ZX _ m)/\ZV A _=T (V N P _):=⟨i.r.cells.2.2.2,M_ 0 _ _ _ i.x,M_ 1 _ _ _ i.x⟩;have g7:q<=B A.1:=p_ i.r.lt;clear z a3 f3 h8 f4 h;refine hK _ _ i9 (λhHeld=>?_);clear hK KK;try simp only[Act.put,setIfInBounds_toArray,set_cons_succ,set_cons_zero]
  refine on_ 7 λKK hK=>?_;refine Kn X (.tmp 62) (.tmp 64) 281 X q 338 f0 _ 2 32 underlying281 e3 e8 e9 c6 X C (V j5 b1 j6) b1 (Rw t) j_ (by have:=i.u.M;rw[g0] at this;exact this) (J (B wr.1) 0) 1 1 [I m,V N P c1] j_ X ?_ ?_ C (by unfold Y2;omega) O g7 ?_;exact j3
  ·intro c8 Q;simp at Q;rcases Q with rfl|rfl<;>rfl
  rintro j7 b3 ⟨b2,Q,d8,_,f5,f2,e7⟩;subst e7;have g9:rj A q (V N P c1) e:=(by have j:=i.A;have a6:=i.z;exact⟨j.1,j.2.imp id (λ⟨R,s,w,d,g6,a9⟩=>⟨R,s,w,d,O,a9⟩)⟩);have c3:Hd _ _ _ (t++[⟨_,e,_⟩]):=i.u.P g9 Q (by rw[g0];exact b2);have w:=(Aa.refl _ _).grown Q (λM a8 _=>a8);have R:=i.r.p w (λd=>Ag i.u.M d i.r C X);have e6:=w.g i.x (λd=>by have:=i.D c7 d;omega);have j0:_/\ZV b3 _=T (ZX _ m)/\ZV b3 _=T (V N P _):=⟨R.cells.2.2.2,M_ 0 _ _ _ e6,M_ 1 _ _ _ e6⟩;have j9:=R_ 3 _ _ R
  have i5:K (RwP l q v c t (m,e,k,0) (ZO b3 (J v 3) (L_ f5 (b1+1) f2))):=(by have i1:Aa _ _ (ZO b3 _ (L_ f5 (b1+1) f2)):=(Aa.refl (λs=>s=v) _).setCell (p:=(J v 3)) (λ_=>X) _;have k2:=w.size;refine⟨_,_,ht_ 3 _ _ _ R,c3.p i1 (λs j d=>Ag c3.M j R C d) (λp a9 s j d=>Ag (c3.j p a9) j R C d),by rw[aD X,map_append];rfl,?_⟩;exact(i.t.T (w.b g7 (λs j=>(B_ i.u.M s j).1))).T (i1.b O (λs j=>O)));clear g9 c3 w R e6 b2 Q d8 i;refine hK _ _ j0 (λhHeld=>?_);clear hK KK;refine G_ ?_;refine le_ ?_;go_wp2;go_end0;rw[o];exact⟨X,i5⟩
 have o:K (u.2.2.1=k/\u.2.2.2=D):=w_;have c6:=aO n;have i:=Y n;clear b9 L n
 by_cases L:a<b
 ·have d9:a<(b:E):=O;go_wp2;go_end0;refine⟨X,?_⟩;unfold RwP;rw[o.1,o.2];exact⟨W,t,h.r,h.u,by rw[aC i],h.t⟩
 have d9:¬a<(b:E):=O;go_wp2;go_end0;refine⟨X,?_⟩;unfold RwP;rw[o.1,o.2];exact⟨W,t,h.r,h.u,by rw[aC i],h.t⟩
def RdP(d:ZT)(g:ZC)(b:U (E×U VS)×H×E)(h:Ending)(e:ZT):Prop:=
 ∃c f a,h=ZI (P_ c)/\B d.1<=c/\Fl e c g b.2.1 b.2.2 f/\Hd e (B d.1) f a/\a.map Mc.o=b.1/\F a<=200/\E_ d e
def wk f {l} q a v w x {n i b0} d (b3:Du d l 0 f n i b0)(d7:l<d.1.size)(d0:f<=4)(d1:∀P,P<f->0<=i P/\(n P=false->i P<=3))(c9:a.size<=1000000000000000):C_ 178 #[.agg #[L_ l f q,I v,I w,I x],Q_ a] d λe b=>RdP d a (Kr a f n i (a.size+1) [] 0) e b:=by
 have⟨z,a0⟩:=ez_ (Kr a f n i (a.size+1) [] 0);rw[a0];have⟨R,N⟩:=W_ ((d.alloc (O_ #[L_ l f q,I v,I w,I x] 37)).alloc (O_ #[Q_ a,I 0,I 0,N_] 283));have⟨j,a5⟩:=W_ (d.1.size+1);have b8:Fl R j a 0 0 (N_):=(by have e:=ha_ (d.alloc (O_ #[L_ l f q,I v,I w,I x] 37)) (O_ #[Q_ a,I 0,I 0,N_] 283);rw[show(d.alloc (O_ #[L_ l f q,I v,I w,I x] 37)).1.size=d.1.size+1 by simp,<- N,<- a5] at e;exact e);have b6:H_ R d.1.size #[L_ l f q,I v,I w,I x] 37:=by grind [Below.heap_alloc,heap_alloc_new]
 have b5:E_ d R:=N ▸ (r_.alloc s_ _);have a8:K (_/\Hd R (d.1.size+1) _ _/\_/\_):=⟨b8,Hd.nil,b6,b5⟩;have y:=K_ N a5;have c0:K (∀a9,Below _ d a9->_):=λa9 c8=>b3.q c8;clear N a5 b8 b6 b5 b3;refine dl_ ?_;go_enter func178,ntmps178;go_upto_region 2 with fail;rw[<- y.1,<- y.2];go_loopw [13] (λ_ b=>∃(g h:Nat) (k:Int) (Q:Value) (c:List Mc),g<=a.size/\c.length<=200/\(k=0->a.size+1<=h+g)/\K ((k=0/\z=Kr a f n i h (c.map Mc.o) g)∨(k≠0/\z=(c.map Mc.o,g,k)))/\K (Fl b j a g k Q/\Hd b (d.1.size+1) Q c/\H_ b d.1.size #[L_ l f q,I v,I w,I x] 37/\E_ d b)) (λ_ b=>match b.cell? (J j 1),b.cell? (J j 2) with|some (.int _ c),some (.int _ e)=>if e=0 then a.size+1-c.toNat else 0|_,_=>0)
 case atStart=>exact⟨0,a.size+1,0,_,[],v_,s_,λ_=>O,.inl ⟨rfl,a0.s⟩,a8⟩
 clear a8 a0;obtain⟨g,h,k,Q,c,b7,b4,a3,D,b⟩:=hrel;have b9:=b.1.cells;obtain⟨_,c6,c7,d4⟩:=b9;have a7:=K_ c6 c7;have⟨e0,e1,a6⟩:=b.2.1.d
 by_cases a4:g<a.size/\k=0
 ·obtain⟨a4,rfl⟩:=a4;have a3:=a3 rfl;obtain⟨h,rfl⟩:∃a1,h=a1+1:=⟨h-1,O⟩;have W:K (z=Kr a f n i (h+1) (c.map Mc.o) g):=w_;have b1:g<(a.size:Int):=O
  by_cases b2:c.length=200
  ·have G:K (z=(c.map Mc.o,g,3)):=(by grind [Kr]);have c1:=R_ 2 _ _ b.1;rw[b2] at a6;subst a6;have L:K (RdP d a (c.map Mc.o,g,3) (.returned (P_ j)) (wr.setCell (J j 2) (I 3))):=(by have⟨A,S⟩:=b.1.put 3;have c2:=b.1.lt;have M:=y.2;have m:=b.2.1.p S (λp o e=>Ag b.2.1.M o b.1 C e) (λt s p o e=>Ag (b.2.1.j t s) o b.1 C e);exact⟨j,_,c,rfl,O,A,⟨⟨m.M.1,m.M.2.imp id (λ⟨r,o,p,e,a2,u⟩=>⟨r,o,p,e,O,u⟩)⟩,λt s=>⟨(m.j t s).1,(m.j t s).2.imp id (λ⟨r,o,p,e,a2,u⟩=>⟨r,o,p,e,O,u⟩)⟩⟩,rfl,b4,b.2.2.2.T (S.b O (λp o=>O))⟩);clear D W b;go_wp2;go_ret;rw[G];exact L
  have u:c.length<200:=O;have d5:((c.length:Int)==200)=_:=aO O;have o:=b.2.2.1;have c2:=n_ 0 o;have c3:=n_ 1 o;have c4:=n_ 2 o;have c5:=M_ 3 _ _ _ o;simp at c2 c3 c4 c5;have p:=ZlJ j f l q a Q c v w x b0 wr b.1 b.2.1 (p_ y.2) b7 (c0 wr b.2.2.2) O d0 d1 O c9;have G:=Zoa f n i b7;have⟨m,r⟩:=ez_ (iq a f n i g);rw[r] at p G;have d3:K (z=if m.2.2.2=0 then Kr a f n i h (c.map Mc.o++[(m.1,m.2.1)]) m.2.2.1 else(c.map Mc.o,m.2.2.1,m.2.2.2)):=(by show _=_;rw[W,Kr,aD a4,aC w_];simp only;rw[r]);subst a6;have c1:=Y u;clear D W r o b2 u;go_wp2_with fail
  apply p.m;rintro e e2 ⟨rfl,M⟩;have s:=Y M;clear M p;go_wp2;go_roundw
  case rel=>
   have⟨L,t,A,S,d2,a2⟩:=s.out;have d9:=y.2;have d6:=c1.out;have d8:=congrArg length d2;refine⟨m.2.2.1,h,m.2.2.2,L,t,G.1.2,?_,?_,?_,A,S,?_,?_⟩
   ·grind
   omega
   ·grind
   exact(a2.block _ O).T b.2.2.1;exact b.2.2.2.T (a2.m O)
  case measure=>
   obtain⟨L,t,A,_⟩:=s;rw[A.cells.2.1,A.cells.2.2.1,a7.1,a7.2]
   grind
 have G:K (z=(c.map Mc.o,g,k)):=by
  rcases D.out with e|e
  ·show _=_;have:=a3 e.1;obtain⟨h,rfl⟩:∃a1,h=a1+1:=⟨h-1,O⟩
   grind [Kr]
  exact e.2
 have L:K (RdP d a (c.map Mc.o,g,k) (.returned (P_ j)) wr):=(by have M:=y.2;have m:=b.2.1;exact⟨j,_,c,rfl,O,b.1,⟨⟨m.M.1,m.M.2.imp id (λ⟨r,o,p,e,a2,u⟩=>⟨r,o,p,e,O,u⟩)⟩,λt s=>⟨(m.j t s).1,(m.j t s).2.imp id (λ⟨r,o,p,e,a2,u⟩=>⟨r,o,p,e,O,u⟩)⟩⟩,rfl,b4,b.2.2.2⟩);clear D b
 by_cases e:k=0
 ·subst e;have b1:¬g<(a.size:Int):=O;go_wp2;go_ret;rw[G];exact L
 have b1:=aO e;go_wp2;go_ret;rw[G];exact L
def ra(h:ZT)(e d f c:H)(i j k:E)(a:ZC)(l g:E)(b:ZG):Prop:=h.1[e]? =T (O_ #[L_ d f c,I i,I j,I k,Q_ a,I l,I g,ZR b] 278)
def ra.cells{b a g h f j k l d m i e}(c:ra b a g h f j k l d m i e):(ZV b (J a 0)=T (L_ g h f)/\ZV b (J a 1)=T (I j)/\ZV b (J a 2)=T (I k)/\ZV b (J a 3)=T (I l)/\ZV b (J a 4)=T (Q_ d))/\ZV b (J a 5)=T (I m)/\ZV b (J a 6)=T (I i)/\ZV b (J a 7)=T (ZR e):=
 ⟨⟨M_ 0 _ 278 (0,0) c,M_ 1 _ 278 (0,0) c,M_ 2 _ 278 (0,0) c,M_ 3 _ 278 (0,0) c,M_ 4 _ 278 (0,0) c⟩,M_ 5 _ 278 (0,0) c,M_ 6 _ 278 (0,0) c,M_ 7 _ 278 (0,0) c⟩
def Zab{b f h e j k l m i c d a}(g:ra a b f h e j k l c m i Z0):C_ 125 #[P_ b,Q_ d] a (V_ (Y5 #[ZX ZQ 1,ZX ZQ 0]) a):=by
 have n:=g.cells.2.2.2;refine q_ ?_;go_wp2;go_ret2
 exact⟨X,X⟩
def Zca{c i m h o p q} b d {e} f a (j:ra a c i m h o p q e b d ZZ)(k:b≠0):C_ 125 #[P_ c,Q_ f] a λg n=>g=ZI (Y5 #[ZX ZQ b,ZX ZQ d])/\∃l,n=Y1 a l:=by
 have⟨_,g,l,n⟩:=j.cells;have r:=bne_iff_ne.2 k;refine q_ ?_;go_upto_region 4 with fail;go_quiet (fail);go_wp2;go_ret2
 exact⟨X,_,X⟩
def fdA(b:ZC)(a:U (E×U VS)×H×E):E×E:=if a.2.2≠0/\a.2.1<ZK b then(a.2.2,a.2.1) else(0,0)
def RfP(i:ZT)(b f g e:H)(j k l:E)(d:ZC)(a:E×E)(c:ZT):Prop:=ra c b f g e j k l d a.1 a.2 ZZ/\Aa (λh=>h=b) i c
def Zh3{a h b y L M N d e p m c5 k}(l:ra k a h b y L M N d 0 0 ZZ)(u:Du k h 0 b p m c5)(a6:h≠a)(S:h<B k.1)(d1:b<=4)(d2:∀i,i<b->0<=m i/\(p i=ZZ->m i<=3))(a5:ZK (d++e)<=1000000000000000):C_ 125 #[P_ a,Q_ e] k λQ f=>Q=ZI (Y5 #[ZX ZQ (fdA (d++e) (Kr (d++e) b p m (ZK (d++e)+1) [] 0)).1,ZX ZQ (fdA (d++e) (Kr (d++e) b p m (ZK (d++e)+1) [] 0)).2])/\RfP k a h b y L M N (d++e) (fdA (d++e) (Kr (d++e) b p m (ZK (d++e)+1) [] 0)) f:=by
 have⟨⟨_,_,_,_,a1⟩,q,n,c4⟩:=l.cells;have c6:=R_ 4 _ _ l;have e0:ZK d+(ZK e:E)<=1000000000000000:=w_;have⟨g,a3⟩:=W_ (d++e);rw[<- a3] at a5 ⊢;have⟨a8,W⟩:=W_ (ZO k (J a 4) (Q_ g));have o:Aa (λj=>j=a) k a8:=W ▸ ((Aa.refl (λj=>j=a) k).setCell (p:=(J a 4)) (λ_=>X) _);have s:ra a8 a h b y L M N g 0 0 ZZ:=W ▸ (ht_ 4 _ _ _ l);have b2:Du _ _ 0 b p m _:=⟨u.k,λc8=>Qh (u.lt c8) o.size,λi z=>by rw[<- u.t i z];simp[ZV,o.block h S a6],λi z=>by rw[<- u.D i z];simp[ZV,o.block h S a6],λi z=>by rw[<- u.G i z];simp[ZV,o.block h S a6]⟩;have d0:=Qh S o.size;have c3:=Y (λf c=>wk b y g L M N f (b2.q c) (Qh d0 c.size) d1 d2 a5)
 generalize Kr g b p m (ZK g+1) [] 0=c at *;have a0:=K_ W a3;have w:=K_ s o;clear l u b2 W a3 s o a5;refine q_ ?_;go_upto_region 6 with fail;rw[<- a0.2,<- a0.1];clear a0 a1 q n c4 c6;have b4:=w.1.cells.1;refine Af (λf=>ZV f _=T _/\ZV f _=T _/\ZV f _=T _/\ZV f _=T _/\ZV f _=T _) 9 k_ b4 (λhHeld=>?_);refine G_ ?_;refine on_ 8 λKK hK=>?_;go_simp;apply (c3 _ y_.drew).m;rintro Q d6 ⟨c0,d5,d7,rfl,d9,b6,_,_,_,b3⟩;have a4:Below (B a8.1) _ _:=y_.drew.T b3;have t:ra _ _ _ b _ _ _ _ g 0 0 _:=(a4.block _ (Qb w.1).1).T w.1;have b7:=w.2.q a4;have f:=x3_ b6 t b7;have c9:=t.cells.1;clear b6 t b7 b3 a4 w b4;go_simp;refine hK _ _ c9 (λhHeld=>?_);clear hK KK
 try simp only[Act.put,setIfInBounds_toArray,set_cons_succ,set_cons_zero]
 refine le_ ?_;have⟨_,x,r,_⟩:=f.1.cells;have⟨⟨_,_,_,_,a1⟩,q,n,_⟩:=f.2.1.cells;have a2:=R_ 5 _ _ f.2.1
 by_cases D:c.2.2=0
 ·have v:K (fdA g c=_):=aC (λl=>l.1 D);have d4:(c.2.2 !=0)=ZZ:=(by rw[D];rfl);rw[D] at r;go_upto_region 7 with fail;go_quiet (fail);go_upto_region 10 with fail;go_quiet (fail);go_wp2;go_ret2
  rw[v];exact⟨X,f.2.1,(f.2.2.drewN _).drewN _⟩
 have d4:=bne_iff_ne.2 D
 by_cases b5:c.2.1<ZK g
 ·have v:K (fdA g c=_):=aD ⟨D,b5⟩
  have d3:c0≠_:=λQ=>by have s:=f.1;have t:=f.2.1;unfold Fl at s;unfold ra at t;rw[Q,t] at s;simp at s
  go_upto_region 7 with fail;go_quiet (fail);have⟨G,A⟩:=W_ (Y1 d6 nq);have R:ra G a h b y L M N g 0 0 ZZ:=A ▸ f.2.1;have a9:Fl G c0 g c.2.1 c.2.2 d5:=A ▸ (f.1.drew _);have b8:Aa (λj=>j=a) k G:=A ▸ (f.2.2.drewN _);rw[<- A];clear x r a1 q n a2 f A;have⟨_,x,r,_⟩:=a9.cells;have⟨_,q,n,_⟩:=R.cells;have a2:=R_ 5 _ _ R;have P:=ht_ 5 _ _ (I c.2.2) R;have a7:Aa _ _ (ZO G _ (I c.2.2)):=(Aa.refl (λj=>j=a) _).setCell (p:=(J a 5)) (λ_=>X) _;have c2:=a9.p a7 d3;go_upto_region 9 with fail;generalize (ZO G) (J a 5) (I c.2.2)=c1 at *;clear x r q n a2;have⟨_,x,r,_⟩:=c2.cells;have n:=n_ 6 P;have c7:=R_ 6 _ _ P;have b1:=ht_ 6 _ _ (I ((c.2.1:H):E)) P
  have b9:Aa _ _ (ZO c1 _ (I ((c.2.1:_):_))):=(Aa.refl (λj=>j=a) _).setCell (p:=(J a 6)) (λ_=>X) _;go_upto_region 10 with fail;generalize (ZO c1) (J a 6) (I ((c.2.1:H):E))=e1 at *;have j:ra _ _ _ b _ _ _ _ g _ _ _:=b1;have⟨_,q,d8,_⟩:=j.cells;have b0:=K_ j ((b8.T a7).T b9);clear x r n c7 P b1 b8 a7 b9 a9 c2 R j;go_quiet (fail);go_wp2;go_ret2
  rw[v];exact⟨X,b0.1,b0.2.drewN _⟩
 have v:K (fdA g c=_):=aC (λl=>b5 l.2);go_upto_region 7 with fail;go_quiet (fail);go_upto_region 10 with fail;go_quiet (fail);go_wp2;go_ret2
 rw[v];exact⟨X,f.2.1,(f.2.2.drewN _).drewN _⟩
def ZdU{a d f e}(i:1<=d):fdA a (Kr a d f e (ZK a+1) [] 0)=Qs (Bt d f e RS.h (Ab a) 0):=by
 rcases Zco (S:=a) (wd:=f) (sc:=e) i with⟨j,b,_,c,_,_⟩|⟨j,b,_,c,k⟩|⟨b,h,c⟩
 rw[b];exact aC (λg=>g.1 c);rw[b];exact aC (λg=>O);rw[b];exact aD ⟨h,c⟩
structure Vn(c)(e:H->ZG)(sc ct:H->E)(b:E)(d f:H):Prop where
 j:c+1<=4
 sc:∀a,a<c+1->0<=sc a/\(e a=ZZ->sc a<=3)
 ct:∀a,a<c+1->e a=Z0->1<=ct a
 g:2<=b
 i:b<=16
 u:b<=d
 h:d<=32
 w:f<=20
def Dd(d e:ZT)(b:H->H)(c:H)(a:H):H:=if a<B d.1 then b a else if a<B e.1 then c else 99
def Ea b e a d:Ek b a (Dd b e a d):=λf c=>ZJ (by unfold Dd;rw[aD c])
def Kk{c d e b a}(f:B c.1<=a)(g:a<B d.1):Dd c d e b a=b:=by unfold Dd;grind
theorem Dy{c f b e a}(d:a<B c.1):Dd c f b e a=b a:=by unfold Dd;rw[aD d]
def InX.z{s t K c e g o l j n u q k h r i p m S}(b:InX s K c e g o l j n u q k h r i p m)(f:Aa S s t)(d:∀a,K a∨c a∨a=e∨a=g->¬S a):InX t K c e g o l j n u q k h r i p m:=
 ⟨f.g b.q (d _ (ZJ (ZJ (ZM X)))),f.g b.r (d _ (ZJ (ZJ (ZJ X)))),b.w.p f (λa w=>d a (w.elim ZM (λv=>ZJ (ZM v)))),b.t,b.u⟩
section
variable {w w':ZT} {o e:H->H} {t d yb g f m:H} {wd:H->ZG} {sc ct:H->E} {bins:E} {size budget:H} {a b:ZC} {c:ZG}
def Ol(m:H)(wd:H->ZG)(sc:H->E)(a:ZC):Except (E×H) RS:=Bt (m+1) wd sc RS.h (Ab a) 0
def Ru(w:ZT)(o:H->H)(t d m:H)(wd:H->ZG)(sc ct:H->E)(bins:E)(size budget:H)(a:ZC)(c:ZG):Prop:=
 o d=t/\d<B w.1/\((c=Z0/\∃f e,Vo w d Z0 f e)∨(c=ZZ/\∃f e,Ol m wd sc a=.error (f,e)/\Vo w d ZZ f e)∨
 (c=ZZ/\∃h K g i l k j,Ol m wd sc a=.ok h/\InX w K g d i l k j (m+1) wd sc ct bins size budget h (ZK a)/\(∀b,K b∨g b->b<B w.1/\o b=t)/\o i=t))
def Ru.z{S}(A:Ru w o t d m wd sc ct bins size budget a c)(i:Aa S w w')(u:∀b,b<B w.1->S b->o b≠t)(G:Ek w o e)(R:t≠99):Ru w' e t d m wd sc ct bins size budget a c:=by
 obtain⟨l,j,D⟩:=A
 have n:∀b,b<B w.1->o b=t->e b=t:=λb h f=>by
  rcases G b h with g|g
  omega;omega
 refine⟨n _ j l,Qh j i.size,?_⟩
 rcases D with⟨f,s,r,p⟩|⟨f,s,r,q,p⟩|⟨f,P,K,x,Q,N,z,y,q,v,h,L⟩
 exact ZM ⟨f,s,r,i.g p (λg=>u _ j g l)⟩;exact ZJ (ZM ⟨f,s,r,q,i.g p (λg=>u _ j g l)⟩);have M:=(Qb v.r).1;refine ZJ (ZJ ⟨f,P,K,x,Q,N,z,y,q,v.z i (λb k g=>?_),λb k=>⟨Qh (h b k).1 i.size,n b (h b k).1 (h b k).2⟩,n _ M L⟩)
 grind
def az(m:H)(wd:H->ZG)(sc:H->E)(a b:ZC)(c:ZG):ZC:=if c=Z0 then a else match Ol m wd sc a with
 |.error _=>a
 |.ok _=>a++b
def fdZ(m:H)(wd:H->ZG)(sc:H->E)(a:ZC)(c:ZG):E×E:=if c=Z0 then(1,0) else Qs (Ol m wd sc a)
theorem Zdz a b:Ab (a++b)=Ab a++Ab b:=by unfold Ab;rw[ByteArray.data_append];simp
def feedX(q:Vn m wd sc ct bins size budget)(y:Ru w o t d m wd sc ct bins size budget a c)(G:t≠99)(b5:ZK a+ZK b<=200000000000000):C_ 32 #[P_ d,Q_ b] w λe w'=>e=ZI (Y5 #[ZX ZQ (fdZ m wd sc (az m wd sc a b c) c).1,ZX ZQ (fdZ m wd sc (az m wd sc a b c) c).2])/\Ru w' (Dd w w' o t) t d m wd sc ct bins size budget (az m wd sc a b c) c/\Aa (λg=>o g=t) w w':=by
 have z:=y;obtain⟨A,D,a1⟩:=y;have P:∀v,_->_->_/\_:=λv L a9=>⟨(q.sc v L).1,(q.sc v L).2 a9⟩;have a5:=q.j
 rcases a1 with⟨e,l,k,s⟩|⟨e,l,k,i,s⟩|⟨e,x,K,b3,b2,b0,a0,W,i,Q,M,a6⟩
 subst e;apply (Zbj s).m;rintro e w' ⟨rfl,rfl⟩;have j:az m wd sc a b Z0=a:=rfl;rw[j];exact⟨X,z.z (S:=λ_=>False) (Aa.refl _ _) (λ_ _ e=>e.elim) (Ea _ _ _ _) G,Aa.refl _ _⟩;subst e;have g:=Nm _ _ _ i;apply (ZdV l k s g).m;rintro e w' ⟨rfl,h,rfl⟩;have j:az m wd sc a b ZZ=a:=(by unfold az;rw[i];rfl);have p:fdZ m wd sc a ZZ=(l,(k:E)):=(by unfold fdZ;rw[i];rfl);have f:E_ w _:=below_drewN y_ h;rw[j,p];exact⟨X,z.z (S:=λ_=>False) (.a f) (λ_ _ e=>e.elim) (Ea _ _ _ _) G,.a f⟩
 subst e;have j:az m wd sc a b ZZ=a++b:=by unfold az;rw[i];rfl
 have r:Ol m wd sc (a++b)=Bt (m+1) wd sc x (Ab b) (ZK a):=(by grind [Ol,Zdz,Kt,Ci]);have p:fdZ m wd sc (a++b) ZZ=Qs (Bt (m+1) wd sc x (Ab b) (ZK a)):=(by unfold fdZ;rw[r];rfl);rw[j,p];apply (Zj4 Q (Ja.a O P _ (Ja.h O) i) O a5 P O).m;rintro e w' ⟨rfl,n,u⟩;have a8:=(Qb Q.r).1
 have a7:=u.m (λg _ h=>by
  rcases h with f|f|f
  exact(M g (ZJ f)).2;subst f;exact A
  grind)
 refine⟨X,⟨(Dy D).T A,Qh D u.size,?_⟩,a7⟩
 cases h:Bt (m+1) wd sc x (Ab b) (ZK a) with
 | error f=>
  obtain⟨l,k⟩:=f;rw[h] at n;exact ZJ (ZM ⟨X,l,k,by rw[r,h],n⟩)
 | ok b1=>
  rw[h] at n;obtain⟨R,a3,b4⟩:=n;have b6:ZK (a++b)=_:=ByteArray.size_append;refine ZJ (ZJ ⟨X,b1,K,R,b2,b0,a0,W,by rw[r,h],w_,λg a4=>?_,(Dy a8).T a6⟩)
  have N:g<B w'.1:=by
   have⟨b7,b9,c0,b8,a2⟩:=a3.w
   rcases a4 with f|f
   exact Qh (M g (ZM f)).1 u.size;exact a2.S g f
  refine⟨N,?_⟩
  by_cases a2:g<B w.1
  ·grind [Dy]
  exact Kk O N
end
def lenOf:ZY->H
 |.slice _ a _=>a
 |_=>0
def Ad.a{d i h b}(f:Ad d i h b):∃e j,h=ZH e (F b) j/\∀a,a<F b->∃c,e=T ⟨c,0,ZP⟩/\c<B d.1/\ZV d (J c a)=T (I (Z b a 0)):=by
 rcases f.2 with⟨rfl,o⟩|⟨l,k,n,rfl,p,m,q⟩
 ·grind
 refine⟨T _,k,X,λa g=>⟨l,X,(Qb m).1,?_⟩⟩;rw[World.ownsRow.cellAt f a (by simp;exact g)];simp[g]
def Ai.a{c h f a}(j:Ai c h f a):∃e i,f=ZH e (F a) i/\∀d g,a=d++[g]->∃b,e=T ⟨b,0,ZP⟩/\b<B c.1/\ZV c (J b (F d*4))=T (I g.v):=by
 rcases j.2 with⟨rfl,n⟩|⟨m,k,l,rfl,o,p,q⟩
 ·grind
 grind [Ai.at]
def ev{d b c a e i}(h:Ai d b c e)(g:Ad d b a i):ZW a=ZP∨ZW a≠ZW c:=by
 rcases g.2 with⟨rfl,_⟩|⟨n,j,l,rfl,_,p,_⟩
 exact ZM X
 rcases h.2 with⟨rfl,_⟩|⟨o,k,m,rfl,_,q,_⟩
 exact ZJ (by simp[ZW]);refine ZJ λf=>?_;simp[ZW] at f
 grind
def Kx.b{b k d g e f}(j:∀a∈b,1<=a.2/\a.2<=1000)(h:Kx b k d g e f):0<=f/\f<=1000*F b:=by
 cases g with
 |false=>obtain⟨_,l,_⟩:=h.j X;omega
 | true=>
  have⟨_,_,l⟩:=h.l X;have i:∀a∈ZU d b,_:=λa c=>(j a (aL c)).1;have m:=Zv i e;have n:=ZlQ i e;have o:=Uz (ps:=ZU d b) (λa c=>(j a (aL c)).2)
  grind
def Kb.b{d c}(g:∀a∈d,1<=a.2/\a.2<=1000)(e:Kb d c):0<=Bv c/\Bv c<=1000*F d:=by have f:=λa b=>(g a b).1;have i:=Zar f e.f;have j:=Zt e.g;have k:=Uz (ps:=d) (λa b=>(g a b).2);have h:=(Rj (M:=c) (λa b=>(e.g a b) ▸ (Zv f _)) 0).2;simp[Bv] at h;omega
def Zd3{M x}:(F M=0/\Ez M x=Z0)∨∃b a,M=b++[a]/\Ez M x=ZE (a.1<x):=by
 rcases eq_nil_or_concat M with c|⟨b,a,c⟩
 subst c;exact ZM ⟨X,X⟩;rw[concat_eq_append] at c;subst c;exact ZJ ⟨b,a,X,Wr b a x⟩
def pd a b:Bo 0 (a++[b])=Bo 0 a++[⟨b.1,Bv a,Bv a+b.2,b.2⟩]:=by rw[Zk];simp[Bo]
def na{b e}(f:E_ b e){a d}(c:ZV b a=T d):ZV e a=T d:=(f.cell (aJ b a c)).T c
def Ad.g{e b c h a d f i x g}{m:Prop}(l:Ad e c d i)(k:Bl h d)(j:ZD b c 3 1 a (F f+1) (f.map (ZX ZQ)++[I x])/\Y3 e b (ZW h)/\(ZW a=ZW h∨ZW a=T g/\Below g e b)/\m)(n:B e.1=g:=by simp):Ad b c a (f++[x])/\Ad b c d i/\Bl a d:=
 ⟨Ad.P j.1,l.kept j.2.1 k.a,k.b l w_⟩
def Kx.i{a d b h c i}(f:Kx a d b h c i)(g:b<F a):(Ez d a[b].1=ZZ/\((h=ZZ/\K (Kx a d (b+1) ZZ c i))∨(h=Z0/\((a[b].1==c)=Z0/\K (Kx a d (b+1) Z0 c (i+a[b].2))∨(a[b].1==c)=ZZ/\K (Kx a d (b+1) Z0 c i)))))∨(Ez d a[b].1=Z0/\(a[b].1==a[b].1)=Z0/\((h=ZZ/\K (Kx a d (b+1) Z0 a[b].1 a[b].2))∨(h=Z0/\(ZE (a[b].1<c)=Z0/\K (Kx a d (b+1) Z0 a[b].1 a[b].2)∨ZE (a[b].1<c)=ZZ/\((a[b].1==c)=Z0/\K (Kx a d (b+1) Z0 c (i+a[b].2))∨(a[b].1==c)=ZZ/\K (Kx a d (b+1) Z0 c i)))))):=by
 cases j:Ez d a[b].1<;>cases h
 exact ZM ⟨X,ZM ⟨X,f.d g (λ_=>j) nofun⟩⟩
 ·refine ZM ⟨X,ZJ ⟨X,?_⟩⟩
  by_cases e:a[b].1=c
  exact ZM ⟨beq_iff_eq.2 e,f.c g e⟩;exact ZJ ⟨aO e,f.d g nofun λ_=>⟨e,λk=>w_⟩⟩
 exact ZJ ⟨X,s_,ZM ⟨X,f.a g j (ZM X)⟩⟩;refine ZJ ⟨X,s_,ZJ ⟨X,?_⟩⟩
 rcases Int.lt_trichotomy a[b].1 c with e|e|e
 exact ZM ⟨aF e,f.a g j (ZJ e)⟩;exact ZJ ⟨aE O,ZM ⟨beq_iff_eq.2 e,f.c g e⟩⟩;exact ZJ ⟨aE O,ZJ ⟨aO O,f.d g nofun λ_=>⟨O,λ_=>O⟩⟩⟩
def Tq{b2 b3 m} c5 r wc e f k (P:Ck k b2 m e)(Q:Ck k b3 r f)(e3:m<=2097152)(e4:r<=2097152):C_ 115 #[V b2 m c5,V b3 r wc] k λn a=>∃h c,n=ZI h/\Ej (Ao e f) c/\Ai a (B k.1) h (Bo 0 c)/\E_ k a:=by
 have L:=Lh e f;rw[P.1,Q.1] at L;have s:=x3_ L P Q;clear P Q L;refine dl_ ?_;go_enter func115,ntmps115;go_wp2_with fail
 go_loopw [5,6,7] (λc l h a=>∃b:H,b<=m/\b<=r/\h=ZX ZQ b/\K (Ad a (B k.1) c ((ZU b (Ao e f)).map Prod.fst)/\Ad a (B k.1) l ((ZU b (Ao e f)).map Prod.snd)/\Bl c l)/\E_ k a) (λ_ _ h _=>m-ZL (ZA h))
 case atStart=>exact⟨0,v_,v_,X,⟨Ad.nil,Ad.nil,ZM X⟩,y_⟩
 obtain⟨b,d9,e0,rfl,a,p⟩:=hrel;have a7:=p.size
 by_cases c2:b<m/\b<r
 ·obtain⟨D,G⟩:=c2;have d:b<F (Ao e f):=p_ s.1;have t:K ((ZU (b+1) (Ao e f)).map Prod.fst=(ZU b (Ao e f)).map Prod.fst++[Ey (Z e b 0)]/\(ZU (b+1) (Ao e f)).map Prod.snd=(ZU b (Ao e f)).map Prod.snd++[Kd (Z f b 0)]):=by rw[Qi d,vm d,map_append,map_append];exact⟨X,X⟩
  have a6:F ((ZU b (Ao e f)).map Prod.fst)<=2097152:=t_;have a8:F ((ZU b (Ao e f)).map Prod.snd)<=2097152:=t_;rcases s.2.1 with⟨_,_,l|⟨o,a9,rfl,a2,l⟩⟩;omega;rcases s.2.2 with⟨_,_,n|⟨a1,b0,rfl,a4,n⟩⟩;omega;have W:=na p (l b D);have a0:=na p (n b G);have S:=F_ b m;have u:=F_ b r;clear l n d;generalize (ZU b (Ao e f)).map Prod.fst=N,(ZU b (Ao e f)).map Prod.snd=R,Z e b 0=j,Z f b 0=q at *;go_upto_if 34 with fail
  go_cut [8] (λh g=>h=ZX ZQ (ZgX j)/\wr=g)
  case first=>by_cases i:1000000000<j<;>(go_wp2;go_meet;exact⟨by simp[ZgX,i]<;>omega,X⟩)
  obtain⟨rfl,rfl⟩:=hcut;go_upto_if 36 with fail
  go_cut [8] (λh g=>h=ZX ZQ (Ey j)/\wr=g)
  case first=>by_cases i:ZgX j< -1000000000<;>(go_wp2;go_meet;exact⟨by simp[ZdC,i]<;>omega,X⟩)
  obtain⟨rfl,rfl⟩:=hcut;go_upto_region 12 with fail;go_cut [46] (λh g=>h=ZR (ZgS q)/\wr=g)
  case first=>
   by_cases i:q<1
   ·go_wp2;go_meet
    exact⟨by simp[ZgS,i],X⟩
   by_cases c:1000<q<;>(go_wp2;go_meet;exact⟨by simp[ZgS,i,c],X⟩)
  obtain⟨rfl,rfl⟩:=hcut;have i:=Y (ZdD q);generalize ZgS q=x at *;go_upto_if 46 with fail
  go_cut [9] (λh g=>h=ZX ZQ (Kd q)/\wr=g)
  case first=>cases x<;>(go_wp2;go_meet;exact⟨by rw[i];rfl,X⟩)
  obtain⟨rfl,rfl⟩:=hcut;generalize Ey j=g,Kd q=y at *;go_wp2_with (at_builtin;refine ap_ [I g] (a.1.q r_) ?_)
  intro a3 a5 h;have A:=(p.alloc a7 _).grown h.2.1 t_ (λw v=>(B_ a.1 w v).1);replace a:=Y ((a.2.1.q r_).g a.2.2 h);have M:=A.size;clear h;go_wp2_with (at_builtin;refine ap_ [I y] (a.2.1.q r_) ?_)
  intro b1 b4 c;have z:=(A.alloc M _).grown c.2.1 t_ (λw v=>(B_ a.2.1 w v).1);replace a:=Y ((a.1.q r_).g a.2.2.s c);clear c;refine J_ ?_;exact⟨b+1,O,O,g_,⟨t.1 ▸ a.2.1,t.2 ▸ a.1,a.2.2.s⟩,z⟩
 go_upto_region 4 with fail;go_cut [26] (λh g=>h=ZR ZZ/\wr=g)
 case first=>
  by_cases d:b<m
  ·have u:=F_ b m;have c:¬b<(r:E):=O;go_wp2;go_meet
   exact⟨u_,X⟩
  have u:¬b<(m:E):=O;go_wp2;go_meet
  exact⟨u_,X⟩
 obtain⟨rfl,rfl⟩:=hcut;rw[aI (p_ s.1)] at a;have y:K (∀t∈Ao e f,_):=λt c4=>(Jm c4).1;have b9:F (Ao e f)<=2097152:=p_ s.1;clear s;have⟨d,W⟩:=ez_ (Ao e f);rw[W] at a y b9
 rename ZT=>wr1
 go_wp2_with fail
 go_loopw [10,11] (λh o g=>∃c,o=ZX ZQ (Bv c)/\K (Kb d c/\Ai g (B k.1) h (Bo 0 c)/\Ad g (B k.1) u5 (d.map Prod.fst)/\Ad g (B k.1) u6 (d.map Prod.snd))/\E_ k g) (λh _ _=>F d-lenOf h)
 case atStart=>exact⟨[],X,⟨Kb.nil d,Ai.nil _ _,a.1,a.2.1⟩,p⟩
 clear a p a7;obtain⟨c,rfl,a,p⟩:=hrel
 rename ZT=>wo
 have d8:=a.1.b y;have c3:=a.1.y;have⟨b5,d0,a9,c0⟩:=a.2.2.1.a;have⟨b6,d1,b0,c1⟩:=a.2.2.2.a;have⟨b4,c9,a8,a2⟩:=a.2.1.a;rw[length_map] at a9 b0;rw[Pw] at a8
 have D:K (∀g a4,(∃h,b5=T ⟨h,0,ZP⟩/\h<B wo.1/\ZV wo (J h g)=T (I d[g].1))/\∃h,b6=T ⟨h,0,ZP⟩/\h<B wo.1/\ZV wo (J h g)=T (I d[g].2)):=λg a4=>w_
 have x:K (∀j,(F c=0/\Ez c j=Z0)∨∃o h A,F c=o+1/\b4=T ⟨h,0,ZP⟩/\h<B wo.1/\ZV wo (J h (o*4))=T (I A)/\Ez c j=ZE (A<j)):=λj=>by
  rcases Zd3 (M:=c) (x:=j) with i|⟨l,t,o,q⟩
  exact ZM i;have⟨h,n,a1,v⟩:=a2 (Bo 0 l) ⟨t.1,Bv l,Bv l+t.2,t.2⟩ (by rw[o,pd]);exact ZJ ⟨F l,h,t.1,by rw[o];simp,n,a1,by rw[Pw] at v;exact v,q⟩
 clear c0 c1 a2;subst a9 b0 a8;have⟨b1,G⟩:=ez_ (F c);rw[G] at x a c3 ⊢;go_wp2_with fail
 go_loopw [12,13,14,15] (λq o l h u=>∃(z:ZG) (n i:E) (g:H),q=ZR z/\o=ZX ZQ n/\l=ZX ZQ i/\h=ZX ZQ g/\g<=F d/\K (Kx d c g z n i)/\E_ wo u) (λ_ _ _ h _=>F d-ZL (ZA h))
 case atStart=>exact⟨ZZ,0,0,0,X,X,X,X,v_,Kx.h d c,y_⟩
 obtain⟨z,n,i,g,rfl,rfl,rfl,rfl,a4,u,l⟩:=hrel;have e1:=u.b y
 by_cases N:g<F d
 ·obtain⟨⟨c6,rfl,d6,M⟩,c7,rfl,d7,R⟩:=D g N;have a3:=x d[g].1;have a6:=u.i N;have e2:=y _ (Qf N);have c8:=F_ g (F d);have S:=na l M;have a0:=na l R;clear D u x;generalize d[g].2=q,d[g].1=j at *;generalize Ez c j=b7 at *;go_upto_region 24 with fail;go_cut [16] (λh wy=>h=ZR b7/\E_ wr wy)
  case first=>
   clear a6
   rcases a3 with⟨a5,rfl⟩|⟨o,h,A,rfl,rfl,a1,v,w⟩
   ·have b8:=aF a5;subst a5;go_big_quiet (fail);go_wp2;go_meet
    exact⟨X,below_drewN y_ _⟩
   have d2:=na l v;replace w:=Y w;clear v;have b8:((o:E)+1==0)=_:=aO O;have d3:o<(o:E)+1:=O;have d4:0<=(o:E):=O;have d5:o+1-1=(o:E):=O;go_big_quiet (fail);go_wp2;go_meet
   exact⟨by rw[w],below_drewN y_ _⟩
  obtain⟨rfl,v⟩:=hcut
  rename ZT=>wy
  have w:=bt_ l v;have a5:=na v S;have b8:=na v a0;clear S a0 v l a3 M R
  rcases a6 with⟨rfl,⟨rfl,h⟩|⟨rfl,⟨o,h⟩|⟨o,h⟩⟩⟩|⟨rfl,a1,⟨rfl,h⟩|⟨rfl,⟨o,h⟩|⟨A,⟨o,h⟩|⟨o,h⟩⟩⟩⟩
  all_goals
   go_wp2_with fail
   go_roundw;case rel=>exact⟨_,_,_,g+1,X,X,g_,g_,O,h,w⟩
   case measure=>exact z_
 obtain rfl:g=F d:=O;have M:=bt_ p l;have a6:=Int.lt_irrefl (F d);clear D x
 cases z
 ·have⟨o,h⟩:=Y_ (a.1.h u) (a.2.1.q l);go_wp2;go_ret;exact⟨_,X,c,W ▸ o,h,M⟩
 have o:=Y (a.1.P u);have R:K (F (Bo 0 c)=b1):=(by show _=_;rw[Pw];exact G);have b7:F (Bo 0 c)<=2097152:=(by rw[R];omega);replace a:=x3_ (a.2.1.q l) (a.2.2.1.q l) (a.2.2.2.q l);have a1:=M.size;go_wp2_with (at_builtin;refine ap_ [I n,I (Bv c),I (Bv c+i),I i] (a.1.alloc _) ?_)
 intro a3 a5 h;have q:=a.1.alloc (O_ #[I n,I (Bv c),I (Bv c+i),I i] 98);have S:=x3_ (Ai.P h.1 (x:=⟨n,Bv c,Bv c+i,i⟩)) (Ad.kept (ra_ a.2.1 _) h.2.1 (ev q (ra_ a.2.1 _))) (Ad.kept (ra_ a.2.2 _) h.2.1 (ev q (ra_ a.2.2 _)));rw[<- pd c (n,i)] at S
 have a0:K (Bv (c++[(n,i)])=Bv c+i):=show _=_ by rw[Tx];simp[Bv]
 have A:=(M.alloc a1 _).grown h.2.1 t_ (λw v=>(a.1.lt w v).1);obtain⟨b8,v,rfl⟩:=h.2.2.2.2;have w:b1+1<=F d:=(by have:=o.y;rw[Qe,G] at this;exact this);clear h q;go_wp2;go_roundw;case rel=>exact⟨c++[(n,i)],by rw[a0]<;>go_num,⟨o,S⟩,A⟩
 case measure=>
  have:=R.out;simp[lenOf];omega
def gd{c e a d}(f:e=min (a+d) c){b:U E}(g:F b=c):ZU (e-a) (ZF a b)=ZU d (ZF a b):=by grind [take_of_length_le]
def Zcg f7 g0 {d:H}(a3 a4:H){a:H}{j f o}(b4:Ck o f7 d j)(d4:Ck o g0 d f)(l5:d<=1000)(k6:d<=a3)(k7:d<=a4)(f1:2<=a)(i5:a<=32):C_ 289 #[V f7 d a3,V g0 d a4,I a] o λr p=>∃n,r=ZI n/\Ai p (B o.1) n (Dw a j f)/\E_ o p:=by
 have⟨e1,e2⟩:=Y_ b4 d4;have b9:=K_ b4.1 d4.1;have g6:K (Dw a j f=skF a [] (skB a d [] j f)):=(by show _=_;rw[<- Zir f1 j f (by rw[b4.1,d4.1]),b4.1]);rw[g6];refine q_ ?_;go_wp2_with fail
 go_loopw [7,8] (λh e g=>∃(b G:H) (c:U Hy),e=ZX ZQ b/\b<=d+a/\K (jc g (B o.1) h c/\Xn b c/\Aw (c.map Hy.L)<=1000*(b:E)/\F c<=b/\d-b<=G/\skB a G (c.map Hy.o).reverse (ZF b j) (ZF b f)=skB a d [] j f)/\E_ o g) (λ_ e _=>d+a-ZL (ZA e))
 exact⟨0,d,[],X,v_,⟨jc.nil,Xn.nil,by simp[Aw],s_,O,X⟩,y_⟩;obtain⟨b,G,c,rfl,k8,A,c6⟩:=hrel;have d1:=c6.size
 by_cases k9:b<d
 ·rcases e1.out with⟨_,_,h6|⟨h0,j3,rfl,i0,_⟩⟩;omega;rcases e2.out with⟨_,_,h6|⟨h1,j4,rfl,N,_⟩⟩;omega;have⟨s,b3⟩:=W_ (min (b+a) d);go_upto_if 27 with fail
  go_cut [9] (λn e=>n=ZX ZQ s/\e=wr)
  case first=>
   by_cases a1:b+a<=d
   ·have Q:s=b+a:=O;have e:¬d<b+(a:E):=O;subst Q;go_wp2;go_meet
    exact⟨g_,X⟩
   have Q:s=d:=O;clear b3;subst Q;go_wp2;go_meet
   exact⟨X,X⟩
  obtain⟨rfl,i7⟩:=hcut;obtain rfl:=i7.s;have l2:b<=(s:E):=O;have l3:s<=(a3:E):=O;have l4:s<=(a4:E):=O;have l6:¬a3=b:=O;have l7:¬a4=b:=O
  have h7:K (∀e:ZT,E_ o e->C_ 115 #[V (T (J h0 (j3+b))) (s-b) (a3-b),V (T (J h1 (j4+b))) (s-b) (a4-b)] e λr p=>∃n,r=ZI n/\Ai p (B e.1) n (Ko (ZU a (ZF b j)) (ZU a (ZF b f)))/\E_ e p):=by intro e g;have h:=(Uo e1 g i0).i (fr:=b) (m:=s-b) O;have k:=(Uo e2 g N).i (fr:=b) (m:=s-b) O;rw[gd b3 b9.1] at h;rw[gd b3 b9.2] at k;apply (Tq _ _ _ _ _ e h k O O).m;rintro r p ⟨n,M,rfl,l,q,m⟩;refine⟨n,X,?_,m⟩;unfold Ko;rw[ZcK l];exact q
  have⟨L,b2,f3,e9,e6,t⟩:=A.out;have i2:F (ZU a (ZF b j))<=a:=t_;have f2:=kc (vs:=ZU a (ZF b j)) (ws:=ZU a (ZF b f)) O;obtain⟨R,e5⟩:∃R,G=R+1:=⟨G-1,O⟩;have⟨a8,W⟩:=W_ (skT a 0 (Ko (ZU a (ZF b j)) (ZU a (ZF b f))) (c.map Hy.o).reverse);have d9:K (skB a R a8 (ZF (b+a) j) (ZF (b+a) f)=skB a d [] j f/\d-(b+a)<=R):=by refine⟨?_,O⟩;rw[<- t,e5,W];simp only[skB];rw[aC t_,drop_drop,drop_drop]
  have⟨f6,d2⟩:=Z_ (Aw (c.map Hy.L)+Ae (Ko (ZU a (ZF b j)) (ZU a (ZF b f))));have k5:f6<=1000*(b+a:H):=O;have g7:K (SkI _ _ a8 _ c _ 0 _):=⟨b2,λ_ _=>v_,f2.1,O,d2,x_,ZM ⟨X,W⟩,O⟩;obtain⟨a0,a1,rfl⟩:=L.d;have e0:=Y L;clear L b2 f3 e6 t i2 f2 d2 e5 W A b3;generalize Ko (ZU a (ZF b j)) (ZU a (ZF b f))=f5 at *;go_upto_region 8 with fail;go_cut [10] (λn e=>∃x y,n=Y7 (T ⟨x,0,ZP⟩)/\B wr.1<=x/\K (LvB e x 0 y/\Ai e (B wr.1) y f5/\E_ wr e))
  case first=>
   go_region_held3 (λ_=>True) (trivial) (first|(go_at_call 115;refine(h7.out _ (by repeat(first|assumption|with_reducible apply Below.drew|(refine Below.alloc ?_ O _)))).m ?_;rintro r f8 ⟨y,rfl,g,e⟩;obtain⟨k,l,rfl⟩:=g.d;(try(have c2:LvB _ _ 0 _:=(e.block _ s_).T hn_;obtain⟨g1,g2,j8,j9,_⟩:=c2.cells))))
   all_goals go_wp2
   all_goals go_meet
   exact⟨_,_,X,by have:=e.size;simpa using this,hn_,g.alloc _,(y_.drew.T e).alloc (by have:=e.size;simpa using this) _⟩;have h:=e.size;simp at h;refine⟨_,_,X,x_,c2.c (M:=0),c2.D (g.m s_) (LvB.a),?_⟩;exact((r_.drew.T (e.m s_)).setCell x_ _).setCell x_ _
  obtain⟨x,j5,rfl,e7,a7⟩:=hcut;obtain⟨d8,i9⟩:∃d8,d8=wr:=⟨wr,X⟩;subst i9;have g3:=Y a7.2.2;have b7:=x3_ (e0.q a7.2.2) a7.1 (a7.2.1.m d1)
  have g5:K (∀d z,ZW (ZH a0 d a1)=T z->z≠x):=λd z a2=>by have:=(B_ e0.M.M z (by cases a0<;>exact a2)).2;omega
  go_wp2_with fail
  go_loopw [7,11] (λe m f=>∃(l k:H) (g:U Hy) (h:U Cd) (y:ZY),m=ZX ZQ ((l:E)-1)/\e=ZH a0 (F g) a1/\F g<=b/\l<=F g/\K (jc f (B o.1) (ZH a0 (F g) a1) g/\LvB f x k y/\Ai f (B o.1) y h/\SkI a b a8 f6 g l k h)/\K (E_ d8 f)) (λ_ m _=>ZL (ZA m+1))
  exact⟨F c,0,c,f5,j5,g_,X,e9,x_,⟨b7.1,b7.2.1,b7.2.2,g7⟩,g3⟩;obtain⟨l,k,g,h,y,rfl,rfl,i4,i3,q,a6⟩:=hrel
  by_cases c7:l=0
  ·subst c7;have⟨S,Q,D,m⟩:=q.out;have⟨a9,W⟩:=m.a;obtain⟨e,w,rfl⟩:=D.d;have⟨d6,d7,_,_,e8⟩:=Q.cells;have P:=c6.T (a6.m d1);have p:K (∀u,jc (ZN wr u) _ _ _/\Ai (ZN wr u) _ _ h):=λu=>⟨S.q r_,D.alloc _⟩;have r:K (Xn (b+a) (g++[⟨k,h,V e (F h) w⟩])/\Aw ((g++[(⟨k,h,V e (F h) w⟩:Hy)]).map Hy.L)<=1000*(b+a:H)/\((g++[(⟨k,h,V e (F h) w⟩:Hy)]).map Hy.o).reverse=a8):=(by refine⟨m.ok.P m.j m.y a9 O (by have:=m.l;simp only;omega),?_,?_⟩;have d2:=m.q;rw[map_append,Ku];simp only[map_cons,map_nil,Aw];omega;rw[W,map_append,reverse_append];rfl);generalize b8:F h=b5 at *;go_wp2_with (at_builtin;refine ap_ [I (k:H),V e b5 w] (p _).1.a ?_)
   rintro c3 c4 ⟨b6,v,_,_,c1,c0,b0⟩;have n:=K_ ((p _).1.P (p:=⟨k,h,V e b5 w⟩) (p _).2 v b6) (P.T ((y_.alloc P.size _).grown v t_ (λb1 a5=>(B_ (p default).1.M.M b1 a5).1)));subst b0;refine J_ ?_;exact⟨b+a,R,_,g_,O,⟨n.1,r.1,r.2.1,t_,d9.2,r.2.2 ▸ d9.1⟩,n.2⟩
  obtain⟨i,rfl⟩:∃i,l=i+1:=⟨l-1,O⟩;have⟨z,h5,a2,i1,h2,v,P⟩:=q.1.at (i:=i) O;injection a2 with hq1 _ hq3;subst hq1 hq3;have⟨d6,d7,k1,k2,e8⟩:=q.2.1.cells;have m:=q.2.2.2;have c1:(i+1:H)-1=(i:E):=O;rw[c1];have k3:=F_ i (F g)
  by_cases f0:(Z g i Vi).n=k
  ·have Q:(((Z g i Vi).n:_)==(k:E))=_:=beq_iff_eq.2 O;have⟨h9,S⟩:=m.b f0 f1 i5 O;have l1:=(m.ok.at P).2;have⟨e3,a9,d3,c4,_,_⟩:=(q.1.j _ P).e O;rw[d3] at v;have⟨e,w,i6,h8,_,_⟩:=q.2.2.1.e (p_ m.y);subst i6;have l0:=m.y;have b8:K (∀b0,Calls _ _ _ _ λr p=>∃n,_/\Ai _ (B wr.1) n _/\E_ wr _):=λb0=>(Tp _ _ _ h a9 w _ (c4.drewN b0) (h8.drewN b0) (m.ok.at P).1 m.j).m (λr p ⟨n,u,D,a5⟩=>⟨n,u,D,(below_drewN y_ b0).T a5⟩);have j0:=Mq (Z g i Vi).L h;have u:K (_/\F (Bf (Z g i Vi).L h)<=64):=⟨S,O⟩;have c0:=Y h9;have k4:=m.l;generalize (Z g i Vi).n=a5,(Z g i Vi).L=D at *;generalize l9:F D=f4,l8:F h=b5 at *;go_upto_region 12 with fail;go_quiet (fail)
   go_upto_region 13 with fail;refine Af (λp=>D_ p x 0 (I (k:H))/\D_ p x 1 (V e b5 w)/\D_ p z (i*2+1) (V e3 f4 a9)) 14 k_ ⟨d6,d7,v⟩ (λhHeld=>?_);refine G_ ?_;refine on_ 10 λKK hK=>?_;go_simp;apply (b8 _).m;rintro r f8 ⟨j7,rfl,c9,p⟩;obtain⟨g9,h4,rfl,c3,c8,_⟩:=c9.e (p_ u.2);have b6:=Y (Xb _ a c3 u.1 c8 (p_ u.2));have d0:=p.size;generalize (F (Bf D h))=j2 at *;go_simp;refine hK _ _ ⟨(T_ p d6),(T_ p d7),((p.cell (aJ _ _ v)).T v)⟩ (λhHeld=>?_);try simp only[Act.put,tA,tB,tC]
   refine on_ 12 λKK hK=>?_;go_simp;apply b6.m;rintro r f9 ⟨j6,rfl,b1,c5⟩;obtain⟨g8,h3,rfl⟩:=b1.d;have N:=p.T (c5.m d0);have e4:LvB _ _ k _:=(N.block _ e8).T q.2.1;have⟨g1,g2,j8,j9,_⟩:=e4.cells;have k0:=(N.cell (aJ _ _ v)).T v;have n:K (_/\_/\Ai f9 (B o.1) _ _):=⟨q.1.q N,e4,b1.m O⟩;have g4:=Y (a6.T (N.m a6.size));generalize (F (Ep (Bf D h) a))=j1 at *;go_simp;refine hK _ _ ⟨g1,g2,k0⟩ (λhHeld=>?_);refine G_ ?_;refine la1_ λKK hK=>?_;go_simp;apply hK _ _;try simp only[Act.put,tA,tB,tC]
   refine Fr k_ ?_ _;go_wp2;go_roundw
   case rel=>
    refine⟨i,k+1,ZU i g,_,V g8 j1 h3,g_,by rw[length_take,Nat.min_eq_left O],by rw[length_take];omega,by rw[length_take];omega,⟨?_,n.2.1.c (M:=k+1),n.2.1.D n.2.2 (LvB.a),c0⟩,((g4.setCell e7 _).setCell e7 _)⟩;rw[length_take,Nat.min_eq_left O];exact(n.1.b n.2.1 (LvB.a) (λa5 d5=>g5 _ a5 d5)).upto O
   exact z_
  have Q:(((Z g i Vi).n:_)==(k:E))=_:=aO O;have c0:=Y (m.c f0);generalize (Z g i Vi).n=a5 at *;go_upto_region 12 with fail;go_quiet (fail);refine J_ ?_;exact⟨i,k,g,h,y,g_,X,i4,O,⟨q.1.q (below_drewN y_ _),q.2.1,q.2.2.1.q (below_drewN y_ _),c0⟩,below_drewN a6 _⟩
 have a7:¬b<(d:E):=O;obtain⟨L,b2,f3,e9,e6,t⟩:=A;obtain⟨a0,a1,rfl⟩:=L.d
 have w:K (skF a [] (skB a d [] j f)=skF a [] (c.map Hy.o).reverse):=by
  show _=_;rw[<- t]
  cases G with
  |zero=>rfl
  |succ e=>simp only[skB];rw[aD (by simp;have:=b9.out;omega)]
 have g:K (_/\_/\Aw (c.map Hy.L)<=2000000):=⟨L,b2,O⟩;obtain⟨q,W⟩:∃q,q=wr:=⟨wr,X⟩;subst W;go_wp2_with fail
 go_loopw [12,13] (λh m f=>∃(l:H) (e:U Cd),m=ZX ZQ ((l:E)-1)/\l<=F c/\K (Ai f (B o.1) h e/\Bc e/\F e<=32/\Ae e+Aw ((ZU l c).map Hy.L)<=2000000/\skF a e ((ZU l c).map Hy.o).reverse=skF a [] (c.map Hy.o).reverse)/\E_ q f) (λ_ m _=>ZL (ZA m+1))
 exact⟨F c,[],g_,x_,⟨Ai.nil _ _,Bc.nil,s_,by rw[take_length];have:=g.2.2;simpa [Ae] using this,by rw[take_length]⟩,y_⟩;obtain⟨l,e,rfl,i3,A,h⟩:=hrel;have Q:=h.size
 by_cases c7:l=0
 ·subst c7;have n:K (Ai wr (B o.1) u12 (skF a [] (skB a d [] j f))/\E_ o wr):=(by have⟨u,_,_,_,k⟩:=A.out;rw[w,<- k];exact⟨u,c6.T (h.m d1)⟩);go_wp2;go_ret;exact⟨_,X,n.1,n.2⟩
 obtain⟨i,rfl⟩:∃i,l=i+1:=⟨l-1,O⟩;have⟨z,h5,a2,i1,h2,v,P⟩:=(g.1.q h).at (i:=i) O;injection a2 with hq1 _ hq3;subst hq1 hq3;obtain⟨N,s,b0,k,t⟩:=A;have⟨m,a8⟩:=g.2.1.at P;have⟨e3,a9,d3,c4,_,_⟩:=((g.1.q h).j _ P).e O;rw[d3] at v;have⟨a6,x,R,y,_,_⟩:=N.e O;subst R;rw[eg O,map_append] at k t;rw[Ku] at k;rw[reverse_append] at t;simp only[map_cons,map_nil,Aw,reverse_cons,reverse_nil,nil_append,singleton_append,skF] at k t;have b3:=Gb (Ls:=(ZU i c).map _) (λa5 d5=>(g.2.1.take i).ok.j a5 d5);have S:=Fy s m O;have a5:=Jh (Bf e (Z c i Vi).L) (size:=(a:E)) O;have j0:=Mq e (Z c i Vi).L
 have b5:Ae (Ep (Bf e (Z c i Vi).L) a)=Ae e+Ae (Z c i Vi).L:=(by rw[Gn,Fc]);have b8:=Y (Tp _ _ _ _ x a9 _ y c4 s m);have u:K (Bc (Bf e (Z c i Vi).L)/\F (Bf e (Z c i Vi).L)<=64/\Bc (Ep (Bf e (Z c i Vi).L) a)/\F (Ep (Bf e (Z c i Vi).L) a)<=32/\Ae (Ep (Bf e (Z c i Vi).L) a)+Aw ((ZU i c).map Hy.L)<=2000000/\skF a (Ep (Bf e (Z c i Vi).L) a) ((ZU i c).map Hy.o).reverse=skF a [] (c.map Hy.o).reverse):=⟨S,O,(S.e (Ge S a)),O,O,t⟩;have c1:(i+1:H)-1=(i:E):=O;rw[c1];generalize (Z c i Vi).L=D at *;generalize (F D)=f4 at *;go_wp2_with fail
 apply b8.m;rintro r f8 ⟨j7,rfl,c9,p⟩;have d0:=p.size;obtain⟨g9,h4,rfl,c3,c8,_⟩:=c9.e (p_ u.2.1);have b6:=Y (Xb _ a c3 u.1 c8 (p_ u.2.1));generalize (F (Bf e D))=j2 at *;go_wp2_with fail
 apply b6.m;rintro r f9 ⟨j6,rfl,b1,c5⟩;have n:K (Ai _ (B o.1) _ _/\_):=⟨b1.m O,h.T ((p.T (c5.m d0)).m Q)⟩;refine J_ ?_;exact⟨i,_,g_,O,⟨n.1,u.2.2⟩,n.2⟩
def ZiC{b:U Cd}{c a}(d:a<c):Z (ZU c b) a e0=Z b a e0:=w_
theorem dw{b a c d}(e:0<a):(d<=Bz b a c)↔d*a<=b*c:=by unfold Bz;exact Int.le_ediv_iff_mul_le e
def Zd1{L:U Cd}{m A bins tot k}(e:m<=F L)(c:A<=m)(g:0<tot)(f:∀a,a<A->bins*(Z L a e0).h<k*tot)(h:A<m->k*tot<=bins*(Z L A e0).h):(ZU m L).findIdx (λb=>ZE (k<=Bz bins tot b.h))=A:=by
 have d:F (ZU m L)=m:=w_
 by_cases b:A<m
 ·rw[findIdx_eq O]
  grind [dw]
 grind [dw]
def Bc.f{a}(b:Bc a):=b.i.imp (λc=>c.1)
def Zdo d c b:∀g a,1<=a->F (bJ d c b a g)<=ZL (b+1-a)
 |[],a,e=>by simp[bJ]
 | h ::f,a,e=>by
  rw[Xs];split
  ·rename_i i;have:=Zdo d c b f (min (Bz c d h.h) b+1) O
   grind
  exact Zdo _ _ b f a e
def Zb6{k n b t f e}(u:Ln e k n b)(v:F b≠0)(y:F b<=4194304)(l:(F b:E)<=f):C_ 288 #[V (T (J k n)) (F b) t,I f] e λc d=>∃a,c=ZI a/\Ad d (B e.1) a (Bm b f)/\E_ e d:=by
 have p:=Y u;obtain⟨d,i⟩:∃d,F b=d+1:=⟨F b-1,O⟩
 have o:K (Bm b _=(ZU d b).map _):=show _=_ by unfold Bm;rw[aC v,aD l,i];rfl
 have q:=Y i;rw[i] at y l ⊢;have P:d+1<=f:=O;refine q_ ?_;go_wp2_with fail
 go_loopw [5,6] (λj g h=>∃(a:H),g=ZX ZQ a/\a<=d/\K (Ad h (B e.1) j ((ZU a b).map (λc=>c.v)))/\E_ e h) (λ_ g _=>d-ZL (ZA g))
 exact⟨0,X,v_,Ad.nil,y_⟩;obtain⟨a,rfl,m,h,g⟩:=hrel
 by_cases Q:a<d
 ·have x:a<F b:=p_ q;have L:=T_ g (p.v a x)
  have r:K ((ZU (a+1) b).map (λc=>c.v)=(ZU a b).map (λc=>c.v)++[(Z b a e0).v]):=by
   show _=_
   grind [Qi]
  have z:F ((ZU a b).map (λc=>c.v))<=1000000000:=w_;generalize (ZU a b).map (λc=>c.v)=R,(Z b a e0).v=G at *;have M:0<=(a:E):=O;have N:a<(d:E)+1:=O;have s:a+1<(d:E)+1:=O;have A:=g.size;go_wp2_with (at_builtin;refine By X (.tmp 22) _ X _ _ _ G X (h.alloc _) _ 1 X ?_ z ?_ ?_)
  ·simp[go_sem]
  simp;omega;intro a0 D j;have w:E_ e D:=(by have⟨S,c,W⟩:=j.out;exact g.T ((y_.alloc A _).grown c t_ (λa m=>(h.lt a m).1)));have c:=Y j.1;refine J_ ?_;exact⟨a+1,g_,O,r ▸ c,w⟩
 have j:a=d:=O;have c:K (Ad wr (B e.1) u5 (Bm b f)):=(by rw[o,<- j];exact h);have s:¬a+1<(d:E)+1:=O;go_wp2;go_ret;exact⟨_,X,c,g⟩
def Zjx{p:Prop}(h:p:=by
 clear A t;have a6:F f<=1000000000:=p_ l.out;go_wp2_with (at_builtin;refine By X (.tmp 76) _ X _ _ f m X (q.alloc _) _ 1 X ?_ a6 ?_ ?_)
 omega;intro d9 a8 s;have a4:E_ n a8:=(by have⟨v,u,x⟩:=s.out;exact w.T ((y_.alloc c0 _).grown u t_ (λk y=>(q.lt k y).1)));have x:=s.1;have⟨u,v,a7⟩:=x.d;subst a7;have p:=Y x;clear s x;refine J_ ?_
 exact⟨j+1,u,v,g_,O,by show _=ZH u (F (bJ d b ((j:E)+1) 1 (ZU c a))) v;rw[h],by show Ad _ _ (V u (F (bJ d b ((j:E)+1) 1 (ZU c a))) v) (bJ d b ((j:E)+1) 1 (ZU c a));rw[h];exact p,a4⟩):p:=h
def Zjy{p:Prop}(h:p:=by
 refine J_ ?_
 exact⟨j+1,_,o,g_,O,by show _=ZH _ (F (bJ d b ((j:E)+1) 1 (ZU c a))) o;rw[h,l],by show Ad _ _ (V _ (F (bJ d b ((j:E)+1) 1 (ZU c a))) o) (bJ d b ((j:E)+1) 1 (ZU c a));rw[h,l];exact q,w⟩):p:=h
def zy{P a0 a b3 b n}(g:Ln n P a0 a)(r:Bc a)(b7:F a<=4194304)(e6:2<=b)(d3:b<=16)(b9:b<(F a:E)):C_ 288 #[V (T (J P a0)) (F a) b3,I b] n λG c=>∃m,G=ZI m/\Ad c (B n.1) m (Bm a b)/\E_ n c:=by
 have b4:F a≠0:=O;have a9:=Y g;obtain⟨c,M⟩:∃c,F a=c+1:=⟨F a-1,O⟩;have b2:K (C_ 176 #[V (T (J P a0)) (c+1) b3] n (V_ (ZX ZQ (Ae a)) n)):=(by rw[<- M];exact Zas a ⟨b7,ZJ ⟨P,a0,X,g⟩⟩);have S:Ae a=(Z a c e0).h:=(by unfold Ae;grind);have f5:1<=Ae a:=(by have:=r.at (show c<F a by omega);rw[S];omega);have d8:=(Dk r).2;have d1:K (∀k,k<_->0<=(Z a k e0).h/\_):=λk y=>⟨p_ (r.at y),Nq r y⟩
 have b0:K (∀G∈ZU c a,Bz b (Ae a) G.h<=b-1):=λG d4=>by
  obtain⟨i,a5,rfl⟩:=aM d4;rw[length_take] at a5;have d:(ZU c a)[i]' O=Z a i e0:=w_;have f:=(r.lt (i:=i) (j:=c) O O).2.2;have h:=r.at (show c<F a by omega);rw[d];have e:(Z a i e0).h<Ae a:=p_ S
  have:¬b<=Bz b (Ae a) (Z a i e0).h:=λQ=>by rw[dw O] at Q;have:=Int.mul_lt_mul_of_pos_left e (show 0<b by omega);omega
  omega
 have c8:K (Bm a b=bJ (Ae a) b (b-1) 1 (ZU c a)):=show _=_ by unfold Bm;rw[aC b4,aC O,M,Zjl _ _ b0];rfl
 have a1:=Y M;have d0:K ((ZU c a).Pairwise _):=r.f.sublist (take_sublist _ _)
 have c9:K (∀j:_,j<=b->j*Ae a<=_):=λj b6=>by rw[S];exact Int.mul_le_mul_of_nonneg_right b6 O
 rw[M] at b7 b9 ⊢;have f0:¬c+1<=b:=O;clear g r b4 M b9 S b0;generalize Ae a=d at *;refine q_ ?_;go_wp2_with fail
 apply b2.m;rintro G f6 ⟨rfl,c1⟩;obtain rfl:=c1.s;clear c1 b2;go_wp2_with fail
 go_loopw [5,8] (λh e f=>∃(j:H) (W:Y0 Addr) (o:H),e=ZX ZQ ((j:E)+1)/\(j:E)+1<=b/\h=ZH W (F (bJ d b j 1 (ZU c a))) o/\K (Ad f (B n.1) (ZH W (F (bJ d b j 1 (ZU c a))) o) (bJ d b j 1 (ZU c a)))/\E_ n f) (λ_ e _=>ZL (b-ZA e))
 exact⟨0,ZP,0,X,O,by rw[show bJ d b ((0:H):E) 1 (ZU c a)=[] from jh _ _ C];rfl,by rw[show bJ d b ((0:H):E) 1 (ZU c a)=[] from jh _ _ C];exact Ad.nil,y_⟩;obtain⟨j,W,o,rfl,b6,rfl,q,w⟩:=hrel
 by_cases e7:(j:E)+1<b
 ·have c0:=w.size;have b1:=xy d b j _ 1 O d0;have R:=Zdo d b j (ZU c a) 1 O;have f1:F (bJ d b j 1 (ZU c a))<=16:=O;have a2:=Y b1;clear b1 R;generalize bJ d b j 1 (ZU c a)=f at *;go_wp2_with fail
  rename_i f7;go_loopw [9] (λh l=>∃e:H,h=ZX ZQ e/\e<=c/\K (∀i,i<e->b*(Z a i e0).h<((j:E)+1)*d)/\l=wr) (λh _=>c-ZL (ZA h))
  exact⟨0,X,v_,λi a5=>O,X⟩;obtain⟨e,rfl,d2,N,d5⟩:=hrel;subst d5;have a3:e<F a:=(by rw[a1];omega);have⟨e1,e2⟩:=k2_ w (a9.v e a3) (a9.h e a3);have b5:=d1 e a3;have c2:0<=b*_:=Int.mul_nonneg O b5.1;have c3:b*_<=_*1000000000000:=Int.mul_le_mul d3 O b5.1 O;have c4:0<=(j+1)*d:=Int.mul_nonneg O O;have c5:((j:E)+1)*_<=16*_:=Int.mul_le_mul O d8 O O;have e3:0<=(e:E):=O;have e4:e<(c:E)+1:=O;have f3:_=b*(Z a e e0).h:=Au O O;have f4:_=((j:_)+1)*d:=Au O O
  by_cases Q:b*(Z a e e0).h<((j:E)+1)*d
  ·have L:e<c:=by
    by_cases g:e=c
    rw[g] at Q;have:=c9 ((j:E)+1) O;omega;omega
   have h:K (∀i,i<e+1->b*(Z a i e0).h<(j+1)*d):=λi a5=>by
    by_cases g:i=e
    rw[g];exact Q;exact N i O
   generalize (Z a e e0).h=c6,(Z a e e0).v=m at *;refine J_ ?_;exact⟨e+1,g_,O,h,trivial⟩
  have p:=Zd1 (L:=a) (m:=c) (A:=e) (bins:=b) (tot:=d) (k:=(j:E)+1) (by rw[a1];omega) d2 O N (λ_=>O);have z:=a2.out;rw[p,length_take,show min c (F a)=c by rw[a1];omega] at z
  by_cases L:e<c
  ·rw[ZiC L] at z;generalize (Z a e e0).h=c6,(Z a e e0).v=m at *;have t:=Y z;clear z a2 p N c2 c3 c4 c5;generalize R:F f=d7 at *;have l:=Y R;clear R
   cases d7 with
   | zero=>
    have A:=eq_nil_of_length_eq_zero l;have h:K (bJ d b (j+1) 1 (ZU c a)=f++[m]):=(by show _=_;rw[t,aD ⟨L,by rw[A];simp⟩]);exact Zjx
   | succ D=>
    obtain⟨f2,rfl,_,_,e5,_⟩:=q.b l (k:=D) O;have b8:f.getLast? =T (Z f D 0):=by rw[getLast?_eq_getElem?,l,Nat.add_sub_cancel,Qc,Qd (by rw[l];omega)];rfl
    rw[b8] at t;clear b8;generalize (Z f) D 0=c7 at *;have e8:(((D:E)+1)==0)=_:=aO O;have e9:ZL (((D+1:H):E)-1)=D:=O
    by_cases A:c7=m
    have h:K (bJ d b (j+1) 1 (ZU c a)=f):=(by show _=_;rw[t,aC (λg=>g.2 (by rw[A]))]);have d6:(c7 !=m)=ZZ:=(by rw[A];simp);clear A t;exact Zjy;have h:K (bJ d b (j+1) 1 (ZU c a)=f++[m]):=(by show _=_;rw[t,aD ⟨L,λg=>A (by injection g)⟩]);have d6:=bne_iff_ne.2 A;exact Zjx
  have h:K (bJ d b (j+1) 1 (ZU c a)=f):=(by show _=_;rw[z,aC (λg=>L g.1)]);have l:K (F f=_):=rfl;clear z a2 p N c2 c3 c4 c5;generalize (Z a e e0).h=c6,(Z a e e0).v=m at *;exact Zjy
 have e:j=b-1:=O;have p:K (Ad wr (B n.1) (V W (F (bJ d b j 1 (ZU c a))) o) (Bm a b)):=(by rw[c8,<- e];exact q);clear q e;generalize bJ d b j 1 (ZU c a)=f at *;go_wp2;go_ret;exact⟨_,X,p,w⟩
def Zb5{e} a {h b c}(j:Cj c e a)(i:Bc a)(l:2<=b)(m:b<=16):C_ 288 #[V e (F a) h,I b] c λg f=>∃d,g=ZI d/\Ad f (B c.1) d (Bm a b)/\E_ c f:=by
 by_cases d:F a=0
 ·have f:Bm a b=[]:=(by unfold Bm;rw[aD d]);rw[f,d];refine q_ ?_;go_wp2_with fail
  go_loopw [5,6] (λk g n=>k=ZH ZP 0 0/\g=I 0/\n=c) (λ_ _ _=>0)
  grind
  obtain⟨rfl,rfl,g⟩:=hrel;subst g;go_wp2;go_ret;exact⟨_,X,Ad.nil,y_⟩
 obtain⟨g,k|⟨o,p,rfl,f⟩⟩:=j;exact absurd k d
 by_cases n:(F a:E)<=b
 exact Zb6 f d g n;exact zy f i g l m O
def Xi(b:U H):H->H×E
 |0=>(0,-1)
 |a+1=>if(Xi b a).2<(b.count a:E) then(a,(b.count a:E)) else Xi b a
def ZdJ{B:U H}{r}(b:r<F B) a:(ZU (r+1) B).count a=(ZU r B).count a+(if Z B r 0=a then 1 else 0):=by
 rw[Qi b,count_append,Qc,Qd b]
 grind
def Zgl b:∀a,(Xi b a).1<=a/\ -1<=(Xi b a).2/\(Xi b a).2<=F b
 |0=>by simp[Xi]
 | a+1=>by
  have:=Zgl b a
  grind [Xi]
def Zce o (e j f:H) b h (y:Ad h 0 (V o e j) (An b))(v:F b=e)(Q:e<=200)(M:f<=1000):C_ 240 #[V o e j,I f] h (V_ (ZX ZQ (Xi b f).1) h):=by
 have⟨r,g⟩:=Y_ y v;refine q_ ?_;go_wp2_with fail
 go_loopw [5,6,7] (λd i c k=>∃a:H,c=ZX ZQ a/\a<=f/\d=ZX ZQ ((Xi b a).1:H)/\i=ZX ZQ (Xi b a).2/\k=h) (λ_ _ c _=>f-ZL (ZA c))
 exact⟨0,X,v_,X,X,X⟩;obtain⟨a,rfl,N,rfl,rfl,z⟩:=hrel;subst z
 by_cases P:a<f
 ·have u:a<(f:E):=O;have G:K (Xi b (a+1)=if _<_ then _ else _):=rfl;have x:=Zgl b a;rw[g] at x;generalize Xi b a=s at *;obtain⟨D,n⟩:=s;simp only at *;go_wp2_with fail
  rename_i a0;go_loopw [8,9] (λi d k=>∃c:H,d=ZX ZQ c/\c<=e/\i=ZX ZQ ((ZU c b).count a:H)/\(ZU c b).count a<=c/\k=wr) (λ_ d _=>e-ZL (ZA d))
  grind
  obtain⟨c,rfl,R,rfl,w,A⟩:=hrel;subst A
  by_cases l:c<e
  ·obtain⟨W,rfl,_,_,t,_⟩:=r.b (by rw[Ak];exact g) l;rw[Bq] at t;have p:=ZdJ (B:=b) (r:=c) (g ▸ l) a;have q:=Y p;generalize (Z b) c 0=i,(ZU c b).count a=k at *;have L:=F_ c e
   by_cases m:i=a
   ·subst m;have d:K ((ZU (c+1) b).count i=k+1):=w_;refine J_ ?_;exact⟨c+1,g_,O,by rw[d];go_num,by rw[d];omega,trivial⟩
   have d:K ((ZU (c+1) b).count a=k):=(by show _=_;rw[q,aC m];rfl);have S:((i:_)==(a:E))=_:=aO O;refine J_ ?_;exact⟨c+1,g_,O,by rw[d],by rw[d];omega,trivial⟩
  have t:c=F b:=p_ g.out;have i:K ((ZU c b).count a=b.count a):=w_;have q:¬c<(e:E):=O;rw[i] at w;rw[i];have m:b.count a<=e:=O;generalize b.count a=k at *
  by_cases p:n<(k:E)
  ·have d:K (Xi b (a+1)=(a,(k:E))):=w_;refine J_ ?_;exact⟨a+1,g_,O,by rw[d],by rw[d],trivial⟩
  have d:K (Xi b (a+1)=(D,n)):=w_;refine J_ ?_;exact⟨a+1,g_,O,by rw[d],by rw[d],trivial⟩
 have u:¬a<(f:E):=O;have c:a=f:=O;subst c;go_wp2;go_ret;exact⟨X,X⟩
theorem Ob b {c a}(d:a<c):Z (Ca b c) a 0=(b.count a:E):=by
 unfold Ca
 grind
def ZbP b e:∀a,a+1<=e->(Xi b (a+1)).2=maxOf (ZU (a+1) (Ca b e))/\(Xi b (a+1)).1<a+1/\(b.count (Xi b (a+1)).1:E)=(Xi b (a+1)).2/\∀c,c<(Xi b (a+1)).1->(b.count c:E)<(Xi b (a+1)).2
 | 0,i=>by
  have d:Xi b 1=(0,(b.count 0:E)):=by grind [Xi]
  grind [maxOf_one,Ob]
 | a +1,i=>by
  have⟨g,j,k,l⟩:=ZbP b e a O;rw[maxOf_step _ (a+1) O (by rw[Cr];omega),Ob b O,<- g];have d:Xi b (a+1+1)=if _<_ then _ else _:=rfl;rw[d]
  by_cases h:(Xi b (a+1)).2<(b.count (a+1):E)
  ·rw[aD h];refine⟨by simp only;omega,by simp only;omega,X,λc f=>?_⟩;simp only at f ⊢;have m:=nrS_le b (a+1)
   grind
  grind
where
 nrS_le (b:U H):∀a c,c<a->(b.count c:E)<=(Xi b a).2
  |0,c,f=>O
  | a+1,c,f=>by
   have d:Xi b (a+1)=if _<_ then _ else _:=rfl;rw[d]
   by_cases g:c=a
   ·grind
   have:=nrS_le b a c O
   grind
def Znk{a c}(h:0<c):Za a c=(Xi a c).1:=by
 obtain⟨b,rfl⟩:∃b,c=b+1:=⟨c-1,O⟩;have⟨d,e,g,i⟩:=ZbP a (b+1) b x_;have f:_=Ca a (b+1):=aI (by rw[Cr];exact x_);unfold Za;rw[f] at d;rw[<- d];have:=idxOf_hit (Ca a (b+1)) (b+1) (Xi a (b+1)).1 (Xi a (b+1)).2 e (by rw[Cr];omega) (by rw[Ob a e];exact g) (λk j=>by rw[Ob a O];grind)
 grind
def ZlD{x a:ZC}(c:¬x=a):(x.toList==a.toList)=ZZ:=by
 rw[beq_eq_false_iff_ne,toList_data,toList_data];intro b;apply c
 cases x;cases a
 simp at b;rw[b]
def yk{a:U E}{b}(d:b<F a){c}:(ZU (b+1) a).countP c=(ZU b a).countP c+(if c (Z a b 0)=Z0 then 1 else 0):=by
 rw[Qi d,countP_append,Qc,Qd d]
 grind
def ZdZ{a:U ZC}{c b}(f:b<F a)(g:Z a b ⟨#[]⟩=c)(h:∀d,d<b->Z a d ⟨#[]⟩≠c):a.findIdx (λe=>ZE (e=c))=b:=by grind [findIdx_eq]
def Zd0{a:U ZC}{c}(e:∀b,b<F a->Z a b ⟨#[]⟩≠c):a.findIdx (λd=>ZE (d=c))=F a:=w_
def Zle R {a2 a3} m e o g (w:Ad g R a2 e.f)(x:Bj g R a3 e.c)(M:Rq e)(a0:e.a=Z0->e.f=[])(a1:e.a=ZZ->e.c=[]):C_ 239 #[Y9 #[ZR e.a,a2,a3,I m],Y9 #[ZR o.a,I o.num,Q_ o.f]] g (U_ (ZX ZQ (Gq e o:H)) g):=by
 obtain⟨l,b,c⟩:=e;obtain⟨z,f,h⟩:=o;simp only at w x a0 a1 ⊢;have b0:=M.p;have b1:=M.u;simp only at b0 b1;obtain⟨r,u,rfl⟩:=w.d;obtain⟨s,v,rfl⟩:=x.a;have⟨p,y⟩:=W_ (ZN (ZN g (O_ #[ZR l,V r (F b) u,V s (F c) v,I m] 227)) (O_ #[ZR z,I f,Q_ h] 335));have t:E_ g p:=y ▸ (r_.alloc s_ _);have A:H_ p (B g.1) #[ZR l,V r (F b) u,V s (F c) v,I m] 227:=(by grind [Below.heap_alloc,heap_alloc_new]);have D:H_ p (B g.1+1) #[ZR z,I f,Q_ h] 335:=by have e:=ha_ (ZN g (O_ #[ZR l,V r (F b) u,V s (F c) v,I m] 227)) (O_ #[ZR z,I f,Q_ h] 335);rw[show B (ZN g (O_ #[ZR l,V r (F b) u,V s (F c) v,I m] 227)).1=B g.1+1 by simp,<- y] at e;exact e
 have⟨q,a4,a5,Q⟩:=y4_ t (w.q t) (x.q t) y;have b3:=n_ 0 A;have b4:=n_ 1 A;have b5:=n_ 2 A;have b6:=n_ 0 D;have b7:=n_ 1 D;have b8:=n_ 2 D;clear w x M y A D t;refine q_ ?_;go_upto_region 1 with fail;rw[<- Q];clear Q
 cases z with
 | true=>
  have j:K (Gq ⟨l,b,c⟩ ⟨Z0,f,h⟩=F b+F c+1):=by
   show _=_
   grind [Gq,ES.b,Kz]
  go_wp2;go_ret;rw[j];exact⟨g_,q⟩
 | false =>
  cases l with
  | true=>
   have a7:=a0 X;subst a7;have j:K (Gq ⟨Z0,[],_⟩ ⟨ZZ,f,_⟩=c.findIdx (λa=>ZE (a=h))):=rfl;go_wp2_with fail
   go_loopw [6] (λk n=>∃(a i:H),k=ZX ZQ a/\a<=F c/\K (∀d,d<a->Z c d ⟨#[]⟩≠h)/\n=Y1 p i) (λk _=>F c-ZL (ZA k))
   exact⟨0,0,X,v_,λd W=>O,X⟩;obtain⟨a,i,rfl,a9,L,N⟩:=hrel;subst N
   by_cases n:a<F c
   ·obtain⟨b2,rfl,_,a8⟩:=a5.d X n ⟨#[]⟩;have S:=F_ a (F c)
    by_cases k:Z c a ⟨#[]⟩=h
    ·have G:=Y (ZdZ n k L);have a6:((Z c a ⟨#[]⟩).toList==h.toList)=Z0:=(by rw[k];simp);generalize (Z c) a ⟨#[]⟩=P at *;clear k;go_upto_region 8 with fail;go_quiet (fail);go_wp2;go_ret;rw[j,G];exact⟨X,below_drewN (below_drewN q _) _⟩
    have a6:=ZlD k
    have G:K (∀d,d<a+1->Z c d ⟨#[]⟩≠h):=λd W=>by
     by_cases P:d=a
     rw[P];exact k;exact L d O
    generalize (Z c) a ⟨#[]⟩=P at *;clear k;go_upto_region 8 with fail;go_quiet (fail);refine J_ ?_;exact⟨a+1,i+nq,g_,O,G,s_⟩
   have k:a=F c:=O;have G:=Y (Zd0 (λd W=>L d O));have S:¬a<(F c:E):=O;go_wp2;go_ret;rw[j,G];exact⟨s_,below_drewN q _⟩
  | false=>
   have a6:=a1 X;subst a6;have j:K (Gq ⟨ZZ,_,[]⟩ ⟨ZZ,_,h⟩=b.countP (λd=>ZE (d<f))):=rfl;go_wp2_with fail
   go_loopw [7,8] (λn k G=>∃(a i:H),k=ZX ZQ a/\a<=F b/\n=ZX ZQ ((ZU a b).countP (λd=>ZE (d<f)):H)/\(ZU a b).countP (λd=>ZE (d<f))<=a/\G=Y1 p i) (λ_ k _=>F b-ZL (ZA k))
   exact⟨0,0,X,v_,s_,s_,X⟩;obtain⟨a,i,rfl,a9,rfl,W,N⟩:=hrel;subst N
   by_cases n:a<F b
   ·obtain⟨b2,rfl,_,_,a8,_⟩:=a4.b X n;have S:=F_ a (F b);have L:K ((ZU _ b).countP (λd=>ZE (d<f))=_):=yk n;generalize (Z b) a 0=P,(ZU a b).countP (λd=>ZE (d<f))=G at *
    by_cases a7:P<f
    ·have k:K ((ZU (a+1) b).countP (λd=>ZE (d<f))=G+1):=w_;go_upto_region 15 with fail;go_quiet (fail);refine J_ ?_;exact⟨a+1,i+nq,g_,O,by rw[k];go_num,by rw[k];omega,s_⟩
    have k:K ((ZU (a+1) b).countP (λd=>ZE (d<f))=G):=(by show _=_;rw[L,aC w_];rfl);go_upto_region 15 with fail;go_quiet (fail);refine J_ ?_;exact⟨a+1,i+nq,g_,O,by rw[k],by rw[k];omega,s_⟩
   have k:a=F b:=O;subst k;rw[take_length] at W;rw[take_length];go_wp2;go_ret;rw[j];exact⟨X,below_drewN q _⟩
def oy:E×U VS:=(0,[])
def Xq(d:ZT)(i:Y0 Addr)(f g:H)(c:U (E×U VS)):Prop:=
 F c=f/\(f=0∨∃h,i=T ⟨h,0,ZP⟩/\∀a,a<f->ZV d (J h (a*2))=T (I (Z c a oy).1)/\∃e j,ZV d (J h (a*2+1))=T (L_ e g j)/\F (Z c a oy).2=g/\∀b,b<g->ZV d (J e (b*3))=T (ZR (Z (Z c a oy).2 b Ax).a)/\ZV d (J e (b*3+1))=T (I (Z (Z c a oy).2 b Ax).num)/\ZV d (J e (b*3+2))=T (Q_ (Z (Z c a oy).2 b Ax).f))
def Xq.q{a w' c f g b}(d:Xq a c f g b)(k:E_ a w'):Xq w' c f g b:=by
 refine⟨d.1,d.2.imp id ?_⟩;rintro⟨n,j,l⟩;refine⟨n,j,λo m=>?_⟩;have⟨r,q,p,s,t,u⟩:=l o m;have v:∀h i,_=T i->_:=λh i e=>(k.cell (aJ a h e)).T e
 grind
def uk:∀(c:U Mc) (b:H),b<F c->∀a,a<2->(Rw c)[b*2+a]? =(Sv (Z c b ⟨0,[],N_⟩))[a]?
 |[],b,d=>by simp at d
 |f::c,0,_=>λa e=>by grind [Rw,Sv]
 |f::c,b+1,d=>λa e=>by simp only[Rw];rw[getElem?_append_right (by simp[Sv];omega),show(b+1)*2+a-F (Sv f)=b*2+a by simp[Sv];omega];exact uk c b (by simpa using d) a e
def Hd.h{g q y n o p b}(j:Hd g q (V p n y) b)(G:F b=n)(A:∀c∈b,F c.fs=o)(S:0<o):Xq g p n o (b.map Mc.o):=by
 subst G;refine⟨length_map _,?_⟩
 rcases j.M.2 with⟨s,t⟩|⟨x,P,Q,s,_,W,a1,_⟩
 exact ZM t;refine ZJ ?_;injection s with e1 e2 e3;subst e1;refine⟨x,X,λd N=>?_⟩;have D:Z (b.map Mc.o) d oy=Mc.o (Z b d ⟨0,[],N_⟩):=w_
 have v:Z b d ⟨0,[],N_⟩∈b:=w_;rw[D];generalize M:Z b d ⟨0,[],N_⟩=c at *
 have w:∀a e,a<2->(Sv c)[a]? =T e->ZV g (J x (d*2+a))=T e:=λa e f k=>by rw[World.ownsRow.cellAt j.M (d*2+a) O,uk b d N a f,M];exact k
 have u:=A c v;have f:=j.j c v;refine⟨w 0 _ O X,?_⟩
 rcases f.2 with⟨_,t⟩|⟨i,r,R,z,_⟩
 omega;have l:=w 1 _ O X;rw[z] at l;rw[u] at l;refine⟨i,r,l,u,λh a0=>?_⟩
 have L:ZD g q 335 3 (L_ i (F c.fs) r) (F c.fs) (Lb c.fs):=by
  have m:=f;unfold rj at m
  grind
 have m:∀a e,a<3->(Jg (Z c.fs h Ax))[a]? =T e->ZV g (J i (h*3+a))=T e:=λa e f k=>by rw[World.ownsRow.cellAt L (h*3+a) O,be c.fs h O a f];exact k
 exact⟨m 0 _ O X,m 1 _ O X,m 2 _ O X⟩
def Zcb r d m l b e {h}(g:Bj h r (V l d m) b)(p:F b=d)(y:d<=1000):C_ 244 #[V l d m,Q_ e] h (V_ (ZR (containsS b e)) h):=by
 have⟨q,i⟩:=Y_ g p;clear g p;refine q_ ?_;go_wp2_with fail
 go_loopw [5] (λf j=>∃a:H,f=ZX ZQ a/\a<=d/\K (∀c,c<a->Z b c ⟨#[]⟩≠e)/\j=h) (λf _=>d-ZL (ZA f))
 exact⟨0,X,v_,λc o=>O,X⟩;obtain⟨a,rfl,x,k,u⟩:=hrel;subst u
 by_cases n:a<d
 ·obtain⟨z,rfl,_,w⟩:=q.d i n _;have t:=F_ a d
  by_cases f:Z b a ⟨#[]⟩=e
  ·have j:K (containsS b e=Z0):=by
    apply (containsS_iff b e).2;rw[<- f,Qc,Qd (i ▸ n)]
    grind
   have s:((Z b a ⟨#[]⟩).toList==e.toList)=Z0:=(by rw[f];simp);generalize (Z b) a ⟨#[]⟩=v at *;clear f;go_wp2;go_ret;exact⟨by rw[j];rfl,X⟩
  have s:=ZlD f
  have j:K (∀c,c<a+1->Z b c ⟨#[]⟩≠e):=λc o=>by
   by_cases g:c=a
   rw[g];exact f;exact k c O
  generalize (Z b) a ⟨#[]⟩=v at *;clear f;refine J_ ?_;exact⟨a+1,g_,O,j,trivial⟩
 have j:K (containsS b e=ZZ):=by
  show _=_;rw[<- Bool.not_eq_true,containsS_iff];intro f;have⟨c,o,s⟩:=aM f;have t:=i.out;apply k c O
  grind
 have t:¬a<(d:E):=O;go_wp2;go_ret;exact⟨by rw[j];rfl,X⟩
def Ua(c:U (E×U VS))(a:H)(d:ZC):E:=((c.filter (λb=>!(Z b.2 a Ax).a&&ZE ((Z b.2 a Ax).f=d))).map Prod.fst).sum
def ZcU{a:U (E×U VS)}{b}(f:b<F a) c d:Ua (ZU (b+1) a) c d=Ua (ZU b a) c d+(if(!(Z (Z a b oy).2 c Ax).a&&ZE ((Z (Z a b oy).2 c Ax).f=d))=Z0 then(Z a b oy).1 else 0):=by
 have e:Z a b oy=a[b]:=w_;unfold Ua
 grind [Qi]
def ZgF{b:U (E×U VS)}(f:∀e∈b,0<=e.1/\e.1<=99) c d:∀a,a<=F b->0<=Ua (ZU a b) c d/\Ua (ZU a b) c d<=99*a
 |0,_=>by simp[Ua]
 | a+1,g=>by
  have h:=ZgF f c d a O;rw[ZcU O]
  grind
def Zcj q e m y b c d {j}(l:Xq j q e m c)(D:b<m)(u:∀v∈c,0<=v.1/\v.1<=99)(a3:e<=1000):C_ 290 #[V q e y,I b,Q_ d] j λa f=>a=ZI (ZX ZQ (Ua c b d))/\∃i,f=Y1 j i:=by
 have⟨k,p⟩:=Y_ l (λa f=>ZgF u b d a (l.1 ▸ f));clear l u;refine q_ ?_;go_wp2_with fail
 go_loopw [7,8] (λg f h=>∃(a i:H),f=ZX ZQ a/\a<=e/\g=ZX ZQ (Ua (ZU a c) b d)/\h=Y1 j i) (λ_ f _=>e-ZL (ZA f))
 exact⟨0,0,X,v_,X,X⟩;obtain⟨a,i,rfl,a2,rfl,G⟩:=hrel;subst G
 by_cases s:a<e
 ·have A:=F_ a e;have a0:=F_ b m
  rcases k.out.2 with a1|⟨a6,rfl,t⟩
  omega;have⟨N,W,S,P,_,r⟩:=t a s;have⟨Q,_,R⟩:=r b D;clear r;have o:=Y (ZcU (k.1 ▸ s) b d);have a4:=p a O;have n:=Y (p (a+1) O);clear t;generalize Ua (ZU a c) b d=h,Z (Z c a oy).2 b Ax=M,(Z c a oy).1=x at *;obtain⟨L,a5,w⟩:=M;simp only at *
  cases L with
  | true=>
   have f:K (Ua (ZU (a+1) c) b d=h):=(by show _=_;rw[o,aC s_];omega);refine J_ ?_;exact⟨a+1,_,g_,O,by rw[f],by first|rfl|simp⟩
  | false=>
   by_cases g:w=d
   ·have f:K (Ua (ZU (a+1) c) b d=h+x):=w_;have z:(w.toList==d.toList)=Z0:=(by rw[g];simp);have a7:_=h+x:=Au (oj_ f.out n.out) (oj_ f.out n.out);clear g;refine J_ ?_;exact⟨a+1,_,g_,O,by rw[f],by first|rfl|simp⟩
   have f:K (Ua (ZU (a+1) c) b d=h):=(by show _=_;rw[o,aC (by simp[g])];omega);have z:=ZlD g;clear g;refine J_ ?_;exact⟨a+1,_,g_,O,by rw[f],by first|rfl|simp⟩
 have A:¬a<(e:E):=O;have f:a=F c:=p_ k.1;go_wp2;go_ret;exact⟨X,_,X⟩
def Km d e b a g h j i c (m:b<=1000)(l:a<=1000):C_ 189 #[Y9 #[ZR j,V d b g,V e a h,I i]] c (U_ (ZX ZQ (b+a+2:H)) c):=by have f:Below _ c (ZN c (O_ #[ZR j,V d b g,V e a h,I i] 227)):=r_;have k:=Y f;clear f;refine dl_ ?_;go_enter func189,ntmps189;go_wp2;go_ret;exact⟨g_,k⟩
def Zch{d i k j l e m g o f n b c x h}{a:ZT}(A:D_ a d 0 (P_ i))(D:D_ a d 1 (L_ k e m))(s:D_ a k b (L_ j g o))(z:D_ a j c (I x))(t:D_ a i 1 (L_ l f n))(u:D_ a l (b*4+3) (I h))(v:b<e)(w:c<g)(y:b<f):C_ 292 #[P_ d,I c,I b] a λp r=>p=ZI (ZR (x !=h))/\∃q,r=Y1 a q:=by
 have p:=F_ b e;have q:=F_ c g;have r:b<(f:E):=O;refine dl_ ?_;go_enter func292,ntmps292;go_wp2_with fail
 go_quiet (fail);go_wp2;go_ret;exact⟨X,_,X⟩
end Go.Proofs.YtfcgnpchbcmdeaaGreat
