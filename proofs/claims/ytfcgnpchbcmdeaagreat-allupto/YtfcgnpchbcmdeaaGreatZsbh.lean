import Derived.Test.YtfcgnpchbcmdeaaGreatZsbe
open _root_ renaming Nat->H,List->U,ByteArray->ZC,rfl->X,Array->YZ,Int->E
open Go renaming Value->ZY,World->ZT,strOfNums->ZB
open Array renaming size->B
open Option renaming some->T,none->ZP
open Go.Value renaming ownBlock->ZW,int->ZX,bool->ZR,slice->ZH,pointer->Y7,tuple->Y5
open Bool renaming false->ZZ,true->Z0
open Go.World renaming cell?->ZV,frozen?->YT,setCell->ZO,alloc->ZN,ownsRow->ZD,drewN->Y1,drew->YY
open Or renaming inr->ZJ,inl->ZM
open List renaming length->F,getD->Z
open Go.IntKind renaming i64->ZQ
open Int renaming toNat->ZL
open ByteArray renaming size->ZK
open Go.Ending renaming returned->ZI
open Decidable renaming decide->ZE
open Go.Proofs renaming intOf->ZA
namespace Go.Proofs.YtfcgnpchbcmdeaaGreat
set_option linter.all false
set_option maxRecDepth 100000
set_option maxHeartbeats 8000000
open Go.RowKit List Nat Go.World Go.Proofs.Tryz Go.Value Go.IntKind Go.Lib Go.Region
section
variable {w W b:ZT} {cb db n a:H} {vF vB vC vX:ZY} {S:ZC} {c:Cu} {d:U XS}
structure XbI(w W:ZT)(cb db a:H)(vX:ZY)(x:XS):Prop where
 r:W.1[a]? =T (O_ #[I x.M,I x.f,I x.i] 231)
 t:B w.1<=a
 o:∀b,ZW vX=T b->b≠a
def XbI.p{x:XS}{K:H->Prop}(c:XbI w W cb db a vX x)(e:Aa K W b)(d:¬K a):XbI w b cb db a vX x:=⟨e.g c.r d,c.t,c.o⟩
def XbI.q{x:XS}(c:XbI w W cb db a vX x)(d:E_ W b):XbI w b cb db a vX x:=c.p (.a (S:=λ_=>False) d) id
def XbI.cells{x:XS}(b:XbI w W cb db a vX x):ZV W (J a 0)=T (I x.M)/\ZV W (J a 1)=T (I x.f)/\ZV W (J a 2)=T (I x.i)/\(∀i,YT W (J a i)=ZZ)/\a<B W.1:=⟨n_ 0 b.r,n_ 1 b.r,n_ 2 b.r,λi=>R_ i _ _ b.r,(Qb b.r).1⟩
def eu.e{x:XS}{i:H}{v:ZY}(b:eu w W cb db n vF vB vC vX S c d)(h:XbI w W cb db a vX x):eu w (ZO W (J a i) v) cb db n vF vB vC vX S c d:=by
 have f:Aa _ W (ZO W _ v):=(Aa.refl (λj=>j=a) W).setCell (p:=(J _ i)) (λ_=>X) _
 have l:∀{k m:H} {o:YZ ZY},W.1[k]? =T (O_ o m)->m≠231->¬k=a:=λg p e=>by rw[e,h.r] at g;simp at g;exact p g.2.s
 refine⟨f.g b.w (l b.w C),b.y,f.g b.v (l b.v C),b.r.p f (λj q e=>h.o j q e),?_⟩;have j:=h.t;exact b.u.c f λq e=>ZJ O
end
def im l2 k p h i3 a1 R m6 l3 l5 e w u (a:ZC)(c:Cu) l (e2:eo l l2 p h i3 a1 R Dg m6 l3 l5 e w u)(c8:Pd l k a c)(f7:ZK a<=4000000)(c1:c.k<=ZK a)(n8:h<=200)(hK:F e<=4)(j8:rf h e w u)(j7:∀i,i<F e->F (Z e i Aj).e.f<=16/\F (Z e i Aj).e.c<=16):C_ 186 #[P_ k,P_ p] l λj n=>j=ZI (Y5 #[])/\∃m,eu l n k p h i3 a1 R m a (xcC (Ab a) h e w u c).1 (xcC (Ab a) h e w u c).2:=by
 have⟨f0,z⟩:=ez_ (xcC (Ab a) h e w u c);rw[z];have a8:F (Ab a)=ZK a:=(by simp[Ab]);have d1:=Qq a;have i5:Hid (eu l l k _ h _ _ R _ a c []):=⟨c8,c1,e2.v,Xr.nil _,Aa.refl _ _⟩;have b2:Hid (_/\∃b,_=T (O_ b 288)):=⟨e2,_,c8⟩;obtain⟨b3,b4,m4⟩:∃c6 c,i3=ZH c6 (F e) c:=by have⟨c6,c,j⟩:=e2.A.M.d;rw[e2.A.a] at j;exact⟨c6,c,j⟩
 subst m4;have d5:=K_ j8 j7;unfold xcC at z;have j5:=Iw _ 2 a c l c8 C f7 c1;have g4:=Uu (ZB (Lj (Ab a) 2 c).2);rw[Bi,Ij,St (Np d1 2 c)] at g4;have k2:aa (Lj (Ab a) 2 c).2<65536:=(by have:=bp _ (Np d1 2 c);rw[Ij] at this;exact this);have i6:Hid (∀j1,_->_->eu l j1 k p h (V b3 (F e) b4) a1 R Dg a (Lj (Ab a) 2 c).1 []):=λj1 S e0=>i5.call S (a8 ▸ Tz (a8 ▸ c1)) e0;generalize Lj (Ab a) 2 c=h8 at *;generalize aa h8.2=c9 at *;have⟨h9,h7⟩:=Z_ ((h8.1,[]):Cu×U XS);rw[h7] at z;have i9:=Y h7;have⟨K,h5⟩:=Z_ (F e);have e6:=Y h5;clear e2 c8 j8 j7 h7 i5;rw[h5] at hK;clear h5;refine dl_ ?_;go_enter func186,ntmps186;go_wp2_with fail
 apply j5.m;rintro j o3 ⟨rfl,S,e0⟩;have a3:=Y (i6 _ S e0);clear S e0 j5 i6;go_wp2_with fail
 apply (g4 _ C).m;rintro j f9 ⟨rfl,k0⟩;obtain rfl:=k0.s;clear k0 g4;go_wp2_with fail
 go_loopw [5] (λc2 b=>∃(q:H) (c:Cu) (g:U XS) (m:ZY),c2=ZX ZQ q/\q<=c9/\F g=q/\Hid ((c,g)=Hr (xcS (Ab a) h e w u) h9 q)/\Hid (eu l b k p h (ZH b3 (F e) b4) a1 R m a c g)) (λc2 _=>c9-ZL (ZA c2))
 case atStart=>exact⟨0,h8.1,[],Dg,X,v_,X,i9,a3⟩
 clear a3 i9;obtain⟨q,c,g,m,rfl,l9,W,e3,b1⟩:=hrel;have⟨N,b9,a6,D,A,Q⟩:=b1.cells
 have d2:Hid (c.z=Z0∨q=c9->∃m,eu l wr k p h (V b3 (F e) b4) a1 R m a f0.1 f0.2):=λk2=>by rw[Uq e3 l9 k2] at z;rw[<- z];exact⟨m,b1⟩
 by_cases l8:q<c9
 ·have l6 :q<(c9:E):=O
  cases G:c.z
  ·rw[G] at N;have h0:=Ld (f:=xcS _ h _ _ _) (s:=h9) (k:=q) (by rw[<- e3];exact G);rw[<- e3] at h0
   have s:Hid (Hr (xcS (Ab a) h e w u) h9 (q+1)=if(Cx (Ab a) 255 (Cx (Ab a) 255 (Cx (Ab a) 255 c).1).1).1.z=Z0∨h<=(Cx (Ab a) 255 c).2∨F e<=(Cx (Ab a) 255 (Cx (Ab a) 255 c).1).2 then(⟨(Cx (Ab a) 255 (Cx (Ab a) 255 (Cx (Ab a) 255 c).1).1).1.k,Z0⟩,g)
    else(if xcB e w u g ⟨(Cx (Ab a) 255 c).2,(Cx (Ab a) 255 (Cx (Ab a) 255 c).1).2,(Cx (Ab a) 255 (Cx (Ab a) 255 (Cx (Ab a) 255 c).1).1).2⟩=Z0 then(Cx (Ab a) 255 (Cx (Ab a) 255 (Cx (Ab a) 255 c).1).1).1 else⟨(Cx (Ab a) 255 (Cx (Ab a) 255 (Cx (Ab a) 255 c).1).1).1.k,Z0⟩,g++[⟨(Cx (Ab a) 255 c).2,(Cx (Ab a) 255 (Cx (Ab a) 255 c).1).2,(Cx (Ab a) 255 (Cx (Ab a) 255 (Cx (Ab a) 255 c).1).1).2⟩])):=h0
   clear h0 d2 e3 G;go_wp2_with fail
   apply (Cl k 255 a c wr b1.w f7 b1.y).m;rintro j k9 ⟨rfl,c0,k7⟩;have a3:=Y (b1.call c0 (a8 ▸ Ic (a8 ▸ b1.y)) k7);have m0:=(Jl d1 255 c).1;clear c0 k7 b1 N b9 a6 D A Q;generalize Cx (Ab a) 255 c=d7 at *;obtain⟨d7,d⟩:=d7;simp only at a3 s m0 ⊢;have⟨a2,k3⟩:=Z_ (B k9.1);have h1:Hid (XbI l (ZN k9 (O_ #[I d,I 0,I 0] 231)) k p a2 m ⟨d,0,0⟩):=(by rw[<- k3];exact⟨hn_,a3.u.size,λq c1 j=>p_ (B_ a3.r.M q c1).2⟩);have c3:=Y (a3.q (r_ (o:=O_ #[I d,I 0,I 0] 231)))
   have g9:Hid (a2≠k):=λj=>by have c6:=h1.r;have b:=c3.w;unfold Pd at b;rw[j,b] at c6;simp at c6
   clear a3;go_wp2_with fail
   clear k3;apply (Cl k 255 a d7 _ c3.w f7 c3.y).m;rintro j l0 ⟨rfl,j3,i0⟩;have⟨g5,c4⟩:=Y_ (c3.call j3 (a8 ▸ Ic (a8 ▸ c3.y)) i0) (h1.p i0 g9);have m1:=(Jl d1 255 d7).1;clear j3 i0 c3 h1;generalize Cx (Ab a) 255 d7=d8 at *;obtain⟨d8,b⟩:=d8;simp only at g5 s m1 ⊢;have j0:Hid (XbI l (ZO l0 (J a2 1) (I b)) k p a2 m ⟨d,b,0⟩):=⟨ht_ 1 _ _ _ c4.r,c4.t,c4.o⟩;have d3:=Y (g5.e c4 (i:=1) (v:=I b));have⟨_,r,_,t,_⟩:=c4.cells;have n1:=t 1;clear g5 c4 t;go_wp2_with fail
   clear r n1;generalize (ZO l0) _ _=n0 at *;apply (Cl k 255 a d8 _ d3.w f7 d3.y).m;rintro j l1 ⟨rfl,j4,c2⟩;have⟨g6,c5⟩:=Y_ (d3.call j4 (a8 ▸ Ic (a8 ▸ d3.y)) c2) (j0.p c2 g9);have m2:=(Jl d1 255 d8).1;clear j4 c2 d3 j0;generalize Cx (Ab a) 255 d8=a0 at *;obtain⟨a0,f⟩:=a0;simp only at g6 s m2 ⊢;have h2:Hid (XbI l (ZO l1 (J a2 2) (I f)) k p a2 m ⟨d,b,f⟩):=⟨ht_ 2 _ _ _ c5.r,c5.t,c5.o⟩;have g7:=Y (g6.e c5 (i:=2) (v:=I f));have⟨_,_,o,t,_⟩:=c5.cells;have n2:=t 2;clear g6 c5 t;go_upto_region 7 with fail;clear o n2;generalize (ZO l1) _ _=f9 at *;have⟨N,b9,a6,D,A,Q⟩:=g7.cells;have⟨y,r,o,t,_⟩:=h2.cells;rw[e6] at D s;go_cut [57] (λv n=>v=ZR (ZE (a0.z=Z0∨h<=d∨K<=b))/\∃nq,n=Y1 f9 nq)
   case first=>
    have L:=Y s;clear s
    cases G:a0.z
    ·rw[G] at N
     by_cases S:h<=d
     ·have n:ZE ((d:E)≥h)=_:=aF O;go_quiet (fail);go_wp2;go_meet
      exact⟨by simp[S],_,X⟩
     have n:ZE ((d:E)≥h)=ZZ:=aE O;go_quiet (fail);go_wp2;go_meet
     exact⟨by simp[S,G],_,X⟩
    rw[G] at N;go_quiet (fail);go_wp2;go_meet
    exact⟨by simp[G],_,X⟩
   obtain⟨rfl,nq,k1⟩:=hcut;have⟨a4,a5⟩:=Y_ (g7.q (below_drewN y_ nq)) (h2.q (below_drewN y_ nq));rw[<- k1] at a4 a5;clear k1 g7 h2 N b9 a6 D A Q y r o t;have⟨N,b9,a6,D,A,Q⟩:=a4.cells
   by_cases a7:a0.z=Z0∨h<=d∨K<=b
   ·rw[aD a7] at s;rw[aF a7];have n:Hid (∃m,eu l (ZO wc (J k 2) (ZR Z0)) k p h (V b3 (F e) b4) a1 R m a f0.1 f0.2):=(by rw[Uq s.s l8 (ZM X)] at z;rw[<- z];exact⟨m,a4.g⟩);clear a7 s z a4 a5;go_wp2;apply bodyPost_ret (results_none X _ _ _) X;exact⟨X,n⟩
   rw[aC a7] at s;rw[aE a7];have m5:=Nat.lt_of_not_le (λj=>a7 (ZJ (ZM j)));have k4:=Nat.lt_of_not_le (λj=>a7 (ZJ (ZJ j)));clear a7 D;have⟨d9,l4,f1,f3,f2,f4,D,b5,b6,b7,b8⟩:=(a4.G b2.1 b2.2).j.z (i:=b) (e6 ▸ k4);rw[e6] at D;have⟨n7,o0⟩:=d5.2 b (e6 ▸ k4);have e7:Hid (xcB e w u g ⟨d,b,f⟩=((goR e w u d b&&riB g ⟨d,b,f⟩)&&(ZE (f<F (Z e b Aj).e.f+F (Z e b Aj).e.c+2)&&!decide (f=(Z e b Aj).d)))):=rfl;generalize (Z e b Aj).e.a=g0 at *;generalize (F (Z e b Aj).e.f)=L at *;generalize (F (Z e b Aj).e.c)=M at *;generalize (Z e b Aj).d=c7 at *;have⟨y,r,o,t,d0⟩:=a5.cells;have n5:0<=(b:E):=O;have n6:(b:E)<K:=O;go_upto_region 9 with fail
   go_cut [7] (λv n=>∃f5:H,v=Y7 (T ⟨f5,0,ZP⟩)/\Hid (jb n f5 g0 (ZH f1 L f3) (ZH f2 M f4) c7/\E_ wc n))
   case first=>
    clear a4 a5 s z d5 b2 e7;go_region_held3 (λn=>ZV n (J p 1)=T (L_ d9 K l4)/\ZV n (J a2 1)=T (I b)/\ZV n (J d9 (b*4))=T (ZR g0)/\ZV n (J d9 (b*4+1))=T (V f1 L f3)/\ZV n (J d9 (b*4+2))=T (V f2 M f4)/\ZV n (J d9 (b*4+3))=T (I c7)) (first|exact⟨D,r,b5,b6,b7,b8⟩|exact⟨X_ D,X_ r,X_ b5,X_ b6,X_ b7,X_ b8⟩) (fail)
    go_wp2;go_meet
    exact⟨B wc.1,X,hn_,r_.drew⟩
   rename_i o5;obtain⟨f5,rfl,e4⟩:=hcut;have⟨e5,h3⟩:=Y_ (a4.q e4.2) (a5.q e4.2);clear a4 a5 N b9 a6 D A Q b5 b6 b7 b8 y r o t d0;have⟨y,r,o,t,d0⟩:=h3.cells;go_wp2_with fail
   apply (Zh4 p h d b f e w u g wc ((e5.G b2.1 b2.2).h (XsV.N e5.r)) d5.1 m5).m;rintro j e1 ⟨rfl,f6⟩;have⟨d4,e8⟩:=Y_ (e5.q f6) (h3.q f6);have g2:Hid (jb e1 f5 g0 (V f1 L f3) (V f2 M f4) _):=(Aa.a (S:=λ_=>False) f6).g e4.1 id;clear e5 h3 e4 f6 y r o t d0;generalize goR e w u d b=l7 at *;have⟨_,_,a6,_,A,Q⟩:=d4.cells;have⟨y,r,o,t,d0⟩:=e8.cells;go_upto_if 73 with fail
   go_cut [9] (λv n=>v=ZR (riB g ⟨d,b,f⟩)/\Hid (E_ e1 n))
   case first=>
    clear s z d5 b2 e7
    cases q with
    | zero=>
     have j6:¬((0:H):E)>0:=O;have P:=length_eq_zero_iff.1 W;have n:Hid (riB g ⟨d,b,f⟩=Z0):=(by rw[P];rfl);clear P;go_wp2;go_meet
     exact⟨by rw[n],y_⟩
    | succ a9=>
     have j6:((a9+1:H):E)>0:=O;have⟨k8,k5,j,g8,h4,h6⟩:=(XsV.N d4.r).2 a9 O;rw[W] at j
     have n:Hid (riB g ⟨d,b,f⟩=ZE ((Z g a9 Dm).M<d∨(Z g a9 Dm).M=d/\(Z g a9 Dm).f<b)):=by
      have P:g≠[]:=λc8=>by rw[c8] at W;simp at W
      show _=_;unfold riB;rw[W];simp[P]
     subst j;generalize (Z g) a9 Dm=j9 at *;obtain⟨b0,g3,i4⟩:=j9;simp only at g8 h4 h6 n;have k6:i64.wrap (((a9+1:H):E)-1)=a9:=(by rw[Au O O];omega);clear d4 e8 g2;have⟨i7,f8⟩:=Z_ (ZN e1 (O_ #[I b0,I g3,I i4] 231));have e9:i7.1[B e1.1]? =T (O_ #[I b0,I g3,I i4] 231):=(by rw[<- f8];exact hn_);have P:Hid (E_ e1 i7):=(by rw[<- f8];exact r_);have i1:=n_ 0 e9;have i2:=n_ 1 e9;have m3:=Ah P y;have e0:=Ah P r;clear e9;go_upto_region 14 with fail;clear f8 g8 h4 h6 y r o t d0 a6 A Q
     by_cases S:b0<d
     ·have g1:(b0:E)<d:=O;go_wp2;go_meet
      exact⟨by rw[n];simp[S],P⟩
     have g1:¬(b0:E)<d:=O
     by_cases c0:b0=d
     ·have j2:((b0:E)==d)=Z0:=(by simp[c0]);have d6:Hid (riB g ⟨d,b,f⟩=ZE (g3<b)):=n ▸ (Bool.eq_iff_iff.2 (by simp[c0]));clear c0 n;go_wp2;go_meet
      exact⟨by rw[d6],P⟩
     have j2:((b0:E)==d)=ZZ:=t_;have d6:=Y (n ▸ (aE O));clear c0 n;go_wp2;go_meet
     exact⟨by rw[d6],P⟩
   obtain⟨rfl,P⟩:=hcut;have⟨g8,e9⟩:=Y_ (d4.q P) (e8.q P);have g3:Hid (jb wc _ _ _ _ _):=(Aa.a (S:=λ_=>False) P).g g2 id;clear d4 e8 g2 P a6 A Q y r o t d0;generalize riB g ⟨d,b,f⟩=m7 at *;generalize xcB e w u g ⟨d,b,f⟩=f8 at *;have⟨⟨b5,b6,b7,b8⟩,_,_⟩:=g3.cells;have⟨_,_,o,_,_⟩:=e9.cells;have i4:=Km f1 f2 L M f3 f4 g0 c7;go_upto_region 15 with fail;go_cut [120] (λv n=>v=ZR (!f8)/\Hid (E_ wc n))
   case first=>
    clear s z d5 b2 g8 e9 g3;obtain rfl:=e7.out
    cases l7
    ·go_quiet (fail);go_wp2;go_meet
     exact⟨X,below_drewN y_ _⟩
    cases m7
    ·go_quiet (fail);go_wp2;go_meet
     exact⟨X,below_drewN y_ _⟩
    refine Af (λn=>ZV n _=T _/\ZV n _=T _/\ZV n _=T _/\ZV n _=T _/\ZV n _=T _) 19 k_ ⟨o,b5,b6,b7,b8⟩ λhHeld=>?_;refine G_ ?_;refine oc_ 10 (i4 _ O O) ?_;rintro j n0 ⟨rfl,h4⟩;have n:E_ wc _:=y_.drew.T h4;refine⟨_,X,⟨Ah n o,Ah n b5,Ah n b6,Ah n b7,Ah n b8⟩,λhHeld=>?_⟩;try simp only[Act.put,sA,sB,sC]
    by_cases a9:f<L+M+2
    ·have g1:ZE ((f:E)≥((L+M+2:H):E))=ZZ:=aE O;have d6:¬(L:E)+M+2<=f:=O;have b0:Hid ((Z0&&Z0&&(ZE (f<L+M+2)&&!decide (f=c7)))=!decide (f=c7)):=(by rw[aF a9];rfl);clear a9;refine G_ ?_;refine le_ ?_;go_wp2;go_meet
     exact⟨by rw[b0,Bool.not_not];exact congrArg _ (Bool.eq_iff_iff.2 t_),n⟩
    have g1:ZE ((f:E)≥((L+M+2:H):E))=Z0:=aF O;have d6:(L:E)+M+2<=f:=O;have b0:Hid ((Z0&&Z0&&(ZE (f<L+M+2)&&!decide (f=c7)))=ZZ):=(by rw[aE a9];rfl);clear a9;refine G_ ?_;refine le_ ?_;go_wp2;go_meet
    exact⟨by rw[b0];rfl,n⟩
   obtain⟨rfl,g1⟩:=hcut;have⟨b0,h4⟩:=Y_ (g8.q g1) (e9.q g1);clear g8 e9 g3 g1 e7 b5 b6 b7 b8 o i4;have⟨N,b9,_⟩:=b0.cells;go_upto_if 120 with fail
   go_cut [120] (λ_ n=>Hid (eu l n k p h (ZH b3 (F e) b4) a1 R m a (if f8=Z0 then a0 else⟨a0.k,Z0⟩) g/\XbI l n k p a2 m ⟨d,b,f⟩))
   case first=>
    clear s z
    cases f8
    ·have n:Hid (eu l _ k p h (V b3 _ b4) a1 R m a _ g/\_):=⟨b0.g,h4.p b0.w.g.2 g9⟩;go_wp2;go_meet
     exact n
    have n:=K_ b0.out h4.out;go_wp2;go_meet
    exact n
   have a9:=hcut;clear hcut b0 h4 N b9;generalize (if f8=Z0 then a0 else⟨a0.k,Z0⟩)=j2 at *;have⟨n3,n4,j9⟩:=a9.1.r.d;rw[length_map,W] at j9;have⟨_,_,_,_,A,Q⟩:=a9.1.cells;have⟨y,r,o,_,_⟩:=a9.2.cells;have d6:Hid (eu l (YY (ZN wc (O_ #[I d,I b,I f] 231))) k p h (V b3 (F e) b4) a1 R m a j2 g/\XbI l (YY (ZN wc (O_ #[I d,I b,I f] 231))) k p a2 m ⟨d,b,f⟩):=⟨a9.1.q r_.drew,a9.2.q r_.drew⟩;have i7:Hid (ZD (YY (ZN wc (O_ #[I d,I b,I f] 231))) (B l.1) 231 3 m q ((g.map Cw).flatten)):=(by have:=d6.1.r.M;rw[length_map,W] at this;exact this);have n9:=a9.1.u.size;clear a9 Q;subst j9;go_upto_region 17 with fail;refine Af (λn=>ZV n _=T _/\ZV n _=T _/\ZV n _=T _/\ZV n _=T _) 10 k_ ⟨A,y,r,o⟩ λhHeld=>?_;refine G_ ?_
   refine on_ 6 λKK hK=>?_;go_simp;refine hK _ _ ⟨Ah r_ A,Ah r_ y,Ah r_ r,Ah r_ o⟩ λhHeld=>?_;clear hK KK;try simp only[Act.put,sA,sB,sC]
   refine on_ 7 λKK hK=>?_;refine aq_ [I d,I b,I f] i7 ?_;rintro m9 f9 ⟨k5,n,_,_,o2,o1,m3⟩;have⟨j6,h6⟩:=d6.1.P (v':=m9) (x:=⟨d,b,f⟩) n (W ▸ k5);have a5:=Y j6;have⟨i1,i2,k8,_,_⟩:=(d6.2.p ((Aa.refl _ _).grown n (λq c1 _=>c1)) (λj=>d6.2.o _ j X)).cells;have k6:=n_ 4 h6;have m8:=R_ 4 _ _ h6;subst m3;clear k5 n j6 h6 A y r o d6 i7;refine hK _ _ ⟨k6,i1,i2,k8⟩ λhHeld=>?_;clear hK KK;refine G_ ?_;refine le_ ?_;clear k6 m8 i1 i2 k8 hHeld;generalize (ZO f9) _ _=o4 at *;refine J_ ?_;exact⟨q+1,j2,g++[(⟨d,b,f⟩:XS)],_,g_,O,by simp[W],s.s,a5⟩
  rw[G] at N;have n:=d2 (ZM G);clear d2 G;go_wp2;go_end0;exact⟨X,n⟩
 have l6:¬q<(c9:E):=O;have n:=d2 (ZJ O);clear d2;go_wp2;go_end0;exact⟨X,n⟩
end Go.Proofs.YtfcgnpchbcmdeaaGreat
