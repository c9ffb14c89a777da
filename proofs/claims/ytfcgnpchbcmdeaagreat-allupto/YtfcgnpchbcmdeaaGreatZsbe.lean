import Derived.Test.YtfcgnpchbcmdeaaGreatZsbc
open _root_ renaming Nat->H,Int->E,List->U,Bool->ZG,ByteArray->ZC,Array->YZ,rfl->X,Option->Y0
open Bool renaming true->Z0,false->ZZ
open Go renaming strOfNums->ZB,World->ZT,Value->ZY,madeCells->YV
open List renaming length->F,getD->Z,replicate->Y6,drop->ZF
open Decidable renaming decide->ZE
open Array renaming size->B
open Option renaming some->T,none->ZP
open Go.Value renaming ownBlock->ZW,bool->ZR,int->ZX,slice->ZH,agg->Y9,string->YW,tuple->Y5
open Or renaming inl->ZM,inr->ZJ
open Go.World renaming ownsRow->ZD,cell?->ZV,frozen?->YT,setCell->ZO,alloc->ZN,drew->YY,drewN->Y1,grownBy->Y3
open ByteArray renaming size->ZK
open Int renaming toNat->ZL
open Go.IntKind renaming i64->ZQ
open Go.Ending renaming returned->ZI
open Go.Proofs renaming intOf->ZA
namespace Go.Proofs.YtfcgnpchbcmdeaaGreat
set_option linter.all false
set_option maxRecDepth 100000
set_option maxHeartbeats 8000000
open Go.RowKit List Nat Go.World Go.Proofs.Tryz Go.Value Go.IntKind Go.Lib Go.Region
def sgR(a:H):E:=if 2147483648<=a then(a:E)-4294967296 else a
def wdT(a:U E)(b:Cu):Cu×U E:=Lj a (Cx a 8 b).2 (Cx a 8 b).1
def ftW(b:U E)(a:Cu×ES):Cu×ES:=(if En (ZB (wdT b a.1).2)=Z0/\containsS a.2.c (ZB (wdT b a.1).2)=ZZ then(wdT b a.1).1 else⟨(wdT b a.1).1.k,Z0⟩,⟨Z0,a.2.f,a.2.c++[ZB (wdT b a.1).2]⟩)
def ftN(b:U E)(a:Cu×ES):Cu×ES:=(if a.2.f≠[]/\sgR (aa (Lj b 4 a.1).2)<=Z a.2.f (F a.2.f-1) 0 then⟨(Lj b 4 a.1).1.k,Z0⟩ else(Lj b 4 a.1).1,⟨ZZ,a.2.f++[sgR (aa (Lj b 4 a.1).2)],a.2.c⟩)
def ftS(b:U E)(a:Cu×ES):Cu×ES:=if a.2.a=Z0 then ftW b a else ftN b a
def jp(b:U E)(f:Cu):Cu×KS:=
 let c:=Lj b 1 f
 let d:=Cx b 255 c.1
 let e:=Cx b 16 d.1
 let a:=Hr (ftS b) (e.1,⟨ZE (c.2=[119]),[],[]⟩) e.2
 (if(c.2=[110]∨c.2=[119])/\d.2<F a.2.f+F a.2.c+2 then a.1 else⟨a.1.k,Z0⟩,⟨a.2,d.2⟩)
def bdC(b:ZG)(a:Cu):Cu:=if b=Z0 then⟨a.k,Z0⟩ else a
def Zdp(a:Prop)[Decidable a](b:Cu):(if a then⟨b.k,Z0⟩ else b)=bdC (ZE a) b:=by simp[bdC]
def Zfx(a:Prop)[Decidable a](b:Cu):(if a then b else⟨b.k,Z0⟩)=bdC (!decide a) b:=by unfold bdC;by_cases c:a<;>simp[c]
def ZnT(a b:H)(c:ZG):(a<b/\c=ZZ)∨(a<b/\c=Z0)∨¬a<b:=by cases c<;>simp<;>omega
def Uq{e:Type}{f:Cu×e->Cu×e}{g d:Cu×e}{b c:H}(h:d=Hr f g b)(i:b<=c)(a:d.1.z=Z0∨b=c):Hr f g c=d:=by
 subst h
 rcases a with a|rfl
 exact Yr a i;rfl
def tu{f:ZT}{g b k d j l e}(i:ZD f g b k d j l)(h:∀a,ZW e=T a->B f.1<=a):Bl d e:=by
 cases c:ZW d with
 |none=>exact ZM c
 | some a=>
  refine ZJ (ZJ λb=>?_);have:=(B_ i a c).2;have:=h a (b ▸ c);omega
structure qz(b a:ZT)(h e d:H)(f:ZC)(g:Cu)(c:ES)(k:E)(i j:ZY):Prop where
 w:Pd a h f g
 y:g.k<=ZK f
 o:jb a e ZZ (N_) (N_) 0
 r:jb a d c.a i j k
 x:Ad a (B b.1) i c.f
 z:Bj a (B b.1) j c.c
 u:Aa (λl=>l=h) b a
 t:B b.1<=e/\B b.1<=d/\e≠d
section
variable {w W a:ZT} {cb rb fb:H} {S:ZC} {c f:Cu} {e:ES} {d d':E} {vb b v':ZY}
def qz.call(g:qz w W cb rb fb S c e d vb b)(m:Pd a cb S f)(h:f.k<=ZK S)(i:Aa (λo=>o=cb) W a):qz w a cb rb fb S f e d vb b:=by
 have l:∀{k p q r s},jb W k p q r s->¬k=cb:=λj e=>by have:=g.w;unfold Pd at this;unfold jb at j;rw[e,this] at j;simp at j
 exact⟨m,h,i.g g.o (l g.o),i.g g.r (l g.r),i.M g.x (λn h=>Ag g.x h g.w C),i.M g.z (λn h=>Ag g.z h g.w C),g.u.T i,g.t⟩
def qz.g(a:qz w W cb rb fb S c e d vb b):=a.call a.w.g.1 a.y a.w.g.2
def qz.q(f:qz w W cb rb fb S c e d vb b)(g:E_ W a):=f.call (f.w.q g) f.y (.a g)
def qz.cells(a:qz w W cb rb fb S c e d vb b):(ZV W (J cb 2)=T (ZR c.z)/\YT W (J cb 2)=ZZ)/\ZV W (J fb 0)=T (ZR e.a)/\ZV W (J fb 1)=T vb/\ZV W (J fb 2)=T b/\ZV W (J fb 3)=T (I d)/\YT W (J fb 1)=ZZ/\YT W (J fb 2)=ZZ/\YT W (J fb 3)=ZZ:=
 ⟨⟨n_ 2 a.w,R_ 2 _ _ a.w⟩,n_ 0 a.r,n_ 1 a.r,n_ 2 a.r,n_ 3 a.r,R_ 1 _ _ a.r,R_ 2 _ _ a.r,R_ 3 _ _ a.r⟩
def qz.D{j:ES}{n o:ZY}{G:H->Prop}(f:qz w W cb rb fb S c e d vb b)(m:Aa (λi=>i=fb∨G i) W a)(q:∀i,G i->B w.1<=i/\∃p g,W.1[i]? =T (O_ p g)/\(g=3∨g=9))(x:jb a fb j.a n o d')(l:Ad a (B w.1) n j.f)(t:Bj a (B w.1) o j.c):qz w a cb rb fb S c j d' n o:=by
 have r:∀{h g} {s:YZ ZY},W.1[h]? =T (O_ s g)->h≠fb->g≠3->g≠9->¬(h=fb∨G h):=λz l u v e=>by
  rcases e with e|e
  exact l e;have⟨_,p,g,k,y⟩:=q _ e;rw[z] at k;simp at k
  rcases y with rfl|rfl
  exact u k.2;exact v k.2
 have y:cb≠fb:=λe=>by have k:=f.w;have h:=f.r;unfold Pd at k;unfold jb at h;rw[e,h] at k;simp at k
 refine⟨m.g f.w (r f.w y C C),f.y,m.g f.o (r f.o f.t.2.2 C C),x,l,t,?_,f.t⟩;exact f.u.c m λk e=>ZJ (e.elim (λe=>e ▸ f.t.2.1) λe=>(q k e).1)
def qz.num(a:qz w W cb rb fb S c e d vb b):qz w (ZO W (J fb 3) (I d')) cb rb fb S c e d' vb b:=
 a.D (G:=λ_=>False) ((Aa.refl _ _).setCell (p:=(J fb 3)) (λ_=>ZM X) _) (λ_ e=>e.elim) (hs_ _ fb 3 _ 227 _ a.r) (Am a.x a.r C) (Am a.z a.r C)
end
def Zf7{b:U E}(f:F b=1)(e:∀a∈b,0<=a/\a<256)(c:UInt8):((ZB b).toList==[c])=ZE (b=[(c.toNat:E)]):=by
 match b,f with
 | [a],_=>
  have g:=e a s_;have d:(ZB [a]).toList=[UInt8.ofNat (ZL a)]:=(by rw[toList_data];rfl);rw[d,Bool.eq_iff_iff,decide_eq_true_eq,beq_iff_eq];simp only[List.cons.injEq,and_true];rw[<- UInt8.toNat_inj,UInt8.toNat_ofNat'];omega
def Zaa i (b:ZC)(c:Cu) f (P:Pd f i b c)(b4:ZK b<=4000000)(b2:c.k<=ZK b):C_ 184 #[P_ i] f λa d=>∃a1 a2,a=ZI (Y9 #[ZR (jp (Ab b) c).2.e.a,a1,a2,ZX ZQ (jp (Ab b) c).2.d])/\Ad d (B f.1) a1 (jp (Ab b) c).2.e.f/\Bj d (B f.1) a2 (jp (Ab b) c).2.e.c/\Pd d i b (jp (Ab b) c).1/\(jp (Ab b) c).1.k<=ZK b/\Aa (λg=>g=i) f d:=by
 have⟨f9,N⟩:=ez_ (jp (Ab b) c);rw[N];have L:F (Ab b)=ZK b:=(by simp[Ab]);have a9:=Qq b;have f0:=Iw _ 1 b c (ZN f (O_ #[ZR ZZ,N_,N_,I 0] 227)) (P.q r_) C b4 b2;have e0:=Tz (n:=1) (L ▸ b2);have b8:=Zf7 (Ij _ 1 c) (Np a9 1 c);unfold jp at N;generalize Lj (Ab b) 1 c=l at *;have u:jb _ (B f.1) ZZ (N_) (N_) 0:=hn_;have⟨D,d0⟩:=Z_ (ZE (l.2=[119]));have⟨e3,d9⟩:=Z_ (ZE (l.2=[110]));have d1:=(b8 119).T d0;have d2:=(b8 110).T d9;clear b8;refine dl_ ?_;go_enter func184,ntmps184;go_wp2_with fail
 apply f0.m;rintro a e6 ⟨rfl,a6,d3⟩;clear f0
 have c5:K (qz f (ZN e6 (O_ #[ZR D,N_,N_,I 0] 227)) i (B f.1) (B e6.1) b l.1 ⟨D,[],[]⟩ 0 (N_) (N_)):=by
  have e:=d3.size;simp at e
  have d:B f.1≠i:=λa=>by have:=(Qb P).1;omega
  exact⟨a6.q r_,L ▸ e0,(Aa.a (S:=λ_=>False) r_).g (d3.g u d) id,hn_,Ad.nil,Bj.nil,(((Aa.refl _ _).alloc _).T d3).alloc _,x_,O,O⟩
 have⟨b1,g3⟩:=Z_ (B e6.1);clear a6 d3 P u;go_wp2_with fail
 apply (Cl _ _ b _ _ c5.w b4 c5.y).m;rintro a h3 ⟨rfl,c7,f4⟩;have M:=Y (c5.call c7 (L ▸ Ic e0) f4);have b3:=(Jl a9 255 l.1).1;have g4:(Cx _ 255 _).1.k<=_:=Ic e0;clear c7 f4 c5;rw[g3] at M;generalize Cx (Ab b) 255 l.1=g at *;have⟨_,_,_,_,g0,_,_,g1⟩:=M.cells;have c6:=Y (M.num (d':=g.2));clear M;go_wp2_with fail
 clear g0 g1;apply (Cl _ _ b _ _ c6.w b4 c6.y).m;rintro a h4 ⟨rfl,c8,f5⟩;have d:=Y (c6.call c8 (L ▸ Ic g4) f5);have g5:=(Jl a9 16 g.1).2 C;clear c8 f5 c6;generalize Cx (Ab b) 16 g.1=e4 at *;obtain⟨e4,a0⟩:=e4;simp only at d N g5 ⊢;rw[d0] at N;have⟨f3,e1⟩:=Z_ ((e4,⟨D,[],[]⟩):Cu×ES);rw[e1] at N;have e7:=Y e1;clear e1;go_wp2_with fail
 go_loopw [6] (λh j=>∃(e:H) (c:Cu) (a:ES) (a1 a2:ZY),h=ZX ZQ e/\e<=a0/\K ((c,a)=Hr (ftS (Ab b)) f3 e)/\K (qz f j i (B f.1) b1 b c a g.2 a1 a2)/\K (a.a=D/\(D=Z0->a.f=[]/\F a.c=e)/\(D=ZZ->a.c=[]/\F a.f=e))) (λh _=>a0-ZL (ZA h))
 case atStart=>exact⟨0,_,_,_,_,X,v_,e7,d,X,λ_=>⟨X,X⟩,λ_=>⟨X,X⟩⟩
 clear d e7;obtain⟨e,c,a,a1,a2,rfl,b8,c3,h,c4⟩:=hrel;have⟨⟨o,s⟩,m,q,r,v,w,x,_⟩:=h.cells
 rcases ZnT e a0 c.z with⟨c9,b5⟩|⟨c9,b5⟩|c9
 ·have e9:e<(a0:E):=O;rw[b5] at o;have d6:=Ld (f:=ftS _) (s:=f3) (k:=e) (by rw[<- c3];exact b5);rw[<- c3] at d6;have R:=Y d6;clear d6 N
  cases D
  ·have⟨a7,_,f1⟩:=c4.out;have⟨f6,A⟩:=f1 X;rw[a7] at m;have G:=Y (R.T (aC (by rw[a7];decide)));unfold ftN at G;simp only at G;rw[A] at G;clear f1 d1 d2 R;go_wp2_with fail
   apply (Iw i 4 b c _ h.w C b4 h.y).m;rintro b6 d4 ⟨rfl,b7,c2⟩;have d:=Y (h.call b7 (L ▸ Tz (L ▸ h.y)) c2);have S:=Uu (ZB (Lj (Ab b) 4 c).2);rw[Bi,Ij,St (Np a9 4 c)] at S;have f7:aa (Lj (Ab b) 4 c).2<4294967296:=(by have:=bp _ (Np a9 4 c);rw[Ij] at this;exact this);clear b7 c2 o s m q r v w x h;generalize Lj (Ab b) 4 c=a8 at *;generalize aa a8.2=Q at *;go_wp2_with fail
   apply (S _ C).m;rintro b6 f8 ⟨rfl,W⟩;obtain rfl:=W.s;clear W S
   have e8:K (sgR Q=if 2147483648<=(Q:E) then(Q:E)-4294967296 else Q):=by unfold sgR;split<;>split<;>first|rfl|omega
   have g2:0<=(Q:E)/\(Q:E)<4294967296:=O;clear f7;generalize (Q:E)=g9 at *;go_upto_if 65 with fail
   go_cut [11] (λj k=>j=ZX ZQ (sgR Q)/\d4=k)
   case first=>by_cases j:2147483648<=g9<;>(go_wp2;go_meet;exact⟨by rw[e8];simp[j]<;>omega,X⟩)
   obtain⟨rfl,rfl⟩:=hcut;clear e8 g2;generalize sgR Q=j at *;obtain⟨a3,a4,rfl⟩:=d.x.d;rw[A] at d;have⟨⟨o,s⟩,m,q,r,v,w,x,_⟩:=d.cells;have⟨f2,b9⟩:=Z_ (Z a.f (e-1) 0);have⟨n,t⟩:=Z_ (ZE (a.f≠[]/\j<=f2));rw[b9,Zdp,t] at G;go_upto_region 19 with fail;go_cut [79] (λp k=>p=ZR n/\d4=k)
   case first=>
    cases e with
    | zero=>
     have y:¬((0:H):E)>0:=O;have p:=length_eq_zero_iff.1 A;go_wp2;go_meet
     exact⟨by rw[<- t];simp[p],X⟩
    | succ k=>
     have y:((k+1:H):E)>0:=O;obtain⟨b0,rfl,_,_,z,_⟩:=d.x.b A (show k<k+1 by omega);rw[show Z a.f k 0=f2 from b9] at z;clear b9
     have p:a.f≠[]:=λP=>by rw[P] at A;simp at A
     have a5:i64.wrap (((k+1:H):E)-1)=k:=(by rw[Au O O];omega);go_wp2;go_meet
     exact⟨by rw[<- t];simp[p],X⟩
   obtain⟨rfl,rfl⟩:=hcut;clear t;go_upto_if 79 with fail
   go_cut [79] (λ_ k=>K (qz f k i (B f.1) b1 b (bdC n a8.1) a g.2 (ZH a3 e a4) a2))
   case first=>cases n<;>(go_wp2;go_meet;first|exact d|exact d.g)
   have y:=hcut;clear d o s m q r v w x hcut;generalize bdC n a8.1=b0 at *;have⟨⟨o,s⟩,m,q,r,v,w,x,_⟩:=y.cells
   have p:K (∀c0,ZD (ZN wc c0) (B f.1) 3 1 (V a3 e a4) e (a.f.map (ZX ZQ))):=λc0=>by have:=y.x;unfold Ad at this;rw[A] at this;exact ra_ this _
   have g6:=y.u.size;go_wp2_with (at_builtin;refine ap_ [I j] (p _) ?_)
   rintro e5 h0 ⟨c1,a5,_,_,g8,g7,e2⟩;have z:=Y (y.q (r_ (o:=O_ #[I j] 3)));have k:=La (i:=1) z.r (p _) a5 c1 C
   have d5:K (qz f _ i (B f.1) b1 b b0 ⟨ZZ,a.f++[j],a.c⟩ g.2 e5 a2):=
    z.D k.2.2.2 (λg b3=>⟨(B_ (p (O_ #[I j] 3)) g b3).1,by obtain⟨d7,d8⟩:=Ac (p (O_ #[I j] 3)) b3;exact⟨d7,3,d8,ZM X⟩⟩) (by have:=k.2.1;rw[a7] at this;exact this) (Ad.P (A ▸ k.2.2.1)) (Am (World.ownsRow.kept z.z a5 (Ap (p (O_ #[I j] 3)) z.z C)) k.1 C)
   have d7:=n_ 1 k.1;have d8:=R_ 1 _ _ k.1;subst e2;clear c1 a5 y z k p o s m q r v w x;refine J_ ?_;exact⟨e+1,b0,⟨ZZ,a.f++[j],a.c⟩,_,a2,g_,O,G.s,d5,X,(λP=>by cases P),λ_=>⟨f6,by simp[A]⟩⟩
  have⟨a7,f1,_⟩:=c4.out;have⟨g2,b9⟩:=f1 X;rw[a7] at m;have G:=Y (R.T (aD a7));unfold ftW wdT at G;simp only at G;clear f1 d1 d2 R;go_wp2_with fail
  apply (Cl i 8 b c _ h.w b4 h.y).m;rintro b6 d4 ⟨rfl,b7,c2⟩;have d:=Y (h.call b7 (L ▸ Ic (L ▸ h.y)) c2);have h1:=(Jl a9 8 c).2 C;clear b7 c2 o s m q r v w x h;generalize Cx (Ab b) 8 c=a4 at *;go_wp2_with fail
  apply (Iw i a4.2 b a4.1 _ d.w O b4 d.y).m;rintro b6 g9 ⟨rfl,e8,f6⟩;have a3:=Y (d.call e8 (L ▸ Tz (L ▸ d.y)) f6);have h2:ZK (ZB (Lj (Ab b) a4.2 a4.1).2)<=8:=(by rw[Bi,Ij];omega);clear e8 f6 d;generalize Lj (Ab b) a4.2 a4.1=a8 at *;generalize ZB a8.2=A at *;go_wp2_with fail
  apply (Zh9 A O).m;rintro b6 f8 ⟨rfl,W⟩;obtain rfl:=W.s;clear W;obtain⟨Q,S,rfl⟩:=a3.z.b;rw[b9] at a3;have⟨⟨o,s⟩,m,q,r,v,w,x,_⟩:=a3.cells;go_wp2_with fail
  apply (Zcb _ e S Q a.c A a3.z b9 O).m;rintro b6 f8 ⟨rfl,W⟩;obtain rfl:=W.s;clear W;generalize En A=f2,containsS a.c A=f7 at *;have⟨n,t⟩:=Z_ (!decide (f2=Z0/\f7=ZZ));rw[Zfx,t] at G;go_upto_region 13 with fail;go_cut [51] (λj k=>j=ZR n/\g9=k)
  case first=>subst t;cases f2<;>cases f7<;>(go_wp2;go_meet;exact⟨X,X⟩)
  obtain⟨rfl,rfl⟩:=hcut;clear t;go_upto_if 51 with fail
  go_cut [51] (λj k=>K (qz f k i (B f.1) b1 b (bdC n a8.1) a g.2 a1 (ZH Q e S)))
  case first=>cases n<;>(go_wp2;go_meet;first|exact a3|exact a3.g)
  have y:=hcut;clear a3 o s m q r v w x hcut;generalize bdC n a8.1=b0 at *;have⟨⟨o,s⟩,m,q,r,v,w,x,_⟩:=y.cells
  have p:K (∀c0,ZD (ZN wc c0) (B f.1) 9 1 (V Q e S) e (a.c.map YW)):=λc0=>by have:=y.z;unfold Bj at this;rw[b9] at this;exact ra_ this _
  have g6:=y.u.size;go_wp2_with (at_builtin;refine ap_ [Q_ A] (p _) ?_)
  rintro e5 h0 ⟨c1,a5,_,_,g8,g7,e2⟩;have z:=Y (y.q (r_ (o:=O_ #[Q_ A] 9)));have k:=La (i:=2) z.r (p _) a5 c1 C
  have d5:K (qz f _ i (B f.1) b1 b b0 ⟨Z0,a.f,a.c++[A]⟩ g.2 a1 e5):=
   z.D k.2.2.2 (λg b3=>⟨(B_ (p (O_ #[Q_ A] 9)) g b3).1,by obtain⟨d7,d8⟩:=Ac (p (O_ #[Q_ A] 9)) b3;exact⟨d7,9,d8,ZJ X⟩⟩) (by have:=k.2.1;rw[a7] at this;exact this) (Am (World.ownsRow.kept z.x a5 (Ap (p (O_ #[Q_ A] 9)) z.x C)) k.1 C) (Bj.add (b9 ▸ k.2.2.1))
  have d7:=n_ 2 k.1;have d8:=R_ 2 _ _ k.1;subst e2;clear c1 a5 y z k p o s m q r v w x;refine J_ ?_;exact⟨e+1,b0,⟨Z0,a.f,a.c++[A]⟩,a1,_,g_,O,G.s,d5,X,λ_=>⟨g2,by simp[b9]⟩,λP=>by cases P⟩
 focus
  have R:K (_∨e=a0):=ZM b5;have e9:e<(a0:E):=O;rw[b5] at o;clear b5 c9;go_upto_region 22 with fail
 rotate_left
 focus
  have R:K (c.z=Z0∨e=a0):=ZJ O;have e9:¬e<(a0:E):=O;clear c9;go_upto_region 22 with fail
 all_goals
  have z:K ((if(l.2=[110]∨l.2=[119])/\g.2<F a.f+F a.c+2 then c else⟨c.k,Z0⟩,⟨a,g.2⟩)=f9):=(by rw[Uq c3 b8 R] at N;exact N);obtain⟨a3,a4,rfl⟩:=h.x.d;obtain⟨Q,S,rfl⟩:=h.z.b
  have b9:F a.f<=16/\F a.c<=16:=by
   have a6:=c4.2
   cases D
   have:=a6.2 X;rw[this.1];simp;omega;have:=a6.1 X;rw[this.1];simp;omega
  obtain⟨b6,b7⟩:=b9;have A:=Km a3 Q (F a.f) (F a.c) a4 S a.a g.2;have⟨p,a5⟩:=Z_ (F a.f);have⟨y,a7⟩:=Z_ (F a.c);rw[a5,a7] at A h z;rw[a5] at b6 q;rw[a7] at b7 r;clear N R;have⟨n,t⟩:=Z_ (!decide ((l.2=[110]∨l.2=[119])/\g.2<p+y+2));rw[Zfx,t] at z;go_cut [101] (λj k=>j=ZR n/\K (E_ wr k))
  case first=>
   subst t
   have G:(!decide ((l.2=[110]∨l.2=[119])/\g.2<p+y+2))=((!e3&&!D)||ZE ((g.2:E)≥((p+y+2:H):E))):=by
    rw[<- d0,<- d9]
    by_cases a6:l.2=[110]<;>by_cases c7:l.2=[119]<;>by_cases c8:g.2<p+y+2<;>simp[a6,c7,c8]<;>omega
   have k:=Y G;have a8:((ZB l.2).toList !=[119])=!D:=(by rw[bne,d1]);have b0:((ZB l.2).toList !=[110])=!e3:=(by rw[bne,d2]);clear G d9 d0 c3 c4 z
   cases e3<;>cases D<;>simp only[Bool.not_false,Bool.not_true] at a8 b0
   ·go_quiet (fail);go_wp2;go_meet
    exact⟨by rw[k];rfl,below_drewN y_ _⟩
   all_goals
    have c0:=lt_ m;refine rg_ wr 12 λj=>?_;refine G_ ?_;refine oc_ 10 (A _ O O) ?_;rintro a d4 ⟨rfl,W⟩;refine⟨_,X,bt_ j W,λj=>G_ ?_⟩;refine le_ ?_;go_wp2;go_meet
    exact⟨by rw[k];simp,j⟩
  obtain⟨rfl,G⟩:=hcut;have M:=Y (h.q G);have⟨⟨o,s⟩,m,q,r,v,w,x,_⟩:=M.cells;clear h G t;go_upto_if 101 with fail
  go_cut [101] (λj k=>K (qz f k i (B f.1) b1 b (bdC n c) a g.2 (ZH a3 p a4) (ZH Q y S)))
  case first=>cases n<;>(go_wp2;go_meet;first|exact M|exact M.g)
  have d:=hcut;generalize bdC n c=b0 at *;obtain rfl:=z.out;have⟨⟨o,s⟩,m,q,r,v,w,x,_⟩:=d.cells;have u:=d.o;have c0:=n_ 0 u;have d1:=n_ 1 u;have d2:=n_ 2 u;have c1:=n_ 3 u;have c2:=R_ 0 _ _ u;have d4:=R_ 1 _ _ u;have d5:=R_ 2 _ _ u;have d6:=R_ 3 _ _ u;clear M hcut u z;go_wp2;apply bodyPost_ret (v:=Y9 #[ZR a.a,V a3 p a4,V Q y S,I g.2]) (by simp[results,results184,go_sem, *]) X;have j:=Aa.h wc (B f.1) (ZR a.a) (V a3 p a4) (V Q y S) (I g.2)
  have a8:B f.1≠i:=λa=>by have k:=d.w;have W:=d.o;unfold Pd at k;unfold jb at W;rw[<- a,W] at k;simp at k
  refine⟨_,_,X,j.M d.x (λe b2 a=>Ag d.x b2 d.o C a),j.M d.z (λe b2 a=>Ag d.z b2 d.o C a),j.g d.w (λa=>a8 a.s),d.y,?_⟩;exact d.u.c j λe a=>ZJ O
def spC(b:U E)(d:H)(c:E)(a:Cu×E×U E):Cu×E×U E:=
 if a.2.1+(Cx b 255 a.1).2<0∨(d:E)<=a.2.1+(Cx b 255 a.1).2 then(⟨(Cx b c (Cx b 255 a.1).1).1.k,Z0⟩,a.2.1+(Cx b 255 a.1).2,a.2.2)
 else((Cx b c (Cx b 255 a.1).1).1,a.2.1+(Cx b 255 a.1).2,a.2.2.set (ZL (a.2.1+(Cx b 255 a.1).2)) ((Cx b c (Cx b 255 a.1).1).2:H))
def Wm(b:U E)(a:H):H:=ZL (Z b (a/8) 0)/2^(a%8)%2
def dnV(b:U E)(a c:H):H:=Hk (Wm b) (c*a) a
def dnC(f:U E)(d a:H)(e:Cu):Cu×U E:=
 let b:=Lj f ((d*Lib.bitLen a+7)/8) e
 (⟨b.1.k,b.1.z||(range d).any λc=>ZE (a<dnV b.2 (Lib.bitLen a) c)⟩,(range d).map λc=>if a<dnV b.2 (Lib.bitLen a) c then 0 else((dnV b.2 (Lib.bitLen a) c:H):E))
def vaC(a:U E)(c d:H)(e:Cu):Cu×U E:=
 let b:=Lj a 1 e
 if b.2=[115] then((Hr (spC a c d) ((Cx a 255 b.1).1,-1,Y6 c 0) (Cx a 255 b.1).2).1,(Hr (spC a c d) ((Cx a 255 b.1).1,-1,Y6 c 0) (Cx a 255 b.1).2).2.2)
 else dnC a c d b.1
def ZnF{a:U E}(g:∀d∈a,0<=d/\d<256){b:H}{c:b<ZK (ZB a)}:((ZB a)[b]'c).toNat=ZL (Z a b 0):=by have e:b<F a:=(by rw[Bi] at c;exact c);have:=g _ (Qf e);have f:(ZB a)[b]'c=UInt8.ofNat (ZL (a[b])):=(by rw[show(ZB a)[b]'c=(ZB a).data[b]'c from X];simp[ZB]);rw[f,UInt8.toNat_ofNat',Qc,Qd e];simp only[Option.getD_some];omega
structure xt(c a:ZT)(g h b:H)(l j k m:ZY)(e:ZC)(f:Cu)(d:U E):Prop where
 w:Pd a g e f
 y:f.k<=ZK e
 v:Nt a h b l j k m
 x:Ad a (B c.1) (L_ (B c.1) b b) d
 n:F d=b
 u:Aa (λi=>i=g) c a
section
variable {w W a:ZT} {cb db n:H} {vF vB vC vX:ZY} {S:ZC} {c b:Cu} {N:U E}
def xt.call(d:xt w W cb db n vF vB vC vX S c N)(h:Pd a cb S b)(e:b.k<=ZK S)(f:Aa (λi=>i=cb) W a):xt w a cb db n vF vB vC vX S b N:=
 ⟨h,e,f.g d.v (λg=>d.v.o d.w C g.s),f.M d.x (λg e=>Ag d.x e d.w C),d.n,d.u.T f⟩
def xt.g(a:xt w W cb db n vF vB vC vX S c N):=a.call a.w.g.1 a.y a.w.g.2
def xt.q(b:xt w W cb db n vF vB vC vX S c N)(d:E_ W a):=b.call (b.w.q d) b.y (.a d)
def xt.cells(a:xt w W cb db n vF vB vC vX S c N):ZV W (J cb 2)=T (ZR c.z)/\YT W (J cb 2)=ZZ/\ZV W (J db 0)=T (I n):=⟨n_ 2 a.w,R_ 2 _ _ a.w,n_ 0 a.v⟩
def xt.put(a:xt w W cb db n vF vB vC vX S c N){k:H}(d:E):xt w (ZO W (J (B w.1) k) (I d)) cb db n vF vB vC vX S c (N.set k d):=by have e:Aa _ W (ZO W _ (I d)):=(Aa.refl (λb=>b=B w.1) W).setCell (p:=(J (B w.1) k)) (λ_=>X) _;refine⟨e.g a.w (λb=>Ag a.x (k:=B w.1) X a.w C b.s),a.y,e.g a.v (λb=>Ag a.x (k:=B w.1) X a.v C b.s),(a.x.put a.n.s d).1,by rw[length_set];exact a.n,?_⟩;exact a.u.c e λk b=>ZJ O
end
def VaP(b c:ZT)(e f:H)(d:ZC)(a:Cu×U E):Prop:=Ad c (B b.1) (L_ (B b.1) f f) a.2/\Pd c e d a.1/\a.1.k<=ZK d/\Aa (λg=>g=e) b c
def Zci l w (b g:H){R} Q z A (c:ZC)(f:Cu) i (e0:Pd i l c f)(c3:Nt i w b R Q z A)(a5:ZK c<=4000000)(c4:f.k<=ZK c)(h2:b<=200)(c5:g<64):C_ 245 #[P_ l,P_ w,I g] i λp b6=>p=ZI (ZH (T ⟨B i.1,0,ZP⟩) b b)/\VaP i b6 l b c (vaC (Ab c) b g f):=by
 have⟨a9,j⟩:=ez_ (vaC (Ab c) b g f);rw[j];have q:F (Ab c)=ZK c:=(by simp[Ab]);have a8:=Qq c;have h1:=Gm b O
 have b7:K (xt i _ l _ b _ _ z A c f _):=
  ⟨e0.q r_,c4,(Aa.a (S:=λ_=>False) r_).g c3 id,Gl b i _ O x_,s_,(Aa.refl _ _).alloc _⟩
 have t:=n_ 0 c3;have b3:_=ZE ((Lj _ 1 f).2=[115]):=Zf7 (Ij _ 1 f) (Np a8 1 f) 115;unfold vaC at j;simp only at j;clear e0 c3;refine dl_ ?_;go_enter func245,ntmps245;go_upto_region 2 with fail;clear t h1;generalize (ZN i) (O_ (YV #[I 0] b) 3)=j2 at *;go_wp2_with fail
 apply (Iw _ 1 c f _ b7.w C a5 c4).m;rintro p f1 ⟨rfl,e1,d0⟩;have o:=Y (b7.call e1 (q ▸ Tz (q ▸ c4)) d0);clear e1 d0 b7;generalize Lj (Ab c) 1 f=P at *
 by_cases S:P.2=[115]
 ·rw[aD S] at j;rw[aF S] at b3;clear S;go_wp2_with fail
  apply (Cl _ _ c _ _ o.w a5 o.y).m;rintro p h9 ⟨rfl,a2,a7⟩;have G:=Y (o.call a2 (q ▸ Ic (q ▸ o.y)) a7);have d2:=(Jl a8 255 P.1).1;clear a2 a7 o b3;generalize Cx (Ab c) 255 P.1=a1 at *;obtain⟨a1,v⟩:=a1;have⟨N,b0⟩:=Z_ ((a1,-1,Y6 b 0):Cu×E×U E);simp only at j G d2 ⊢;rw[b0] at j;have b4:=Y b0;clear b0;go_wp2_with fail
  go_loopw [10,11] (λh e m=>∃(d:H) (f:Cu) (a:E) (y:U E),e=ZX ZQ d/\h=ZX ZQ a/\d<=v/\ -1<=a/\a<=256*d/\K ((f,a,y)=Hr (spC (Ab c) b g) N d)/\K (xt i m l w b R Q z A c f y)) (λ_ e _=>v-ZL (ZA e))
  case atStart=>exact⟨0,a1,-1,_,X,X,v_,O,O,b4,G⟩
  clear G b4;obtain⟨d,f,a,y,rfl,rfl,c8,d5,d6,L,e⟩:=hrel;have⟨a0,b6,t⟩:=e.cells
  have M:K (f.z=Z0∨d=v->VaP i wr l b c a9):=λa6=>by
   have p:Hr (spC (Ab c) b g) N v=(f,a,y):=by
    rcases a6 with r|r
    rw[L];exact Yr (by rw[<- L];exact r) c8;rw[L,r]
   rw[p] at j;rw[<- j];exact⟨e.x,e.w,e.y,e.u⟩
  by_cases c9:d<v
  ·have c0:d<(v:E):=O
   cases r:f.z
   ·rw[r] at a0;have D:=Ld (f:=spC _ b _) (s:=N) (k:=d) (by rw[<- L];exact r);rw[<- L] at D
    have u:K (Hr (spC (Ab c) b g) N (d+1)=if a+(Cx (Ab c) 255 f).2<0∨(b:E)<=a+(Cx (Ab c) 255 f).2 then(⟨(Cx (Ab c) g (Cx (Ab c) 255 f).1).1.k,Z0⟩,a+(Cx (Ab c) 255 f).2,y)
     else((Cx (Ab c) g (Cx (Ab c) 255 f).1).1,a+(Cx (Ab c) 255 f).2,y.set (ZL (a+(Cx (Ab c) 255 f).2)) ((Cx (Ab c) g (Cx (Ab c) 255 f).1).2:H))):=D
    clear D M L r;go_wp2_with fail
    apply (Cl l 255 c f wr e.w a5 e.y).m;rintro p d3 ⟨rfl,b8,c1⟩;have n:=Y (e.call b8 (q ▸ Ic (q ▸ e.y)) c1);have c6:=(Jl a8 255 f).1;clear b8 c1 e a0 b6 t;generalize Cx (Ab c) 255 f=W at *;have⟨m,a3⟩:=Z_ (a+W.2);have e9:i64.wrap (a+W.2)=m:=(by rw[Au O O];exact a3);rw[a3] at u;have d7: -1<=m/\m<=256*(d+1):=O;clear a3;go_wp2_with fail
    apply (Cl l g c W.1 d3 n.w a5 n.y).m;rintro p f0 ⟨rfl,b9,c2⟩;have h:=Y (n.call b9 (q ▸ Ic (q ▸ n.y)) c2);clear b9 c2 n;generalize Cx (Ab c) g W.1=b2 at *;have⟨a0,b6,t⟩:=h.cells
    by_cases a4:m<0∨(b:E)<=m
    ·rw[aD a4] at u;have s:K (VaP i (ZO f0 (J l 2) (ZR Z0)) l b c a9):=(by have p:Hr (spC (Ab c) b g) N v=(⟨b2.1.k,Z0⟩,m,y):=(by rw[<- u];exact Yr (by rw[u]) c9);rw[p] at j;rw[<- j];exact⟨h.g.x,h.g.w,h.g.y,h.g.u⟩);clear u h j
     by_cases x:m<0
     ·go_wp2;go_ret;exact⟨X,s⟩
     have b1:m≥b:=O;go_wp2;go_ret;exact⟨X,s⟩
    rw[aC a4] at u;obtain⟨s,rfl⟩:∃s:H,m=s:=⟨ZL m,O⟩;have d1:s<b:=O;have b1:¬(s:E)<0:=O;have d4:¬(s:E)≥b:=O;have g1:0<=(s:E):=O;have g2:(s:E)<b:=O;rw[Int.toNat_natCast] at u;have⟨x,b5⟩:=h.x.c h.n.s d1;have c7:=Y (h.put (k:=s) b2.2);clear h a4 j;refine J_ ?_;exact⟨d+1,b2.1,s,_,g_,X,O,O,O,u.s,c7⟩
   rw[r] at a0;have s:=M (ZM r);clear M r;go_wp2;go_ret;exact⟨X,s⟩
  have c0:¬d<(v:E):=O;have s:=M (ZJ O);clear M;go_wp2;go_ret;exact⟨X,s⟩
 rw[aC S] at j;rw[aE S] at b3;clear S;unfold dnC at j;simp only at j;have g8:=Gj c5;have g9:=Ml c5;have d2:K (∀d,d<Lib.bitLen g->0<g/2^d):=λd c2=>la ⟨g,c5⟩ ⟨d,O⟩ c2;generalize Lib.bitLen g=b0 at *;go_upto_region 15 with fail;clear b3;go_wp2_with fail
 go_loopw [13] (λa e=>∃d:H,a=ZX ZQ d/\d<=b0/\K (f1=e)) (λa _=>b0-ZL (ZA a))
 case atStart=>exact⟨0,X,v_,X⟩
 obtain⟨d,rfl,c2,e8⟩:=hrel;have h5:=e8.out;subst h5;clear e8
 by_cases e6:d<b0
 ·have f6:0<=(d:E):=O;have f7:(d:E)<64:=O;have a:=d2 d e6;have c6:0<(g:E)/2^d:=w_;clear a;refine J_ ?_;exact⟨d+1,g_,O,True.intro⟩
 obtain rfl:d=b0:=O;have f6:0<=(d:E):=O;have f7:(d:E)<64:=O;have c6:¬0<(g:E)/2^d:=(by grind [div_eq_of_lt]);have⟨M,a3⟩:=Z_ (b*d);have i2:M<=1200:=(by rw[<- a3];exact Nat.mul_le_mul h2 g8);have g6:(b:E)*d=(M:E):=(by rw[<- a3];simp);have⟨r,h3⟩:=Z_ ((M+7)/8);have e9:((M:E)+7).tdiv 8=r:=w_;have h7:((M:E)+7)/8=(r:E):=O;rw[a3,h3] at j;have d4:K (_/\M<=8*r):=⟨a3,O⟩;have⟨_,_,t⟩:=o.cells;clear a3 d2 g9 c2 e6;go_wp2_with fail
 apply (Iw l r c P.1 f1 o.w O a5 o.y).m;rintro p h9 ⟨rfl,a2,a7⟩;have G:=Y (o.call a2 (q ▸ Tz (q ▸ o.y)) a7);have c8:=Ij (Ab c) r P.1;have c7:=Np a8 r P.1;clear a2 a7 o e9 h7 g6 c6 t;generalize Lj (Ab c) r P.1=h8 at *;obtain⟨y,h⟩:=h8;simp only at j G c8 c7 ⊢;have f3:=Y c7;clear c7;have⟨v,c1⟩:=Z_ (λa=>if g<dnV h d a then(0:E) else((dnV h d a:H):E));have f2:=Y (λa=>congrFun c1 a);have⟨u,b4⟩:=Z_ (λa=>(y.z||(range a).any λa=>ZE (g<dnV h d a)))
 have f5:K (∀a,u (a+1)=(u a||ZE (g<dnV h d a))):=λa=>by rw[<- b4];simp[range_succ,Bool.or_assoc]
 have d8:K (u 0=y.z):=(by show _=_;rw[<- b4];simp);have d5:K (((⟨y.k,u b⟩:Cu),Ct v b b)=a9):=(by show _=_;rw[<- j,<- b4,<- c1,Im]);clear c1 b4 j;go_wp2_with fail
 go_loopw [15] (λe m=>∃a:H,e=ZX ZQ a/\a<=b/\K (xt i m l w b R Q z A c ⟨y.k,u a⟩ (Ct v b a))) (λe _=>b-ZL (ZA e))
 case atStart=>exact⟨0,X,v_,by rw[d8,In];exact G⟩
 clear G d8;obtain⟨a,rfl,i7,e⟩:=hrel;have⟨_,_,t⟩:=e.cells
 by_cases N:a<b
 ·have c0:=F_ a b;have d1:=f2 a;have d9:=f5 a;have⟨W,a4⟩:=Z_ (Ct v b a);have d6:K (W.set a (v a)=Ct v b (a+1)):=by rw[<- a4];exact Kg v N
  have f4:K (W.set a 0=W):=by show _=_;rw[<- a4];unfold Ct;rw[show b-a=(b-a-1)+1 by omega,replicate_succ,set_append_right _ _ s_];simp
  have d3:K (F W=b):=(by have:=e.n;rw[a4] at this;exact this);rw[a4] at e;clear a4;have⟨m,b2⟩:=Z_ (a*d);have i3:(a:E)*d=(m:E):=by rw[<- b2];simp
  have i4:m+d<=M:=by
   rw[<- b2,<- d4.1];have:(a+1)*d<=b*d:=aK _ N
   grind
  have d7:K (dnV h d a=Hk (Wm h) m d):=(by show _=_;unfold dnV;rw[b2]);clear b2;go_wp2_with fail
  rename_i j3;go_loopw [16] (λn s=>∃k:H,n=ZX ZQ k/\k<=d/\K (xt i s l w b R Q z A c ⟨y.k,u a⟩ (W.set a ((Hk (Wm h) m k:H):E)))) (λn _=>d-ZL (ZA n))
  case atStart=>exact⟨0,X,v_,by rw[show((Hk (Wm h) m 0:H):E)=0 from X,f4];exact e⟩
  clear e t;obtain⟨k,rfl,i5,e⟩:=hrel
  by_cases i6:k<d
  ·have h6:=F_ k d;have j1:(k:E)<64:=O;have⟨a1,e5⟩:=Z_ (m+k);have d0:i64.wrap ((m:E)+k)=a1:=(by rw[Au O O];omega);have⟨L,e2⟩:=Z_ (a1/8);have⟨s,e4⟩:=Z_ (a1%8);have i0:(a1:E).tdiv 8=L:=w_;have i1:(a1:E).tmod 8=s:=w_;have g3:L<r:=p_ d4.2;have h0:L<ZK (ZB h):=(by rw[Bi,c8];exact g3);have⟨D,c9⟩:=Z_ (ZL (Z h L 0));have g7:((ZB h)[L]'h0).toNat=D:=(by rw[<- c9];exact ZnF f3);have j0:D<256:=(by rw[<- g7];exact UInt8.toNat_lt _);have⟨a0,a6⟩:=Z_ (D/2^s%2);have f8:((D:E)/2^s).tmod 2=a0:=by rw[<- a6,show((D:E)/2^s)=((D/2^s:H):E) by simp];rfl
   have b8:K (Hk (Wm h) m (k+1)=Hk (Wm h) m k+a0*2^k):=(by show _=_;simp only[Hk];rw[e5];unfold Wm;rw[e2,e4,c9,a6]);have e3:=Qz (f:=Wm h) (λn=>by unfold Wm;omega) m (k+1);have g4:2^(k+1)<=2^6:=Nat.pow_le_pow_right C O;have i9:(ZK (ZB h):E)=r:=(by rw[Bi,c8]);have f9:=Au (z:=(L:E)) O O;have g0:=Au (z:=(s:E)) O O;have b1:=F_ L r;have g1:0<=(s:E):=O;have g2:(s:E)<64:=O;have⟨x,b5⟩:=e.x.c (k:=a) e.n.s N;rw[Qc,getElem?_set_self (d3 ▸ N)] at x;simp only[Option.getD_some] at x;rw[b8] at e3
   have n:K (xt i (YY (ZO wr (J (B i.1) a) (I ((Hk (Wm h) m (k+1):H):E)))) l w b R Q z A c ⟨y.k,u a⟩ (W.set a ((Hk (Wm h) m (k+1):H):E))):=(by have:=e.put (k:=a) ((Hk (Wm h) m (k+1):H):E);rw[set_set] at this;exact this.q y_.drew);rw[b8] at n;have g5:Hk (Wm h) m k+a0*2^k<64:=O;clear e5 e2 e4 c9 a6 e g4 e3;generalize Hk (Wm h) m k=b9 at *;go_upto_region 26 with fail;refine Af (λb6=>ZV b6 (J (B i.1) a)=T (I (b9:H))/\YT b6 (J (B i.1) a)=ZZ) 19 k_ ⟨x,b5⟩ λhHeld=>?_;refine G_ ?_;refine le_ ?_
   have e7:i64.wrap ((b9:E)+i64.wrap ((i64.wrap (D:E)/2^s).tmod 2*2^k))=((b9+a0*2^k:H):E):=(by rw[Au (z:=(D:E)) O O,f8];have⟨f0,b6⟩:=Z_ (a0*2^k);have h4:(a0:E)*2^k=f0:=(by rw[<- b6];simp);rw[b6] at g5 ⊢;rw[h4,Au (z:=(f0:E)) O O,Au O O];simp);rw[e7];clear e7 x b5;generalize (YY (ZO wr _ _))=f0 at *;refine J_ ?_;exact⟨k+1,g_,O,b8 ▸ n⟩
  have h6:¬k<(d:E):=O;obtain rfl:k=d:=O;rw[<- d7] at e;have⟨x,b5⟩:=e.x.c (k:=a) e.n.s N;rw[Qc,getElem?_set_self (d3 ▸ N)] at x;simp only[Option.getD_some] at x;have⟨a0,b6,t⟩:=e.cells
  have D:K (g<dnV h k a->xt i (ZO (ZO wr (J l 2) (ZR Z0)) (J (B i.1) a) (I 0)) l w b R Q z A c ⟨y.k,u (a+1)⟩ (Ct v b (a+1))):=λs=>by have:=e.g.put (k:=a) 0;rw[set_set] at this;rw[d9,aF s,<- d6,<- d1,aD s,Bool.or_true];exact this
  have L:K (¬g<dnV h k a->xt i wr l w b R Q z A c ⟨y.k,u (a+1)⟩ (Ct v b (a+1))):=λs=>by rw[d9,aE s,<- d6,<- d1,aC s,Bool.or_false];exact e
  have⟨f9,g0⟩:=e.g.x.c (k:=a) e.g.n.s N;clear e d7;generalize dnV h k a=a1 at *
  by_cases s:g<a1
  ·have b1:(a1:E)>g:=O;have n:=Y (D s);clear D L;refine J_ ?_;exact⟨a+1,g_,O,n⟩
  have b1:¬(a1:E)>g:=O;have n:=Y (L s);clear D L;refine J_ ?_;exact⟨a+1,g_,O,n⟩
 have c0:¬a<(b:E):=O;obtain rfl:a=b:=O;have s:K (VaP i wr l a c a9):=(by rw[<- d5];exact⟨e.x,e.w,e.y,e.u⟩);clear d5;go_wp2;go_ret;exact⟨X,s⟩
def goF(b:E)(d:H):U H->ZG->Y0 ZG
 |[],_=>ZP
 |a::e,c=>if a=d then T c else goF b d e (c||ZE ((a:E)=b))
def goL(a:H->Y0 ZG):U H->ZG
 |[]=>ZZ
 |b::c=>(a b).getD (goL a c)
def goR(d:U KS)(a c:U (U H))(f e:H):ZG:=goL (λb=>goF (re (Gw d a c b f)).1 e (Z a b []) ZZ) (range (F a))
def Zkj{c e}{a:U H}{b d}(g:b<F a):goF c e (ZF b a) d=if a.getD b 0=e then T d else goF c e (ZF (b+1) a) (d||ZE ((a.getD b 0:E)=c)):=by have f:a.getD b 0=a[b]:=w_;rw[aN g,f];rfl
def Zkm{b c a}(d:a<c):goL b (ZF a (range c))=(b a).getD (goL b (ZF (a+1) (range c))):=by rw[aN (by simpa using d)];simp[goL]
def Zh4 a8 x (f e a3:H) i b h a6 l (a9:DaV l a8 x i b h a6)(Q:rf x i b h)(c4:f<x):C_ 246 #[P_ a8,Y9 #[I f,I e,I a3]] l (U_ (ZR (goR i b h f e)) l):=by
 have⟨g,z⟩:=ez_ (goR i b h f e);rw[z];have⟨a2,W⟩:=Z_ (ZN l (O_ #[I f,I e,I a3] 231));have a0:a2.1[B l.1]? =T (O_ #[I f,I e,I a3] 231):=(by rw[<- W];exact hn_);have M:E_ l a2:=(by rw[<- W];exact r_);have c7:=n_ 0 a0;have c8:=n_ 1 a0;have s:=K_ (a9.q M) Q;have r:=Y M;have a5:K (goL _ _=g):=z;have d4:=Q.p;clear a9 Q a0 M z;refine q_ ?_;go_upto_region 1 with fail;clear W;go_wp2_with fail
 go_loopw [5] (λc d=>∃a:H,c=ZX ZQ a/\a<=F b/\K (goL (λa=>goF (re (Gw i b h a f)).1 e (Z b a []) ZZ) (ZF a (range (F b)))=g)/\E_ a2 d) (λc _=>F b-ZL (ZA c))
 exact⟨0,X,v_,a5,y_⟩;clear a5;obtain⟨a,rfl,d2,c,j⟩:=hrel;have⟨d9,a7,G⟩:=(s.1.q j).i
 by_cases w:a<F b
 ·have c1:=F_ a _;obtain⟨d8,c0,b8,d6,rfl,t,a1⟩:=G.2 a w;rw[Zkm w] at c;have b2:=s.2.A a w;have S:=df _ x a _ a6 (s.1.q j) s.2 w c4;have c9:=Ah j c7;have⟨q,L⟩:=Z_ (goL (λa=>goF (re (Gw i b h a f)).1 e (Z b a []) ZZ) (ZF (a+1) (range (F b))));rw[L] at c;have b7:=Y L;clear L;have⟨o,b3⟩:=Z_ (Z b a []);have⟨A,b1⟩:=Z_ (re (Gw i b h a f));have⟨p,P⟩:=Z_ (F o);rw[b1] at S;rw[b3] at t a1 b2;rw[P] at t b2;have n:K ((goF A.1 e o ZZ).getD q=g):=w_;have y:=K_ a1 P;clear b3 b1 P c a1 G;go_wp2_with fail
  apply S.m;rintro d0 c6 ⟨rfl,v⟩;have N:=j.T (v.m j.size);have a4:=Y N;have e0:=Ah v a7;have e1:=Ah v t;have e2:=Ah N c8;clear S c9 a7 t N;go_wp2_with fail
  go_loopw [8,9] (λu m D=>∃(d:H) (k:ZG),m=ZX ZQ d/\u=ZR k/\d<=p/\K ((goF A.1 e (ZF d o) k).getD q=g)/\∃nq,D=Y1 c6 nq) (λ_ m _=>p-ZL (ZA m))
  exact⟨0,ZZ,X,X,v_,n,0,X⟩;clear n;obtain⟨d,k,rfl,rfl,d5,c,b6,c5⟩:=hrel;subst c5
  by_cases c3:d<p
  ·have c2:=F_ d p;have b4:=y.2 ▸ c3;obtain⟨d7,rfl,b9⟩:=y.1 d b4;have e3:=Ah v b9;rw[Zkj b4] at c;generalize (Z o) d 0=u at *
   by_cases b0:u=e
   ·subst b0;rw[aD X] at c;have m:K (k=g):=c;go_wp2_with fail
    go_quiet (fail);go_wp2;go_ret;exact⟨by rw[<- m];rfl,r.T ((below_drewN (below_drewN a4 _) _).m r.size)⟩
   rw[aC b0] at c;have d3:((u:E)==e)=ZZ:=t_;obtain⟨D,d1⟩:=A;simp only at c ⊢;have⟨m,R⟩:=Z_ (k||ZE ((u:E)=D));have n:K ((goF D e (ZF (d+1) o) m).getD q=g):=(by rw[<- R];exact c);clear c;go_wp2_with fail
   go_quiet (fail);go_upto_region 11 with fail
   cases k
   ·have b5:((u:E)==D)=m:=(by rw[<- R,Bool.false_or];exact(Bool.eq_iff_iff.2 s_));refine J_ ?_;exact⟨d+1,m,g_,X,O,n,b6+nq,s_⟩
   have b5:m=Z0:=(by rw[<- R];simp);subst b5;refine J_ ?_;exact⟨d+1,Z0,g_,X,O,n,b6+nq,s_⟩
  have c2:¬d<(p:E):=O;have m:K (q=g):=(by rw[<- c,drop_of_length_le (p_ y.2)];rfl);refine J_ ?_;exact⟨a+1,g_,O,b7 ▸ m,below_drewN a4 _⟩
 have c1:¬a<(F b:E):=O;have m:K (g=ZZ):=(by rw[<- c,drop_of_length_le t_];rfl);obtain⟨b8,c0,rfl⟩:=G.1;go_wp2;go_ret;exact⟨by rw[m];rfl,r.T (j.m r.size)⟩
def Mk.kept{j k:ZT}{g:H}{b:ZY}{c:U ZY}{d:U (U E)}{f:Y0 H}(e:Mk j g b c d)(h:Y3 j k f)(l:ZW b=ZP∨ZW b≠f)(m:∀a,a<F d->ZW (Z c a Dg)=ZP∨ZW (Z c a Dg)≠f):Mk k g b c d:=
 ⟨World.ownsRow.kept e.M h l,λa i=>Ad.kept (e.j a i) h (m a i),e.apart⟩
structure eo(a:ZT)(b f n:H)(h d e o:ZY)(m:U (ZY×ZY))(k l:U ZY)(c:U KS)(j i:U (U H)):Prop where
 v:Nt a f n h d e o
 A:ja a b h m c
 w:Mk a b d k (j.map An)
 y:Mk a b e l (i.map An)
 G:Bl d e
 x:∀g,g<F c->Vc (Z c g Aj)
 t:b<=f
section
variable {W a:ZT} {base db n:H} {vF vB vC vX v':ZY} {kvs:U (ZY×ZY)} {bvs cvs:U ZY} {Ks:U KS} {Fs Cs:U (U H)} {K:H->Prop}
def eo.p(c:eo W base db n vF vB vC vX kvs bvs cvs Ks Fs Cs)(i:Aa K W a)(h:∀d k b,W.1[d]? =T (O_ k b)->b=142∨b=227∨b=25∨b=3∨b=9->base<=d->¬K d):eo a base db n vF vB vC vX kvs bvs cvs Ks Fs Cs:=
 ⟨i.g c.v (h _ _ _ c.v (ZM X) c.t),c.A.p i (λd e b g j f=>h d e b g O f),c.w.p i (λd e b g j f=>h d e b g O f),c.y.p i (λd e b g j f=>h d e b g O f),c.G,c.x,c.t⟩
def eo.b{c b:H}{d:YZ ZY}(e:eo W base db n vF vB vC vX kvs bvs cvs Ks Fs Cs)(k:W.1[c]? =T (O_ d b))(m:b=288∨b=4)(g:Aa (λf=>f=c) W a):eo a base db n vF vB vC vX kvs bvs cvs Ks Fs Cs:=
 e.p g (λo h p l i _ j=>w_)
def eo.j(a:eo W base db n vF vB vC vX kvs bvs cvs Ks Fs Cs):DkV W db n Ks:=⟨n_ 0 a.v,⟨vF,n_ 1 a.v,a.A.h⟩,a.x⟩
def eo.h(a:eo W base db n vF vB vC vX kvs bvs cvs Ks Fs Cs){b:U XS}(c:XsV W vX b):DaV W db n Ks Fs Cs b:=⟨a.j,⟨vB,n_ 2 a.v,a.w.h⟩,⟨vC,n_ 3 a.v,a.y.h⟩,⟨vX,n_ 4 a.v,c⟩⟩
def eo.e{i:ZY}{j:U H}(b:eo W base db n vF vB vC vX kvs bvs cvs Ks Fs Cs)(t:Ad W base i (An j))(s:∀c,c<F Fs->Bl (Z bvs c Dg) i)(g:Y3 W a (ZW vB))(m:ZD a base 25 1 v' (F Fs+1) (bvs++[i]))(u:ZW v'=ZW vB∨ZW v'=T (B W.1)):eo (ZO a (J db 2) v') base db n vF v' vC vX kvs (bvs++[i]) cvs Ks (Fs++[j]) Cs/\Nt a db n vF vB vC vX:=by
 have l:=La (i:=2) b.v b.w.M g m C;have f:Nt _ _ n _ _ _ _:=l.1;have k:Aa _ _ (ZO a _ v'):=(Aa.refl (λd=>d=db) _).setCell (p:=(J _ 2)) (λ_=>X) _;have v:=(Aa.refl _ _).grown g (λh e _=>e)
 have r:=b.A.p v (λh p w e d _ o=>by
  have⟨q,x⟩:=Ac b.w.M o
  grind)
 have q:=b.y.kept g b.G.a (λc d=>Ap b.w.M (b.y.j c d) C);have o:=b.w.P (L:=An j) t (λc d=>s c w_) g (by rw[length_map];exact m);refine⟨⟨l.2.1,r.p k (λh p w e d _=>f.o e O),?_,q.i f k,?_,b.x,b.t⟩,f⟩;rw[map_append];exact o.i f k
 rcases u with d|d
 unfold Bl;rw[d];exact b.G
 cases e:ZW vC with
 |none=>exact ZJ (ZM e)
 |some h=>exact ZJ (ZJ (by rw[d,e];have:=(B_ b.y.M h e).2;simp;omega))
def eo.f{i:ZY}{j:U H}(b:eo W base db n vF vB vC vX kvs bvs cvs Ks Fs Cs)(t:Ad W base i (An j))(s:∀c,c<F Cs->Bl (Z cvs c Dg) i)(g:Y3 W a (ZW vC))(m:ZD a base 25 1 v' (F Cs+1) (cvs++[i]))(u:ZW v'=ZW vC∨ZW v'=T (B W.1)):eo (ZO a (J db 3) v') base db n vF vB v' vX kvs bvs (cvs++[i]) Ks Fs (Cs++[j])/\Nt a db n vF vB vC vX:=by
 have l:=La (i:=3) b.v b.y.M g m C;have f:Nt _ _ n _ _ _ _:=l.1;have k:Aa _ _ (ZO a _ v'):=(Aa.refl (λd=>d=db) _).setCell (p:=(J _ 3)) (λ_=>X) _;have v:=(Aa.refl _ _).grown g (λh e _=>e)
 have r:=b.A.p v (λh p w e d _ o=>by
  have⟨q,x⟩:=Ac b.y.M o
  grind)
 have o:=b.w.kept g b.G.s.a (λc d=>Ap b.y.M (b.w.j c d) C);have q:=b.y.P (L:=An j) t (λc d=>s c w_) g (by rw[length_map];exact m);refine⟨⟨l.2.1,r.p k (λh p w e d _=>f.o e O),o.i f k,?_,?_,b.x,b.t⟩,f⟩;rw[map_append];exact q.i f k
 rcases u with d|d
 unfold Bl;rw[d];exact b.G
 cases e:ZW vB with
 |none=>exact ZM e
 |some h=>exact ZJ (ZJ (by rw[d,e];have:=(B_ b.w.M h e).2;simp;omega))
end
def buS(b:U E)(K:H)(a:Cu×U ZG×U H):Cu×U ZG×U H:=
 (if Z a.2.1 (Cx b ((K:E)-1) a.1).2 ZZ=Z0 then⟨(Cx b ((K:E)-1) a.1).1.k,Z0⟩ else(Cx b ((K:E)-1) a.1).1,a.2.1.set (Cx b ((K:E)-1) a.1).2 Z0,a.2.2++[(Cx b ((K:E)-1) a.1).2])
structure BuZ(b:ZT)(f cb i ib k:H)(n l m o:ZY)(j:U (ZY×ZY))(g h:U ZY)(e:U KS)(d c:U (U H)):Prop where
 G:eo b f i k n l m o j g h e d c
 cb:∃a,b.1[cb]? =T (O_ a 288)
 ib:∃a,b.1[ib]? =T (O_ a 4)
structure gt(j b:ZT)(k e f:H)(a:U KS)(c:ZC)(d:Cu)(g:U ZG)(vl:ZY)(h:U H):Prop where
 w:Pd b e c d
 y:d.k<=ZK c
 A:Eo b k (L_ f (F a) (F a)) g
 r:F g=F a
 vl:Ad b (B j.1) vl (An h)
 n:∀l∈h,l<F a
 u:Aa (λi=>i=e∨i=f) j b
section
variable {w W d:ZT} {base cb db a n:H} {vF vB vC vX b v':ZY} {kvs:U (ZY×ZY)} {bvs cvs:U ZY} {Ks:U KS} {Fs Cs:U (U H)} {S:ZC} {c e:Cu} {inn:U ZG} {l:U H}
def gt.G(h:gt w W base cb a Ks S c inn b l)(f:BuZ w base cb db a n vF vB vC vX kvs bvs cvs Ks Fs Cs):eo W base db n vF vB vC vX kvs bvs cvs Ks Fs Cs:=
 f.G.p h.u (λo c p d g _ e=>by
  have⟨k,i⟩:=f.cb;have⟨m,j⟩:=f.ib
  rcases e with e|e
  ·rw[e,i] at d;simp at d;have:=d.2
   rcases g with rfl|rfl|rfl|rfl|rfl<;>cases this
  rw[e,j] at d;simp at d;have:=d.2
  rcases g with rfl|rfl|rfl|rfl|rfl<;>cases this)
def gt.call(f:gt w W base cb a Ks S c inn b l)(j:Pd d cb S e)(g:e.k<=ZK S)(h:Aa (λk=>k=cb) W d):gt w d base cb a Ks S e inn b l:=
 ⟨j,g,h.M f.A (λi g=>Ag f.A g f.w C),f.r,h.M f.vl (λi g=>Ag f.vl g f.w C),f.n,f.u.T (h.m (λ_ _ i=>ZM i))⟩
def gt.g(d:gt w W base cb a Ks S c inn b l):=d.call d.w.g.1 d.y d.w.g.2
def gt.q(e:gt w W base cb a Ks S c inn b l)(f:E_ W d):=e.call (e.w.q f) e.y (.a f)
def gt.D(d:gt w W base cb a Ks S c inn b l)(f:base<=cb)(g:base<=a)(e:base<=B w.1):=d.u.b e (λi h=>O)
def gt.cells(d:gt w W base cb a Ks S c inn b l)(e:BuZ w base cb db a n vF vB vC vX kvs bvs cvs Ks Fs Cs):ZV W (J cb 2)=T (ZR c.z)/\YT W (J cb 2)=ZZ/\ZV W (J db 0)=T (I n)/\ZV W (J db 1)=T vF/\ZV W (J db 2)=T vB/\ZV W (J db 3)=T vC/\YT W (J db 2)=ZZ/\YT W (J db 3)=ZZ:=
 ⟨n_ 2 d.w,R_ 2 _ _ d.w,n_ 0 (d.G e).v,n_ 1 (d.G e).v,n_ 2 (d.G e).v,n_ 3 (d.G e).v,R_ 2 _ _ (d.G e).v,R_ 3 _ _ (d.G e).v⟩
def gt.f(d:gt w W base cb a Ks S c inn b l)(f:H):gt w (ZO W (J a f) (ZR Z0)) base cb a Ks S c (inn.set f Z0) b l:=by have g:Aa _ W (ZO W _ (ZR Z0)):=(Aa.refl (λe=>e=a) W).setCell (p:=(J _ f)) (λ_=>X) _;have⟨i,h⟩:=Ac d.A (k:=a) X;exact⟨g.g d.w (λe=>Ag d.A (k:=a) X d.w C e.s),d.y,(d.A.put d.r.s _).1,by rw[length_set];exact d.r,g.M d.vl (λj e=>Ag d.vl e h C),d.n,d.u.T (g.m (λ_ _ e=>ZJ e))⟩
def gt.add{g:H}(e:gt w W base cb a Ks S c inn b l)(k:g<F Ks)(h:Y3 W d (ZW b))(n:ZD d (B w.1) 3 1 v' (F l+1) ((An l).map (ZX ZQ)++[I g])):gt w d base cb a Ks S c inn v' (l++[g]):=by
 have j:=(Aa.refl _ _).grown h (λi f _=>f);refine⟨j.g e.w (λf=>Ag e.vl f e.w C X),e.y,World.ownsRow.kept e.A h (Ap e.vl e.A C),e.r,?_,λo m=>?_,?_⟩
 ·have:Ad d (B w.1) v' (An l++[(g:E)]):=Ad.P (by rw[Ak];exact n)
  simpa [An] using this
 ·rcases mem_append.1 m with f|f
  exact e.n o f;rw[mem_singleton.1 f];exact k
 exact e.u.c j λi f=>ZJ (B_ e.vl i f).1
end
def Zkw{c h:ZT}{i x s w:H}{A y z D m:ZY}{G:U ZY}(n:Nt c i x A y z D)(v:ZD c s 25 1 m w G)(r:Aa (λq=>q=i∨ZW m=T q) c h):(∀{d a:H} {g:YZ ZY},c.1[d]? =T (O_ g a)->a≠142->a≠25->h.1[d]? =T (O_ g a))/\∀{b a d l:H} {e:ZY} {f:U ZY},ZD c b a d e l f->a≠142->a≠25->ZD h b a d e l f:=by
 have p:∀{d a:H} {g:YZ ZY},c.1[d]? =T (O_ g a)->a≠142->a≠25->¬(d=i∨ZW m=T d):=λb e f j=>by
  rcases j with rfl|j
  unfold Nt at n;rw[n] at b;simp at b;exact e b.2.s;have⟨t,k⟩:=Ac v j;rw[k] at b;simp at b;exact f b.2.s
 exact⟨λb e f=>r.g b (p b e f),λo e f=>r.M o (λl u=>by obtain⟨t,k⟩:=Ac o u;exact p k e f)⟩
structure BuK(g b:ZT)(a f l m p:H)(s q r t:ZY)(o:U (ZY×ZY))(j k:U ZY)(c:U KS)(i h:U (U H))(d:ZC)(e:Cu)(n:U ZG):Prop where
 w:Pd b f d e
 y:e.k<=ZK d
 A:Eo b a (L_ m (F c) (F c)) n
 G:eo b a l p s q r t o j k c i h
 D:Below a g b
 v:a<=f
 u:a<=B g.1
section
variable {w W a:ZT} {base cb db b n:H} {vF vB vC vX:ZY} {kvs:U (ZY×ZY)} {bvs cvs:U ZY} {Ks:U KS} {Fs Cs:U (U H)} {S:ZC} {c d:Cu} {inn:U ZG}
def BuK.call(e:BuK w W base cb db b n vF vB vC vX kvs bvs cvs Ks Fs Cs S c inn)(i:Pd a cb S d)(f:d.k<=ZK S)(g:Aa (λh=>h=cb) W a):BuK w a base cb db b n vF vB vC vX kvs bvs cvs Ks Fs Cs S d inn:=
 ⟨i,f,g.M e.A (λj f=>Ag e.A f e.w C),e.G.b e.w (ZM X) g,e.D.T (g.b (aG e.u e.D.size) (λh j=>p_ e.v)),e.v,e.u⟩
def BuK.g(a:BuK w W base cb db b n vF vB vC vX kvs bvs cvs Ks Fs Cs S c inn):=a.call a.w.g.1 a.y a.w.g.2
def BuK.q(d:BuK w W base cb db b n vF vB vC vX kvs bvs cvs Ks Fs Cs S c inn)(e:E_ W a):=d.call (d.w.q e) d.y (.a e)
def BuK.e{g f:ZY}{k:U H}(d:BuK w W base cb db b n vF vB vC vX kvs bvs cvs Ks Fs Cs S c inn)(s:Ad W base g (An k))(p:∀j,j<F Fs->Bl (Z bvs j Dg) g)(i:Y3 W a (ZW vB))(l:ZD a base 25 1 f (F Fs+1) (bvs++[g]))(t:ZW f=ZW vB∨ZW f=T (B W.1)):BuK w (ZO a (J db 2) f) base cb db b n vF f vC vX kvs (bvs++[g]) cvs Ks (Fs++[k]) Cs S c inn/\Nt a db n vF vB vC vX/\∀{h e:H} {m:ZY} {o:U ZY},ZD W h 3 1 m e o->ZD (ZO a (J db 2) f) h 3 1 m e o:=by
 have⟨o,q⟩:=d.G.e s p i l t;have h:=La (i:=2) d.G.v d.G.w.M i l C;have e:=Zkw d.G.v d.G.w.M h.2.2.2;exact⟨⟨e.1 d.w C C,d.y,e.2 d.A C C,o,d.D.T (h.2.2.2.b (aG d.u d.D.size) (λu r=>by rcases r with rfl|m;exact d.G.t;exact(B_ d.G.w.M u m).1)),d.v,d.u⟩,q,λm=>e.2 m C C⟩
def BuK.f{f e:ZY}{g:U H}(d:BuK w W base cb db b n vF vB vC vX kvs bvs cvs Ks Fs Cs S c inn)(s:Ad W base f (An g))(o:∀j,j<F Cs->Bl (Z cvs j Dg) f)(h:Y3 W a (ZW vC))(l:ZD a base 25 1 e (F Cs+1) (cvs++[f]))(t:ZW e=ZW vC∨ZW e=T (B W.1)):BuK w (ZO a (J db 3) e) base cb db b n vF vB e vX kvs bvs (cvs++[f]) Ks Fs (Cs++[g]) S c inn/\Nt a db n vF vB vC vX:=by have⟨p,q⟩:=d.G.f s o h l t;have i:=La (i:=3) d.G.v d.G.y.M h l C;have k:=Zkw d.G.v d.G.y.M i.2.2.2;exact⟨⟨k.1 d.w C C,d.y,k.2 d.A C C,p,d.D.T (i.2.2.2.b (aG d.u d.D.size) (λu r=>by rcases r with rfl|m;exact d.G.t;exact(B_ d.G.y.M u m).1)),d.v,d.u⟩,q⟩
end
def Zf6{c:Type}{f:Cu×c->Cu×c}{b:Cu×c}(a:Cu×c->Prop)(e:a b)(g:∀b,a b->a (f b)):∀d,a (Hr f b d)
 |0=>e
 |d+1=>by have:=Zf6 a e g d;unfold Hr;split;exact this;exact g _ this
def ZlO{c:U E}(k:∀h∈c,0<=h/\h<256)(e d:H)(i:Cu):F (vaC c e d i).2=e/\∀a∈(vaC c e d i).2,0<=a/\a<=d:=by
 unfold vaC;simp only;split
 ·refine Zf6 (f:=spC c e _) (λf=>F f.2.2=e/\∀a∈f.2.2,0<=a/\a<=d) ⟨s_,λa b=>p_ (eq_of_mem_replicate b)⟩ (λf g=>?_) _;unfold spC;split;exact g;refine⟨by simpa using g.1,λa b=>?_⟩
  rcases mem_or_eq_of_mem_set b with j|j
  exact g.2 a j;have:=(Jl k d (Cx c 255 f.1).1).2;omega
 refine⟨by simp[dnC],λa b=>?_⟩;simp only[dnC,mem_map] at b;obtain⟨f,_,rfl⟩:=b;split<;>omega
def Zne{a:U E}{d:E}(b:∀x∈a,0<=x/\x<=d):An (a.map ZL)=a:=by
 unfold An;rw[map_map]
 conv=>rhs;rw[<- map_id a]
 exact map_congr_left λx c=>by have:=b x c;simp;omega
def rf.P{n:H}{i:U KS}{h k:U (U H)}{j N:U H}(f:rf n i h k)(s:F h<1000)(q:F j<=1000)(p:∀l∈j,l<F i)(m:F N=n)(r:∀x∈N,x<=255):rf n i (h++[j]) (k++[N]):=by
 have g:∀{L:U (U H)} {x:U H} {b:H},b<F (L++[x])->(b<F L/\Z (L++[x]) b []=Z L b [])∨Z (L++[x]) b []=x:=λ{L x b} d=>by
  by_cases c:b<F L
  exact ZM ⟨c,w_⟩;right;have:b=F L:=(by simp at d;omega);subst this;simp[Z]
 have o:∀e,Z N e 0<=1000000:=λe=>by
  by_cases c:e<F N
  have:=r _ (Qf c);rw[Qc,Qd c];simp only[Option.getD_some];omega;rw[Qc,getElem?_eq_none O];simp
 refine⟨by simp[f.y],t_,λb d=>?_,λb d e=>?_,λb d=>?_,λb d=>?_⟩
 ·rcases g d with⟨c,a⟩|a
  rw[a];exact f.u b c;rw[a];exact m
 ·rcases g d with⟨c,a⟩|a
  rw[a];exact f.val b c e;rw[a];exact o e
 ·rcases g d with⟨c,a⟩|a
  rw[a];exact f.A b c;rw[a];exact q
 rcases g d with⟨c,a⟩|a
 rw[a];exact f.n b c;rw[a];exact p
theorem Zan{d:U KS}:∀(a:U H) {c:H} {b:H×H},Zu d a c=T b->b.1∈a
 |[],_,_,h=>by cases h
 |e::a,c,b,h=>by unfold Zu at h;split at h;injection h with h;subst h;simp;exact mem_cons_of_mem _ (Zan _ h)
theorem Zcv{d:U KS}{b:U H}{e:H}{c:H×H}(a:Nv d b e=T c):c.1∈b:=by
 unfold Nv at a;split at a
 ·cases a
 exact Zan _ a
def Zio{e:U KS}{a d:U (U H)}{c b:U H}(i:F d=F a)(f:H):Gw e (a++[c]) (d++[b]) (F a) f=Nv e c (Z b f 0):=by unfold Gw;have g:Z (a++[c]) (F a) []=c:=(by simp[Z]);have h:Z (d++[b]) (F a) []=b:=(by rw[<- i];simp[Z]);rw[g,h]
def dfB(b:U KS):Y0 (H×H)->ZG
 |some a=>ZE (a.2=(Z b a.1 Aj).d)
 |none=>ZZ
def gy(f:U E)(h:H)(b:U KS)(c:Cu×U ZG×U (U H)×U (U H)):Cu×U ZG×U (U H)×U (U H):=
 let g:=Cx f (F b) c.1
 let a:=Hr (buS f (F b)) (g.1,c.2.1,[]) g.2
 let e:Cu:=if g.2=0∨40<Bk b a.2.2 then⟨a.1.k,Z0⟩ else a.1
 if e.z=Z0 then(e,a.2.1,c.2.2.1,c.2.2.2)
 else
  let d:=vaC f h (Bk b a.2.2) e
  (⟨d.1.k,d.1.z||(range h).any λi=>dfB b (Nv b a.2.2 (Z (d.2.map ZL) i 0))⟩,a.2.1,c.2.2.1++[a.2.2],c.2.2.2++[d.2.map ZL])
def BuP(q c:ZT)(d g i j l:H)(o p:ZY)(k:U (ZY×ZY))(b:U KS)(e:ZC)(a:Cu×U ZG×U (U H)×U (U H)):Prop:=
 ∃m n f h,Pd c g e a.1/\a.1.k<=ZK e/\Eo c d (L_ j (F b) (F b)) a.2.1/\F a.2.1=F b/\eo c d i l o m n p k f h b a.2.2.1 a.2.2.2/\Below d q c
def Zb7 s j M p f h3 e8 e9 a0 b9 f7 e2 a u N (e:ZC)(b:Cu) g i6 l (f0:BuZ l s j M p f h3 e8 e9 a0 b9 f7 e2 a u N)(b4:Pd l j e b)(k3:Eo l s (L_ p (F a) (F a)) g)(k4:F g=F a)(g8:ZK e<=4000000)(a5:b.k<=ZK e)(m7:f<=200)(hK:F a<=4)(d4:∀a2,XsV a2 a0 i6)(g7:s<=j)(k6:s<=p)(b7:s<=B l.1)(k7:rf f a u N)(m5:F u<=256):C_ 185 #[P_ j,P_ M,L_ p (F a) (F a)] l λt c=>t=ZI (Y5 #[])/\BuP l c s j M p f h3 a0 b9 a e (gy (Ab e) f a (b,g,u,N)):=by
 have⟨d8,h⟩:=ez_ (gy (Ab e) f a (b,g,u,N));rw[h];have e5:F (Ab e)=ZK e:=(by simp[Ab]);have f1:=Qq e;have d6:Hid (gt l l _ j p _ e b _ Dg []):=⟨b4,a5,k3,k4,Ad.nil,λS m4=>by simp at m4,Aa.refl _ _⟩;have v:=Y f0;obtain⟨d9,e0,n1⟩:∃f6 b,h3=ZH f6 (F a) b:=(by have⟨f6,b,t⟩:=f0.G.A.M.d;rw[f0.G.A.a] at t;exact⟨f6,b,t⟩);subst n1;have⟨m1,d7⟩:=Y_ d4 k7;unfold gy at h;simp only at h;have⟨K,g2⟩:=Z_ (F a);have P:=Y g2;clear f0 b4 k3 k4 d4 k7;have⟨_,_,_,L,_,_,_,_⟩:=d6.cells v;rw[g2] at L h hK ⊢;clear g2;refine dl_ ?_;go_enter func185,ntmps185;go_wp2_with fail
 apply (Cl _ K e b l d6.w g8 a5).m;rintro t p4 ⟨rfl,j0,l2⟩;have f3:=Y (d6.call j0 (e5 ▸ Ic (e5 ▸ a5)) l2);have d3:=(Jl f1 K b).2 O;clear j0 l2 d6 L;generalize Cx (Ab e) K b=W at *;obtain⟨W,z⟩:=W;simp only at f3 h d3 ⊢;have⟨h2,g9⟩:=Z_ ((W,g,[]):Cu×U ZG×U H);rw[g9] at h;have i1:=Y g9;clear g9;go_wp2_with fail
 go_loopw [7,8] (λm d n=>∃(k:H) (b:Cu) (g:U ZG) (c:U H),d=ZX ZQ k/\k<=z/\F c=k/\Hid ((b,g,c)=Hr (buS (Ab e) K) h2 k)/\Hid (gt l n s j p a e b g m c)) (λ_ d _=>z-ZL (ZA d))
 case atStart=>exact⟨0,W,g,[],X,v_,X,i1,f3⟩
 clear f3 i1;obtain⟨k,b,g,c,rfl,d2,b6,c3,q⟩:=hrel;have⟨w,R,b1,L,b2,b3,e3,c6⟩:=q.cells v;rw[P] at L
 rcases ZnT k z b.z with⟨e4,o⟩|⟨e4,o⟩|e4
 ·have c7:k<(z:E):=O;rw[o] at w;have A:=Ld (f:=buS _ K) (s:=h2) (k:=k) (by rw[<- c3];exact o);rw[<- c3] at A;have a9:Hid (Hr (buS (Ab e) K) h2 (k+1)=(bdC (Z g (Cx (Ab e) ((K:E)-1) b).2 ZZ) (Cx (Ab e) ((K:E)-1) b).1,g.set (Cx (Ab e) ((K:E)-1) b).2 Z0,c++[(Cx (Ab e) ((K:E)-1) b).2])):=A;have h1:=Au (z:=(K:E)-1) O O;clear A h o c3;go_wp2_with fail
  apply (Cl j _ e b wr q.w g8 q.y).m;rintro t c1 ⟨rfl,a6,a7⟩;have x:=Y (q.call a6 (e5 ▸ Ic (e5 ▸ q.y)) a7);have d1:=(Jl f1 ((K:E)-1) b).2 O;clear a6 a7 q w R b1 L b2 b3 e3 c6 h1;generalize Cx (Ab e) ((K:E)-1) b=y at *;obtain⟨y,i⟩:=y;simp only at x a9 d1 ⊢;have Q:i<K:=O;have m3:=F_ i K;have⟨_,e1,_,_,a3,a4⟩:=x.A.b x.r (k:=i) (P ▸ Q);injection e1 with e1;injection e1 with e1;subst e1;have⟨w,R,_⟩:=x.cells v;generalize b0:Z g i ZZ=a1 at *;go_upto_if 44 with fail
  go_cut [44] (λ_ d=>Hid (gt l d s j p a e (bdC a1 y) g u7 c))
  case first=>cases a1<;>(go_wp2;go_meet;first|exact x|exact x.g)
  have m:=hcut;clear hcut x a3 a4 w R;generalize bdC a1 y=a8 at *;have⟨_,e1,_,_,a3,a4⟩:=m.A.b m.r (k:=i) (P ▸ Q);injection e1 with e1;injection e1 with e1;subst e1;have r:=Y (m.f i);go_upto_region 9 with fail;clear a3 a4 m;generalize (ZO wc) _ _=h4 at *;obtain⟨D,G,rfl⟩:=r.vl.d;rw[Ak,b6] at r ⊢;have b8:=r.u.size;have b5:F (An c)<=1000:=(by rw[Ak];omega);go_wp2_with (at_builtin;refine ap_ [I i] (ra_ r.vl _) ?_)
  intro n7 l4 d;have n:=Y ((r.q r_).add (P ▸ Q) d.2.1 (by rw[<- Ak c];exact d.1));clear d r;refine J_ ?_;exact⟨k+1,a8,g.set i _,c++[i],g_,O,by simp[b6],a9.s,n⟩
 focus
  have a9:Hid (_∨k=z):=ZM o;have c7:k<(z:E):=O;rw[o] at w;clear o e4;go_upto_region 10 with fail
 rotate_left
 focus
  have a9:Hid (b.z=Z0∨k=z):=ZJ O;have c7:¬k<(z:E):=O;clear e4;go_upto_region 10 with fail
 all_goals
  rw[Uq c3 d2 a9] at h;simp only at h;obtain⟨D,G,rfl⟩:=q.vl.d;rw[Ak] at q ⊢;clear a9 c3 c7 w R b1 L b2 b3 e3 c6;have o8:F c<=4:=O;have a8:Hid (∀a2 b,gt l a2 s j p a e b g (V D (F c) G) c->C_ 137 #[P_ M,V D (F c) G] a2 (U_ (ZX ZQ (Bk a c:H)) a2)):=λa2 b b5=>dg _ f _ _ c _ a2 (b5.G v).j (b5.vl.f X) b5.n O;have⟨c0,e6⟩:=Z_ (Bk a c);rw[e6] at h;simp only[e6] at a8;have m0:=Y e6;clear e6;have⟨a3,a4⟩:=Z_ (ZE (z=0∨40<c0));rw[Zdp,a4] at h;go_cut [62] (λm d=>m=ZR a3/\Hid (gt l d s j p a e b g (ZH D (F c) G) c))
  case first=>
   clear h
   by_cases d:z=0
   ·have f9:((z:E)==0)=Z0:=(by simp[d]);have m:Hid (a3=Z0):=a4 ▸ aF (ZM d);clear d d2 b6 d3 a8 a4;go_wp2;go_meet
    exact⟨by rw[m],q⟩
   have f9:((z:E)==0)=ZZ:=t_;have m:Hid (a3=ZE ((c0:E)>40)):=a4 ▸ Bool.eq_iff_iff.2 t_;have b5:=a8 _ b q;clear d d2 b6 d3 a8 a4;go_wp2_with fail
   apply b5.m;rintro t c1 ⟨rfl,c9⟩;replace q:=Y (q.q c9);clear b5 c9;go_wp2;go_meet
   exact⟨by rw[m],q⟩
  obtain⟨rfl,x⟩:=hcut;clear q
  have f5:Hid ((bdC a3 b).z=ZZ->c0<=40):=λt=>by
   rw[<- a4,<- Zdp] at t;split at t
   ·cases t
   omega
  clear a4;have⟨w,R,_⟩:=x.cells v;go_upto_if 62 with fail
  go_cut [62] (λ_ d=>Hid (gt l d s j p a e (bdC a3 b) g (ZH D (F c) G) c))
  case first=>cases a3<;>(clear h d2 b6 d3 f5;go_wp2;go_meet;first|exact x|exact x.g)
  have m:=hcut;clear hcut x w R;generalize bdC a3 b=c5 at *;have⟨w,R,_⟩:=m.cells v
  cases o:c5.z
  ·rw[o] at w;have o6:=f5 o;rw[aC (by rw[o];decide)] at h;clear f5 o d2 b6 d3;go_wp2_with fail
   apply (a8 wc c5 m).m;rintro t c1 ⟨rfl,c9⟩;have r:=Y (m.q c9);clear c9 m w R a8;go_wp2_with fail
   apply (Zci j M f c0 e8 e9 a0 e c5 c1 r.w (r.G v).v g8 r.y m7 O).m;rintro t h4 ⟨rfl,b8⟩;have⟨j8,g3⟩:=ZlO f1 f c0 c5;have n:=Y (r.call b8.2.1 b8.2.2.1 b8.2.2.2);have g4:=b8.1.m (aG b7 r.u.size);have k0:∀k,_->B l.1<=k:=λk a5=>oj_ (B_ b8.1 k a5).1 r.u.size;generalize vaC (Ab e) f c0 c5=Q at *;have⟨y,c8⟩:=Z_ (Q.2.map ZL);have j5:An y=Q.2:=by rw[<- c8];exact Zne g3
   have j7:F y=f:=by rw[<- c8];simpa using j8
   have j6:∀l5∈y,l5<=255:=λl5 d4=>by rw[<- c8] at d4;obtain⟨A,d,rfl⟩:=mem_map.1 d4;have:=g3 A d;omega
   rw[<- j5] at g4;have i0:Hid (((⟨Q.1.k,Q.1.z||(range f).any λd=>dfB a (Nv a c (Z y d 0))⟩:Cu),g,u++[c],N++[y])=d8):=by show _=_;rw[<- h,<- c8]
   have⟨l6,d5⟩:=Y_ (d7.P O O n.n j7 j6) (n.G v);have f2:=K_ g4 k0;have p0:=n.u.size;clear b8 j8 g3 c8 j5 j7 j6 g4 k0 h r m0;have⟨_,_,b1,L,b2,b3,e3,c6⟩:=n.cells v;have⟨n9,o1,k8⟩:=d5.w.d;rw[length_map] at k8;have a1:=Y d5.w.M;rw[length_map] at a1;have h5:Hid (∀i,_->Bl _ (V D _ G)):=λi d1=>tu (v.G.w.j i (by rw[length_map];exact d1)) λk a5=>(B_ n.vl k a5).1;have h6:=Y (λi d1=>tu (v.G.y.j i (by rw[length_map];exact d1)) f2.2);have i3:Hid (Ad h4 _ (V D _ G) _):=n.vl.m b7;have l7:=Y n.n;have l8:=Y n.r;have h8:Hid (BuK l h4 _ j M p f (V d9 _ e0) e8 e9 a0 b9 _ e2 a u N e Q.1 _):=⟨n.w,n.y,n.A,d5,n.D g7 k6 b7,g7,b7⟩;subst k8;clear n v
   go_wp2_with (at_builtin;refine ap_ [V D (F c) G] (ra_ a1 _) ?_)
   rintro n7 l4 ⟨l0,i7,j1,_,n4,n2,m9⟩;have⟨j3,g5,k5⟩:=(h8.q (r_ (o:=O_ #[V D (F c) G] 25))).e (i3.q r_) h5 i7 l0 (j1.imp id (λb4=>by simpa using b4.1));have h7:Hid (Ad _ _ _ _):=k5 (f2.1.q r_);have a7:=Y j3;have g0:=n_ 2 g5;have g1:=R_ 2 _ _ g5;subst m9;clear l0 i7 j1 j3 g5 k5 h8 a1 i3 h5 f2 d5 b1 L b2 b3 e3 c6;go_upto_region 15 with fail;clear g0 g1;generalize (ZO l4) _ _=p6 at *;have⟨o0,o2,k9⟩:=a7.G.y.d;rw[length_map] at k9;have a1:=Y a7.G.y.M;rw[length_map] at a1;have b3:=n_ 3 a7.G.v;have o7:=d7.y ▸ m5;have p1:=aG b7 a7.D.size;subst k9;go_wp2_with (at_builtin;refine ap_ [L_ (B c1.1) f f] (ra_ a1 _) ?_)
   rintro p3 n8 ⟨l1,i9,j2,_,n5,n3,n0⟩;have⟨j4,g6⟩:=(a7.q (r_ (o:=O_ #[L_ (B c1.1) f f] 25))).f (h7.q r_) h6 i9 l1 (j2.imp id (λb4=>by simpa using b4.1));have h9:=Y j4;have g0:=n_ 3 g6;have g1:=R_ 3 _ _ g6;subst n0;clear l1 i9 j2 j4 g6 a7 a1 h6 h7 b3;go_upto_region 16 with fail;clear g0 g1;generalize (ZO n8) _ _=p5 at *;have⟨c2,e7⟩:=Z_ (λd=>(Q.1.z||(range d).any λd=>dfB a (Nv a c (Z y d 0))))
   have i5:Hid (∀d,c2 (d+1)=(c2 d||dfB a (Nv a c (Z y d 0)))):=λd=>by rw[<- e7];simp[range_succ,Bool.or_assoc]
   have i4:Hid (c2 0=Q.1.z):=(by show _=_;rw[<- e7];simp);have f4:Hid (((⟨Q.1.k,c2 f⟩:Cu),g,u++[c],N++[y])=d8):=(by show _=_;rw[<- i0,<- e7]);have i2:Hid (∀d,_=Nv a c (Z y d 0)):=λd=>Zio d7.y d;clear e7 i0 d7;go_wp2_with fail
   go_loopw [11] (λA a6=>∃d:H,A=ZX ZQ d/\d<=f/\Hid (BuK l a6 s j M p f (ZH d9 (F a) e0) (ZH (T ⟨n4,0,ZP⟩) (F u+1) n2) (ZH (T ⟨n5,0,ZP⟩) (F N+1) n3) a0 b9 (f7++[ZH D (F c) G]) (e2++[ZH (T ⟨B c1.1,0,ZP⟩) f f]) a (u++[c]) (N++[y]) e ⟨Q.1.k,c2 d⟩ g)) (λA _=>f-ZL (ZA A))
   case atStart=>exact⟨0,X,v_,i4 ▸ h9⟩
   clear h9 i4;obtain⟨d,rfl,o9,A⟩:=hrel;have b1:=n_ 0 A.G.v;have b2:=n_ 2 A.G.v
   by_cases m6:d<f
   ·have c7:d<(f:E):=O;have h0:=df M f (F u) d i6 (A.G.h (m1 _)) l6 s_ m6;rw[i2] at h0;have b0:=i5 d;have h1:i64.wrap (((F u+1:H):E)-1)=F u:=by rw[Au O O];omega
    have l9:Hid (∀W,Nv a c (Z y d 0)=T W->W.1<K):=λW m8=>by rw[<- P];exact l7 _ (Zcv m8)
    generalize Nv a c (Z y d 0)=n6 at *;go_wp2_with fail
    apply h0.m;rintro t l3 ⟨rfl,j9⟩;have a6:=Y (A.q j9);clear j9 h0 A b1 b2 h1 i2 i5 f4
    cases n6 with
    | none=>
     simp only[re];refine J_ ?_;exact⟨d+1,g_,O,by rw[b0,show dfB a ZP=ZZ from X,Bool.or_false];exact a6⟩
    | some m2=>
     obtain⟨S,c4⟩:=m2;have k2:=l9 _ X;simp only at k2;have⟨p2,o3,_,_,_,_,L,_,_,_,c6⟩:=a6.G.j.z (i:=S) (P ▸ k2);rw[P] at L;have k1:dfB a (T (S,c4))=ZE (c4=(Z a S Aj).d):=rfl;rw[k1] at b0;generalize (Z a S Aj).d=f8 at *;have m3:(S:E)≥0:=O;have o4:0<=(S:E):=O;have o5:(S:E)<K:=O;obtain⟨w,R⟩:ZV l3 (J j 2)=T (ZR (c2 d))/\YT l3 (J j 2)=ZZ:=⟨n_ 2 a6.w,R_ 2 _ _ a6.w⟩;simp only[re];clear k1
     by_cases d0:c4=f8
     ·have f9:((c4:E)==f8)=Z0:=(by simp[d0]);rw[aF d0,Bool.or_true] at b0;clear d0;refine J_ ?_;exact⟨d+1,g_,O,b0 ▸ a6.g⟩
     have f9:((c4:E)==f8)=ZZ:=t_;rw[aE d0,Bool.or_false] at b0;clear d0;refine J_ ?_;exact⟨d+1,g_,O,b0 ▸ a6⟩
   have c7:¬d<(f:E):=O;obtain rfl:d=f:=O
   have a6:Hid (BuP l wr s j M p d (V d9 (F a) e0) a0 b9 a e d8):=(by rw[<- f4];exact⟨_,_,_,_,A.w,A.y,A.A,l8,A.G,A.D⟩);clear f4;go_wp2;go_end0;exact⟨X,by rw[<- P];exact a6⟩
  rw[o] at w;have a6:Hid (BuP l wc s j M p f (V d9 (F a) e0) a0 b9 a e d8):=(by rw[aD o] at h;rw[<- h];exact⟨e8,e9,f7,e2,m.w,m.y,m.A,m.r,m.G v,m.D g7 k6 b7⟩);clear h o;go_wp2;apply bodyPost_ret (results_none X _ _ _) X;exact⟨X,by rw[<- P];exact a6⟩
def riB(a:U XS)(x:XS):ZG:=ZE (a=[]∨(Z a (F a-1) Dm).M<x.M∨(Z a (F a-1) Dm).M=x.M/\(Z a (F a-1) Dm).f<x.f)
def xcB(a:U KS)(c b:U (U H))(d:U XS)(x:XS):ZG:=(goR a c b x.M x.f&&riB d x)&&(ZE (x.i<F (Z a x.f Aj).e.f+F (Z a x.f Aj).e.c+2)&&!decide (x.i=(Z a x.f Aj).d))
def xcR(a:U E)(b:Cu):Cu×XS:=((Cx a 255 (Cx a 255 (Cx a 255 b).1).1).1,⟨(Cx a 255 b).2,(Cx a 255 (Cx a 255 b).1).2,(Cx a 255 (Cx a 255 (Cx a 255 b).1).1).2⟩)
def xcS(b:U E)(f:H)(c:U KS)(e d:U (U H))(a:Cu×U XS):Cu×U XS:=
 if(xcR b a.1).1.z=Z0∨f<=(xcR b a.1).2.M∨F c<=(xcR b a.1).2.f then(⟨(xcR b a.1).1.k,Z0⟩,a.2)
 else(if xcB c e d a.2 (xcR b a.1).2=Z0 then(xcR b a.1).1 else⟨(xcR b a.1).1.k,Z0⟩,a.2++[(xcR b a.1).2])
def xcC(a:U E)(f:H)(e:U KS)(d c:U (U H))(b:Cu):Cu×U XS:=Hr (xcS a f e d c) ((Lj a 2 b).1,[]) (aa (Lj a 2 b).2)
structure eu(h a:ZT)(d e j:H)(m k l g:ZY)(b:ZC)(c:Cu)(i:U XS):Prop where
 w:Pd a d b c
 y:c.k<=ZK b
 v:Nt a e j m k l g
 r:Xr a (B h.1) 231 3 g (i.map Cw)
 u:Aa (λf=>f=d∨f=e) h a
section
variable {w W b:ZT} {base cb db n:H} {vF vB vC vX v':ZY} {kvs:U (ZY×ZY)} {bvs cvs:U ZY} {Ks:U KS} {Fs Cs:U (U H)} {S:ZC} {c d:Cu} {a:U XS}
def eu.G(h:eu w W cb db n vF vB vC vX S c a)(e:eo w base db n vF vB vC Dg kvs bvs cvs Ks Fs Cs)(l:∃k,w.1[cb]? =T (O_ k 288)):eo W base db n vF vB vC vX kvs bvs cvs Ks Fs Cs:=by
 have j:∀b f d,w.1[b]? =T (O_ f d)->d≠288->d≠142->¬(b=cb∨b=db):=λb f d g o p i=>by
  obtain⟨m,q⟩:=l;have r:=e.v
  grind [Nt]
 exact⟨h.v,e.A.p h.u (λb f d g i _=>j b f d g O O),e.w.p h.u (λb f d g i _=>j b _ d g O O),e.y.p h.u (λb f d g i _=>j b _ d g O O),e.G,e.x,e.t⟩
def eu.call(e:eu w W cb db n vF vB vC vX S c a)(i:Pd b cb S d)(j:d.k<=ZK S)(g:Aa (λh=>h=cb) W b):eu w b cb db n vF vB vC vX S d a:=
 ⟨i,j,g.g e.v (λf=>e.v.o e.w C f.s),e.r.p g (λh k f=>Ag e.r.M k e.w C f),e.u.T (g.m (λ_ _ f=>ZM f))⟩
def eu.g(b:eu w W cb db n vF vB vC vX S c a):=b.call b.w.g.1 b.y b.w.g.2
def eu.q(d:eu w W cb db n vF vB vC vX S c a)(e:E_ W b):=d.call (d.w.q e) d.y (.a e)
def eu.cells(b:eu w W cb db n vF vB vC vX S c a):ZV W (J cb 2)=T (ZR c.z)/\YT W (J cb 2)=ZZ/\ZV W (J db 0)=T (I n)/\ZV W (J db 1)=T vF/\ZV W (J db 4)=T vX/\YT W (J db 4)=ZZ:=⟨n_ 2 b.w,R_ 2 _ _ b.w,n_ 0 b.v,n_ 1 b.v,n_ 4 b.v,R_ 4 _ _ b.v⟩
def eu.P{x:XS}(e:eu w W cb db n vF vB vC vX S c a)(j:Y3 W b (ZW vX))(i:ZD b (B w.1) 231 3 v' (F a+1) ((a.map Cw).flatten++Cw x)):eu w (ZO b (J db 4) v') cb db n vF vB vC v' S c (a++[x])/\Nt b db n vF vB vC vX:=by
 have f:=La (i:=4) e.v e.r.M j i C;have l:Nt _ _ n _ _ _ _:=f.1;have k:_≠_:=λd=>e.v.o e.w C d;have g:=e.r.P (x:=Cw x) (by rw[length_map];exact i) X;have o:Aa _ _ (ZO b _ v'):=(Aa.refl (λh=>h=db) _).setCell (p:=(J _ 4)) (λ_=>X) _;refine⟨⟨f.2.2.2.g e.w (λd=>?_),e.y,f.2.1,?_,?_⟩,l⟩
 ·rcases d with d|d
  exact k d;exact Ag e.r.M d e.w C X
 rw[map_append];exact g.p o (λh m d=>by obtain⟨p,q⟩:=Ac g.M m;grind);exact e.u.c f.2.2.2 λh d=>d.elim (λd=>ZM (ZJ d)) λd=>ZJ (B_ e.r.M h d).1
end
end Go.Proofs.YtfcgnpchbcmdeaaGreat
