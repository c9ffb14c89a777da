import Derived.Test.YtfcgnpchbcmdeaaGreatZsak
open _root_ renaming Nat->H,List->U,Bool->ZG,Int->E,rfl->X
open Bool renaming false->ZZ,true->Z0
open List renaming replicate->Y6,length->F,getD->Z,take->ZU,drop->ZF
open Array renaming size->B
open Option renaming some->T,none->ZP
open Go.World renaming cell?->ZV,ownsRow->ZD,alloc->ZN,setCell->ZO,grownBy->Y3,frozen?->YT,drew->YY
open Go.Value renaming bool->ZR,ownBlock->ZW,slice->ZH,int->ZX,agg->Y9,pointer->Y7,tuple->Y5
open Go renaming World->ZT,Value->ZY,madeCells->YV,maxLen->Y2
open Go.IntKind renaming i64->ZQ
open Or renaming inl->ZM,inr->ZJ
open Int renaming toNat->ZL
open Go.Ending renaming returned->ZI
open Go.Proofs renaming intOf->ZA
open Go.Proofs.Tryz renaming prog->Y8
open Decidable renaming decide->ZE
namespace Go.Proofs.YtfcgnpchbcmdeaaGreat
set_option linter.all false
set_option maxRecDepth 100000
set_option maxHeartbeats 8000000
open Go.RowKit List Nat Go.World Go.Proofs.Tryz Go.Value Go.IntKind Go.Lib Go.Region
def Ju(a:H):GS:=⟨[],Y6 a ZZ,0,0⟩
def Be(c:U KS)(d:U (U ZG))(f e:H)(b:U GS)(a:H):U GS:=
 if b.findIdx (Er (Z d a []) (Z c a Aj).g e)<F b then b.set (b.findIdx (Er (Z d a []) (Z c a Aj).g e)) (Ve (Z b (b.findIdx (Er (Z d a []) (Z c a Aj).g e)) Fm) a (Z d a []) (Z c a Aj).g)
 else b++[Ve (Ju f) a (Z d a []) (Z c a Aj).g]
def Ib(d:H)(b:U KS)(a:U (U ZG))(e c:H):U GS:=(Dp d a).foldl (Be b a e c) []
structure xi(d c)(b:U GS):Prop where
 y:F b<=c
 j:∀a∈b,F a.out=d/\a.g<=400/\a.k<=400/\F a.fs<=c
def Za9{a b}(c:F a=F b):Gd a b<=F b:=by have:=Ui (Ig a b);rw[Ue c] at this;exact this
def xi.i{c g budget Ks Os a f}(e:xi c g a)(p:F (Z Os f [])=c)(w:c<=200)(u:budget<=20)(v:(Z Ks f Aj).g<=100):xi c (g+1) (Be Ks Os c budget a f):=by
 unfold Be;split
 ·rename_i i;have q:=findIdx_getElem (w:=i);generalize a.findIdx (Er (Z Os f []) (Z Ks f Aj).g budget)=d at *;have n:Z a d Fm=a[d]:=w_;rw[n];have⟨o,r,s,t⟩:=e.j a[d] (Qf i);simp only[Er,Bool.and_eq_true,decide_eq_true_eq] at q;refine⟨by rw[length_set];have:=e.y;omega,λh b=>?_⟩
  rcases mem_or_eq_of_mem_set b with b|rfl
  have⟨j,k,l,m⟩:=e.j h b;omega;refine⟨?_,?_,?_,?_⟩;show F (orL _ _)=c;rw[Mg O];exact o;show a[d].g+Gd a[d].out (Z Os f [])<=400;omega;show a[d].k+_<=400;omega;show F (a[d].fs++[f])<=g+1;simp;omega
 refine⟨by rw[Qe];have:=e.y;simp;omega,λh b=>?_⟩
 rcases mem_append.1 b with b|b
 have⟨j,k,l,m⟩:=e.j h b;omega;simp only[mem_cons,not_mem_nil,or_false] at b;subst b;have d:F (Ju c).out=F (Z Os f []):=p ▸ length_replicate;refine⟨?_,?_,?_,?_⟩;show F (orL _ _)=c;rw[Mg d];simp[Ju];show 0+Gd (Ju c).out (Z Os f [])<=400;have:=Za9 d;omega;show 0+_<=400;omega;show F ([]++[f])<=g+1;simp
def xi.ok{d c b}(f:xi d c b)(k:c<=100):∀a∈b,GOk d a:=λa g=>by have⟨e,h,i,j⟩:=f.j a g;exact⟨e,O,O,O⟩
def Jq.c{b c l h m a}(j:ZgN b (L_ c l h) m a){i}(k:i<F a):∃d f e g,c<B b.1/\ZV b (J c (i*4))=T (ZR (Z a i Aj).e.a)/\ZV b (J c (i*4+1))=T (V d (F (Z a i Aj).e.f) f)/\ZV b (J c (i*4+2))=T (V e (F (Z a i Aj).e.c) g)/\ZV b (J c (i*4+3))=T (I (Z a i Aj).d)/\Ad b 0 (V d (F (Z a i Aj).e.f) f) (Z a i Aj).e.f/\Bj b 0 (V e (F (Z a i Aj).e.c) g) (Z a i Aj).e.c:=by
 have⟨p,n,d,f,e,g,o,q⟩:=j.at k
 grind
def It.c{b a h e d c}(f:It b (L_ a h e) d c){i}(g:i<F c):a<B b.1/\ZV b (J a i)=T (Z d i (N_)):=by
 have⟨l,j,k,m⟩:=f.at g
 grind
def ZeB{k:ZT}{g e j b d c i l f}(h:ZD k g e j (ZH b d c) i l)(a:ZW (ZH b d c)=T f):b=T ⟨f,0,ZP⟩:=by
 rcases h.2 with⟨e,_⟩|⟨o,m,n,e,_⟩
 rw[e] at a;cases a;injection e with e _ _;subst e;simp[ZW] at a;rw[a]
def KS.a(a:KS):(Kz a.e.a (F a.e.f) (F a.e.c):H)+2=(a.g:E):=by unfold KS.g ES.b;omega
def ZqT(g:ZT)(d:H)(f:ZY)(b:U GS):Prop:=∃a e c,d<=a/\Lx g a f e c b
def hy(j a:H){l f6 f4 N f5:H}{j7 j3 e g G}(i4:j+1<=4)(h7:F e=j+1)(e4:F g=j+1)(hK:ZgN G (L_ f6 (j+1) f4) j7 e)(e3:It G (L_ N (j+1) f5) j3 g)(f2:∀g9∈g,F g9=a)(a5:a<=200)(h9:l<=20)(i0:∀K∈e,K.g<=100):C_ 206 #[L_ f6 (j+1) f4,L_ N (j+1) f5,I l] G λp c=>∃b,p=ZI b/\ZqT c (B G.1) b (Ib j e g a l)/\E_ G c:=by
 have g1:=Y (Xz j a G i4 e4 e3 f2 a5);have o:=x6_ hK e3 h7 e4 f2 i0;have P:=K_ (Lg j g) (jv j g);refine dl_ ?_;go_enter func206,ntmps206;go_wp2_with fail
 apply g1.m;rintro p u ⟨l8,rfl,c8,e6⟩;have⟨l6,l7,f3⟩:=c8.d;rw[Ak,P.1] at f3;subst f3;obtain⟨j4,i7,k4,k3,_,_⟩:=c8.b (k:=0) (by rw[Ak];exact P.1) O;subst i7;have c9:=e6.size;have⟨g8,d5⟩:=Y_ c8 e6;have g6:Hid (Ib j e g a l=(Dp j _).foldl _ _):=rfl;generalize Dp j g=m at *;go_wp2_with fail
 go_loopw [15,7] (λb d c=>∃(k:H) (n:U H) (A:H->H->Prop),b=ZX ZQ k/\k<=j+1/\Hid (Lx c (B u.1) d n A ((ZU k m).foldl (Be e g a l) [])/\xi a k ((ZU k m).foldl (Be e g a l) []))/\Hid (E_ u c)) (λb _ _=>j+1-ZL (ZA b))
 case atStart=>
  refine⟨0,[],λ_ _=>False,X,v_,⟨⟨⟨rn_,X,(λi x=>by simp at x),(λi t x=>by simp at x)⟩,(λi x=>by simp at x),(λk e9=>by simp[ZW] at e9),(λi x=>by simp at x)⟩,⟨s_,s_⟩⟩,y_⟩
 obtain⟨k,n,A,rfl,e9,a0,W⟩:=hrel;have i9:=W.size
 by_cases f1:k<j+1
 ·have f0:k<F m:=P.out.1 ▸ f1;have M:Z m k 0<j+1:=by have:Z m k 0=m[k]:=(by simp[Z,f0]);rw[this];exact P.2 _ (Qf _)
  have i1:(ZU (k+1) m).foldl (Be e g a l) []=Be e g a l ((ZU k m).foldl (Be e g a l) []) (Z m k 0):=by
   rw[Qi f0,foldl_append]
   grind
  have a9:=Y i1;have j8:ZV wr (J j4 k)=T (I (Z m k 0:H)):=(by have:=(g8.c (by rw[Ak];exact P.1.s) f1).1;rw[Bq] at this;exact T_ W this);generalize (Z m) k 0=c,(ZU k m).foldl (Be e g a l) []=f at *;have e7:=d5.T (W.m c9);have e5:=o.2.1.q e7;have⟨h0,h2,h1,h3,k1,k8,k9,l0,l1,_⟩:=(o.1.q e7).c (i:=c) (o.2.2.1 ▸ M);have⟨k2,d1⟩:=e5.c (i:=c) (o.2.2.2.1 ▸ M);have b7:=e5.j c (o.2.2.2.1 ▸ M);have c6:F (Z g c [])=a:=o.2.2.2.2.1 _ (by simp[Z,show c<F g by rw[o.2.2.2.1];exact M]);have i5:(Z e c Aj).g<=_:=o.2.2.2.2.2 _ (by simp[Z,show c<F e by rw[o.2.2.1];exact M]);have⟨Q,a1,R⟩:=b7.d;rw[R] at d1 b7;rw[c6] at d1 b7;have g7:=KS.a (Z e c Aj)
  have g5:Hid (∀b3:ZT,C_ 146 #[Y9 #[ZR (Z e c Aj).e.a,V h0 (F (Z e c Aj).e.f) h2,V h1 (F (Z e c Aj).e.c) h3]] b3 (U_ (ZX ZQ (Z e c Aj).g) b3)):=λb3=>by rw[<- g7];exact Fq _ _ _ _ _ _ _ b3 O
  have d9:=K_ b7 c6;have e0:Hid (Be e g a l f c=if _<_ then _ else _):=rfl;have d8:=Y (a0.2.i c6 a5 h9 i5)
  have c7:∀b,Q=T ⟨b,0,ZP⟩->b<B G.1:=λb h=>by have d:=o.2.1.j c (o.2.2.2.1 ▸ M);rw[R,h] at d;exact(B_ d b X).2
  generalize (Z e) c Aj=b2,Z g c []=s at *;generalize b2.e.a=l4,F b2.e.f=l2,F b2.e.c=l3,b2.g=z,Be e g a l f c=d4 at *;have⟨b5,b6,i3⟩:=a0.1.x.a;subst i3;go_wp2_with fail
  apply (g5 _).m;rintro p f8 ⟨rfl,a3⟩;have k5:=a3.size;have j1:=T_ a3 d1;have d7:Hid (Lx f8 (B u.1) (V b5 (F f) b6) n A f):=(by refine a0.1.p (S:=λ_=>False) (Aa.a a3) (λ_ _=>id));have b0:=K_ (d9.1.q a3) d9.2;have g0:=Y (W.T (a3.m i9));have b1:=Y a0.2;have g3:=Y (Yg b5 Q b6 a a1 z l A f s f8 d7.x (b1.ok O) b0.1 b0.2 a5 O (p_ b1.y));generalize i2:F f=D at *;have w:=Y i2;go_wp2_with fail
  apply g3.m;rintro p d ⟨rfl,a4⟩;have k6:=a4.size;have j2:=T_ a4 j1;have r:=Y (d7.p (S:=λ_=>False) (Aa.a a4) (λ_ _=>id));have L:=K_ (b0.1.q a4) b0.2;have a8:=Y (g0.T (a4.m O));generalize f.findIdx (Er s z l)=q at *
  by_cases y:q<D
  ·have R:Zd4 n D q=Y7 (T (J (Z n q 0) 0)):=(by unfold Zd4;rw[aD y];rfl);rw[R];have⟨b8,b9,a2⟩:=r.x.j q (w ▸ y);have a6:=b1.out.ok O (Z f q Fm) (by simp[Z,show q<F f by rw[w.out];exact y])
   have a7:=Y (Zfv c z b8 b9 Q a a1 s d a2 L.out.1 a6.out L.out.2 a5 a6.g a6.k O a6.fs (λb h t=>by
     have x:=r.u _ (w ▸ y) b t;have:=c7 b (ZeB L.1 h)
     omega))
   have c2:Hid (d4=f.set q (Ve (Z f q Fm) c s z)):=(by have:=e0.out;rw[aD y] at this;exact this);have⟨d0,b4⟩:=W_ (Z n q 0);have c4:=Y b4;rw[<- b4] at a7 ⊢;clear b4;go_wp2_with fail
   refine a7.m ?_;rintro p v ⟨rfl,⟨K',c3,c5⟩,c1⟩;have x:Hid (Lx v (B u.1) (V b5 D b6) n (λt=>if t=q then K' else A t) ((ZU (k+1) m).foldl (Be e g a l) [])):=(by rw[a9,c2];exact r.put (w ▸ y) c1 (by rw[<- c4];exact c3) c5 O);have c0:Hid (E_ u v):=a8.T (c1.b a8.size λb t=>p_ (r.u q (by rw[w];exact y) b t));have t:Hid (xi a (k+1) ((ZU (k+1) m).foldl (Be e g a l) [])):=a9 ▸ d8;refine J_ ?_;exact⟨k+1,n,_,g_,O,⟨x,t⟩,c0⟩
  have R:Zd4 n D q=Y7 ZP:=(by unfold Zd4;rw[aC y]);rw[R];have c2:Hid (d4=f++[Ve (Ju a) c s z]):=(by have:=e0.out;rw[aC y] at this;exact this);have k0:=Re a O;have c1:Hid (ZD d 0 313 1 (V b5 D b6) D (n.map sv)):=(by have:=r.x.M;rw[w] at this;exact this);have j9:D<=100:=oj_ b1.y w.out;go_wp2_with (at_builtin;refine ap_ [P_ (B d.1+1)] (((c1.alloc _).alloc _).alloc _) ?_)
  rintro j6 v ⟨j5,b4,e1,_,_⟩;have⟨d3,a6⟩:=W_ (ZN (ZN (ZN d (O_ (YV #[ZR ZZ] a) 4)) (O_ #[N_,L_ (B d.1) a a,I 0,I 0] 351)) (O_ #[P_ (B d.1+1)] 313));rw[<- a6] at b4 e1;have j0:B d3.1=B d.1+1+1+1:=(by rw[a6];simp);have e8:E_ d d3:=a6 ▸ ((r_.alloc s_ _).alloc t_ _)
  have i6:xk d3 (λb=>b=B d.1∨b=B d.1+1) (B d.1+1) (Ju a):=by refine⟨V _ 0 0,L_ (B d.1) a a,⟨?_,Ad.nil,?_,ZJ X,λb h=>by simp[ZW] at h,λb h=>by simp[ZW] at h;exact ZM h.s,λb h=>O⟩⟩;rw[a6];have:=ha_ (ZN d (O_ (YV #[ZR ZZ] a) 4)) (O_ #[N_,L_ (B d.1) a a,I 0,I 0] 351);rw[show B (ZN d (O_ (YV #[ZR ZZ] a) 4)).1=B d.1+1 by simp] at this;exact(hc_ s_).T this;rw[a6];exact((Rc a d 0 O v_).alloc _).alloc _
  have c4:Lx v (B u.1) j6 (n++[B d.1+1]) (λt=>if t=F f then(λb=>b=B d.1∨b=B d.1+1) else A t) (f++[Ju a]):=by
   refine(r.p (S:=λ_=>False) (Aa.a e8) (λ_ _=>id)).a (w ▸ j5) b4 ?_ i6 (λi x b h t=>?_) (λb h t=>?_) (λb h=>O) O
   ·rcases e1 with p|p
    exact ZM p;exact ZJ ⟨_,p.1,O⟩
   have⟨b8,b9,a2⟩:=r.x.j i x;have:=a2.j b h;omega;have:=(B_ c1 b h).2;omega
  have d2:=(Aa.a e8).T ((Aa.refl _ _).grown b4 (λb h _=>h));have k7:B d.1+1+1+1<=B v.1:=by rw[<- j0];exact b4.size
  have l5:ZV v (J N c)=T (V Q a a1):=by
   have:v.1[N]? =d.1[N]?:=d2.block N O (λh=>by
    have⟨x,a2⟩:=Ac c1 h;have t:=r.i _ h;have:=o.2.1.c (i:=c) (o.2.2.2.1 ▸ M)
    omega)
   rw[cb_ (a:=(J N c)) this];exact j2
  have h8:Eo v 0 (V Q a a1) s:=d2.M L.1 (λb h t=>by
   have x:=r.i b t;have:=c7 b (ZeB L.1 h)
   omega)
  have⟨b8,b9,a2⟩:=c4.x.j (F f) s_;have h4:Z (f++[Ju a]) (F f) Fm=Ju a:=(by simp[Z]);have e2:Z (n++[B d.1+1]) (F f) 0=B d.1+1:=(by have:=r.x.y;simp[Z,<- this]);rw[h4,e2] at a2;simp only[if_true] at a2
  have a7:=Y (Zfv c z b8 b9 Q a a1 s v a2 h8 (by simp[Ju]) L.2 a5 (by simp[Ju]) (by simp[Ju]) O (by simp[Ju]) (λb h t=>by
    have:=c7 b (ZeB L.1 h)
    omega))
  have g4:=Y c4;have d6:Hid (E_ u v):=a8.T (d2.b a8.size λb t=>p_ (r.i b t));have⟨h5,h6,d0⟩:=c4.x.a;rw[Qe] at d0;simp only[length_cons,length_nil,Nat.zero_add,w.out] at d0;subst d0;have g2:=Y e2;go_wp2_with fail
  apply a7.m;rintro p f9 ⟨rfl,⟨K',c3,c5⟩,f7⟩;have x:Hid (Lx f9 (B u.1) (V h5 (D+1) h6) (n++[B d.1+1]) (λt=>if t=F f then K' else(if t=F f then(λb=>b=B d.1∨b=B d.1+1) else A t)) ((ZU (k+1) m).foldl (Be e g a l) [])):=(by rw[a9,c2];have:=g4.put (i:=F f) (K':=K') (G':=Ve (Ju a) c s z) s_ (by simpa using f7) (g2 ▸ c3) (by simpa using c5) O;have p:(f++[Ju a]).set (F f) (Ve (Ju a) c s z)=f++[Ve (Ju a) c s z]:=(by rw[set_append_right _ _ x_,Nat.sub_self,set_cons_zero]);rw[p] at this;exact this);have c0:Hid (E_ u f9):=d6.T (f7.b d6.size λb t=>O);refine J_ ?_;exact⟨k+1,_,_,g_,O,⟨x,(a9 ▸ d8)⟩,c0⟩
 have b:¬k<(j:E)+1:=O;have x:Hid (Lx wr (B u.1) u7 n A (Ib j e g a l)/\E_ G wr):=(by have t:=a0.1;rw[aI (p_ P.1)] at t;rw[g6];exact⟨t,d5.T (W.m c9)⟩);go_wp2;go_ret;exact⟨_,X,⟨_,_,_,c9,x.1⟩,x.2⟩
def ei{b a c}:C_ 330 #[Y9 #[I b,I a]] c λd e=>d=ZI (ZX ZQ a)/\e=ZN c (O_ #[I b,I a] 379):=by refine er_ ?_;exact⟨X,X⟩
def Zct{a b c}:C_ 299 #[Y9 #[I a,I b]] c λd e=>d=ZI (ZX ZQ a)/\e=ZN c (O_ #[I a,I b] 379):=by refine er_ ?_;exact⟨X,X⟩
def Az.put{b f a g d k e}(h:Az b f (L_ a d g) e)(l:d=F e) c:Az (ZO b (J a k) (ZX .u8 c)) f (L_ a d g) (e.set k c)/\Y3 b (ZO b (J a k) (ZX .u8 c)) (T a):=by subst l;have⟨i,j⟩:=World.ownsRow.stored h k (ZX .u8 c);refine⟨?_,j⟩;unfold Az;rw[length_set,map_set];exact i
def Az.c{c f a g b k d}(e:Az c f (L_ a b g) d)(h:b=F d)(i:k<b):ZV c (J a k)=T (ZX .u8 (Z d k 0))/\YT c (J a k)=ZZ:=by
 subst h;refine⟨?_,World.ownsRow.frozenAt e k⟩;rw[World.ownsRow.cellAt e k O]
 grind
def Az.alloc{w a c d}(e:Az w a c d) b:Az (ZN w b) a c d:=ra_ e b
def Znr{G s} d6 a c {o b} i {m e n}(t:n.1[G]? =T (.cells #[I (d6:H),I a,L_ c b o] 396 (0,0)))(L:Az n s (L_ c b o) (Bg e b (i*a)))(a7:∀d7,e d7<=1)(a9:∀Q,Q<a->e (i*a+Q)=m/2^Q%2)(e9:i*a+a<=8*b)(c3:i<=200)(b9:a<=6):C_ 331 #[Y7 (T ⟨G,0,ZP⟩),ZX ZQ i,ZX ZQ m] n λq w=>q=ZI (Y5 #[])/\Az w s (ZH (T ⟨c,0,ZP⟩) b o) (Bg e b (i*a+a))/\Aa (λk=>k=c) n w:=by
 have b4:=n_ 0 t;have b5:=n_ 1 t;have e5:=(Qb t).1
 have c2:G≠c:=λq=>by
  have⟨d,f⟩:=Ac L (k:=c) X
  grind
 have e7:_<=1200:=Nat.mul_le_mul c3 b9;have e8:i*a=((i*a:H):E):=s_;have⟨b3,S,b2,W⟩:=y4_ a9 a7 t L;clear t L a7 a9;generalize i*a=h at *;refine q_ ?_;go_wp2_with fail
 apply (ei).m;rintro q d8 ⟨rfl,rfl⟩;go_wp2_with fail
 apply (ei).m;rintro q d8 ⟨rfl,rfl⟩;go_wp2_with fail
 go_loopw [21] (λd f=>∃k:H,d=ZX ZQ k/\k<=a/\K (Az f s (ZH (T ⟨c,0,ZP⟩) b o) (Bg e b (h+k))/\Aa (λw=>w=c) n f)) (λd _=>a-ZL (ZA d))
 exact⟨0,X,v_,(W.alloc _).alloc _,((Aa.refl _ _).alloc _).alloc _⟩;clear W b4 b5;obtain⟨k,rfl,e6,r⟩:=hrel
 by_cases c0:k<a
 ·have a5:=r.2.g b2 c2;have a1:=n_ 2 a5;have⟨g,A⟩:=W_ (h+k);have⟨f,M⟩:=W_ (g/8);have⟨d,N⟩:=W_ (g%8);have a4:f<b:=O;have⟨z,a2⟩:=r.1.c (k:=f) (by rw[Dj]) a4;rw[Kj e _ a4] at z;have⟨l,u⟩:=W_ (Hf e (h+k) f);have⟨j,a6⟩:=W_ (m/2^k%2);have a8:e g=j:=(by rw[A,b3 k c0,a6]);have c4:l<256:=u ▸ (li S _ _);have b1:l<2^d:=(by rw[u,M,N,<- A];exact lh S g);have b7:j<=1:=O;have e4:d<8:=O
  have e3:2^d<=128:=by
   have:(2:H)^d<=2^7:=Nat.pow_le_pow_right C O
   simpa using this
  have b8:_<=1*2^d:=aK _ b7;have c1:Hf e (h+k+1) f=l+j*2^d:=by rw[u,M,N,<- A,lg,a8]
  have a0:K ((Bg e b (h+k)).set f (l+j*2^d:H)=Bg e b (h+(k+1))):=by
   show _=_
   grind [cy]
  have b0:_=l+j*_:=Zey b1;have c6:h+k=(g:E):=O;have c8:(g:E).tdiv 8=f:=w_;have c9:g/8=(f:E):=O;have d0:(g:E).tmod 8=d:=w_;have d1:g%8=(d:E):=O
  have d2:bits BinOp.and IntKind.u8 (m/2^k%256) 1=j:=by
   have q:(m/2^k%256)=((m/2^k%256:H):E):=s_;rw[q];have:=(Zdt (m/2^k%256) 1 O C).1
   grind
  have d3:_=(g:E):=Au O O;have d4:_=(f:E):=Au O O;have⟨x,v⟩:=W_ (j*2^d);have c5:x<256:=O
  have d5:IntKind.u8.wrap (j*2^d)=x:=by rw[Zw _ w_ w_];rw[v];simp
  have⟨R,P⟩:=W_ (l+x);have c7:bits BinOp.or IntKind.u8 l x=R:=(by rw[(Zdt l x c4 c5).2,v,b0,P,v]);rw[<- v,<- P] at a0;have e1:0<=(d:E):=O;have e2:(d:E)<=8:=O;clear v P b0 b8 b1;rw[<- u] at z;have a3:ZV (YY wr) _=_:=z;have b6:YT (YY wr) _=_:=a2;have e0:=F_ k a;have d9:=F_ f b;have D:_:=r;clear a5 A M N z a2 u a6 a8 c1 r;go_upto_region 5 with fail;refine Af (λw=>ZV w _=T _/\ZV w _=T _) 18 k_ ⟨a1,a3⟩ (λhHeld=>?_);refine G_ ?_;refine le_ ?_;have y:K (Az (YY (ZO wr (J c f) (ZX .u8 R))) s (L_ c b o) (Bg e b (h+(k+1)))/\Aa (λw=>w=c) n (YY (ZO wr (J c f) (ZX .u8 R)))):=by rw[<- a0];exact⟨World.ownsRow.drew (D.1.put (by rw[Dj]) _).1,(D.2.setCell (p:=(J c f)) (λ_=>X) _).drew⟩
  clear D hHeld a1 a3 b6 c6 c8 c9 d0 d1 d2 d3 d4 d5 c7;refine J_ ?_;exact⟨k+1,g_,O,y⟩
 have d:¬k<(a:E):=O;have y:K (Az wr s (L_ c b o) (Bg e b (h+a))/\Aa (λw=>w=c) n wr):=w_;clear r;go_wp2;go_end0;exact⟨X,y.1,y.2⟩
def Rd(a:H)(c:a<=1000000) b:(Instr.makeSlice 66 (I a) (I a)).run Y8 b=.ok (L_ (B b.1) a a) (ZN b (O_ (YV #[ZX .u8 0] a) 5)):=mk_ 1
theorem Rb a (b:ZT) c (e:a<=1000000)(d:c<=B b.1):Az (ZN b (O_ (YV #[ZX .u8 0] a) 5)) c (L_ (B b.1) a a) (Y6 a 0):=by
 have:=ownsRow_lit (base:=c) (size:=1) (e:=5) b (YV #[ZX .u8 0] a) a d (by unfold Y2;omega) (by simp[YV]);rw[Tl] at this;unfold Az
 simpa using this
def Cf(c:U H)(a b:H):H:=Z c (b/a) 0/2^(b%a)%2
theorem Jf b c:∀a,Cf b c a<=1:=λa=>by unfold Cf;omega
theorem Mz d {a c b}(e:b<a):Cf d a (c*a+b)=Z d c 0/2^b%2:=by
 unfold Cf;have f:(c*a+b)/a=c:=by rw[Nat.mul_comm,mul_add_div O,div_eq_of_lt e,Nat.add_zero]
 grind [Nat.mul_comm,mul_add_mod,mod_eq_of_lt]
structure Oo(c:ZT)(d f b g e:H)(a:U E):Prop where
 r:c.1[f]? =T (O_ #[I g,I e,L_ b (F a) (F a)] 396)
 M:Az c d (L_ b (F a) (F a)) a
def ZgI(h:ZT)(b:H)(g:ZY)(e d:H)(c:U E):Prop:=∃a f,g=P_ a/\b<=a/\Oo h b a f e d c
def Zb{a0}(b a g a1:H) h e (S:Ad e 0 (V a0 g a1) (An h))(G:F h=g)(c3:g<=b)(b1:b<=200)(P:a<=6):C_ 301 #[Y9 #[I b,I a],V a0 g a1] e λn f=>∃c,n=ZI c/\ZgI f (B e.1) c b a (Bg (Cf h a) ((b*a+7)/8) (g*a))/\E_ e f:=by
 have z:=K_ S G;have⟨j,o⟩:=W_ (b*a);have b9:j<=1200:=o ▸ (Nat.mul_le_mul b1 P);have c2:b*a=(j:E):=(by rw[o];simp);have⟨c,u⟩:=W_ ((j+7)/8);have w:K (c=_/\_/\_):=⟨by rw[u,o],o,u⟩;have b4:((j:E)+7).tdiv 8=c:=w_;have b5:_=(j:E):=Au O O;have b6:_=(j:E)+7:=Au O O;have b7:_=(c:E):=Au O O;have b0:=Rd c O;have c4:c<=151:=O;rw[<- w.1];clear S G o u;refine q_ ?_;go_upto_region 1 with fail;have⟨d,k⟩:=W_ (ZN e (O_ #[I b,I a] 379));rw[<- k];have b3:B d.1=B e.1+1:=(by rw[k];simp);have A:D_ d (B e.1) 0 (I b):=(by rw[k];simp[go_sem]);have D:D_ d (B e.1) 1 (I a):=by rw[k];simp[go_sem]
 have a2:K (E_ e d):=(by show Below _ _ _;rw[k];exact r_);have c1:B e.1<B d.1:=O;clear k b3;go_region_held3 (λf=>D_ f (B e.1) 0 (I (b:H))/\D_ f (B e.1) 1 (I (a:H))) (exact⟨X_ A,X_ D⟩) (first|(go_at_call 299;apply (Zct).m;rintro n f ⟨rfl,rfl⟩)|(go_at_call 330;apply (ei).m;rintro n f ⟨rfl,rfl⟩))
 have⟨m,l⟩:=W_ (YY (ZN (ZN (ZN (ZN d (O_ #[I b,I a] 379)) (O_ #[I b,I a] 379)) (O_ (YV #[ZX .u8 0] c) 5)) (O_ #[I b,I a,L_ (B d.1+1+1) c c] 396)));rw[<- l];have c7:B m.1=B d.1+1+1+1+1:=by rw[l];simp
 have a3:K (E_ e m):=(by show Below _ _ _;rw[l];exact(a2.T (((((y_.alloc O _).alloc t_ _).alloc t_ _).alloc t_ _).drew)));have M:H_ m (B d.1+1+1+1) #[I b,I a,L_ (B d.1+1+1) c c] 396:=by rw[l];have:=ha_ (ZN (ZN (ZN d (O_ #[I (b:H),I (a:H)] 379)) (O_ #[I (b:H),I (a:H)] 379)) (O_ (YV #[ZX .u8 0] c) 5)) (O_ #[I (b:H),I (a:H),L_ (B d.1+1+1) c c] 396);rw[show B (ZN (ZN (ZN d (O_ #[I (b:H),I (a:H)] 379)) (O_ #[I (b:H),I (a:H)] 379)) (O_ (YV #[ZX .u8 0] c) 5)).1=B d.1+1+1+1 by simp] at this;exact this
 have L:Az m (B e.1) (L_ (B d.1+1+1) c c) (Bg (Cf h a) c 0):=(by rw[oq,l];have:=Rb c (ZN (ZN d (O_ #[I (b:H),I (a:H)] 379)) (O_ #[I (b:H),I (a:H)] 379)) (B e.1) O t_;have f:=(this.alloc (O_ #[I (b:H),I (a:H),L_ (B d.1+1+1) c c] 396));rw[show B (ZN (ZN d (O_ #[I (b:H),I (a:H)] 379)) (O_ #[I (b:H),I (a:H)] 379)).1=B d.1+1+1 by simp] at f;exact f);have⟨a4,x⟩:=Y_ M L;clear l M L A D b0 b4 b5 b6 b7;have c5:B e.1<=B d.1+1+1:=O;have a6:K (B d.1+1+1+1<B m.1/\B d.1+1+1+1≠B d.1+1+1):=⟨O,O⟩;generalize (B d.1)+1+1=p at *;go_wp2_with fail
 go_loopw [21] (λi n=>∃f:H,i=ZX ZQ f/\f<=g/\K (Az n (B e.1) (ZH (T ⟨p,0,ZP⟩) c c) (Bg (Cf h a) c (f*a))/\Aa (λr=>r=p) m n)) (λi _=>g-ZL (ZA i))
 exact⟨0,X,v_,by rw[Nat.zero_mul];exact⟨x,Aa.refl _ _⟩⟩;clear x;obtain⟨f,rfl,c0,i⟩:=hrel;have s:E_ e wr:=(by have q:=i.2;have n:=a3.out;exact⟨q.os.T n.os,q.tape.T n.tape,q.output.T n.output,aG n.size q.size,λr t=>(q.block r O O).T (n.block r t)⟩);have a5:=Y s;have q:=i.2.g a4 a6.2
 by_cases a9:f<g
 ·obtain⟨c8,b2,c6,_,N,_⟩:=z.1.b (by rw[Ak];exact z.2) a9;subst b2;have a7:=T_ s N;rw[Bq] at a7;have Q:f*a+a=(f+1)*a:=w_;have a8:(f+1)*a<=b*a:=aK _ O;have t:=Y (Znr b a p f q i.1 (Jf h a) (λr n=>Mz h n) (p_ w.out) O P);rw[Q] at t;generalize (Z h) f 0=r at *;have b8:=F_ f g;have y:=Y i.2;clear N Q a8 i q s;go_wp2_with fail
  apply t.m;rintro n c9 ⟨rfl,R,W⟩;have v:=K_ R (y.T W);clear R W t y;go_wp2;go_roundw
  grind
  exact z_
 have n:¬f<(g:E):=O;have v:K (Oo wr (B e.1) (p+1) p b a (Bg (Cf h a) c (g*a))):=(by have:f=g:=O;subst this;exact⟨by rw[Dj];exact q,by rw[Dj];exact i.1⟩);clear i q s;go_wp2;go_ret;exact⟨_,X,⟨_,_,X,O,v⟩,a5⟩
def nzL(a:U H):U ZG:=a.map (λb=>ZE (b≠0))
def nzN(a:U H):H:=Dt (nzL a)
theorem Zd a:F (nzL a)=F a:=by simp[nzL]
def ZbR{N k}(a:k<F N):Z (nzL N) k ZZ=ZE (Z N k 0≠0):=by simp[nzL,Z,a]
def ZbO{j} c {h} b g (o:Ad g 0 (V j c h) (An b))(m:F b=c)(u:c<=200):C_ 298 #[V j c h] g (V_ (ZX ZQ (nzN b:H)) g):=by
 have e:=K_ o m;refine q_ ?_;go_wp2_with fail
 go_loop [8,3] (λd f=>∃a:H,d=ZX ZQ a/\a<=c/\f=ZX ZQ (Dt (ZU a (nzL b)):H)/\Dt (ZU a (nzL b))<=a) (λd _=>c-ZL (ZA d))
 exact⟨0,X,v_,X,x_⟩;obtain⟨a,rfl,s,rfl,t⟩:=hrel
 by_cases n:a<c
 ·obtain⟨x,rfl,w,_,l,_⟩:=e.1.b (by rw[Ak];exact e.2) n;rw[Bq] at l;have i:=Pm (ZU a (nzL b)) (Z (nzL b) a ZZ);rw[<- Rl (by rw[Zd];have:=e.2;omega),ZbR (p_ e.2)] at i;have q:=Y i;generalize Dt (ZU a (nzL b))=f,Z b a 0=k at *;have r:=F_ a c
  by_cases p:k=0
  ·subst p;have d:K (Dt (ZU (a+1) (nzL b))=f):=w_;refine J_ ?_;exact⟨a+1,g_,O,by rw[d],by rw[d];omega⟩
  have v:((k:E) !=0)=Z0:=w_;have d:K (Dt (ZU (a+1) (nzL b))=f+1):=w_;refine J_ ?_;exact⟨a+1,g_,O,by rw[d];go_num,by rw[d];omega⟩
 have i:¬a<(c:E):=O;have d:K (Dt (ZU a (nzL b))=nzN b):=(by show _=_;rw[aI (by rw[Zd];have:=e.2;omega)];rfl);generalize Dt (ZU a (nzL b))=f at *;go_wp2;go_ret;exact⟨by rw[d];rfl,X⟩
def ld(a:H) b (f:a<=1000):C_ 282 #[I a] b (V_ (ZX ZQ (Lib.bitLen a:H)) b):=by
 have c:K (C_ 150 #[ZX .u64 a] b (V_ (ZX ZQ (Lib.bitLen a:H)) b)):=(by have:=Tryz.bits_Len (a:H) b O O;rw[Int.toNat_natCast] at this;exact this);generalize Lib.bitLen a=d at *;refine q_ ?_;go_wp2_with fail
 apply c.m;rintro e g ⟨rfl,rfl⟩;go_wp2;go_ret;exact⟨X,X⟩
def Bu(b:U H):H->U (H×H)
 |0=>[]
 |a+1=>Bu b a++(if Z b a 0=0 then[] else[(a,Z b a 0)])
def Mi b:∀a,F (Bu b a)<=a
 |0=>by simp[Bu]
 | a+1=>by
  have:=Mi b a;simp only[Bu]
  grind
def Su(a:H×H):U ZY:=[I a.1,I a.2]
def Td:U (H×H)->U ZY
  |[]=>[]
  |b::a=>Su b++Td a
def yy a b:Td (a++b)=Td a++Td b:=by
 induction a with
 |nil=>rfl
 |cons e d c=>simp[Td,c]
def Xp(d:ZT)(b:H)(c:ZY)(a:U (H×H)):Prop:=ZD d b 405 2 c (F a) (Td a)
def Xp.P{c a b L x}(d:ZD c a 405 2 b (F L+1) (Td L++Su x)):Xp c a b (L++[x]):=by
 unfold Xp;rw[yy,Qe]
 simpa [Td] using d
def Xp.d{g d b a}(f:Xp g d b a):∃c e,b=ZH c (F a) e:=by
 rcases f.2 with⟨rfl,i⟩|⟨k,j,h,rfl,_⟩
 ·grind
 grind
structure ku(b:ZT)(d g f e:H)(a)(c):Prop where
 r:b.1[g]? =T (O_ #[I f,I e,a] 403)
 M:Xp b d a c
def Zde(h:ZT)(b:H)(f:ZY)(e d:H)(c:U (H×H)):Prop:=∃a g,f=P_ a/\b<=a/\ku h b a e d g c
def ss{A}(h g f:H){D:H} c a (a2:Ad a 0 (V A f D) (An c))(P:F c=f)(c0:f<=200):C_ 300 #[Y9 #[I h,I g],V A f D] a λk d=>∃b,k=ZI b/\Zde d (B a.1) b h g (Bu c f)/\E_ a d:=by
 have u:=K_ a2 P;have⟨i,n⟩:=W_ (ZN (ZN a (O_ #[I h,I g] 379)) (O_ #[I h,I g,N_] 403));have t:K (E_ a i):=(by show Below _ _ _;rw[n];exact r_.alloc s_ _);have c2:B i.1=B a.1+1+1:=by rw[n];simp
 have L:K (i.1[B a.1+1]? =T (O_ #[I h,I g,N_] 403)):=by
  show _=_
  grind [heap_alloc_new]
 refine q_ ?_;go_wp2_with fail
 go_loopw [13] (λe j=>∃(b:H) (G:ZY),e=ZX ZQ b/\b<=f/\K (ku j (B a.1+1+1) (B a.1+1) h g G (Bu c b)/\Aa (λd=>d=B a.1+1) i j)) (λe _=>f-ZL (ZA e))
 case atStart=>
  refine⟨0,N_,X,v_,?_,?_⟩;rw[<- n];exact⟨L,rn_⟩;rw[<- n];exact Aa.refl _ _
 obtain⟨b,G,rfl,b7,e⟩:=hrel;have c3:=e.2.size
 by_cases R:b<f
 ·obtain⟨m,a1,a0,_,y,_⟩:=u.1.b (by rw[Ak];exact u.2) R;subst a1;have a9:ZV wr (J m b)=T (I (Z c b 0:H)):=(by rw[Bq] at y;rw[cb_ (a:=(J m b)) ((e.2.block m O O).T (t.block m a0))];exact y);have N:K (Bu c (b+1)=_++_):=rfl;have⟨v,w,a3⟩:=e.1.M.d;subst a3;have b2:=n_ 2 e.1.r;have b8:=Mi c b;generalize (Z c) b 0=d at *;have b1:=F_ b f
  by_cases s:d=0
  ·subst s;have j:K (ku wr (B a.1+1+1) (B a.1+1) h g (V v (F (Bu c b)) w) (Bu c (b+1))/\Aa (λd=>d=B a.1+1) i wr):=(by rw[N,aD X,append_nil];exact e);go_wp2
   grind [ZA]
  have c1:((d:E) !=0)=Z0:=w_;have M:K (Bu c (b+1)=Bu c b++[(b,d)]):=w_;have S:=(Qb e.1.r).1;have r:K _:=e.1.M;generalize Q:F (Bu c b)=a6 at *;go_wp2_with (at_builtin;refine ap_ [I (b:H),I (d:H)] (r.alloc _) ?_)
  rintro o q ⟨a5,x,b5,_,_⟩;have l:q.1[B a.1+1]? =T (O_ #[I h,I g,V v a6 w] 403):=(by rw[x.block (B a.1+1) t_ (λk=>Ag r k.s e.1.r C X)];have:=e.1.r;exact(hc_ S).T this);have b3:=n_ 2 l;have b6:=R_ 2 _ _ l;have k:Xp q (B a.1+1+1) o (Bu c (b+1)):=(by rw[M];apply Xp.P;rw[Q];exact a5);have⟨b0,b4,z⟩:=k.d
  have j:K (ku (ZO q (J (B a.1+1) 2) o) (B a.1+1+1) (B a.1+1) h g o (Bu c (b+1))/\Aa (λd=>d=B a.1+1) i (ZO q (J (B a.1+1) 2) o)):=(by refine⟨⟨ht_ 2 _ _ _ l,Am k l C⟩,?_⟩;have a7:Aa _ i (ZN wr (O_ #[I (b:_),I (d:H)] 405)):=e.2.alloc _;have a8:=a7.grown x (λa4 W b9=>p_ (B_ r a4 W).1);exact a8.setCell (p:=(J (B a.1+1) 2)) (λ_=>X) _);rw[z] at j;subst z;generalize (F (Bu c (b+1)))=W at *;go_wp2;go_roundw
  grind
  exact z_
 have z:¬b<(f:E):=O
 have j:K (Zde wr (B a.1) (P_ (B a.1+1)) h g (Bu c f)/\E_ a wr):=by
  have:b=f:=O;subst this;have m:=e.2;have l:=t.out;refine⟨⟨_,_,X,O,e.1.r,?_⟩,⟨m.os.T l.os,m.tape.T l.tape,m.output.T l.output,aG l.size m.size,λd s=>(m.block d O O).T (l.block d s)⟩⟩;have o:=e.1.M;refine⟨o.1,?_⟩
  rcases o.2 with w|⟨v,q,r,k,y,x⟩
  exact ZM w;exact ZJ ⟨v,q,r,k,O,x⟩
 go_wp2;go_ret;exact⟨_,X,j.1,j.2⟩
def Zds:∀a:Fin 64,Lib.bitLen a.val<=6:=by decide+kernel
def Gj{a}(b:a<64):Lib.bitLen a<=6:=Zds ⟨a,b⟩
def ya:∀a:Fin 64,a.val<2^Lib.bitLen a.val:=by decide+kernel
def Ml{a}(b:a<64):a<2^Lib.bitLen a:=ya ⟨a,b⟩
def Id(f:ZT)(d:H)(e:ZY)(a:U H)(b:H):Prop:=
 (4*nzN a<F a/\∃c,e=.iface 380 c/\Zde f d c (F a) (Lib.bitLen b) (Bu a (F a)))∨
 (¬4*nzN a<F a/\∃c,e=.iface 382 c/\ZgI f d c (F a) (Lib.bitLen b) (Bg (Cf a (Lib.bitLen b)) ((F a*Lib.bitLen b+7)/8) (F a*Lib.bitLen b)))
def ue{a4}(a a5 c:H) d b (t:Ad b 0 (V a4 a a5) (An d))(s:F d=a)(L:a<=200)(G:c<64):C_ 257 #[V a4 a a5,I c] b λf g=>∃h,f=ZI h/\Id g (B b.1) h d c/\E_ b g:=by
 have a7:=Gj G;have Q:=Y (ld c b O);have b7:nzN d<=a:=(by grind [Ui,Zd,nzN]);have⟨R,x,w⟩:=y3_ (λe f=>ZbO a d e (t.q f) s L) (λe f=>ss a (Lib.bitLen c) a d e (t.q f) s L) (λe f=>Zb a _ a _ d e (t.q f) s x_ L a7)
 have r:K (∀e h,((4*nzN d<a/\∃f,h=.iface 380 f/\Zde e (B b.1) f a (Lib.bitLen c) (Bu d a))∨(¬4*nzN d<a/\∃f,h=.iface 382 f/\ZgI e (B b.1) f a (Lib.bitLen c) (Bg (Cf d (Lib.bitLen c)) ((a*Lib.bitLen c+7)/8) (a*Lib.bitLen c))))->Id e (B b.1) h d c):=λe h b5=>by
  unfold Id
  grind
 clear t s;generalize Lib.bitLen c=m,nzN d=q at *;have b2:4*(q:E)<=800:=O;have b9:_=4*(q:E):=Au O O;refine dl_ ?_;go_enter func257,ntmps257;go_wp2_with fail
 apply Q.m;rintro f a6 ⟨rfl,a3⟩;obtain rfl:=a3.s;clear a3;go_upto_region 2 with fail;have⟨i,j⟩:=W_ (ZN b (O_ #[I a,I m] 379));rw[<- j];have a9:B i.1=B b.1+1:=(by rw[j];simp);have S:D_ i (B b.1) 0 (I a):=(by rw[j];simp[go_sem]);have W:D_ i (B b.1) 1 (I m):=(by rw[j];simp[go_sem]);have v:K (E_ b i):=(by show Below _ _ _;rw[j];exact r_);have b6:B b.1<B i.1:=O;clear j a9;go_region_held3 (λg=>D_ g (B b.1) 0 (I (a:H))/\D_ g (B b.1) 1 (I (m:H))) (exact⟨X_ S,X_ W⟩) (first|(go_at_call 298;apply (R _ v.drew).m;rintro f a6 ⟨rfl,rfl⟩)|(go_at_call 299;apply (Zct).m;rintro f a6 ⟨rfl,rfl⟩))
 generalize N:YY (ZN i (O_ #[I (a:H),I (m:H)] 379))=u;have k:K (E_ b u):=(by show Below _ _ _;rw[<- N];exact(v.alloc O _).drew);have b8:B u.1=B i.1+1:=(by rw[<- N];simp);have b3:D_ u (B b.1) 0 (I a):=w_;have b4:D_ u (B b.1) 1 (I m):=w_;have a2:=k.size;clear N S W v R Q
 by_cases a1:4*q<a
 ·have a8:4*q<(a:E):=O;go_wp2_with fail
  apply (x _ k).m;rintro f p ⟨b1,rfl,D,n⟩;obtain⟨a0,b0,rfl,A,g⟩:=D
  have l:K (Id p (B b.1) (.iface 380 (P_ a0)) d c/\E_ b p):=by
   refine⟨r _ _ (ZM ⟨a1,_,X,a0,b0,X,O,g.r,?_⟩),k.T (n.m a2)⟩;have o:=g.M;refine⟨o.1,?_⟩
   rcases o.2 with M|⟨c,y,z,f,G,P⟩
   exact ZM M;exact ZJ ⟨c,y,z,f,O,P⟩
  clear A g n x w r;go_wp2;go_ret;exact⟨_,X,l.1,l.2⟩
 have a8:¬4*q<(a:E):=O;go_wp2_with fail
 apply (w _ k).m;rintro f p ⟨b1,rfl,D,n⟩;obtain⟨a0,b0,rfl,A,g⟩:=D
 have l:K (Id p (B b.1) (.iface 382 (P_ a0)) d c/\E_ b p):=by
  refine⟨r _ _ (ZJ ⟨a1,_,X,a0,b0,X,O,g.r,?_⟩),k.T (n.m a2)⟩;have o:=g.M;refine⟨o.1,?_⟩
  rcases o.2 with M|⟨c,y,z,f,G,P⟩
  exact ZM M;exact ZJ ⟨c,y,z,f,O,P⟩
 clear A g n x w r;go_wp2;go_ret;exact⟨_,X,l.1,l.2⟩
structure XS where
 M:H
 f:H
 i:H
structure BS where
 fs:U H
 N:U H
 g:H
structure Ft where
 g:U KS
 f:U BS
 r:U XS
def Cw(x:XS):U ZY:=[I x.M,I x.f,I x.i]
def Jw:U XS->U ZY
 |[]=>[]
 |b::a=>Cw b++Jw a
theorem za a b:Jw (a++b)=Jw a++Jw b:=by
 induction a with
 |nil=>rfl
 |cons e d c=>simp[Jw,c]
def uo a:F (Jw a)=F a*3:=by
 induction a with
 |nil=>rfl
 |cons c a b=>simp[Jw,Cw,b];omega
def Nu(d:ZT)(b:H)(c:ZY)(a:U XS):Prop:=ZD d b 184 3 c (F a) (Jw a)
def Nu.P{c a b L x}(d:ZD c a 184 3 b (F L+1) (Jw L++Cw x)):Nu c a b (L++[x]):=by grind [Nu,za,Jw]
def Nu.d{g d b a}(f:Nu g d b a):∃c e,b=ZH c (F a) e:=by
 rcases f.2 with⟨rfl,i⟩|⟨k,j,h,rfl,_⟩
 ·grind
 grind
def je(c:H->Prop)(e:ZT):Prop:=∀b d a,e.1[b]? =T (O_ d a)->c b->a=168∨a=163∨a=184
def je.M{d f}(i:je d f){g a r q:H}{e s}(o:ZD f g a r e q s)(j:a≠168)(k:a≠163)(l:a≠184):∀c,ZW e=T c->¬d c:=λc n p=>by
 have⟨h,m⟩:=Ac o n
 rcases i c h a m p with b|b|b
 exact j b;exact k b;exact l b
def je.at{c e}(f:je c e){k b:H}{d}(j:H_ e k d b)(g:b≠168)(h:b≠163)(i:b≠184):¬c k:=λl=>by
 rcases f k d b j l with a|a|a
 exact g a;exact h a;exact i a
def ZgI.p{S b w' c i g e d}(l:ZgI b c i g e d)(h:Aa S b w')(f:je S b):ZgI w' c i g e d:=by obtain⟨j,n,k,m,a⟩:=l;exact⟨j,n,k,m,h.g a.r (f.at a.r C C C),h.M a.M (f.M a.M C C C)⟩
def Zde.p{S b w' d i g e c}(l:Zde b d i g e c)(h:Aa S b w')(f:je S b):Zde w' d i g e c:=by obtain⟨j,n,k,m,a⟩:=l;exact⟨j,n,k,m,h.g a.r (f.at a.r C C C),h.M a.M (f.M a.M C C C)⟩
def Id.p{S e w' g k f h}(l:Id e g k f h)(j:Aa S e w')(i:je S e):Id w' g k f h:=by
 rcases l with⟨b,d,a,c⟩|⟨b,d,a,c⟩
 exact ZM ⟨b,d,a,c.p j i⟩;exact ZJ ⟨b,d,a,c.p j i⟩
def je.none b:je (λ_=>False) b:=λ_ _ _ _ a=>a.elim
def Id.q{a w' base f b c}(d:Id a base f b c)(e:E_ a w'):=d.p (Aa.a e) (je.none a)
def Id.m{l h g k f i}(n:Id l h k f i)(j:g<=h):Id l g k f i:=by
 rcases n with⟨d,e,b,q,r,c,o,a⟩|⟨d,e,b,m,p,c,o,a⟩
 exact ZM ⟨d,e,b,q,r,c,O,a.r,Da a.M j⟩;exact ZJ ⟨d,e,b,m,p,c,O,a.r,Da a.M j⟩
def Id.zero{f b e a c}(d:Id f b e a c):=d.m v_
def Id.iface{j d b c g}(h:Id j d b c g):∃i a,b=.iface i (P_ a):=by
 rcases h with⟨_,a,e,m,n,f,_⟩|⟨_,a,e,k,l,f,_⟩
 ·grind
 grind
def Df:BS:=⟨[],[],0⟩
def Ov:U (ZY×ZY)->U ZY
  |[]=>[]
  |a::b=>[a.1,a.2]++Ov b
def Vs a b:Ov (a++b)=Ov a++Ov b:=by
 induction a with
 |nil=>rfl
 |cons e d c=>simp[Ov,c]
structure Pe(e)(d:ZT)(f)(c)(a:U BS):Prop where
 M:ZD d 0 163 2 f (F a) (Ov c)
 y:F c=F a
 j:∀b,b<F a->Ad d e (Z c b Lm).1 (An (Z a b Df).fs)/\Id d e (Z c b Lm).2 (Z a b Df).N (Z a b Df).g
def Pe.m{j d c h i b}(a:Pe d j h i b)(e:c<=d):Pe c j h i b:=⟨a.M,a.y,λg f=>⟨Da (a.j g f).1 e,(a.j g f).2.m e⟩⟩
abbrev ZpF(d:ZT)(b:ZY)(c:U (ZY×ZY))(a:U BS):Prop:=Pe 0 d b c a
def pi(e:H)(d:U ZG)(c b:U H)(a:H):H:=if Z d a ZZ=Z0/\Z b a 0=0 then e+Z c a 0 else Z b a 0
def Zil(e:H)(d:U ZG)(b c:U H)(a:H):U XS:=if Z d a ZZ=Z0/\Z c a 0≠0 then[⟨a,e,Z b a 0⟩] else[]
def Jn(e:H)(d:U ZG)(c a:U H)(b:H):U H:=(range b).map (pi e d c a)++ZF b a
def Jv(d:H)(c:U ZG)(a b:U H):H->U XS
 |0=>[]
 |e+1=>Jv d c a b e++Zil d c a b e
def ox{e d c a b}(f:b<=F a):F (Jn e d c a b)=F a:=by simp[Jn];omega
def Zh0 d c b a:Jn d c b a 0=a:=by simp[Jn]
theorem Zgp e d c b {a}:Z (Jn e d c b a) a 0=Z b a 0:=by simp[Jn,Z,getElem?_append_right]
def Zb4 e d c b {a}(f:a<F b):(Jn e d c b a).set a (pi e d c b a)=Jn e d c b (a+1):=by unfold Jn;rw[aN f,set_append_right _ _ s_,length_map,length_range,Nat.sub_self,set_cons_zero,range_succ,map_append,append_assoc];rfl
def ZhZ e d c {a b}(g:b<F a)(f:pi e d c a b=Z a b 0):Jn e d c a (b+1)=Jn e d c a b:=by
 rw[<- Zb4 e d c a g,f];apply ext_getElem;simp
 grind [Zgp]
theorem Zj e d b c:∀a,F (Jv e d b c a)<=a
 |0=>by simp[Jv]
 | a+1=>by
  have:=Zj e d b c a
  grind [Jv,Zil]
structure CS where
 N:U H
 r:U XS
 off:H
def Al(f:U KS)(d:U (U ZG))(c:U (U H))(e:H)(b:CS)(a:H):CS:=
 ⟨Jn b.off (Z d a []) (Z c a []) b.N e,b.r++Jv a (Z d a []) (Z c a []) b.N e,b.off+(Z f a Aj).g⟩
def Jr(c:U KS)(d:U (U ZG))(b:U (U H))(a:H)(f:U XS)(e:U H):CS:=e.foldl (Al c d b a) ⟨Y6 a 0,f,1⟩
def Lq(d:U (U ZG))(c:U (U H))(e:H)(a:Ft)(b:GS):Ft:=
 ⟨a.g,a.f++[⟨b.fs,(Jr a.g d c e a.r b.fs).N,(Jr a.g d c e a.r b.fs).off-1⟩],(Jr a.g d c e a.r b.fs).r⟩
def Sf:ES:=⟨ZZ,[],[]⟩
def Vl:ZY×ZY×ZY:=(N_,N_,N_)
def Md(b:ES)(a:ZY×ZY×ZY):U ZY:=[ZR b.a,a.1,a.2.1,a.2.2]
def Ng:U ES->U (ZY×ZY×ZY)->U ZY
 |[],_=>[]
 |_::_,[]=>[]
 |b::a,c::d=>Md b c++Ng a d
def lz:∀(c:U ES) (e:U (ZY×ZY×ZY)),F e=F c->∀a,a<F c->∀b,b<4->(Ng c e)[a*4+b]? =(Md (Z c a Sf) (Z e a Vl))[b]?
 |[],_,_,a,d=>by simp at d
 |f::c,[],d,_,_=>by simp at d
 |f::c,h::e,_,0,_=>λb g=>by grind [Ng,Md]
 |f::c,h::e,d,a+1,i=>λb g=>by simp only[Ng];rw[getElem?_append_right (by simp[Md];omega),show(a+1)*4+b-F (Md f h)=a*4+b by simp[Md];omega];exact lz _ _ (by simpa using d) a (by simpa using i) b g
structure ac(e)(d:ZT)(g)(c)(b)(f:U (U H)):Prop where
 M:ZD d 0 266 4 g (F b) (Ng b c)
 y:F c=F b
 j:∀a,a<F b->Ad d e (Z c a Vl).1 (Z b a Sf).f/\Bj d e (Z c a Vl).2.1 (Z b a Sf).c/\Ad d 0 (Z c a Vl).2.2 (An (Z f a []))
abbrev ZqL(e:ZT)(c:ZY)(d:U (ZY×ZY×ZY))(b:U ES)(a:U (U H)):Prop:=ac 0 e c d b a
def ac.m{k f e i j g d}(a:ac f k i j g d)(h:e<=f):ac e k i j g d:=⟨a.M,a.y,λc b=>⟨Da (a.j c b).1 h,Da (a.j c b).2.1 h,(a.j c b).2.2⟩⟩
def ac.p{S f w' h j k i g}(a:ac h f j k i g)(e:Aa S f w')(d:je S f):ac h w' j k i g:=
 ⟨e.M a.M (d.M a.M C C C),a.y,λc b=>⟨e.M (a.j c b).1 (d.M (a.j c b).1 C C C),e.M (a.j c b).2.1 (d.M (a.j c b).2.1 C C C),e.M (a.j c b).2.2 (d.M (a.j c b).2.2 C C C)⟩⟩
def ac.q{a w' base f g c b}(d:ac base a f g c b)(e:E_ a w'):=d.p (Aa.a e) (je.none a)
def ac.cells{c l b s a d e k}(h:ac l c (L_ b s a) d e k){i}(p:i<F e):b<B c.1/\ZV c (J b (i*4))=T (ZR (Z e i Sf).a)/\ZV c (J b (i*4+1))=T (Z d i Vl).1/\ZV c (J b (i*4+2))=T (Z d i Vl).2.1/\ZV c (J b (i*4+3))=T (Z d i Vl).2.2:=by
 have q:=h.M
 rcases h.M.2 with⟨_,v⟩|⟨g,t,u,m,w,o,x,_⟩
 omega;injection m with e1 e2 e3;injection e1 with e1;injection e1 with e1 _;subst e1 e2
 have f:∀a j,a<4->(Md (Z e i Sf) (Z d i Vl))[a]? =T j->ZV c (J b (i*4+a))=T j:=λa j n r=>by rw[World.ownsRow.cellAt q (i*4+a) O];exact(lz _ _ h.y i p a n).T r
 exact⟨(Qb o).1,f 0 _ O X,f 1 _ O X,f 2 _ O X,f 3 _ O X⟩
def Jq.b{b a k d i j c}(e:Jq d a i j c)(h:Aa b a k)(g:je b a):=
 e.p h (λn l o f m=>g.at f w_ w_ w_)
def It.b{c a f d e b}(g:It a d e b)(j:Aa c a f)(i:je c a):It f d e b:=
 g.p j (λm k n h l=>i.at h w_ w_ w_)
structure en(d)(a:ZT)(g:H)(h b c)(f)(e)(i):Prop where
 r:a.1[g]? =T (O_ #[h,b,c] 168)
 v:Pe d a b f e
 j:Nu a 0 c i
abbrev DsX(g:ZT)(c:H)(e d f:ZY)(b:U (ZY×ZY))(a:U BS)(h:U XS):Prop:=en 0 g c e d f b a h
def en.m{j c b f h g i e d k}(a:en c j f h g i e d k)(l:b<=c):en b j f h g i e d k:=⟨a.r,a.v.m l,a.j⟩
def DsS(b:H)(c d:ZY):H->Prop:=λa=>a=b∨ZW c=T a∨ZW d=T a
def en.a{f g c n d e i h o}(b:en g f c n d e i h o):je (DsS c d e) f:=λq p r l m=>by
 rcases m with a|a|a
 ·subst a;rw[b.r] at l
  grind
 ·have⟨j,k⟩:=Ac b.v.M a
  grind
 have⟨j,k⟩:=Ac b.j a
 grind
def Pe.p{S f w' h e k g}(a:Pe h f e k g)(d:Aa S f w')(l:∀j,ZW e=T j->¬S j)(i:je S f):Pe h w' e k g:=
 ⟨d.M a.M l,a.y,λc b=>⟨d.M (a.j c b).1 (i.M (a.j c b).1 C C C),(a.j c b).2.p d i⟩⟩
def Pe.q{a w' base e f b}(c:Pe base a e f b)(d:E_ a w'):=c.p (S:=λ_=>False) (Aa.a d) (λ_ _=>id) (je.none a)
def en.q{i w' base b g f h e d j}(a:en base i b g f h e d j)(c:E_ i w'):en base w' b g f h e d j:=
 ⟨(c.block b (Qb a.r).1).T a.r,a.v.q c,(Aa.a (S:=λ_=>False) c).M a.j (λ_ _=>id)⟩
def en.P{g e i d q p r f k j G s}(c:en i g d q p r k j G)(y:Y3 g e (ZW r))(A:Nu e 0 f s):en i (ZO e (J d 2) f) d q p f k j s:=by
 have o:=(Aa.refl _ g).grown y (λa b _=>b);have z:je _ g:=λa v D b n=>c.a a _ _ b (ZJ (ZJ n))
 have l:=o.g c.r (λh=>by
  have⟨t,w⟩:=Ac c.j h;have:=c.r
  grind)
 have m:=c.v.p o (λa b h=>by
  have⟨t,w⟩:=Ac c.j h;have⟨u,x⟩:=Ac c.v.M b
  grind) z
 have w:=(Aa.refl (λa=>a=d) e).setCell (p:=(J d 2)) (λ_=>X) f
 have t:je (λa=>a=d) e:=λa v D b n=>w_
 refine⟨ht_ 2 _ _ _ l,m.p w (λa b h=>?_) t,Am A l C⟩;subst h;have⟨u,x⟩:=Ac m.M b
 grind
def ZkT a (b x:H):(An a).set b x=An (a.set b x):=by simp[An,map_set]
def Sx c d b f:∀(e:U H) a,a.off<=(e.foldl (Al c d b f) a).off
 |[],a=>x_
 | g::e,a=>by
  have:=Sx c d b f e (Al c d b f a g)
  grind [Al]
def Oc d e c a:∀(f:U H) b,F b.N=a->F (f.foldl (Al d e c a) b).N=a/\F (f.foldl (Al d e c a) b).r<=F b.r+F f*a
 |[],b,g=>⟨g,s_⟩
 | h ::f,b,g=>by
  have i:F (Al d e c a b h).N=a:=by show F (Jn _ _ _ _ a)=a;rw[ox O];exact g
  have j:F (Al d e c a b h).r<=F b.r+a:=by
   show F (b.r++Jv _ _ _ _ a)<=_
   grind [Zj]
  have⟨k,l⟩:=Oc d e c a f _ i;simp only[foldl_cons,length_cons]
  grind
def en.b{j e f d r q i h t m s l k}(b:en f j d r q i t s k)(y:Y3 j e (ZW q))(n:Pe f e h m l):en f (ZO e (J d 1) h) d r h i m l k:=by
 have p:=(Aa.refl _ j).grown y (λa c _=>c)
 have o:=p.g b.r (λg=>by
  have⟨u,w⟩:=Ac b.v.M g;have:=b.r
  grind)
 have z:Nu e 0 i k:=p.M b.j (λa c g=>by
  have⟨u,w⟩:=Ac b.j c;have⟨v,x⟩:=Ac b.v.M g
  grind)
 have u:je (λa=>a=d) e:=λa w D c A=>w_
 refine⟨ht_ 1 _ _ _ o,n.p ((Aa.refl (λa=>a=d) _).setCell (p:=(J _ 1)) (λ_=>X) _) (λa c g=>?_) u,Am z o C⟩;subst g;have⟨v,x⟩:=Ac n.M c
 grind
def ke(i:H)(g h:ZT)(a:H)(l c e:ZY)(j:U BS)(m:U XS):Prop:=∃d f k,en i h a l d f k j m/\Aa (DsS a c e) g h/\∀b,DsS a d f b->DsS a c e b∨B g.1<=b
def en.p{S i w' g r v u w k j x}(a:en g i r v u w k j x)(d:Aa S i w')(p:∀c s y,i.1[c]? =T (O_ y s)->s≠3->¬S c)(A:∀f,f<F j->∀c,ZW (Z k f Lm).1=T c->¬S c):en g w' r v u w k j x:=by
 have h:∀{g e N G:H} {t D},ZD i g e N t G D->e≠3->∀c,ZW t=T c->¬S c:=λR Q c W=>by grind [Ac]
 refine⟨d.g a.r (p _ _ _ a.r C),⟨d.M a.v.M (h a.v.M C),a.v.y,λf o=>⟨d.M (a.v.j f o).1 (A f o),?_⟩⟩,d.M a.j (h a.j C)⟩
 rcases(a.v.j f o).2 with⟨m,q,e,M,P,l,n,b⟩|⟨m,q,e,z,L,l,n,b⟩
 exact ZM ⟨m,q,e,M,P,l,n,d.g b.r (p _ _ _ b.r C),d.M b.M (h b.M C)⟩;exact ZJ ⟨m,q,e,z,L,l,n,d.g b.r (p _ _ _ b.r C),d.M b.M (h b.M C)⟩
structure kp(i)(d wr:ZT)(a)(m c f g)(k)(j)(l e)(h)(n):Prop where
 v:en i wr a m c g k j n
 z:Ad wr (B d.1) (L_ l e e) (An h)
 t:Aa (DsS a c f) d wr
 p:∀b,ZW g=T b->DsS a c f b∨B d.1<=b
def kp.q{m wr w2 base f j i k l e d h g c n}(a:kp base m wr f j i k l e d h g c n)(b:E_ wr w2):kp base m w2 f j i k l e d h g c n:=
 ⟨a.v.q b,a.z.q b,a.t.q b,a.p⟩
def rp v t Q r a G D d6 e0 {g6} g5 {i3 i2} L M g7 k4 k6 y k2 i5 k7 {s q} g d9 l h {f} j (f0:v<=B j.1)(b6:en v j t (L_ G (r+1) D) L M y s q)(hK:ZgN j (L_ G (r+1) D) k2 g)(e5:F g=r+1)(a9:j.1[Q]? =T (O_ #[g7,V k4 a k6,I (i3:H),I (i2:H)] 351))(d3:Ad j v g7 (An f))(e4:ZqL j (L_ d6 (r+1) e0) i5 d9 l)(e3:F d9=r+1)(e6:It j (L_ g6 (r+1) g5) k7 h)(e8:F h=r+1)(f7:∀h8∈h,F h8=a)(f6:∀i,i<r+1->F (Z l i [])=a)(f3:∀d∈f,d<r+1)(f9:a<=200)(i9:F f<=100)(f1:∀i,i<r+1->∀h9∈Z l i [],h9<=1000)(f8:∀K∈g,K.g<=100)(g0:(Jr g h l a q f).off<=64)(m9:F q<=100000)(m2:F s<=1000):C_ 207 #[P_ t,P_ Q,L_ d6 (r+1) e0,L_ g6 (r+1) g5] j λe m=>e=ZI (Y5 #[])/\ke v j m t (L_ G (r+1) D) L M (s++[⟨f,(Jr g h l a q f).N,(Jr g h l a q f).off-1⟩]) (Jr g h l a q f).r:=by
 have N:=x5_ hK e4 e6 d3 a9;have A:=x8_ e5 e3 e8 f7 f6 f3 f1 f8;have⟨W,h0,d7⟩:=y3_ b6.a f0 b6;have⟨z,P,g1⟩:=d3.d;rw[Ak] at g1;subst g1;have e1:=n_ 0 a9;have m0:=n_ 1 a9;have j0:=(Qb a9).1;have m3:=(Qb b6.r).1;have b1:Hid (Jr g h l a q _=f.foldl _ _/\_):=⟨X,g0⟩;have m5:=Gm a O;have⟨w,d2⟩:=W_ (F f);have c3:=Y d2;rw[<- d2] at i9 e1;clear f0 b6 hK e5 a9 d3 e4 e3 e6 e8 f7 f6 f3 f1 f8 g0 d2;refine dl_ ?_;go_enter func207,ntmps207;go_wp2_with fail
 go_loopw [26,9] (λb c m=>∃(k:H) (c2:ZY),b=ZX ZQ k/\k<=w/\c=ZX ZQ (((ZU k f).foldl (Al g h l a) ⟨Y6 a 0,q,1⟩).off:H)/\Hid (kp v j m t (ZH (T ⟨G,0,ZP⟩) (r+1) D) L M c2 y s (B j.1) a ((ZU k f).foldl (Al g h l a) ⟨Y6 a 0,q,1⟩).N ((ZU k f).foldl (Al g h l a) ⟨Y6 a 0,q,1⟩).r)) (λb _ _=>w-ZL (ZA b))
 case atStart=>
  refine⟨0,M,X,v_,X,?_⟩;have b:=Gl a j _ O x_;have e:An (Y6 a 0)=Y6 a 0:=(by simp[An]);exact⟨d7.q r_,w_,(Aa.refl _ _).alloc _,λk hk=>ZM (ZJ (ZJ hk))⟩
 obtain⟨k,c2,rfl,hk,rfl,S⟩:=hrel;have j7:=S.t.size
 by_cases f5:k<w
 ·have f4 :k<F f:=(by rw[<- c3];exact f5);have m8:ZU (k+1) f=ZU k f++[Z f k 0]:=(by grind [Qi]);have R:Z f k 0<r+1:=by have:Z f k 0=f[k]:=(by simp[Z,f4]);rw[this];exact A.2.2.2.2.2.1 _ (Qf _)
  have d8:Hid ((ZU (k+1) f).foldl (Al g h l a) ⟨Y6 a 0,q,1⟩=Al g h l a ((ZU k f).foldl (Al g h l a) ⟨Y6 a 0,q,1⟩) (Z f k 0)):=by
   show _=_
   grind
  have j2:((ZU (k+1) f).foldl (Al g h l a) ⟨Y6 a 0,q,1⟩).off<=64:=(by have u:=Sx g h l a (ZF (k+1) f) ((ZU (k+1) f).foldl (Al g h l a) ⟨Y6 a 0,q,1⟩);rw[<- foldl_append,take_append_drop,<- b1.1] at u;exact aG u b1.2);have b0:=Oc g h l a (ZU k f) ⟨Y6 a 0,q,1⟩ s_;have d1:ZV wr (J (match z with|some p=>p.block|none=>0) k)=T (I (Z f k 0:H))/\∃a0,z=T ⟨a0,0,ZP⟩:=by have⟨a0,d5,b,_,n,_⟩:=N.2.2.2.1.b (by rw[Ak]) f4;subst d5;rw[Bq] at n;refine⟨?_,a0,X⟩;show ZV wr (J a0 k)=_;rw[cb_ (a:=(J a0 k)) (S.t.block a0 b (W.M N.2.2.2.1 C C C a0 X))];exact n
  obtain⟨d1,a0,d5⟩:=d1;subst d5;simp only at d1;have h2:Hid (∀d,(Al g h l a ((ZU k f).foldl (Al g h l a) ⟨Y6 a 0,q,1⟩) d).off=_+_):=λd=>X
  have n1:F ((ZU k f).foldl (Al g h l a) ⟨Y6 a 0,q,1⟩).r<=200000:=by
   have a1:F (ZU k f)*a<=100*_:=Nat.mul_le_mul t_ f9
   grind
  have b2:=Y b0.1;rw[d8,h2] at j2;generalize (Z f) k 0=d,(ZU k f).foldl (Al g h l a) ⟨Y6 a 0,q,1⟩=b at *;have e9:=N.2.2.1.b S.t W;have c8:=e9.j d (A.2.2.1 ▸ R);have⟨m7,g4⟩:=e9.c (i:=d) (A.2.2.1 ▸ R);have c9:F (Z h d [])=a:=A.2.2.2.1 _ (by simp[Z,show d<F h by rw[A.2.2.1];exact R]);have e2:=A.2.2.2.2.1 d R;have⟨l0,l1,g2⟩:=c8.d;rw[g2] at g4 c8;rw[c9] at g4 c8;have h5:Hid (Al g h l a b d=⟨_,_,_⟩):=rfl;have c4:Hid (Eo j 0 (V l0 a l1) (Z h d [])/\F (Z h d [])=a):=(by have u:=N.2.2.1.j d (A.2.2.1 ▸ R);rw[g2,c9] at u;exact⟨u,c9⟩);have⟨m6,_,_,_,i0⟩:=(N.2.1.p S.t W).cells (i:=d) (A.2.1 ▸ R);have c7:=(N.2.1.j d (A.2.1 ▸ R)).2.2;have⟨b5,i1,f2⟩:=c7.d;rw[Ak,e2] at f2;rw[f2] at i0 c7;have a8:=Y (n3_ c7 e2 (A.2.2.2.2.2.2.1 d R))
  have h4:Hid (∀x:ZT,Aa (DsS t L M) j x->ZV x (J d6 (d*4+3))=T (V b5 a i1)):=λx b8=>by
   have u:=(N.2.1.p b8 W).cells (i:=d) (A.2.1 ▸ R)
   grind
  generalize (Z h) d []=o,Z l d []=m at *;obtain⟨g8,k0⟩:∃g8,g8=wr:=⟨wr,X⟩;subst k0;go_wp2_with fail
  go_loopw [35] (λn u=>∃(c:H) (a3:ZY),n=ZX ZQ c/\c<=a/\Hid (kp v j u t (ZH (T ⟨G,0,ZP⟩) (r+1) D) L M a3 y s (B j.1) a (Jn b.off o m b.N c) (b.r++Jv d o m b.N c))) (λn _=>a-ZL (ZA n))
  case atStart=>
   refine⟨0,c2,X,v_,?_⟩;rw[Zh0];show kp _ _ _ _ _ _ _ _ _ _ _ _ _ (b.r++[]);rw[append_nil];exact S
  obtain⟨c,a3,rfl,m4,n⟩:=hrel;have j7:=n.t.size
  by_cases d4:c<a
  ·have⟨c1,j5,j6,_,k9,_⟩:=c4.1.b c4.2 d4;subst j5;obtain⟨c0,j3,j4,_,g9,_⟩:=a8.1.b (by rw[Ak];exact a8.2.1) d4;subst j3;rw[Bq] at g9;have n6:ZV wr (J c1 c)=T (ZR (Z o c ZZ)):=(by rw[cb_ (a:=(J c1 c)) (n.t.block c1 j6 (W.M c4.1 C C C c1 X))];exact k9);have n7:ZV wr (J c0 c)=T (I (Z m c 0:H)):=(by rw[cb_ (a:=(J c0 c)) (n.t.block c0 j4 (W.M a8.1 C C C c0 X))];exact g9);have n8:=h4 _ n.t;have b7:F (Jn b.off o m b.N c)=a:=(by rw[ox (by have:=b2.out;omega)];exact b2);obtain⟨k3,n5⟩:=n.z.c (k:=c) (by rw[Ak];exact b7.s) d4;rw[Bq,Zgp] at k3
   have m1:Z m c 0<=1000:=(by have u:c<F m:=p_ a8.2.1;have:Z m c 0=m[c]:=(by simp[Z,u]);rw[this];exact a8.2.2 _ (Qf _));have h1:Hid (a=F (An (Jn b.off o m b.N c))):=(by rw[Ak];exact b7.s);have b3:Hid (pi b.off o m b.N c=if _/\_ then _ else _):=rfl;have b4:Hid (Jv d o m b.N (c+1)=_++(if _/\_ then _ else _)):=rfl;have c5:Hid (_=Z b.N c 0->_):=ZhZ b.off o m (p_ b2);have h6:Hid (F (b.r++Jv d o m b.N c)<=300000):=(by have:=Zj d o m b.N c;show _<=_;rw[Qe];omega);generalize (Z o) c ZZ=k5,Z m c 0=a1,Z b.N c 0=g3 at *
   cases k5 with
   | false=>
    have a2:Hid (kp v j wr t (L_ G (r+1) D) L M a3 y s (B j.1) a (Jn b.off o m b.N (c+1)) (b.r++Jv d o m b.N (c+1))):=(by have u:=b3.out;rw[aC s_] at u;rw[c5 u,b4,aC s_,append_nil];exact n);refine J_ ?_;exact⟨c+1,_,g_,O,a2⟩
   | true=>
    by_cases b9:g3=0
    ·subst b9
     have a2:Hid (kp v j (ZO wr (J (B j.1) c) (I (b.off+a1))) t (L_ G (r+1) D) L M a3 y s (B j.1) a (Jn b.off o m b.N (c+1)) (b.r++Jv d o m b.N (c+1))):=by
      have u:=b3.out;rw[aD ⟨X,X⟩] at u;rw[b4,aC s_,append_nil,<- (Zb4 b.off o _ b.N (p_ b2.out)),u];have⟨a7,e7⟩:=n.z.put (k:=c) h1 ((b.off:E)+(a1:E));have⟨c6,a4⟩:=Ac n.z (k:=B j.1) X;refine⟨n.v.p ((Aa.refl (λa5=>a5=B j.1) _).setCell (p:=(J (B j.1) c)) (λ_=>X) _) (λk h7 d0 hk a5 e=>?_) (λi a6 k hk e=>p_ (B_ (d7.v.j i a6).1 k hk).2),?_,n.t.setCell (p:=(J (B j.1) c)) (λa6=>absurd a6 (Nat.lt_irrefl _)) _,n.p⟩;subst e;rw[a4] at hk;simp at hk;exact a5 hk.2.s;show Ad _ _ _ (An ((Jn b.off o m b.N c).set c (b.off+a1)));rw[<- ZkT];have:((b.off+a1:H):E)=(b.off:E)+(a1:E):=O;rw[this];exact a7
     refine J_ ?_;exact⟨c+1,_,g_,O,a2⟩
    have n3:((g3:E)==0)=_:=aO O;have h7:Hid (b.r++Jv d o m b.N (c+1)=(b.r++Jv d o m b.N c)++[⟨c,d,a1⟩]):=(by show _=_;rw[b4,aD ⟨X,b9⟩,append_assoc]);have h3:=Y (c5 (by rw[b3,aC (λa6=>b9 a6.2)]));have⟨l3,l4,j9⟩:=n.v.j.d;subst j9;have l8:=n_ 2 n.v.r;have i7:t<B wr.1:=O;have a5:Hid _:=n.v.j;clear b9 b4 b3 c5;generalize n2:b.r++Jv d o m b.N c=c6 at *;generalize k1:F c6=l2 at *;have n0:=h6.out;go_wp2_with (at_builtin;refine ap_ [I (c:H),I (d:H),I (a1:H)] (a5.alloc _) ?_)
    rintro a7 a4 ⟨k8,u,i4,_,_⟩;have e7:Nu a4 0 a7 (c6++[⟨c,d,a1⟩]):=(by apply Nu.P;rw[k1];exact k8);have i6:=(n.v.q (y_.alloc x_ _)).P u e7;have d0:a4.1[t]? =T (O_ #[L_ G (r+1) D,L,V l3 l2 l4] 168):=(by rw[u.block t t_ (λe=>Ag a5 e.s n.v.r C X)];exact(hc_ i7).T n.v.r);have l6:=n_ 2 d0;have l9:=R_ 2 _ _ d0
    have j1:Ad (ZO a4 ⟨_,2,_⟩ a7) _ _ _:=
     Am (World.ownsRow.kept (Ad.alloc n.z _) u (Ap a5 n.z C)) d0 C
    have j8:=((n.t.alloc _).grown u (λk hk f5=>by
      rcases n.out.p k hk with a6|a6
      exact a6
      omega)).setCell (p:=(J _ 2)) (λ_=>ZM X) a7
    have⟨l5,l7,a6⟩:=e7.d
    have a2:Hid (kp v j (ZO a4 (J t 2) a7) t (L_ G (r+1) D) L M a7 y s (B j.1) a (Jn b.off o m b.N (c+1)) (b.r++Jv d o m b.N (c+1))):=by
     rw[h7,h3];refine⟨i6,j1,j8,λk hk=>?_⟩
     rcases i4 with e|e
     exact n.p k (e ▸ hk);rw[e.1] at hk;injection hk with hk;omega
    rw[a6] at a2;subst a6;generalize (F (c6++[(⟨c,d,a1⟩:XS)]))=n4 at *;refine J_ ?_;exact⟨c+1,_,g_,O,a2⟩
  have c6:¬c<(a:E):=O;have c0:c=a:=O;have⟨a7,b4,b3,b7,d0,e7,g3,g9,h1,_,_⟩:=(N.1.b n.t W).c (i:=d) (A.1 ▸ R);have c5:=n_ 0 n.v.r;have a6:=KS.a (Z g d Aj)
  have a4:Hid (∀x:ZT,C_ 146 #[Y9 #[ZR (Z g d Aj).e.a,V a7 (F (Z g d Aj).e.f) b4,V b3 (F (Z g d Aj).e.c) b7]] x (U_ (ZX ZQ (Z g d Aj).g) x)):=λx=>by rw[<- a6];exact Fq _ _ _ _ _ _ _ x O
  have a1:Hid ((ZU (k+1) f).foldl (Al g h l a) ⟨Y6 a 0,q,1⟩=⟨Jn b.off o m b.N a,b.r++Jv d o m b.N a,b.off+(Z g d Aj).g⟩):=(by show _=_;rw[d8,h5]);have a5:Hid (kp v j wr t (L_ G (r+1) D) L M a3 y s (B j.1) a (Jn b.off o m b.N a) (b.r++Jv d o m b.N a)):=(by rw[c0] at n;exact n);generalize (Z g) d Aj=u at *;generalize u.e.a=i4,F u.e.f=h6,F u.e.c=h7,u.g=h3 at *;go_wp2_with fail
  apply (a4 _).m;rintro e c1 ⟨rfl,b9⟩;have a2:Hid (kp v j c1 t (L_ G (r+1) D) L M a3 y s (B j.1) a ((ZU (k+1) f).foldl (Al g h l a) ⟨Y6 a 0,q,1⟩).N ((ZU (k+1) f).foldl (Al g h l a) ⟨Y6 a 0,q,1⟩).r):=(by rw[a1];exact a5.q b9);refine J_ ?_;exact⟨k+1,a3,g_,O,by rw[a1];go_num,a2⟩
 have h6:¬k<(w:E):=O;rw[(aI (p_ c3.out))] at S ⊢;have b0:=Oc g h l a f ⟨Y6 a 0,q,1⟩ s_;have c0:=Sx g h l a f ⟨Y6 a 0,q,1⟩;rw[<- b1.1] at S b0 c0 ⊢;have g4:=b1.2;simp only at c0;have⟨b,c1⟩:=W_ (Jr g h l a q f);have e2:=Y c1;rw[<- c1] at S b0 c0 g4 ⊢;clear c1;have b7:=b0.1;have c:_:=S
 have d8:Hid (∀x:ZT,E_ wr x->C_ 257 #[L_ (B j.1) a a,I (b.off-1:H)] x λe m=>∃o,e=ZI o/\Id m v o b.N (b.off-1)/\E_ x m):=λx b8=>by have u:=c.z.q b8;have a1:=Ad.m u v_;exact(ue a a _ _ x a1 b7 f9 O).m (λe m R=>by obtain⟨o,a2,n,a0⟩:=R;exact⟨o,a2,n.m (aG h0 (aG c.t.size b8.size)),a0⟩)
 have i1:i64.wrap (b.off-1)=(b.off-1:H):=by rw[Au O O];omega
 obtain⟨b5,c5,h2⟩:∃e7 e9,L=ZH e7 (F s) e9:=by
  rcases c.out.v.v.M.2 with⟨rfl,m⟩|⟨a0,p,d0,rfl,_⟩
  ·grind
  grind
 subst h2;have c6:=n_ 1 c.v.r;have d5:=W.at N.out.2.2.2.2 C C C;have c7:ZV (YY wr) (J Q 0)=T (V z w P):=by have:wr.1[Q]? =j.1[Q]?:=c.t.block Q j0 d5;exact(cb_ (a:=(J _ 0)) this).T e1
 have g3:Q<B wr.1:=O;have a5:=Y c.v.v.M;generalize d1:F s=b2 at *;go_upto_region 16 with fail;refine Af (λm=>ZV m (J t 1)=T (V b5 b2 c5)/\ZV m (J Q 0)=T (V z w P)) 18 k_ ⟨c6,c7⟩ (λhHeld=>?_);refine G_ ?_;refine on_ 12 λKK hK=>?_;go_simp;apply (d8 _ (y_.drew)).m;rintro e a4 ⟨a7,rfl,c9,a2⟩;have⟨c8,b3⟩:=k2_ a2 c6 c7;have⟨n,m,g9⟩:=c9.iface;subst g9;go_simp;refine hK _ _ ⟨c8,b3⟩ (λhHeld=>?_);refine G_ ?_;refine on_ 14 λKK hK=>?_;go_simp;have h5:=Qh g3 a2.size;refine hK _ _ ⟨X_ c8,X_ b3⟩ (λhHeld=>?_);try simp only[Act.put,sA,sB,sC]
 refine on_ 15 λKK hK=>?_;have a1:=(br_ (B wr.1) _).drew.T a2;refine aq_ [V z w P,.iface n (P_ m)] (ra_ ((Aa.a (S:=λ_=>False) a1).M a5 (λ_ _=>id)) _) ?_;rintro a8 c4 ⟨h4,b9,f4,_,i4,i0,h1⟩;have R:=(c.v.q a1).q (y_.alloc x_ (O_ #[V z w P,.iface n (P_ m)] 163));have a0:Aa _ (ZN a4 (O_ _ _)) _:=(Aa.refl _ _).grown b9 (λk hk _=>hk);have a3:je _ _:=λk d0 h7 hk g8=>R.a k _ _ hk (ZJ (ZM g8));have d4:Ad (ZN a4 (O_ #[V z w P,.iface n (P_ m)] 163)) v (V z w P) (An f):=by have u:=c.t.M N.2.2.2.1 (W.M N.2.2.2.1 C C C);rw[<- c3] at u;exact((Aa.a (S:=λ_=>False) a1).M u (λ_ _=>id)).alloc _
 have g2:Pe v c4 a8 (y++[(V z w P,.iface n (P_ m))]) (s++[⟨f,b.N,b.off-1⟩]):=by
  have h3:F y=b2:=p_ c.v.v.y;refine⟨by rw[Qe,Vs,d1];exact h4,by simp[h3,d1],λi a6=>?_⟩;rw[Qe] at a6;simp at a6
  by_cases u:i<F s
  have b4:Z (y++[((V z w P:ZY),(.iface n (P_ m):ZY))]) i Lm=Z y i Lm:=(by simp[Z,getElem?_append_left (show i<F y by omega)]);have o:Z (s++[(⟨f,b.N,b.off-1⟩:BS)]) i Df=Z s i Df:=(by simp[Z,getElem?_append_left u]);rw[b4,o];exact⟨a0.M (R.v.j i u).1 (a3.M (R.v.j i u).1 C C C),(R.v.j i u).2.p a0 a3⟩;have f2:i=F s:=O;subst f2;have b4:Z (y++[((V z w P:ZY),(.iface n (P_ m):ZY))]) (F s) Lm=((V z w P:ZY),(.iface n (P_ m):ZY)):=(by simp[Z,c.out.v.v.y.s]);have o:Z (s++[(⟨f,b.N,b.off-1⟩:BS)]) (F s) Df=⟨f,b.N,b.off-1⟩:=(by simp[Z]);rw[b4,o];exact⟨a0.M d4 (a3.M d4 C C C),(c9.q r_).p a0 a3⟩
 have u:=a0.g R.r (λe=>Ag (ra_ ((Aa.a (S:=λ_=>False) a1).M a5 (λ_ _=>id)) _) e R.r C X);have b4:=n_ 1 u;have h3:=R_ 1 _ _ u;have f2:ZV c4 (J Q 0)=T (V z w P):=by rw[cb_ (a:=(J Q 0)) (a0.block _ t_ (λe=>d5 (ZJ (ZM e))))];exact X_ b3
 have a6:Hid (ke v j (ZO c4 (J t 1) a8) t (L_ G (r+1) D) (V b5 b2 c5) M (s++[⟨f,b.N,b.off-1⟩]) b.r):=by
  refine⟨a8,c2,_,(R.b b9 g2),((((c.t.q a1).alloc _).grown b9 (λk hk _=>ZJ (ZM hk))).setCell (p:=(J t 1)) (λ_=>ZM X) a8),λk hk=>?_⟩
  rcases hk with e|e|e
  exact ZM (ZM e)
  ·rcases f4 with o|o
   exact ZM (ZJ (ZM (o ▸ e)));rw[o.1] at e;injection e with e;have:=a2.size;simp at this;exact ZJ (by simp at e;omega)
  exact c.p k e
 subst h1;refine hK _ _ ⟨b4,f2⟩ (λhHeld=>?_);refine G_ ?_;refine le_ ?_;go_wp2;go_end0;rw[<- e2];exact⟨X,a6⟩
end Go.Proofs.YtfcgnpchbcmdeaaGreat
