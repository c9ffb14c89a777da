import Derived.Test.YtfcgnpchbcmdeaaGreatHdc
import Derived.Test.YtfcgnpchbcmdeaaGreatZsad
import Derived.Test.YtfcgnpchbcmdeaaGreatZsai
import Derived.Test.YtfcgnpchbcmdeaaGreatZsag
open _root_ renaming Nat->H,Array->YZ,rfl->X,Int->E,Bool->ZG,Option->Y0,List->U,rfl->Z7,List->Z1
open Go.World renaming cell?->ZV,drewN->Y1,frozen?->YT,setCell->ZO,alloc->ZN,drew->YY,ownsRow->ZD,grownBy->Y3
open Go renaming World->ZT,Value->ZY,maxLen->Y2,madeCells->YV
open Go.Proofs.Tryz renaming prog->Y8
open Go.Value renaming bool->ZR,agg->Y9,int->ZX,ownBlock->ZW,slice->ZH,tuple->Y5,pointer->Y7
open Go.Ending renaming returned->ZI
open Decidable renaming decide->ZE
open Bool renaming true->Z0,false->ZZ
open Array renaming size->B,setIfInBounds->YS
open Option renaming some->T,none->ZP,some->Z2
open Or renaming inl->ZM,inr->ZJ
open Go.IntKind renaming i64->ZQ
open List renaming length->F,getD->Z,take->ZU,replicate->Y6
open Int renaming toNat->ZL
namespace Go.Proofs.YtfcgnpchbcmdeaaGreat
set_option linter.all false
set_option maxRecDepth 100000
set_option maxHeartbeats 4000000
open Go.RowKit List Nat Go.World Go.Proofs.Tryz Go.Value Go.IntKind Go.Lib Go.Region
def kb_{b:H}{c d:ZT}(e:Below b c d):∀a:Addr,a.block<b->ZV d a=ZV c a:=λ_ f=>e.cell f
def bt_{a b c:ZT}(d:E_ a b)(e:E_ b c):E_ a c:=d.T (e.m d.size)
def q_{a b:Prop}(x:b)(c:b->a:=by intro x;(try delta C_ U_ V_ I P_ L_ V N_ Q_ J);go_in;exact x):a:=c x
def ew_{a b:Prop}(x:b)(c:b->a:=by intro x;(try delta C_ U_ V_ I P_ L_ V N_ Q_ J);go_in;go_wp2_with fail;exact x):a:=c x
def er_{a b:Prop}(x:b)(c:b->a:=by intro x;(try delta C_ U_ V_ I P_ L_ V N_ Q_ J);go_in;go_wp2;go_ret;exact x):a:=c x
def wm_{d:H}{b:YZ ZY}{g:ZT}{a:Ending->ZT->Prop}{e f:Prop}(c:Calls Y8 d b g a)(x:f)(h:Calls Y8 d b g a->f->e:=by intro c x;go_wp2_with fail;refine c.m ?_;exact x):e:=h c x
def wr_{a b:Prop}(x:b)(c:b->a:=by intro x;go_wp2;go_ret;exact x):a:=c x
def Tr{a b}(c:a=b):ZI (ZR a)=ZI (ZR b):=by rw[c]
def qw{a c b d}:C_ 61 #[I a,I c,I b] d (V_ (ZR (ZE (c<=a)&&ZE (a<=b))) d):=by
 refine q_ ?_;go_wp2
 all_goals go_ret
 all_goals exact⟨by simp[*]<;>omega,X⟩
def Xf{a c b d}(e:c<=a/\a<=b):C_ 61 #[I a,I c,I b] d (V_ (ZR Z0) d):=by
 apply (qw).m
 grind
def xd{a c b d}(e:¬(c<=a/\a<=b)):C_ 61 #[I a,I c,I b] d (V_ (ZR ZZ) d):=by
 apply (qw).m
 grind
def Nf(c:ZG)(b a:E):ZG:=if c=Z0 then ZE (b=0/\1<=a/\a<=1000) else ZE (0<=b/\b<=3/\a=0)
def sg{b d c e}:C_ 159 #[Y9 #[ZR b,I d,I c]] e (U_ (ZR (Nf b d c)) e):=by
 cases b
 ·refine q_ ?_;go_wp2
  all_goals go_ret
  all_goals refine⟨?_,r_⟩
  all_goals (refine congrArg (λa=>ZI (ZR a)) (Bool.eq_iff_iff.2 ?_);simp[Nf]<;>omega)
 refine q_ ?_;go_wp2
 all_goals go_ret
 all_goals refine⟨?_,r_⟩
 all_goals (refine congrArg (λa=>ZI (ZR a)) (Bool.eq_iff_iff.2 ?_);simp[Nf]<;>omega)
structure Du(c:ZT)(b d a)(g:H->ZG)(f e:H->E):Prop where
 k:a<=Y2
 lt:0<a->b<B c.1
 t:∀i,i<a->ZV c (J b (d+i*3))=T (ZR (g i))
 D:∀i,i<a->ZV c (J b (d+i*3+1))=T (I (f i))
 G:∀i,i<a->ZV c (J b (d+i*3+2))=T (I (e i))
def Wl(e:H->ZG)(d b:H->E)(c:H):ZG:=(range c).all λa=>Nf (e a) (d a) (b a)
def ts d c b a:Wl d c b (a+1)=(Wl d c b a&&Nf (d a) (c a) (b a)):=by unfold Wl;grind
def Zmj{e d b a c}(f:a<c)(g:Nf (e a) (d a) (b a)=ZZ):Wl e d b c=ZZ:=by unfold Wl;grind
def gw{k o c p i g e h}(d:Du h k o c i g e):C_ 95 #[V (T (J k o)) c p] h (U_ (ZR (Wl i g e c)) h):=by
 have r:=d.k;unfold Y2 at r;refine q_ ?_;go_wp2_with fail
 go_loopw [7] (λb f=>∃a:H,a<=c/\b=I a/\Wl i g e a=Z0/\E_ h f) (m1_ c)
 exact⟨0,v_,X,X,y_⟩;obtain⟨a,x,rfl,l,b⟩:=hrel
 by_cases f:a<c
 ·have w:=d.lt O;have t:=T_ b (d.t a f);have u:=T_ b (d.D a f);have v:=T_ b (d.G a f);go_wp2_with fail
  apply (sg).m;rintro s y ⟨rfl,q⟩;have m:=(b.alloc b.size _).T (q.m (by have:=b.size;simp;omega))
  cases n:Nf (i a) (g a) (e a)
  ·have j:=Y n;go_wp2;go_ret;refine⟨?_,m⟩;exact Tr (Zmj f j).s
  have j:=Y n;refine J_ ?_;exact⟨a+1,O,g_,by rw[ts,l,j];rfl,m⟩
 have j:c=a:=O;subst j;go_wp2;go_ret;exact⟨Tr l.s,b⟩
def ah{c d a}:C_ 95 #[V c 0 d] a (U_ (ZR Z0) a):=by
 refine q_ ?_;go_wp2_with fail
 go_loopw [7] (λb e=>b=I 0/\e=a) (λb _=>0)
 grind
 obtain⟨rfl,rfl⟩:=hrel;go_wp2;go_ret;exact⟨X,y_⟩
def Ed(g:ZT)(d:Y0 Addr)(b:H)(h:H->ZG)(f e:H->E):Prop:=
 b=0∨∃a c,d=T ⟨a,c,ZP⟩/\Du g a c b h f e
def rq{d b h g f e c}(a:Ed c d b g f e):C_ 95 #[V d b h] c (U_ (ZR (Wl g f e b)) c):=by
 rcases a with rfl|⟨i,j,rfl,a⟩
 exact ah;exact gw a
def Du.q{j w' e h g k i f}(a:Du j e h g k i f)(d:E_ j w'):Du w' e h g k i f:=
 ⟨a.k,λl=>Qh (a.lt l) d.size,λc b=>T_ d (a.t c b),λc b=>T_ d (a.D c b),λc b=>T_ d (a.G c b)⟩
def Ed.q{e w' a c f d b}(h:Ed e a c f d b)(j:E_ e w'):Ed w' a c f d b:=by
 rcases h with rfl|⟨g,k,rfl,i⟩
 exact ZM X;exact ZJ ⟨g,k,X,i.q j⟩
def ZfO(a:ZG):E:=if a=Z0 then 0 else 1
def Ih(b:H)(a d c:E)(g:H->ZG)(f e:H->E):ZG:=
 ZE ((1:E)<=b/\(b:E)<=4/\2<=a/\a<=16/\a<=d/\d<=32/\0<=c/\c<=20)&&Wl g f e b
def Qu{c a j d h e i g f b}(m:a<=Y2)(k:Ed b c a i g f):C_ 56 #[Y9 #[V c a j,I d,I h,I e]] b (U_ (ZR (Ih a d h e i g f)) b):=by
 unfold Y2 at m;refine q_ ?_;go_wp2_with (first|(go_at_call 95;apply (rq (k.q r_)).m;rintro n o ⟨rfl,l⟩)|go_in)
 all_goals go_ret
 ·refine⟨Tr ?_,r_.T (l.m s_)⟩;unfold Ih
  grind
 all_goals exact⟨Tr (by simp[Ih];omega),r_⟩
def ZgY{i a l b f c h e d g}(p:a<=Y2)(m:Ed g i a h e d):C_ 67 #[Y9 #[V i a l,I b,I f,I c]] g (U_ (ZX ZQ (ZfO (Ih a b f c h e d))) g):=by
 cases o:Ih a b f c h e d
 all_goals
  have k:=Y o;refine q_ ?_;go_wp2_with fail
  apply (Qu p (m.q r_)).m;rintro q r ⟨j,n⟩;rw[k] at j;subst j;go_wp2;go_ret;exact⟨X,r_.T (n.m s_)⟩
def Ee{a b}:C_ 68 #[I a] b (V_ (ZX ZQ a) b):=by refine er_ ?_;exact⟨X,X⟩
structure Ln(c:ZT)(b d)(a:U Cd):Prop where
 lt:0<F a->b<B c.1
 v:∀i,i<F a->ZV c (J b (d+i*4))=T (I (Z a i e0).v)
 t:∀i,i<F a->ZV c (J b (d+i*4+1))=T (I (Z a i e0).t)
 h:∀i,i<F a->ZV c (J b (d+i*4+2))=T (I (Z a i e0).h)
 g:∀i,i<F a->ZV c (J b (d+i*4+3))=T (I (Z a i e0).g)
def Cj(e:ZT)(d:Y0 Addr)(a:U Cd):Prop:=F a<=4194304/\(F a=0∨∃b c,d=T ⟨b,c,ZP⟩/\Ln e b c a)
def Ln.block{h w' c i f}(d:Ln h c i f)(k:B h.1<=B w'.1)(j:0<F f->w'.1[c]? =h.1[c]?):Ln w' c i f:=by have e:=λg l=>cb_ (a:=(J c l)) (j g);exact⟨λg=>Qh (d.lt g) k,λb a=>(e O _).T (d.v b a),λb a=>(e O _).T (d.t b a),λb a=>(e O _).T (d.h b a),λb a=>(e O _).T (d.g b a)⟩
def Ln.q{d w' a g e}(b:Ln d a g e)(c:E_ d w'):=b.block c.size λf=>c.block a (b.lt f)
def Cj.q{e w' c b}(a:Cj e c b)(h:E_ e w'):Cj w' c b:=by rcases a with⟨d,a|⟨f,i,g,a⟩⟩;exact⟨d,ZM a⟩;exact⟨d,ZJ ⟨f,i,g,a.q h⟩⟩
def Cj.drewN{e b a}(c:Cj e b a) d:=c.q (below_drewN y_ d)
def Zm{a b}(c:a=b):ZI (I a)=ZI (I b):=by rw[c]
def Zdv{p:Prop}(h:p:=by
 rcases b with⟨j,b|⟨n,o,rfl,b⟩⟩;exact absurd b c;have d:=b.h (F a-1) O;have l:=aO O;have m:Ae a=(Z a (F a-1) e0).h:=(by unfold Ae;rw[aC c]);have f:=Y m;generalize (Z a (F a-1) e0).h=p at d f;obtain⟨h,k⟩:∃h,F a=h+1:=⟨F a-1,O⟩;rw[k] at d j l ⊢;simp only[Nat.add_sub_cancel] at d;refine q_ ?_;go_wp2;go_ret
 exact⟨Zm f.s,X⟩):p:=h
def ZgE g a i e (b:Cj e g a):C_ 117 #[V g (F a) i] e (V_ (ZX ZQ (Ae a)) e):=by
 by_cases c:F a=0
 refine er_ ?_;exact⟨Zm (by simp[Ae,c]),X⟩;exact Zdv
def Zas{g} a {i e}(b:Cj e g a):C_ 176 #[V g (F a) i] e (V_ (ZX ZQ (Ae a)) e):=by
 by_cases c:F a=0
 refine er_ ?_;exact⟨Zm (by simp[Ae,c]),X⟩;exact Zdv
def ZcR{g} a {i e}(b:Cj e g a):C_ 87 #[V g (F a) i] e (V_ (ZX ZQ (Ae a)) e):=by
 by_cases c:F a=0
 refine er_ ?_;exact⟨Zm (by simp[Ae,c]),X⟩;exact Zdv
def al{a d}:C_ 79 #[I a] d (V_ (ZX ZQ (Ey a)) d):=by
 unfold Ey
 by_cases c:1000000000<a
 ·have b:¬a< -1000000000:=O;rw[aD c];refine q_ ?_;go_wp2;go_ret;exact⟨X,X⟩
 rw[aC c]
 by_cases b:a< -1000000000
 all_goals
  first|rw[aD b]|rw[aC b]
  refine q_ ?_;go_wp2;go_ret;exact⟨X,X⟩
def Xw{b a}:C_ 80 #[I b] a (V_ (ZX ZQ (Kd b)) a):=by
 refine q_ ?_;go_wp2
 all_goals go_ret
 all_goals exact⟨Zm (by unfold Kd;omega),X⟩
def Zpj x a {b}(c:0<=x.t/\0<=x.h/\0<=x.g/\x.t<=1000000000000/\x.h<=1000000000000/\x.g<=1000000000000)(d:0<=a.t/\0<=a.h/\0<=a.g/\a.t<=1000000000000/\a.h<=1000000000000/\a.g<=1000000000000):C_ 86 #[Y9 #[I x.v,I x.t,I x.h,I x.g],Y9 #[I a.v,I a.t,I a.h,I a.g]] b (U_ (Y9 #[ZX ZQ (Pb x a).v,ZX ZQ (Pb x a).t,ZX ZQ (Pb x a).h,ZX ZQ (Pb x a).g]) b):=by obtain⟨e,f,g,h,i,j⟩:=c;obtain⟨k,l,m,n,o,p⟩:=d;refine q_ ?_;go_wp2;exact bodyPost_ret (v:=Y9 #[I x.v,I (x.t+a.t),I (x.h+a.h),I (x.g+a.g)]) (by simp[results,results86,go_sem]) X ⟨X,(r_.alloc s_ _).alloc t_ _⟩
def iv g b {j} a {f}(c:Cj f g b)(k:Bc b)(q:a<=F b):C_ 152 #[V g (F b) j,I a] f λd h=>d=ZI (ZX ZQ (Co b a))/\∃e,h=Y1 f e:=by
 cases a with
 | zero=>
  refine er_ ?_;exact⟨Zm X,0,X⟩
 | succ a=>
  rcases c with⟨r,c|⟨l,s,rfl,c⟩⟩;omega;have h:=c.t a O;have i:=c.g a O;have e:=k.at (show a<F b by omega)
  have d:K (Co b (a+1)=(Z b a e0).t+(Z b a e0).g):=show _=_ by simp[Co]
  generalize (Z b a e0).t=t at h d e;generalize (Z b a e0).g=u at i d e;obtain⟨m,n,o,p,_⟩:=e;refine q_ ?_;go_wp2;go_quiet (fail);go_wp2;go_ret;exact⟨Zm d.s,_,X⟩
def de g a {k} b {f}(c:Cj f g a)(l:Bc a)(r:b<=F a):C_ 153 #[V g (F a) k,I b] f λe i=>e=ZI (ZX ZQ (Dz a b))/\∃d,i=Y1 f d:=by
 by_cases h:b=F a
 ·subst h
  have d:K (Dz a _=_):=show _=_ by unfold Dz;rw[aD X]
  refine q_ ?_;go_wp2_with fail
  apply (ZcR a c).m;rintro e i ⟨rfl,rfl⟩;go_wp2;go_ret;exact⟨Zm d.s,0,X⟩
 rcases c with⟨_,c|⟨m,s,rfl,c⟩⟩;omega;have i:=c.h b O;have j:=c.g b O;have e:=l.at (show b<F a by omega)
 have d:K (Dz a b=_):=show _=_ by unfold Dz;rw[aC h]
 generalize (Z a b e0).h=t at i d e;generalize (Z a b e0).g=u at j d e;obtain⟨n,o,p,q,_⟩:=e;refine q_ ?_;go_wp2;go_quiet (fail);go_wp2;go_ret;exact⟨Zm d.s,_,X⟩
def Ds(a:U Cd)(b:H)(c:E):Cd:=if b<F a/\(Z a b e0).v=c then Z a b e0 else⟨c,Co a b,Dz a b,0⟩
def Ka(b:ZT)(a:H)(c d e f:E):Prop:=b.1[a]? =T (O_ #[I c,I d,I e,I f] 98)
def Ka.cells{b a e f g h}(c:Ka b a e f g h):ZV b (J a 0)=T (I e)/\ZV b (J a 1)=T (I f)/\ZV b (J a 2)=T (I g)/\ZV b (J a 3)=T (I h)/\(∀d,YT b (J a d)=ZZ):=by unfold Ka at c;refine⟨?_,?_,?_,?_,λd=>fr_ b a d _ _ c⟩<;>simp[ZV,c]
def Ka.lt{b a d e f g}(c:Ka b a d e f g):a<B b.1:=(Qb c).1
def Ka.b{b a d h e f}(g:Ka b a d h e f){c}:Ka (ZO b (J a 1) (I c)) a d c e f:=by have:=hs_ b a 1 _ 98 (I c) g;exact this
def Ka.h{b a d e f g}(h:Ka b a d e f g){p}(i:a≠p.block){c}:Ka (ZO b p c) a d e f g:=by unfold Ka at *;rw[Below.heap_setCell b p c a i];exact h
def Ka.alloc{w a d e f g}(b:Ka w a d e f g) c:Ka (ZN w c) a d e f g:=by have h:=b.lt;unfold Ka at *;rw[hb_ w c a h];exact b
def Ka.a(a:ZT) b c d e:Ka (ZN a (O_ #[I b,I c,I d,I e] 98)) (B a.1) b c d e:=ha_ a _
def Ka.drew{b a c d e f}(g:Ka b a c d e f):Ka (YY b) a c d e f:=g
def Zb2{t} a L c {d} e (N:Cj e t a)(M:Bc a)(b5:c<=F a)(R:∀j,j<c->(Z a j e0).v<d)(P:c<F a->d<=(Z a c e0).v):C_ 175 #[V t (F a) L,I d] e (U_ (Y9 #[ZX ZQ (Ds a c d).v,ZX ZQ (Ds a c d).t,ZX ZQ (Ds a c d).h,ZX ZQ (Ds a c d).g]) e):=by
 have s:=Y N;have y:=Y M;have z:=Y R;have G:=Y P;refine dl_ ?_;go_enter func175,ntmps175;go_wp2_with fail
 apply (Zas a (s.q r_)).m;rintro a6 c4 ⟨rfl,rfl⟩;go_wp2_with fail
 go_loopw [6] (λj f=>∃b:H,b<=c/\j=I b/\E_ e f/\Ka f (B e.1) 0 0 0 0/\Ka f (B e.1+1) d (Co a b) (Ae a) 0) (m1_ (F a))
 case atStart=>
  refine⟨0,v_,X,r_.alloc s_ _,?_,?_⟩;exact(Ka.a e 0 0 0 0).alloc _;have b:B (ZN e (O_ #[I 0,I 0,I 0,I 0] 98)).1=B e.1+1:=s_;have:=Ka.a (ZN e (O_ #[I 0,I 0,I 0,I 0] 98)) d 0 (Ae a) 0;rw[b] at this;exact this
 obtain⟨b,b6,rfl,m,v,u⟩:=hrel;obtain⟨o,p,q,r,c2⟩:=v.cells;obtain⟨b7,b8,b9,c0,c1⟩:=u.cells;have D:=Y v;have A:=Y u
 by_cases f:b<F a
 ·rcases s.out with⟨_,b3|⟨a1,c3,rfl,l⟩⟩;omega;have b4:=l.lt O;have h:=l.q m;have a2:=h.v b f;have a3:=h.t b f;have a4:=h.h b f;have a5:=h.g b f;obtain⟨a7,a8,a9,b0,b1,b2⟩:=(y.at f)
  by_cases Q:b<c
  ·have w:=z b Q;have S:((Z a b e0).v==d)=_:=aO O
   have g:K (Co a (b+1)=(Z a b e0).t+(Z a b e0).g):=show _=_ by simp[Co]
   generalize (Z a b e0).v=W,(Z a b e0).t=a0,(Z a b e0).h=k,(Z a b e0).g=x at *;go_wp2_with fail
   go_region
   all_goals go_wp2
   all_goals
    go_roundw
    case rel=>
     refine⟨b+1,O,g_,(m.setCell s_ _).drew,(D.h s_).drew,?_⟩;rw[g];exact(A.b).drew
    case measure=>exact z_
  have n:c=b:=O;subst n;have w:=G f
  by_cases i:(Z a c e0).v=d
  ·have g:K (Ds a _ d=_):=show _=_ by unfold Ds;rw[aD ⟨f,i⟩]
   have S:=beq_iff_eq.2 i;clear l h i w;generalize (Z a) c e0=k at *;go_wp2;exact bodyPost_ret (v:=Y9 #[I k.v,I k.t,I k.h,I k.g]) (by simp[results,results175,go_sem,o,p,q,r]) X ⟨by rw[g],(((m.setCell s_ _).setCell s_ _).setCell s_ _).setCell s_ _⟩
  have g:K (Ds a _ d=⟨d,_,_-_,0⟩):=show _=_ by unfold Ds;rw[aC (λk=>i k.2)];unfold Dz;rw[aC O]
  have S:d<(Z a c e0).v:=O;generalize (Z a c e0).v=W,(Z a c e0).t=a0,(Z a c e0).h=k,(Z a c e0).g=x at *;go_wp2_with fail
  go_region
  all_goals go_wp2
  all_goals exact bodyPost_ret (v:=Y9 #[I d,I (Co a c),I (k-x),I 0]) (by simp[results,results175,go_sem,o,p,q,r]) X ⟨by rw[g],(by repeat(first|omega|with_reducible apply Below.drew|with_reducible refine Below.setCell ?_ s_ _))⟩
 have n:c=b:=O;subst n
 have g:K (Ds a _ d=⟨d,_,Ae a,0⟩):=show _=_ by unfold Ds;rw[aC (λk=>f k.1)];unfold Dz;rw[aD O]
 go_wp2;exact bodyPost_ret (v:=Y9 #[I d,I (Co a c),I (Ae a),I 0]) (by simp[results,results175,go_sem,o,p,q,r]) X ⟨by rw[g],(by repeat(first|omega|with_reducible apply Below.drew|with_reducible refine Below.setCell ?_ s_ _))⟩
def Es(a:Cd):U ZY:=[I a.v,I a.t,I a.h,I a.g]
def flat:U Cd->U ZY
 |[]=>[]
 |b::a=>Es b++flat a
theorem Cb a b:flat (a++b)=flat a++flat b:=by
 induction a with
 |nil=>rfl
 |cons e d c=>simp[flat,c]
theorem Cg a:F (flat a)=F a*4:=by
 induction a with
 |nil=>rfl
 |cons c a b=>simp[flat,Es,b];omega
def Zkc x:flat [x]=[I x.v,I x.t,I x.h,I x.g]:=rfl
def bq:(prog.info? 98).map (λa=>(a.zero,a.size,a.bytes))=T (T (Y9 #[I 0,I 0,I 0,I 0]),4,32):=k_
def Ai(d:ZT)(b:H)(c:ZY)(a:U Cd):Prop:=ZD d b 98 4 c (F a) (flat a)
def Ai.nil b a:Ai b a (N_) []:=ownsRow_nil b a 98 4
def Ai.alloc{w b d a}(e:Ai w b d a) c:Ai (ZN w c) b d a:=ra_ e c
def Ai.q{f w' base e a}(c:Ai f base e a)(j:E_ f w'):Ai w' base e a:=by
 refine⟨c.1,?_⟩
 rcases c.2 with l|⟨b,g,h,i,k,d,m⟩
 exact ZM l;exact ZJ ⟨b,g,h,i,k,(j.block b (Qb d).1).T d,m⟩
def Us d e:∀a b c,F (Ef d e a b c)<=a
 |0,_,_=>by simp[Ef]
 | a+1,b,c=>by
  have f:=Us d e a (b+1) c;have g:=Us d e a b (c+1);have h:=Us d e a (b+1) (c+1)
  grind [Ef]
theorem Mq a b:F (Bf a b)<=F a+F b:=Us a b _ 0 0
def Zc(b c:U Cd)(d e:H)(a:E):Cd:=⟨a,(Ds b d a).t+(Ds c e a).t,(Ds b d a).h+(Ds c e a).h,(Ds b d a).g+(Ds c e a).g⟩
theorem dc{a b}(c:b<F a):Ds a b (Z a b e0).v=Z a b e0:=by unfold Ds;grind
theorem ot{a b c}(d:b<F a->(Z a b e0).v≠c):Ds a b c=⟨c,Co a b,Dz a b,0⟩:=by unfold Ds;grind
def Znf{a c b d}(e:b<F a)(f:d<F c->(Z a b e0).v<(Z c d e0).v):Zc a c b d (Z a b e0).v=seen c d (Z a b e0):=by unfold Zc seen;rw[dc e,ot (λg=>O)];simp
def Zng{c a d b}(f:b<F a)(e:d<F c->(Z a b e0).v<(Z c d e0).v):Zc c a d b (Z a b e0).v=seen c d (Z a b e0):=by grind [Zc,seen,dc,ot,Cd.mk.injEq]
def ZkV{a c b d}(f:b<F a)(g:d<F c)(e:(Z a b e0).v=(Z c d e0).v):Zc a c b d (Z a b e0).v=Pb (Z a b e0) (Z c d e0):=by grind [Zc,Pb,dc]
def Zb1{a}(d:Bc a){b}(f:b<=F a) c:0<=(Ds a b c).t/\(Ds a b c).t<=1000000000000/\0<=(Ds a b c).h/\(Ds a b c).h<=1000000000000/\0<=(Ds a b c).g/\(Ds a b c).g<=1000000000000:=by
 unfold Ds;split;rename_i e;have:=d.at e.1;omega;have e:=jz d f;have g:=Dk d
 grind
structure Ot(c d:U Cd)(a b):Prop where
 h:a<=F c
 e:b<=F d
 i:a<F c->0<b->(Z d (b-1) e0).v<(Z c a e0).v
 k:b<F d->0<a->(Z c (a-1) e0).v<(Z d b e0).v
def ai{c}(f:Bc c){a d}(h:a<=F c)(g:0<a->(Z c (a-1) e0).v<d):∀b,b<a->(Z c b e0).v<d:=by
 intro b i
 by_cases e:b=a-1
 rw[e];exact(g O);have:=(f.lt (show b<a-1 by omega) O).1;omega
def Ot.a{a c}(g:Bc a){b d}(f:Ot a c b d)(j:b<F a)(h:d<F c->(Z a b e0).v<(Z c d e0).v):Ot a c (b+1) d:=
 ⟨O,f.e,λe i=>oj_ (f.i j i) (g.lt (show b<b+1 by omega) e).1,λe _=>by simpa using h e⟩
def Ot.b{c b}(g:Bc b){d a}(f:Ot c b d a)(j:a<F b)(h:d<F c->(Z b a e0).v<(Z c d e0).v):Ot c b d (a+1):=
 ⟨f.h,O,λe _=>by simpa using h e,λe i=>oj_ (f.k j i) (g.lt (show a<a+1 by omega) e).1⟩
def Ot.c{c d}(f:Bc c)(g:Bc d){a b}(h:Ot c d a b)(j:a<F c)(k:b<F d)(i:(Z c a e0).v=(Z d b e0).v):Ot c d (a+1) (b+1):=
 ⟨O,O,λe _=>gh_ (f.lt (show a<a+1 by omega) e).1,λe _=>gh_ (g.lt (show b<b+1 by omega) e).1⟩
structure So(a b)(c d)(e):Prop where
 n:Ot a b c d
 f:e++Oj a b c d=Bf a b
def So.y{a b f g c}(d:So a b f g c):F c<=F a+F b:=by have e:=congrArg F d.f;have h:=Mq a b;simp at e;omega
def So.a{a b}(i:Bc a){c d g}(h:So a b c d g)(f:c<F a)(e:d<F b->(Z a c e0).v<(Z b d e0).v):So a b (c+1) d (g++[seen b d (Z a c e0)]):=
 ⟨h.n.a i f e,by rw[append_assoc,<- h.f,Znw f e];rfl⟩
def So.b{a b}(i:Bc b){c d g}(h:So a b c d g)(f:d<F b)(e:c<F a->(Z b d e0).v<(Z a c e0).v):So a b c (d+1) (g++[seen a c (Z b d e0)]):=
 ⟨h.n.b i f e,by rw[append_assoc,<- h.f,Znx f e];rfl⟩
def So.c{a b}(j:Bc a)(k:Bc b){c d h}(i:So a b c d h)(f:c<F a)(g:d<F b)(e:(Z a c e0).v=(Z b d e0).v):So a b (c+1) (d+1) (h++[Pb (Z a c e0) (Z b d e0)]):=
 ⟨i.n.c j k f g e,by rw[append_assoc,<- i.f,Zlm f g e];rfl⟩
def Ai.P{c a b L}{x:Cd}(d:ZD c a 98 4 b (F L+1) (flat L++[I x.v,I x.t,I x.h,I x.g])):Ai c a b (L++[x]):=by unfold Ai;rw[Cb,Zkc,Qe];exact d
def Cj.g{e g f d i}(b:Cj e f d)(h:E_ e g)(j:i<F d):∃a c,f=T ⟨a,c,ZP⟩/\ZV g (J a (c+i*4))=T (I (Z d i e0).v)/\a<B e.1:=by rcases b with⟨_,k|⟨a,c,rfl,b⟩⟩;omega;exact⟨a,c,X,T_ h (b.v i j),b.lt O⟩
def NxJ(a b:U Cd)(e f:H)(i:U Cd)(d:E)(g h:H):Prop:=So a b g h (i++[Zc a b e f d])/\(∀c,c<e->(Z a c e0).v<d)/\(e<F a->d<=(Z a e e0).v)/\(∀c,c<f->(Z b c e0).v<d)/\(f<F b->d<=(Z b f e0).v)
def Zqk{d c b a n}(j:Bc d)(k:Bc c)(h:So d c b a n)(g:b<F d∨a<F c):∃i p m,NxJ d c b a n i p m/\((b<F d/\i=(Z d b e0).v/\p=b+1/\(a<F c/\i<(Z c a e0).v/\a=m∨a<F c/\i=(Z c a e0).v/\m=a+1∨¬a<F c/\a=m))∨a<F c/\i=(Z c a e0).v/\m=a+1/\b=p/\(b<F d/\i<(Z d b e0).v∨¬b<F d)):=by
 have s:=h.n.h;have q:=h.n.e;have t:∀e g,NxJ d c b a n (Z d b e0).v (b+1) a:=λe g=>⟨Znf e g ▸ h.a j e g,λr l=>(j.lt l e).1,λ_=>Int.le_refl _,ai k q (h.n.i e),λf=>Int.le_of_lt (g f)⟩;have u:∀f g,NxJ d c b a n (Z c a e0).v b (a+1):=λf g=>⟨Zng f g ▸ h.b k f g,ai j s (h.n.k f),λe=>Int.le_of_lt (g e),λr l=>(k.lt l f).1,λ_=>Int.le_refl _⟩
 by_cases e:b<F d
 ·by_cases f:a<F c
  ·rcases Int.lt_trichotomy (Z d b e0).v (Z c a e0).v with w|o|v
   ·grind
   exact⟨_,_,_,⟨ZkV e f o ▸ h.c j k e f o,λr l=>(j.lt l e).1,λ_=>Int.le_refl _,ai k q (h.n.i e),λ_=>O⟩,ZM ⟨e,X,X,ZJ (ZM ⟨f,o,X⟩)⟩⟩
   grind
  grind
 grind
def bkJ{p:Prop}(h:p:=by
 obtain⟨p1,p2,p3,p4,p5,p6⟩:=P1;obtain⟨q1,q2,q3,q4,q5,q6⟩:=P2;go_wp2_with fail
 go_big_quiet (fail);go_wp2_with fail
 apply (HPA _ (HEA.q (below_drewN y_ _))).m;rintro e w1 ⟨rfl,hb1⟩;have hbw1:Below wr.1.size _ _:=(below_drewN y_ _).T hb1;have HEB1:=Y (HEB.q hbw1);go_wp2_with fail
 apply (HPB _ (HEB1.q r_)).m;rintro e w2 ⟨rfl,hb2⟩;have hX:Ka w2 w1.1.size pa.v pa.t pa.h pa.g:=(by unfold Ka;rw[hb2.block _ s_];exact hn_);have⟨_,x1,x2,x3,_⟩:=hX.cells;have hzz:w1.1.size<w2.1.size:=(by have:=hb2.size;simp at this;omega);have hbw2:=hbw1.T ((r_.T (hb2.m s_)).m hbw1.size);have HO2:=Y (HO.q hbw2);have hs2:=aG hsz hbw2.size;go_wp2_with (at_builtin;refine wpList_append_own _ rfl (.tmp 60) (.tmp 78) 29 rfl w.1.size 98 i0 _ 4 32 underlying29 hinf hz0 hz1 hz2 rfl C _ out.length (flat out) rfl ((HO2.alloc _).alloc _) _ 1 1 [I vp,I (pa.t+pb.t),I (pa.h+pb.h),I (pa.g+pb.g)] rfl rfl ?_ ?_ ?_ ?_ ?_ ?_)
 have:=one_new (w2.alloc (O_ #[I pb.v,I pb.t,I pb.h,I pb.g] 98)) #[I vp,I (pa.t+pb.t),I (pa.h+pb.h),I (pa.g+pb.g)] 98;rw[show(w2.alloc (O_ #[I pb.v,I pb.t,I pb.h,I pb.g] 98)).1.size=w2.1.size+1 by simp] at this;exact this
 ·intro u hu;simp at hu;rcases hu with rfl|rfl|rfl|rfl<;>rfl
 unfold maxLen;omega;omega;simp;omega;intro v3 w3 hown3 hgrow _;have hb3:=(((hbw2.m hsz).alloc hs2 _).alloc t_ _).grown hgrow t_ (λk hk=>(HO2.lt k hk).1);have hb4:=hbel.T hb3;try have ca3:=(hb3.cell (p:=(J b1 (o1+i*4))) hbb1).T ca0
 try have cb3:=(hb3.cell (p:=(J b2 (o2+j*4))) hbb2).T cb0
 have HF:K (Ai w3 w.1.size v3 (out++[X])):=HNX ▸ (Ai.P hown3);try clear ca0
 try clear cb0
 go_wp2;go_roundw
 case rel=>first|exact⟨i+1,j,_,g_,g_,⟨HX,HF⟩,hb4⟩|exact⟨i+1,j+1,_,g_,g_,⟨HX,HF⟩,hb4⟩|exact⟨i,j+1,_,g_,g_,⟨HX,HF⟩,hb4⟩
 case measure=>simp[intOf];omega):p:=h
def Tp s t b a N P w (x:Cj w s b)(y:Cj w t a)(Q:Bc b)(R:Bc a):C_ 120 #[V s (F b) N,V t (F a) P] w λe c=>∃v,e=ZI v/\Ai c (B w.1) v (Bf b a)/\E_ w c:=by
 have⟨i0,hinf,hz0,hz1,hz2⟩:=info_parts bq;have b3:=x.1;have b4:=y.1;have⟨G,L,p,q⟩:=y4_ x y Q R;clear x y Q R;refine dl_ ?_;go_enter func120,ntmps120;go_wp2_with fail
 go_loopw [5,6,7] (λg c d f=>∃(i j:H) (out:U Cd),c=I i/\d=I j/\K (So b a i j out/\Ai f (B w.1) g out)/\E_ w f) (λ_ c d _=>(F b-ZL (intOf c))+(F a-ZL (intOf d)))
 case atStart=>exact⟨0,0,[],Z7,Z7,⟨⟨⟨v_,v_,λ_ h=>absurd h O,λ_ h=>absurd h O⟩,by simp[ph]⟩,Ai.nil _ _⟩,y_⟩
 obtain⟨i,j,out,rfl,rfl,a3,hbel⟩:=hrel;obtain⟨l,a0⟩:=a3;have a8:=l.y;have hi:=l.n.h;have W:=l.n.e;have hsz:=hbel.size;have A:=G.q hbel;have D:=L.q hbel;have⟨HEA,HEB,HO,r⟩:=y4_ A D a0 l;clear l a0 A D
 by_cases S:i<F b∨j<F a
 ·obtain⟨vp,a9,b0,⟨hX,a1,n,a2,o⟩,m⟩:=Zqk p q r S;have P1:=Zb1 p hi vp;have P2:=Zb1 q W vp;have HPA:K (∀g,Cj g s b->_):=λg z=>Zb2 b N i g z p hi a1 n;have HPB:K (∀g,Cj g t a->_):=λg z=>Zb2 a P j g z q W a2 o;have HNX:K (Zc b a i j vp=⟨vp,(Ds b i vp).t+(Ds a j vp).t,(Ds b i vp).h+(Ds a j vp).h,(Ds b i vp).g+(Ds a j vp).g⟩):=rfl;have HX:=Y hX;have f:=λh=>G.g hbel (i:=i) h;have c:=λh=>L.g hbel (i:=j) h;clear hX a1 n a2 o r S;generalize Zc b a i j vp=X,Ds b i vp=pa,Ds a j vp=pb,(Z b i e0).v=n,(Z a j e0).v=o at *
  rcases m with⟨k,rfl,rfl,m⟩|⟨d,rfl,rfl,rfl,m⟩
  ·obtain⟨b1,o1,rfl,ca0,hbb1⟩:=f k;have a4:=F_ i (F b)
   rcases m with⟨d,a7,rfl⟩|⟨d,rfl,rfl⟩|⟨d,rfl⟩
   obtain⟨b2,o2,rfl,cb0,hbb2⟩:=c d;have M:=F_ j (F a);have a5:ZE (vp<=o)=_:=aF O;have a6:(o==vp)=_:=aO O;have u:ZE (F a<=j)=_:=aE O;clear f c;exact bkJ;obtain⟨b2,o2,rfl,cb0,hbb2⟩:=c d;have M:=F_ j (F a);have u:ZE (F a<=j)=_:=aE O;clear f c;exact bkJ;have M:ZE ((F a:_)<=(j:E))=_:=aF O;have u:ZE (F a<=j)=_:=aF O;clear f c;exact bkJ
  obtain⟨b2,o2,rfl,cb0,hbb2⟩:=c d;have M:=F_ j (F a);have u:ZE (F a<=j)=_:=aE O
  rcases m with⟨k,a7⟩|k
  obtain⟨b1,o1,rfl,ca0,hbb1⟩:=f k;have a4:=F_ i (F b);have a5:ZE (n<=vp)=_:=aE O;have a6:(n==vp)=_:=aO O;clear f c;exact bkJ;have a4:ZE ((i:_)<(F b:E))=_:=aE O;clear f c;exact bkJ
 have k:¬i<F b:=O;have d:¬j<F a:=O;have c:out=Bf b a:=(by have:=r.f;rw[vv k d,append_nil] at this;exact this);have f:=Y (c ▸ HO);clear c;go_wp2;go_ret;exact⟨_,Z7,f,hbel⟩
def Zkv:(prog.info? 3).map (λa=>(a.zero,a.size,a.bytes))=T (T (I 0),1,8):=k_
def Ad(d:ZT)(b:H)(c:ZY)(a:U E):Prop:=ZD d b 3 1 c (F a) (a.map (ZX ZQ))
def Ad.nil{b a}:Ad b a (N_) []:=ownsRow_nil b a 3 1
def Ad.q{e w' base d f}(b:Ad e base d f)(j:E_ e w'):Ad w' base d f:=by
 refine⟨b.1,?_⟩
 rcases b.2 with l|⟨a,g,h,i,k,c,m⟩
 exact ZM l;exact ZJ ⟨a,g,h,i,k,(j.block a (Qb c).1).T c,m⟩
def Ad.kept{d e b a f c}(g:Ad d b a f)(h:Y3 d e c)(i:ZW a=ZP∨ZW a≠c):Ad e b a f:=World.ownsRow.kept g h i
def Ad.P{d b c a}{x:E}(e:ZD d b 3 1 c (F a+1) (a.map (ZX ZQ)++[I x])):Ad d b c (a++[x]):=by grind [Ad]
def ZgX(x:E):E:=if 1000000000<x then 1000000000 else x
def ZdC x:Ey x=if ZgX x< -1000000000 then -1000000000 else ZgX x:=by grind [Ey,ZgX]
def ZgS(a:E):ZG:=ZE (a<1∨1000<a)
def ZdD a:Kd a=if ZgS a=Z0 then 1 else a:=by grind [Kd,ZgS]
def Ez(a:U (E×E))(x:E):ZG:=match a.getLast? with
 |none=>Z0
 |some b=>ZE (b.1<x)
def Zhl x:Ez [] x=Z0:=rfl
def Wr b a x:Ez (b++[a]) x=ZE (a.1<x):=by simp[Ez]
def Zkg{b}(g:b.Pairwise λa e=>a.1<e.1){x}(f:Ez b x=Z0):∀a∈b,a.1<x:=by
 rcases eq_nil_or_concat b with c|⟨h,a,c⟩
 subst c;simp;rw[concat_eq_append] at c;subst c;rw[Wr] at f;simp at f;intro e d
 rcases mem_append.1 d with d|d
 have:=(pairwise_append.1 g).2.2 e d a s_;omega
 grind
structure Kb(d c:U (E×E)):Prop where
 f:c.Pairwise λa b=>a.1<b.1
 e:∀a∈c,∃b∈d,b.1=a.1
 g:∀a∈c,a.2=Qj d a.1
 A:∀b∈d,Ez c b.1=ZZ->∃a∈c,a.1=b.1
def Kb.nil b:Kb b []:=⟨s_,s_,s_,λc _ a=>by rw[Zhl] at a;cases a⟩
structure Kx(b e:U (E×E))(c)(f)(d g:E):Prop where
 j:f=ZZ->d=0/\g=0/\∀a∈ZU c b,Ez e a.1=ZZ
 l:f=Z0->(∃a∈ZU c b,Ez e a.1=Z0/\a.1=d)/\(∀a∈ZU c b,Ez e a.1=Z0->d<=a.1)/\g=Qj (ZU c b) d
def Kx.h b a:Kx b a 0 ZZ 0 0:=⟨(λ_=>⟨X,X,s_⟩),(λc=>by cases c)⟩
def Kx.a{b g c h k n}(d:Kx b g c h k n) m (j:Ez g b[c].1=Z0)(o:h=ZZ∨b[c].1<k):Kx b g (c+1) Z0 b[c].1 b[c].2:=by
 refine⟨(λd=>by cases d),λ_=>?_⟩;simp only[Qi m];refine⟨⟨b[c],mem_append.2 (ZJ s_),j,X⟩,λe a i=>?_,?_⟩
 ·rcases mem_append.1 a with a|a
  ·cases f:h with
   |false=>have:=(d.j f).2.2 e a;grind
   | true=>
    have:=(d.l f).2.1 e a i
    grind
  grind
 rw[Nr,qt (λe a l=>?_)];simp[Qj];have i:Ez g e.1=Z0:=l ▸ j
 cases f:h with
 |false=>have:=(d.j f).2.2 e a;grind
 | true=>
  have:=(d.l f).2.1 e a i
  grind
def Kx.c{a e b d f}(c:Kx a e b Z0 d f) k (i:a[b].1=d):Kx a e (b+1) Z0 d (f+a[b].2):=by
 have⟨⟨m,l,j,g⟩,n,h⟩:=c.l X;refine⟨(λc=>by cases c),λ_=>?_⟩;simp only[Qi k];refine⟨⟨m,mem_append.2 (ZM l),j,g⟩,λq p o=>?_,?_⟩
 ·grind
 rw[Nr,h];simp[Qj,i]
def Kx.d{a c b d f i}(g:Kx a c b d f i) m (r:d=ZZ->Ez c a[b].1=ZZ)(o:d=Z0->a[b].1≠f/\(Ez c a[b].1=Z0->f<=a[b].1)):Kx a c (b+1) d f i:=by
 refine⟨λe=>?_,λe=>?_⟩
 ·have⟨j,k,h⟩:=g.j e
  grind [Qi]
 have⟨⟨p,n,l,j⟩,k,h⟩:=g.l e;simp only[Qi m];refine⟨⟨p,mem_append.2 (ZM n),l,j⟩,λt s q=>?_,?_⟩
 ·grind
 rw[Nr,h];simp[Qj,(o e).1]
def Kb.h{a c h i}(b:Kb a c)(g:Kx a c (F a) ZZ h i):Ej a c:=by have⟨_,_,d⟩:=g.j X;rw[aI x_] at d;exact⟨b.f,b.e,λf e=>b.A f e (d f e),b.g⟩
def Kb.P{e d f h}(c:Kb e d)(r:Kx e d (F e) Z0 f h):Kb e (d++[(f,h)]):=by
 have⟨⟨s,q,o,m⟩,i,n⟩:=r.l X;rw[aI x_] at q i n;refine⟨?_,?_,?_,?_⟩;rw[pairwise_append];refine⟨c.f,s_,λg j b a=>?_⟩;simp at a;rw[a];have:=Zkg c.f o g j;simp;omega
 ·intro p a
  rcases mem_append.1 a with a|a
  exact c.e p a
  grind
 ·intro p a
  rcases mem_append.1 a with a|a
  exact c.g p a
  grind
 intro g l k;rw[Wr] at k;simp at k
 cases j:Ez d g.1 with
 |false=>obtain⟨p,a,m⟩:=c.A g l j;grind
 |true=>have:=i g l j;exact⟨(f,h),s_,t_⟩
def Kb.y{d a}(f:Kb d a):F a<=F d:=by
 have h:∀(a:Z1 (E×E)) (U:Z1 E),(a.Pairwise λb g=>b.1<g.1)->(∀b∈a,b.1∈U)->F a<=F U:=by
  intro a
  induction a with
  |nil=>simp
  | cons e a k=>
   intro U c g;rw[pairwise_cons] at c;have l:=g e s_
   have m:=k _ c.2 (λb i=>by
    have j:b.1≠e.1:=w_
    exact(mem_erase_of_ne j).2 (g b (by simp[i])))
   grind
 have:=h a (d.map (·.1)) f.f (λb c=>by obtain⟨g,i,e⟩:=f.e b c;grind)
 simpa using this
def Bl(b a:ZY):Prop:=ZW b=ZP∨ZW a=ZP∨ZW b≠ZW a
def Bl.s{c b}(a:Bl c b):Bl b c:=by
 rcases a with a|a|a
 exact ZJ (ZM a);exact ZM a;exact ZJ (ZJ (Ne.s a))
def Bl.a{c b}(a:Bl c b):ZW b=ZP∨ZW b≠ZW c:=by
 rcases a with a|a|a
 ·grind
 exact ZM a
 grind
def Bl.b{f g e c b k}(h:Bl e b)(i:Ad f g b k)(a:ZW c=ZW e∨ZW c=T (B f.1)):Bl c b:=by
 rcases a with a|a
 unfold Bl;rw[a];exact h
 cases d:ZW b with
 |none=>exact ZJ (ZM d)
 | some j=>
  have:=(B_ i j d).2;refine ZJ (ZJ ?_)
  grind
structure Aa(c:H->Prop)(a w':ZT):Prop where
 os:w'.os=a.os
 tape:w'.tape=a.tape
 output:w'.output=a.output
 size:B a.1<=B w'.1
 block:∀b,b<B a.1->¬c b->w'.1[b]? =a.1[b]?
theorem Aa.refl b a:Aa b a a:=⟨X,X,X,x_,λ_ _ _=>X⟩
def Aa.T{c d e f}(a:Aa c d e)(b:Aa c e f):Aa c d f:=
 ⟨b.os.T a.os,b.tape.T a.tape,b.output.T a.output,aG a.size b.size,λi g h=>(b.block i (Qh g a.size) h).T (a.block i g h)⟩
def Aa.m{d S' c e}(b:Aa d c e)(i:∀a,a<B c.1->d a->S' a):Aa S' c e:=
 ⟨b.os,b.tape,b.output,b.size,λa f h=>b.block a f (λg=>h (i a f g))⟩
def Aa.b{d c e b}(a:Aa d c e)(i:b<=B c.1)(k:∀f,d f->b<=f):Below b c e:=
 ⟨a.os,a.tape,a.output,a.size,λg j=>a.block g O (λh=>w_)⟩
def Aa.a{S b c}(a:E_ b c):Aa S b c:=⟨a.os,a.tape,a.output,a.size,λe d _=>a.block e d⟩
def Aa.q{a b c d}(e:Aa a b c)(f:E_ c d):Aa a b d:=e.T (.a f)
def Aa.alloc{a b c}(d:Aa a b c) e:Aa a b (ZN c e):=d.q r_
def Aa.drew{a b c}(d:Aa a b c):Aa a b (YY c):=d.q y_.drew
def Aa.setCell{S b c}(a:Aa S b c){p}(i:p.block<B b.1->S p.block) h:Aa S b (ZO c p h):=
 ⟨a.os,a.tape,a.output,by have:=a.size;simpa [ZO] using this,λg e f=>(Below.heap_setCell c p h g (λd=>f (d ▸ i (d ▸ e)))).T (a.block g e f)⟩
def Aa.h c a d e f g:Aa (λb=>b=a) c (ZO (ZO (ZO (ZO c (J a 0) d) (J a 1) e) (J a 2) f) (J a 3) g):=
 ((((Aa.refl (λb=>b=a) c).setCell (p:=(J a 0)) (λ_=>X) _).setCell (p:=(J a 1)) (λ_=>X) _).setCell (p:=(J a 2)) (λ_=>X) _).setCell (p:=(J a 3)) (λ_=>X) _
def Aa.grown{d e g h j}(b:Aa d e g)(c:Y3 g h j)(l:∀a,j=Z2 a->a<B e.1->d a):Aa d e h:=
 ⟨c.os.T b.os,c.tape.T b.tape,c.output.T b.output,aG b.size c.size,λa f i=>(c.block a (Qh f b.size) (λk=>i (l a k.s f))).T (b.block a f i)⟩
def Aa.M{c d e}(p:Aa c d e){f g l b k m}(i:ZD d f g l b k m)(s:∀j,ZW b=Z2 j->¬c j):ZD e f g l b k m:=by
 refine⟨i.1,?_⟩
 rcases i.2 with r|⟨a,n,o,rfl,q,h,t⟩
 exact ZM r;exact ZJ ⟨a,n,o,X,q,(p.block a (Qb h).1 (s a X)).T h,t⟩
def Aa.g{S b c}(f:Aa S b c){a e}(d:b.1[a]? =Z2 e)(g:¬S a):c.1[a]? =Z2 e:=(f.block a (Qb d).1 g).T d
def Hx(h:ZT)(i:E)(g:ZY):Prop:=∃d c f,g=ZH d c f/\c<=Y2/\(c=0∨∃e a,d=T ⟨e,0,ZP⟩/\h.1[e]? =T (O_ a 98)/\∀b,b<c->a[b*4]? =T (I i)/\a[b*4+1]? =T (I 0)/\a[b*4+2]? =T (I 0)/\a[b*4+3]? =T (I 0))
def Lz(a:E):Cd:=⟨a,0,0,0⟩
def Yj{d}:∀c b,b<c->∀a,a<4->(flat (Y6 c (Lz d)))[b*4+a]? =(Es (Lz d))[a]?
 |0,b,f=>O
 |c+1,0,_=>λa e=>by grind [flat,Es]
 |c+1,b+1,f=>λa e=>by simp only[replicate_succ,flat];rw[getElem?_append_right (by simp[Es];omega),show(b+1)*4+a-F (Es (Lz d))=b*4+a by simp[Es];omega];exact Yj c b O a e
def sa{a c b}:flat (Y6 c (Lz a))++flat (Y6 b (Lz a))=flat (Y6 (c+b) (Lz a)):=by rw[<- Cb,replicate_append_replicate]
theorem Hx.of_row{l m e f n b h i g}(r:Ai l m (L_ e b n) (Y6 b (Lz g)))(w:b<=Y2)(x:f<=b)(o:h=T ⟨e,0,ZP⟩):Hx l g (V h f i):=by
 subst o
 rcases r.2 with⟨d,_⟩|⟨u,t,j,d,_,p,_,_,_,s⟩
 ·cases d
 injection d with e1 e2 e3;injection e1 with e1;injection e1 with e1;subst e1;refine⟨_,f,i,X,O,ZJ ⟨e,j,X,p,λk v=>?_⟩⟩
 have c:∀a,a<4->j[k*4+a]? =(Es (Lz g))[a]?:=λa q=>by rw[<- Yj b k O a q,<- s,getElem?_take,aD t_];simp
 exact⟨c 0 O,c 1 O,c 2 O,c 3 O⟩
def Hx.nil{c d a b}:Hx c d (V a 0 b):=⟨a,0,b,X,by simp[Y2],ZM X⟩
def Hx.D{d f c b e}(a:Ai d f c (Y6 b (Lz e)))(l:b<=Y2):Hx d e c:=by
 have m:=a
 rcases a.2 with⟨rfl,_⟩|⟨j,g,h,i,_,k,_,_,_,n⟩
 exact .nil
 grind [of_row]
def Hx.p{S d w' j c}(l:Hx d j c)(p:Aa S d w')(o:∀b a,ZW c=T b->d.1[b]? =T (O_ a 98)->¬S b):Hx w' j c:=by obtain⟨k,i,e,rfl,h,n|⟨f,a,rfl,g,m⟩⟩:=l;exact⟨k,i,e,X,h,ZM n⟩;exact⟨_,i,e,X,h,ZJ ⟨f,a,X,p.g g (o f _ X g),m⟩⟩
def Hx.q{b w' c a}(d:Hx b c a)(e:E_ b w'):Hx w' c a:=d.p (S:=λ_=>False) (.a e) (λ_ _ _ _=>id)
def Zej:ZY->H
 |.slice _ a _=>a
 |_=>0
def Hx.append{d e i}{h q c:ZY}{s b f}(m:Hx d i h)(z:Y3 d e (ZW q))(g:ZW c=ZW q∨ZW c=T f/\Below f d e)(v:B d.1=f)(L:Ai e s c (Y6 b (Lz i)))(D:b<=Y2)(y:∃a k,c=L_ a b k)(A:Zej h<=b):Hx e i h:=by
 subst v
 rcases g with g|⟨_,w⟩
 ·obtain⟨r,p,j,rfl,o,G|⟨a,t,rfl,n,x⟩⟩:=m;exact⟨r,p,j,X,o,ZM G⟩;obtain⟨u,k,rfl⟩:=y
  by_cases l:a=u
  subst l;exact .of_row L D (by simpa [Zej] using A) X;refine⟨_,p,j,X,o,ZJ ⟨a,t,X,?_,x⟩⟩;rw[z.block a (Qb n).1 (by rw[<- g];simpa [ZW] using l)];exact n
 exact m.q w
def Sc{P} c o i r e f s h D (y:P.underlying i=T (.slice e))(u:P.info? e=T f)(L:f.zero=T s)(W:f.size=h)(N:f.bytes=D)(b1:B s.cells=h)(b0:0<h) n d A (w:ZD c o e h n d A) l b p m (q:F m=b*h)(v:∀a0 z,m[a0]? =T z->ZV c (l.add a0)=T z)(M:∀z∈m,z.oneCell'=Z0)(R:0<b)(G:d+b<=Y2)(Q:(d+b)*D<=140737488355328)(a6:o<=B c.1):∃j k,(Builtin.append_ #[i,i] r #[n,ZH (T l) b p]).run P c=.ok j k/\ZD k o e h j (d+b) (A++m)/\Y3 c k (ZW n)/\(ZW j=ZW n∨ZW j=T (B c.1)/\Below (B c.1) c k)/\ZD k o e h n d A/\∃g t,j=L_ g (d+b) t:=by
 have⟨j,k,x,a2,a3,b2,a4,a5⟩:=ip (P:=P) c o i r e f s h D y u L W N b1 b0 n d A w l b p m q v M R G Q a6;refine⟨j,k,x,a2,a3,?_,a4,a5⟩;subst W N
 rcases w.2 with⟨rfl,rfl⟩|⟨g,t,a1,rfl,b3,a9,b5,b4,a7,b6⟩
 have a:=run_append_nil (P:=P) c i r e f s y u L l b p _ q v R (by simp only[Y2] at G;omega) w_;rw[x] at a;simp only[Result.ok.injEq] at a;right;refine⟨by rw[a.1];rfl,?_⟩;rw[a.2];exact(y_.drew).alloc s_ _
 by_cases S:d+b<=t
 have a8:d*f.size+F m<=B a1:=(by rw[q,a7,<- Nat.add_mul];exact aK _ S);have a:=run_append_room (P:=P) c i r e f y u g d _ _ a9 l b p _ q v M S a8;rw[x] at a;simp only[Result.ok.injEq] at a;left;rw[a.1];rfl;have a8:=w.cells (g:=g) X;have a:=run_append_grow (P:=P) c i r e f s y u L _ d t _ w.1 a8 l b p _ q v O (by simp only[Y2] at G;omega) (growslice_fits O Q);rw[x] at a;simp only[Result.ok.injEq] at a;right;refine⟨by rw[a.1];rfl,?_⟩;rw[a.2];exact(y_.drew).alloc s_ _
def Dl{i a y z m n u}(W:m.guard=ZP) A x o (a4:m.op=.call {callee:=.builtin .append,args:=#[A,x],argTypes:=#[o,o]}) j e (k:TypeInfo) t c s (b0:i.underlying o=T (.slice e))(a0:i.info? e=T k)(b2:k.zero=T t)(a8:k.size=c)(R:k.bytes=s)(b3:B t.cells=c)(a9:0<c) f d q (a7:n.eval A=f)(a5:ZD a j e c f d q) r b v (l:U ZY)(b1:n.eval x=ZH (T r) b v)(a1:F l=b*c)(a3:∀w p,l[w]? =T p->ZV a (r.add w)=T p)(M:∀p∈l,p.oneCell'=Z0)(a2:0<b)(P:d+b<=Y2)(S:(d+b)*s<=140737488355328)(Q:j<=B a.1)(L:∀g h,K (ZD h j e c g (d+b) (q++l)/\Y3 a h (ZW f)/\(ZW g=ZW f∨ZW g=T (B a.1)/\Below (B a.1) a h)/\ZD h j e c f d q/\∃G D,g=L_ G (d+b) D)->wpList i y u z (n.put m.dst g) h):wpList i y u (m::z) n a:=by
 refine wpList_plain W λK hK=>?_;have⟨g,h,a6,N⟩:=Sc (P:=i) a j o m.type e k t c s b0 a0 b2 a8 R b3 a9 f d q a5 r b v l a1 a3 M a2 P S Q;unfold Oper.wp;simp only[execOp,a4,resolve,invoke,builtin,Sem.run_bind,Sem.run_pure,Result.andThen_ok,map_toArray,map_cons,map_nil,a7,b1,a6];exact hK _ _ (L _ _ N)
def Ap{e:ZT}{f g b c m n k l:H}{d a o p}(j:ZD e f b m d k o)(i:ZD e g c n a l p)(y:b≠c):ZW a=ZP∨ZW a≠ZW d:=by
 rcases i.2 with⟨rfl,_⟩|⟨u,q,s,rfl,_,w,_⟩
 exact ZM X
 rcases j.2 with⟨rfl,_⟩|⟨v,r,t,rfl,_,x,_⟩
 exact ZJ (by simp[ZW]);refine ZJ λh=>?_;simp[ZW] at h
 grind
theorem Ac{d:ZT}{e a i h:H}{c j}(g:ZD d e a i c h j){k}(b:ZW c=T k):∃f,d.1[k]? =T (O_ f a):=by
 rcases g.2 with⟨rfl,_⟩|⟨n,l,m,rfl,_,o,_⟩
 ·cases b
 simp[ZW] at b;grind
def WB(c:ZT)(b:H)(a:YZ ZY):Prop:=c.1[b]? =T (O_ a 90)
def WB.lt{b a c}(d:WB b a c):a<B b.1:=(Qb d).1
def WB.cell{w b a}(d:WB w b a) c:ZV w (J b c)=a[c]?:=cell_of_row w b c a 90 (0,0) d
def WB.frozen{b a c}(e:WB b a c) d:YT b (J a d)=ZZ:=fr_ b a d c 90 e
def WB.set{e a b}(f:WB e a b) c d:WB (ZO e (J a c) d) a (YS b c d):=by have:=hs_ e a c b 90 d f;unfold WB;rw[this]
def WB.q{b d w' a c}(e:WB d a c)(f:Below b d w')(g:a<b):WB w' a c:=(f.block a g).T e
def WB.grown{w e a b d}(c:WB w a b)(f:Y3 w e d)(g:T a≠d):WB e a b:=(f.block a c.lt g).T c
def WB.alloc{w a b}(c:WB w a b) d:WB (ZN w d) a b:=(hb_ w d a c.lt).T c
def WB.h{b a c}(e:WB b a c){p}(f:a≠p.block){d}:WB (ZO b p d) a c:=(Below.heap_setCell b p d a f).T e
def Mh{c} a j b x {f}(l:Cj f c a)(d:Bc a)(e:b<=F a)(p:0<=x.t/\0<=x.h/\x.t<=1000000000000/\x.h<=1000000000000):C_ 85 #[V c (F a) j,I b,Y9 #[I x.v,I x.t,I x.h,I x.g]] f (U_ (Y9 #[ZX ZQ (seen a b x).v,ZX ZQ (seen a b x).t,ZX ZQ (seen a b x).h,ZX ZQ (seen a b x).g]) f):=by
 obtain⟨G,L,M,N⟩:=p;have m:=jz d e;have u:=Dk d;have g:=Y l;have h:=Y d;obtain⟨r,s,t⟩:=m;have n:0<=Co a b/\Co a b<=1000000000000:=O;have o:0<=Dz a b/\Dz a b<=1000000000000:=O;obtain⟨v,w⟩:=n;obtain⟨A,D⟩:=o
 have i:K (seen a b x=⟨_,_,_,_⟩):=show _=_ from X
 refine dl_ ?_;go_enter func85,ntmps85;go_wp2_with fail
 go_region_with (go_at_call 152;refine(iv c a b ?_ h e).m ?_;exact g.q (by repeat(first|with_reducible exact y_|with_reducible apply Below.drew|with_reducible refine below_drewN ?_ _|with_reducible refine Below.setCell ?_ s_ _|with_reducible refine Below.alloc ?_ u_ _));rintro k q ⟨rfl,y,rfl⟩)
 all_goals go_wp2_with fail
 all_goals go_region_with (go_at_call 153;refine(de c a b ?_ h e).m ?_;exact g.q (by repeat(first|with_reducible exact y_|with_reducible apply Below.drew|with_reducible refine below_drewN ?_ _|with_reducible refine Below.setCell ?_ s_ _|with_reducible refine Below.alloc ?_ u_ _));rintro k q ⟨rfl,z,rfl⟩)
 all_goals go_wp2
 all_goals exact bodyPost_ret (v:=Y9 #[I x.v,I (x.t+Co a b),I (x.h+Dz a b),I x.g]) (by simp[results,results85,go_sem]) X ⟨by rw[i],(by repeat(first|with_reducible exact y_|with_reducible apply Below.drew|with_reducible refine below_drewN ?_ _|with_reducible refine Below.setCell ?_ s_ _|with_reducible refine Below.alloc ?_ u_ _))⟩
def Se{o w c a e K A z}(S:c.guard=ZP) r x k (a2:c.op=Op.call {callee:=Callee.builtin Builtin.append,args:=#[r,x],argTypes:=#[k,k]}) q f (g:TypeInfo) s d t (a7:o.underlying k=T (.slice f))(W:o.info? f=T g)(b0:g.zero=T s)(a5:g.size=d)(Q:g.bytes=t)(b1:B s.cells=d)(a6:0<d) m h y (a4:a.eval r=m)(a3:ZD e q f d m h y) p b u (j:U ZY)(a9:a.eval x=ZH (T p) b u)(a0:F j=b*d)(a1:∀v l,j[v]? =T l->ZV e (p.add v)=T l)(G:∀l∈j,l.oneCell'=Z0)(N:h+b<=Y2)(R:(h+b)*t<=140737488355328)(P:q<=B e.1)(D:∀n i,ZD i q f d n (h+b) (y++j)->Y3 e i (ZW m)->K (a.put c.dst n) i):if wanted c (yielded w a.tmps)=Z0 then Oper.wp o c a e K A else z:=by
 have a8:wanted c (yielded w a.tmps)=Z0:=(by simp[wanted,S]);rw[aD a8];exact wp_append_own e r x k a2 _ f g s _ _ a7 W b0 a5 Q b1 a6 m h _ a4 a3 p b u _ a9 a0 a1 G N R P λn i L M _=>D n i L M
def Cj.at{d g c i}(j:Cj d g c)(f:i<F c):∃a b,g=T ⟨a,b,ZP⟩/\ZV d (J a (b+i*4))=T (I (Z c i e0).v)/\ZV d (J a (b+i*4+1))=T (I (Z c i e0).t)/\ZV d (J a (b+i*4+2))=T (I (Z c i e0).h)/\ZV d (J a (b+i*4+3))=T (I (Z c i e0).g)/\a<B d.1:=by rcases j with⟨_,k|⟨a,b,h,e⟩⟩;omega;exact⟨a,b,h,e.v i f,e.t i f,e.h i f,e.g i f,e.lt O⟩
def Yd{a e c:ZT}{g h b l}{x:Cd}{m:Prop}(d:E_ a e)(i:Ai e (B a.1) g b)(f:ZD c (B a.1) 98 4 h (F b+1) (flat b++[I x.v,I x.t,I x.h,I x.g])/\Y3 (ZN e l) c (ZW g)/\m):K (Ai c (B a.1) h (b++[x]))/\E_ a c:=
 ⟨Ai.P f.1,(d.alloc d.size _).grown f.2.1 (by have:=d.size;simp;omega) (λk j=>(i.lt k j).1)⟩
def mz{b2 b3 a b} a6 b7 {h}(a7:Cj h b2 a)(a8:Cj h b3 b)(b8:Bc a)(b9:Bc b):C_ 46 #[V b2 (F a) a6,V b3 (F b) b7] h λv d=>∃c,v=ZI c/\Ai d (B h.1) c (Bf a b)/\E_ h d:=by
 have⟨d6,d0,d3,d4,d5⟩:=info_parts bq;have e8:=a7.1;have e9:=a8.1;have⟨L,M,s,t⟩:=y4_ a7 a8 b8 b9;clear a7 a8 b8 b9;have d1:∀a5:ZT,(Instr.makeSlice 29 (I 0) (I (F a+F b))).run Y8 a5=.ok (L_ (B a5.1) 0 (F a+F b)) (ZN a5 (O_ (YV #[I 0,I 0,I 0,I 0] ((F a+F b)*4)) 98)):=λ_=>mk_ 4;have a9:K (Ai (ZN h (O_ (YV #[I 0,I 0,I 0,I 0] ((F a+F b)*4)) 98)) _ _ []):=ownsRow_made h _ _ x_ (by unfold Y2;omega) (size_madeCells _ _);refine dl_ ?_;go_enter func46,ntmps46;go_wp2_with fail
 go_loopw [5,6,7] (λd f k c=>∃(i j:H) (x:U Cd),f=ZX ZQ i/\k=ZX ZQ j/\K (So a b i j x/\Ai c (B h.1) d x)/\E_ h c) (λ_ f k _=>(F a-ZL (intOf f))+(F b-ZL (intOf k)))
 case atStart=>exact⟨0,0,[],X,X,⟨⟨⟨v_,v_,λ_ d=>absurd d O,λ_ d=>absurd d O⟩,by simp[ph]⟩,a9⟩,r_⟩
 clear a9 d1;obtain⟨i,j,x,rfl,rfl,c,e⟩:=hrel;have W:=c.1.y;have S:=c.1.n.h;have c2:=c.1.n.e;have G:=e.size
 rcases(by omega:(i<a.length/\j<b.length)∨(i<a.length/\¬j<b.length)∨¬i<a.length) with⟨w,z⟩|c0
 ·obtain⟨c5,d7,rfl,c4,a0,a2,b1,e1⟩:=(L.q e).at w;obtain⟨c6,d8,rfl,c9,b4,b5,b6,e2⟩:=(M.q e).at z;have u:=s.at w;have y:=t.at z;have c7:=F_ i (F a);have c8:=F_ j (F b)
  rcases Int.lt_trichotomy (Z a i e0).v (Z b j e0).v with b0|A|a1
  ·have p:=Y (c.1.a s w (λ_=>b0));generalize (Z b j e0).v=g,Z a i e0=d at *;clear b4 b5 b6 y;obtain⟨N,P,Q,R,_⟩:=u;go_wp2_with fail
   go_region
   go_wp2_with fail
   apply (Mh b _ j d ((M.q e).q y_.drew) t c2 O).m;rintro v r ⟨rfl,n⟩;have f:E_ wr r:=y_.drew.T n;have l:=Y (c.2.q f);have m:=bt_ e f;have D:=m.size;clear n f c;go_wp2_with (at_builtin;refine ap_ [I (seen b j d).v,I (seen b j d).t,I (seen b j d).h,I (seen b j d).g] (l.alloc _) ?_)
   intro a3 a4 k;have⟨o,q⟩:=Yd m l k;clear k;refine J_ ?_;exact⟨i+1,j,_,g_,g_,⟨p,o⟩,q⟩
  ·have p:=Y (c.1.c s t w z A);generalize (Z a) i e0=d,Z b j e0=g at *;obtain⟨N,P,Q,R,_⟩:=u;obtain⟨e4,e5,e6,e7,_⟩:=y;have d2:¬d.v<g.v:=O;have e3:¬g.v<d.v:=O;have⟨k,d9⟩:=Y_ c.2 A;clear A c;go_wp2_with fail
   go_region
   go_wp2_with fail
   go_region
   go_wp2_with fail
   go_region_law (first|(apply Se X (.tmp 24) (.tmp 34) 29 X (B h.1) 98 d6 (Y9 #[I 0,I 0,I 0,I 0]) 4 32 underlying29 d0 d3 d4 d5 X C u5 (F x) (flat x) j_ ((k.q (y_.drew.drew.drew.T n)).alloc _) (J (B r.1) 0) 1 1 [I (Pb d g).v,I (Pb d g).t,I (Pb d g).h,I (Pb d g).g] j_ X (one_new r _ 98) (by intro l f;simp at f;rcases f with rfl|rfl|rfl|rfl<;>rfl) (by unfold Y2;omega) O (by have:=n.size;simp at this ⊢;omega);intro a3 a4 c3 c1)|(go_simp;go_wp2_with (go_at_call 86;apply (Zpj d g O O).m;rintro v r ⟨rfl,n⟩)))
   all_goals
    have f:Below (B wr.1) _ _:=y_.drew.drew.drew.T n;have D:=aG G f.size;have l:=((f.m G).alloc D _).grown c1 t_ (λo m=>((k.q f).lt o m).1);have q:=e.T l;have o:=Y (Ai.P c3);clear c3 c1 n;refine J_ ?_;exact⟨i+1,j+1,_,g_,g_,⟨p,o⟩,q⟩
  have p:=Y (c.1.b t z (λ_=>a1));generalize (Z a i e0).v=g,Z b j e0=d at *;clear a0 a2 b1 u;obtain⟨N,P,Q,R,_⟩:=y;have d2:¬g<d.v:=O;go_wp2_with fail
  go_region
  go_wp2_with fail
  go_region
  go_wp2_with fail
  apply (Mh a a6 i d ((L.q e).q y_.drew.drew) s S O).m;rintro v r ⟨rfl,n⟩;have f:E_ wr r:=y_.drew.drew.T n;have l:=Y (c.2.q f);have m:=bt_ e f;have D:=m.size;clear n f c;go_wp2_with (at_builtin;refine ap_ [I (seen a i d).v,I (seen a i d).t,I (seen a i d).h,I (seen a i d).g] (l.alloc _) ?_)
  intro a3 a4 k;have⟨o,q⟩:=Yd m l k;clear k;refine J_ ?_;exact⟨i,j+1,_,g_,g_,⟨p,o⟩,q⟩
 have b0:K (i<F a->¬j<F b):=λd2 c0=>O
 rcases c0 with⟨w,z⟩|w
 all_goals
  go_wp2_with fail
  go_loopw [5,6] (λd f l=>∃(g:H) (a1:U Cd),f=ZX ZQ g/\K (So a b g j a1/\Ai l (B h.1) d a1/\(g<F a->¬j<F b))/\E_ h l) (m2_ (F a))
  case atStart=>exact⟨i,x,X,⟨c.1,c.2,b0⟩,e⟩
  clear e W S G c b0;obtain⟨g,a1,rfl,c,e⟩:=hrel;have W:=c.1.y;have S:=c.1.n.h;have G:=e.size
  by_cases A:g<F a
  ·have y:=c.2.2 A;have u:=s.at A;obtain⟨c5,d7,rfl,c4,a0,a2,b1,_⟩:=(L.q e).at A;have p:=Y (c.1.a s A (λd=>absurd d y));generalize (Z a) g e0=d at *;obtain⟨N,P,Q,R,_⟩:=u;have c7:=F_ g (F a);go_wp2_with fail
   apply (Mh b b7 j d (M.q e) t c2 O).m;rintro v r ⟨rfl,f⟩;have l:=Y (c.2.1.q f);have m:=bt_ e f;have D:=m.size;clear c f;go_wp2_with (at_builtin;refine ap_ [I (seen b j d).v,I (seen b j d).t,I (seen b j d).h,I (seen b j d).g] (l.alloc _) ?_)
   intro a3 a4 k;have⟨o,q⟩:=Yd m l k;clear k;refine J_ ?_;exact⟨g+1,_,g_,⟨p,o,λ_=>y⟩,q⟩
  have b1:=A;go_wp2_with fail
  go_loopw [5,7] (λd k l=>∃(u:H) (a2:U Cd),k=ZX ZQ u/\K (So a b g u a2/\Ai l (B h.1) d a2)/\E_ h l) (m2_ (F b))
  case atStart=>exact⟨j,a1,X,⟨c.1,c.2.1⟩,e⟩
  clear e W G c;obtain⟨u,a2,rfl,c,e⟩:=hrel;have W:=c.1.y
  by_cases a0:u<F b
  ·have y:=t.at a0;obtain⟨c6,d8,rfl,c9,b4,b5,b6,_⟩:=(M.q e).at a0;have p:=Y (c.1.b t a0 (λd=>absurd d b1));generalize (Z b) u e0=d at *;obtain⟨N,P,Q,R,_⟩:=y;have c8:=F_ u (F b);go_wp2_with fail
   apply (Mh a a6 g d (L.q e) s S O).m;rintro v r ⟨rfl,f⟩;have l:=Y (c.2.q f);have m:=bt_ e f;have D:=m.size;clear c f;go_wp2_with (at_builtin;refine ap_ [I (seen a g d).v,I (seen a g d).t,I (seen a g d).h,I (seen a g d).g] (l.alloc _) ?_)
   intro a3 a4 k;have⟨o,q⟩:=Yd m l k;clear k;refine J_ ?_;exact⟨u+1,_,g_,⟨p,o⟩,q⟩
  have d:=Y c.2;rw[show a2=Bf a b by have:=c.1.f;rw[vv b1 a0,append_nil] at this;exact this] at d;go_wp2;go_ret;exact⟨_,X,d,e⟩
def Qm(e:ZT)(a:H)(d b f c:E):Prop:=e.1[a]? =T (O_ #[I d,I b,I f,I c] 153)
def Qm.cells{b a e f g h}(c:Qm b a e f g h):ZV b (J a 0)=T (I e)/\ZV b (J a 1)=T (I f)/\ZV b (J a 2)=T (I g)/\ZV b (J a 3)=T (I h)/\(∀d,YT b (J a d)=ZZ):=by unfold Qm at c;refine⟨?_,?_,?_,?_,λd=>fr_ b a d _ _ c⟩<;>simp[ZV,c]
def Qm.lt{b a d e f g}(c:Qm b a d e f g):a<B b.1:=(Qb c).1
def Qm.a{b a d e h f}(g:Qm b a d e h f){c}:Qm (ZO b (J a 2) (I c)) a d e c f:=hs_ b a 2 _ 153 (I c) g
def Qm.b{b a d e f h}(g:Qm b a d e f h){c}:Qm (ZO b (J a 3) (I c)) a d e f c:=hs_ b a 3 _ 153 (I c) g
def ZhO{b a:E}(d:0<a)(c:0<=b):0<=b/a/\b/a<=b/\0<=b%a/\b%a<a/\b/a*a+b%a=b:=
 ⟨Int.ediv_nonneg c O,Int.ediv_le_self _ c,Int.emod_nonneg _ O,Int.emod_lt_of_pos _ d,by grind [Int.mul_ediv_add_emod]⟩
theorem Ay{a:ZT}{b}:Y3 a a b:=⟨X,X,X,x_,λ_ _ _=>X⟩
theorem Aq{h c:ZT}{b}(a:Y3 h c (T b)) e {g}:Y3 h (ZO c (J b e) g) (T b):=
 ⟨a.os,a.tape,a.output,by have:=a.size;simpa [ZO] using this,λf j d=>(Below.heap_setCell c (J b e) g f (λi=>d (by rw[i]))).T (a.block f j d)⟩
theorem Qt{c d:ZT}{b}(a:Y3 c d b):Y3 c (YY d) b:=⟨a.os,a.tape,a.output,a.size,a.block⟩
def ZkW{e a a3 c b h}(j:Qm h e a a3 c b)(l:1<=a3/\a3<=4194304)(n:0<=a/\a<=4000000000000)(o:0<=c/\c<=100000000000000000)(m:0<=b/\b<a3):C_ 88 #[P_ e] h λi g=>i=ZI (Y5 #[])/\∃f d,Qm g e a a3 f d/\f*a3+d=c*a3+b+a/\0<=d/\d<a3/\0<=f/\f<=c+a+1/\Y3 h g (T e):=by
 obtain⟨M,N⟩:=l;obtain⟨q,R⟩:=n;obtain⟨S,W⟩:=o;obtain⟨P,Q⟩:=m;have k:=ZhO (by omega:0<a3) q;have y:a.tdiv a3=a/a3:=w_;have z:a.tmod a3=a%a3:=w_;obtain⟨A,D,G,L,p⟩:=k;have⟨s,t,u,v,w⟩:=j.cells;have i:=Y j;have r:=Y p;generalize a/a3=f,a%a3=d at *
 by_cases x:a3<=b+d
 ·have g:K ((c+f+1)*a3+(b+d-a3)=c*a3+b+a):=w_;refine q_ ?_;go_wp2_with fail
  go_region
  go_wp2_with fail
  go_region
  go_wp2_with fail
  go_region
  go_wp2_with fail
  go_region
  go_wp2_with fail
  go_end0;refine⟨X,c+f+1,b+d-a3,?_,g,O,O,O,O,?_⟩;exact(((i.a).b).a).b;exact(by repeat(first|with_reducible exact Ay|with_reducible apply Qt|with_reducible refine Aq ?_ _))
 have g:K ((c+f)*a3+(b+d)=c*a3+b+a):=w_;refine q_ ?_;go_wp2_with fail
 go_region
 go_wp2_with fail
 go_region
 go_wp2_with fail
 go_region
 go_wp2_with fail
 go_end0;refine⟨X,c+f,b+d,?_,g,O,O,O,O,?_⟩;exact(i.a).b
 grind [Ay,Qt,Aq]
def td{d i h a b c}(f:Qm c d i h a b)(g:0<=a/\a<=100000000000000000):C_ 90 #[P_ d] c (V_ (ZX ZQ (if 0<b then a+1 else a)) c):=by
 obtain⟨o,p⟩:=g;have⟨j,k,l,m,n⟩:=f.cells
 by_cases e:0<b
 rw[aD e];refine er_ ?_;exact⟨X,X⟩;rw[aC e];refine q_ ?_;go_wp2;go_ret;exact⟨X,X⟩
structure Cm where
 n:E
 neg:ZG
 dig:E
 unit:E
 num:E
 f:ZY
def RB(h:ZT)(b:H)(f e d:ZY)(i:E)(c:ZG)(g:ZY)(a:Cm):Prop:=
 h.1[b]? =T (O_ #[f,e,d,I i,ZR c,g,I a.n,ZR a.neg,I a.dig,I a.unit,I a.num,a.f] 256)
section
variable {w:ZT} {b:H} {c a vC:ZY} {wt:E} {fl:ZG} {d:ZY} {p:Cm}
def RB.i(e:RB w b c a vC wt fl d p):ZV w (J b 6)=T (I p.n)/\ZV w (J b 7)=T (ZR p.neg)/\ZV w (J b 8)=T (I p.dig)/\ZV w (J b 9)=T (I p.unit)/\ZV w (J b 10)=T (I p.num)/\ZV w (J b 11)=T p.f/\(∀f,YT w (J b f)=ZZ):=by unfold RB at e;refine⟨?_,?_,?_,?_,?_,?_,λf=>fr_ w b f _ _ e⟩<;>simp[ZV,e]
def RB.e(e:RB w b c a vC wt fl d p):ZV w (J b 0)=T c/\ZV w (J b 1)=T a/\ZV w (J b 2)=T vC/\ZV w (J b 3)=T (I wt)/\ZV w (J b 4)=T (ZR fl)/\ZV w (J b 5)=T d:=by unfold RB at e;refine⟨?_,?_,?_,?_,?_,?_⟩<;>simp[ZV,e]
def RB.lt(e:RB w b c a vC wt fl d p):b<B w.1:=(Qb e).1
def RB.grown{g f}(e:RB w b c a vC wt fl d p)(h:Y3 w g f)(i:T b≠f):RB g b c a vC wt fl d p:=(h.block b e.lt i).T e
def RB.q{w' e}(f:RB w b c a vC wt fl d p)(g:Below e w w')(h:b<e):RB w' b c a vC wt fl d p:=(g.block b h).T f
def RB.drew(e:RB w b c a vC wt fl d p):RB (YY w) b c a vC wt fl d p:=e
def RB.n(f:RB w b c a vC wt fl d p) e:RB (ZO w (J b 6) (I e)) b c a vC wt fl d {p with n:=e}:=hs_ w b 6 _ 256 _ f
def RB.neg(f:RB w b c a vC wt fl d p) e:RB (ZO w (J b 7) (ZR e)) b c a vC wt fl d {p with neg:=e}:=hs_ w b 7 _ 256 _ f
def RB.dig(f:RB w b c a vC wt fl d p) e:RB (ZO w (J b 8) (I e)) b c a vC wt fl d {p with dig:=e}:=hs_ w b 8 _ 256 _ f
def RB.unit(f:RB w b c a vC wt fl d p) e:RB (ZO w (J b 9) (I e)) b c a vC wt fl d {p with unit:=e}:=hs_ w b 9 _ 256 _ f
def RB.num(f:RB w b c a vC wt fl d p) e:RB (ZO w (J b 10) (I e)) b c a vC wt fl d {p with num:=e}:=hs_ w b 10 _ 256 _ f
def RB.f(f:RB w b c a vC wt fl d p) e:RB (ZO w (J b 11) e) b c a vC wt fl d {p with f:=e}:=hs_ w b 11 _ 256 _ f
end
theorem Au{z}(a: -9000000000000000000<=z)(b:z<=9000000000000000000):i64.wrap z=z:=by simp[wrap,IntKind.bits,signed];omega
def Cc(a:E):ZG:=ZE (48<=a)&&ZE (a<=57)
def Fz(a:E):ZG:=ZE (97<=a)&&ZE (a<=122)
def Th a c:C_ 315 #[ZX .u8 a] c (V_ (ZR (Cc a)) c):=by
 unfold Cc
 by_cases b:48<=a
 refine er_ ?_;exact⟨by simp[b],X⟩;have d:=aE b;refine q_ ?_;go_wp2;go_ret;exact⟨X,X⟩
def Qv a c:C_ 310 #[ZX .u8 a] c (V_ (ZR (Fz a)) c):=by
 unfold Fz
 by_cases b:97<=a
 refine er_ ?_;exact⟨by simp[b],X⟩;have d:=aE b;refine q_ ?_;go_wp2;go_ret;exact⟨X,X⟩
def ej a b d (f:48<=a)(g:a<=57)(c:0<=b)(e:b<=1000000):C_ 316 #[ZX .u8 a,I b] d (V_ (ZX ZQ ((a-48)*b)) d):=by have j:IntKind.u8.wrap (a-48)=a-48:=(by simp[wrap,IntKind.bits,signed];omega);have h:0<=(a-48)*b:=Int.mul_nonneg O c;have i:(a-48)*b<=9*_:=Int.mul_le_mul O e c O;have k:i64.wrap (a-48)=a-48:=(by simp[wrap,IntKind.bits,signed];omega);refine er_ ?_;exact⟨X,X⟩
def Rg(b:Cm)(a:E):Y0 Cm:=if a=45 then T {b with n:=1,neg:=Z0} else ZP
def Io(b:E)(c:Cm)(a:E):Y0 Cm:=if Cc a=Z0 then T {c with n:=if a=48 then 2 else 3,dig:=1,unit:=b,num:=(a-48)*b} else ZP
def Lt(a:Cm)(b:E):Y0 Cm:=if Cc b=Z0/\a.dig≠5 then T {a with dig:=a.dig+1,num:=a.num*10+(b-48)*a.unit} else ZP
def Nl(a:Cm)(b:E):Y0 Cm:=if b=46/\a.unit≠1 then T {a with n:=4} else ZP
def Je(a:Cm)(b:E):Y0 Cm:=if Cc b=Z0/\a.unit≠1 then T {a with n:=5,unit:=a.unit/10,num:=a.num+(b-48)*(a.unit/10)} else ZP
def Gv(a:H)(i h g:ZY)(l:E)(e:ZG)(j:ZY)(f:Cm)(b:Y0 Cm)(k:ZT)(d:Ending)(c:ZT):Prop:=
 d=ZI (ZR b.isSome)/\RB c a i h g l e j (b.getD f)/\Y3 k c (T a)
section
variable (b:H) (d a vC:ZY) (wt:E) (fl:ZG) (e:ZY) (p:Cm) (c:E) (w:ZT)
def tk(h:RB w b d a vC wt fl e p):C_ 268 #[Y7 (T (J b 6)),ZX .u8 c] w λj k=>Gv b d a vC wt fl e p (Rg p c) w j k:=by
 obtain⟨l,m,_,_,_,_,n⟩:=h.i;have g:=Y h
 by_cases f:c=45
 subst f;refine er_ ?_;exact⟨X,(g.n 1).neg _,Aq (Aq (Ay) _) _⟩;have o:=aO f;have i:K (Rg p c=_):=aC f;refine q_ ?_;go_wp2;go_ret;unfold Gv;rw[i];exact⟨X,g,Ay⟩
def Wd(g:RB w b d a vC wt fl e p):C_ 271 #[Y7 (T (J b 6)),ZX .u8 c] w λl n=>Gv b d a vC wt fl e p (Nl p c) w l n:=by
 obtain⟨o,_,_,k,_,_,q⟩:=g.i;have i:=Y g
 by_cases j:c=46
 ·subst j
  by_cases h:p.unit=1
  have f:K (Nl p 46=_):=aC (by simp[h]);rw[h] at k;refine er_ ?_;unfold Gv;rw[f];exact⟨X,i,Ay⟩;have m:=aO h;have f:K (Nl p _=_):=aD ⟨X,h⟩;refine er_ ?_;unfold Gv;rw[f];exact⟨X,i.n 4,Aq (Ay) _⟩
 have m:=aO j;have f:K (Nl p c=_):=aC (λg=>j g.1);refine er_ ?_;unfold Gv;rw[f];exact⟨X,i,Ay⟩
def Wc(n:RB w b d a vC wt fl e p) f (u:0<=f)(v:f<=1000000):C_ 269 #[Y7 (T (J b 6)),ZX .u8 c,I f] w λh i=>Gv b d a vC wt fl e p (Io f p c) w h i:=by
 obtain⟨z,_,A,D,y,_,G⟩:=n.i;have m:=Y n;have j:=Y (λk=>Th c k);clear n
 by_cases g:Cc c=Z0
 ·have r:48<=c/\c<=57:=by simpa [Cc] using g
  obtain⟨s,t⟩:=r;have o:=Y (λk=>ej c f k s t u v);rw[g] at j
  by_cases l:c=48
  ·have k:K (Io f p c=T {p with n:=2,dig:=1,unit:=f,num:=(c-48)*f}):=(by show Io f p c=_;unfold Io;grind);have q:(c==48)=Z0:=(by simp[l]);generalize (c-48)*f=x at *;clear l g;refine q_ ?_;go_wp2_with (first|(go_at_call 315;apply (j _).m;rintro h i ⟨rfl,rfl⟩)|(go_at_call 316;apply (o _).m;rintro h i ⟨rfl,rfl⟩))
   go_ret;unfold Gv;rw[k];exact⟨X,((((m.n 3).dig 1).unit f).num _).n 2,Aq (Aq (Aq (Aq (Aq (Ay) _) _) _) _) _⟩
  have k:K (Io f p c=T {p with n:=3,dig:=1,unit:=f,num:=(c-48)*f}):=(by show Io f p c=_;unfold Io;grind);have q:=aO l;generalize (c-48)*f=x at *;clear l g;refine q_ ?_;go_wp2_with (first|(go_at_call 315;apply (j _).m;rintro h i ⟨rfl,rfl⟩)|(go_at_call 316;apply (o _).m;rintro h i ⟨rfl,rfl⟩))
  go_ret;unfold Gv;rw[k];exact⟨X,(((m.n 3).dig 1).unit f).num _,Aq (Aq (Aq (Aq (Ay) _) _) _) _⟩
 have k:K (Io f p c=_):=aC g
 have l:Cc c=ZZ:=by simpa using g
 rw[l] at j;clear g l;refine q_ ?_;go_wp2_with (go_at_call 315;apply (j _).m;rintro h i ⟨rfl,rfl⟩)
 go_ret;unfold Gv;rw[k];exact⟨X,m,Ay⟩
def yc{p:Prop}(h:p:=by
 refine q_ ?_;go_wp2_with (go_at_call 315;apply (f _).m;rintro j k ⟨rfl,rfl⟩)
 go_ret;unfold Gv;rw[i]
 exact⟨X,m,Ay⟩):p:=h
def tj(g:RB w b d a vC wt fl e p)(o:0<=p.unit)(q:p.unit<=1000000)(M:0<=p.num)(N:p.num<=1000000000000)(A:0<=p.dig)(D:p.dig<=1000):C_ 270 #[Y7 (T (J b 6)),ZX .u8 c] w λj k=>Gv b d a vC wt fl e p (Lt p c) w j k:=by
 obtain⟨_,_,s,y,x,_,z⟩:=g.i;have m:=Y g;have f:=Y (λn=>Th c n)
 by_cases h:Cc c=Z0
 ·have t:48<=c/\c<=57:=by simpa [Cc] using h
  obtain⟨u,v⟩:=t
  by_cases l:p.dig=5
  have i:K (Lt p c=_):=aC (λg=>g.2 l);rw[h] at f;rw[l] at s;exact yc;have P:=aO l;have i:K (Lt p c=_):=aD ⟨h,l⟩;have r:=Y (λn=>ej c _ n u v o q);have G:0<=(c-48)*_:=Int.mul_nonneg O o;have L:(c-48)*_<=9*_:=Int.mul_le_mul O q o O;rw[h] at f;generalize (c-48)*p.unit=n at *;have Q:_=p.num*10:=Au O O;have R:_=p.num*10+n:=Au O O;refine q_ ?_;go_wp2_with (go_at_call 315;apply (f _).m;rintro j k ⟨rfl,rfl⟩)
  go_region_with (go_at_call 316;apply (r _).m;rintro j k ⟨rfl,rfl⟩)
  all_goals go_wp2
  all_goals go_ret
  all_goals unfold Gv
  all_goals rw[i]
  all_goals exact⟨X,((m.dig _).num _).drew,Qt (Aq (Aq (Ay) _) _)⟩
 have i:K (Lt p c=_):=aC (λg=>h g.1)
 have l:Cc c=ZZ:=by simpa using h
 rw[l] at f;exact yc
def qg(g:RB w b d a vC wt fl e p)(x:0<=p.unit)(R:p.unit<=1000000)(M:0<=p.num)(N:p.num<=1000000000000):C_ 272 #[Y7 (T (J b 6)),ZX .u8 c] w λj k=>Gv b d a vC wt fl e p (Je p c) w j k:=by
 obtain⟨A,_,_,s,z,_,D⟩:=g.i;have m:=Y g;have f:=Y (λn=>Th c n)
 by_cases h:Cc c=Z0
 ·have t:48<=c/\c<=57:=by simpa [Cc] using h
  obtain⟨u,v⟩:=t
  by_cases l:p.unit=1
  have i:K (Je p c=_):=aC (λg=>g.2 l);rw[h] at f;rw[l] at s;exact yc;have P:=aO l;have Q:p.unit.tdiv 10=_/10:=Int.tdiv_eq_ediv_of_nonneg x;have o:0<=p.unit/10:=O;have q:p.unit/10<=1000000:=O;have i:K (Je p c=_):=aD ⟨h,l⟩;have r:=Y (λn=>ej c _ n u v o q);have G:0<=(c-48)*_:=Int.mul_nonneg O o;have L:(c-48)*_<=9*_:=Int.mul_le_mul O q o O;rw[h] at f;generalize (c-48)*(p.unit/10)=n at *;generalize p.unit/10=y at *;have S:_=p.num+n:=Au O O;have W:_=y:=Au O O;refine q_ ?_;go_wp2_with (go_at_call 315;apply (f _).m;rintro j k ⟨rfl,rfl⟩)
  go_region_with (go_at_call 316;apply (r _).m;rintro j k ⟨rfl,rfl⟩)
  all_goals go_wp2
  all_goals go_ret
  all_goals unfold Gv
  all_goals rw[i]
  all_goals exact⟨X,(((m.n _).unit _).num _).drew,Qt (Aq (Aq (Aq (Ay) _) _) _)⟩
 have i:K (Je p c=_):=aC (λg=>h g.1)
 have l:Cc c=ZZ:=by simpa using h
 rw[l] at f;exact yc
end
def Zf1(c:H)(a d b:E):ZG:=
 ZE ((1:E)<=c/\(c:E)<=4/\2<=a/\a<=16/\a<=d/\d<=32/\0<=b/\b<=20)
def Zny{c a b}(d:a=b):ZI (ZX c a)=ZI (ZX c b):=by rw[d]
def Zph{e f d c b a}(g:K ((e&&Wl d c b a)=f)){x}(h:x=(f&&Nf (d a) (c a) (b a))):ZR x=ZR (e&&Wl d c b (a+1)):=by rw[ts,<- Bool.and_assoc,g,h]
def Rh h a {j d f e} i n k {c}(w:a<=Y2)(g:Ed c h a i n k):C_ 69 #[Y9 #[V h a j,I d,I f,I e]] c (U_ (ZX ZQ (ZfO (Ih a d f e i n k))) c):=by
 unfold Y2 at w;refine q_ ?_;go_upto_region 1 with fail;go_cut [3] (λl b=>l=ZR (Zf1 a d f e)/\b=ZN c (O_ #[V h a j,I d,I f,I e] 37))
 case first=>
  go_wp2
  all_goals go_meet
  all_goals grind [Zf1]
 obtain⟨rfl,rfl⟩:=hcut;go_wp2_with fail
 go_loopw [3,4] (λl m o=>∃b:H,b<=a/\m=I b/\l=ZR (Zf1 a d f e&&Wl i n k b)/\Below (B c.1+1) (ZN c (O_ #[V h a j,I d,I f,I e] 37)) o) (m2_ a)
 exact⟨0,v_,X,by simp[Wl],y_⟩;obtain⟨b,M,rfl,rfl,m⟩:=hrel;have L:ZV wr (J (B c.1) 0)=T (V h a j):=(by rw[m.cell (p:=(J (B c.1) 0)) s_];simp);have l:=r_.T (m.m s_);generalize x:(Zf1 a d f e&&Wl i n k b)=q;have r:=Y x
 by_cases o:b<a
 ·rcases g with g|⟨A,N,rfl,g⟩
  omega;have u:=T_ l (g.t b o);have D:=T_ l (g.D b o);have G:=T_ l (g.G b o);have v:=λz=>m.alloc (by have:=m.size;simpa using this) z;generalize y:i b=t at u;have s:=Y y
  cases q<;>cases t
  all_goals
   go_wp2
   all_goals
    go_roundw;exact⟨b+1,O,g_,Zph r (by rw[s];grind [Nf]),v _⟩;exact z_
 have t:a=b:=O;subst t;have s:K (Ih _ _ _ _ _ _ _=q):=r
 cases q
 all_goals
  go_wp2;go_ret;exact⟨Zny (by rw[s];rfl),l⟩
end Go.Proofs.YtfcgnpchbcmdeaaGreat
