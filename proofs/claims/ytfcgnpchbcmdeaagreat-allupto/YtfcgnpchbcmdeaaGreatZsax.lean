import Derived.Test.YtfcgnpchbcmdeaaGreatZsaw
import Derived.Test.YtfcgnpchbcmdeaaGreatZsay
open ByteArray renaming size->ZK
open List renaming length->F,getD->Z,drop->ZF
open _root_ renaming List->U,Int->E,Bool->ZG,Nat->H,rfl->X,ByteArray->ZC,Array->YZ
open Bool renaming true->Z0,false->ZZ
open Option renaming some->T,none->ZP
open Go.World renaming cell?->ZV,alloc->ZN
open Go.Value renaming bool->ZR,slice->ZH,string->YW,int->ZX,tuple->Y5,agg->Y9,pointer->Y7,ownBlock->ZW
open Go renaming strOfNums->ZB,World->ZT,Value->ZY,madeCells->YV
open Go.Ending renaming returned->ZI
open Array renaming size->B
open Go.IntKind renaming i64->ZQ
open Int renaming toNat->ZL
open Go.Proofs renaming intOf->ZA
open Decidable renaming decide->ZE
open Or renaming inr->ZJ,inl->ZM
namespace Go.Proofs.YtfcgnpchbcmdeaaGreat
set_option linter.all false
set_option maxRecDepth 100000
set_option maxHeartbeats 16000000
open Go.RowKit List Nat Go.World Go.Proofs.Tryz Go.Value Go.IntKind Go.Lib Go.Region
structure KnR(k):Prop where
 x:Vc k
 f:∀a∈k.e.f,-4294967296<=a/\a<=1000000000000
 c:∀b∈k.e.c,ZK b<=1000
 d:k.d<=1000000
structure BuR(e)(b:U KS)(a:BS):Prop where
 y:F a.N=e
 p:F a.fs<=1000
 n:∀c∈a.fs,c<F b
 A:∀d,Z a.fs d 0<=1000000
 h:a.g=Bk b a.fs
 i:a.g<64
 val:∀f,Z a.N f 0<=1000000
def ZoQ(a:ZG):U E:=if a=Z0 then[119] else[110]
def ZoO{a}(d:Vc a){c}:Ll a++c=ZoQ a.e.a++(Ba a.d 1++(Ba ((F a.e.f:E)+F a.e.c) 1++(Lr a.e.f++(Lw a.e.c++c)))):=by
 unfold Ll ZoQ
 cases b:a.e.a
 rw[d.2.2.2 b];simp[knB,ES.b,Kz,b,Lw,Ps];rw[d.2.2.1 b];simp[ng,ES.b,Kz,b,Lr,Ps]
def Zop{a:BS}{b}:Dq a++b=Ba (F a.fs) 1++(a.fs.flatMap (λc:H=>Ba c 1)++(Ia a.N a.g++b)):=by simp only[Dq,Ps,Sr,append_assoc,map_eq_flatMap]
def Wy(d:H)(b:U KS)(a:U BS)(c:U XS):U E:=[71,82,(d:E)%256,F b%256]++b.flatMap Ll++[(F a:E)%256]++a.flatMap Dq++Ba (F c) 2++c.flatMap xB
def ja.get{d m o l a}(b:ja d m o l a){i}(e:i<F a):∃c p g j h k,o=L_ c (F a) p/\ZV d (J c (i*4))=T (ZR (Z a i Aj).e.a)/\ZV d (J c (i*4+1))=T (ZH g (F (Z a i Aj).e.f) j)/\ZV d (J c (i*4+2))=T (ZH h (F (Z a i Aj).e.c) k)/\ZV d (J c (i*4+3))=T (I (Z a i Aj).d)/\Ad d m (ZH g (F (Z a i Aj).e.f) j) (Z a i Aj).e.f/\Bj d m (ZH h (F (Z a i Aj).e.c) k) (Z a i Aj).e.c:=by
 have⟨c,q,n,_,_,_,_,f⟩:=b.M.at (i:=i) (b.a ▸ e);rw[b.a] at n;have u:=b.j i e;have⟨g,j,r⟩:=(b.j i e).1.d;have⟨h,k,s⟩:=(b.j i e).2.a;have t:Z (zipWith Bs a l) i []=Bs (Z a i Aj) (Z l i Lm):=(by simp[Z,getElem?_zipWith,e,show i<F l by rw[b.y];exact e]);rw[t] at f;exact⟨c,q,g,j,h,k,n,f 0 O _ X,f 1 O _ (by rw[<- r];rfl),f 2 O _ (by rw[<- s];rfl),f 3 O _ X,w_,w_⟩
def Hu{d:Type}{a:U d}{b} c (e:b<F a):Z a b c∈a:=w_
def Zr a:ZB (Ab a)=a:=by
 cases a with
 | mk b=>
  unfold ZB Ab;congr 1;apply Array.ext';simp[map_map,Function.comp_def]
structure SB(f wr:ZT)(e:ZC)(d c:U E):Prop where
 s:∃a,e=ZB a/\a++d=c
 z:F c<=1000000
 b:E_ f wr
section
variable {w wr W:ZT} {S:ZC} {R R' a:U E}
def SB.size(b:SB w wr S R a):ZK S+F R<=1000000:=by
 obtain⟨⟨d,rfl,rfl⟩,c,_⟩:=b;rw[Bi]
 simpa using c
def SB.e(b:SB w wr S R a)(c:R=R'):SB w wr S R' a:=c ▸ b
def SB.f{c}(b:SB w wr S R a)(d:E_ W c):K (SB W c S R a):=⟨b.s,b.z,d⟩
def SB.P{c d}(e:SB w wr S (c++R) a)(g:E_ w W)(b:d=ZB c):(¬9223372036854775807<ZK S+ZK d)/\K (SB w W (S++d) R a):=by have h:=e.size;subst b;obtain⟨⟨f,rfl,b⟩,i,_⟩:=e;rw[Bi] at *;rw[Qe] at h;exact⟨by rw[Bi];omega,⟨f++c,Nn _ _,by simpa using b⟩,i,g⟩
def LoP(w:ZT)(S:ZC)(R a:U E)(c:Ending)(d:ZT):Prop:=∃b,c=ZI (YW b)/\(¬9223372036854775807<ZK S+ZK b)/\K (SB w d (S++b) R a)
def SB.call{c:H}{b:YZ ZY}{e}(f:SB w wr S (e++R) a)(g:E_ w W)(h:C_ c b W (U_ (YW (ZB e)) W)):C_ c b W (LoP w S R a):=h.m λ_ _ d=>⟨_,d.1,f.P (bt_ g d.2) X⟩
def SB.A{x b}(c:SB w wr S (Ba x b++R) a)(f:E_ w W)(g:b<=4:=by omega)(d: -4294967296<=x:=by omega)(e:x<=1000000000000:=by omega):C_ 135 #[I x,I (b:H)] W (LoP w S R a):=c.call f (Zcd x b W g d e)
def LoI{d:Type}(w:ZT)(e:d->U E)(c:U d)(R a:U E)(f g:ZY)(wr:ZT):Prop:=∃(b:H) (S:ZC),f=YW S/\g=I b/\b<=F c/\K (SB w wr S ((ZF b c).flatMap e++R) a)
def SB.d{f:Type}{d:f->U E}{c:U f}{b}(g:SB w wr S ((ZF b c).flatMap d++R) a)(h)(e:b<F c):∃R',K (SB w wr S (d (Z c b h)++R') a)/\K (R'=(ZF (b+1) c).flatMap d++R)/\(0:E)<=b/\(b:E)<F c:=by refine⟨_,g.e ?_,X,F_ _ _⟩;rw[aN e,flatMap_cons,append_assoc];simp[Z,e]
def SB.c{c:Type}{e:c->U E}{b:U c}(d:SB w wr S ((ZF (F b) b).flatMap e++R) a):K (SB w wr S R a):=d.e s_
end
def ZeJ{R f1} j {g9 g7 g8 h0 g3 f2 f4 e c} d i (s:RfX i f1 R j g9 g7 g8 h0 g3 f2 f4 e (c.map BS.fs) (c.map BS.N) d)(d2:∀K∈e,KnR K)(o:∀l∈c,BuR j e l)(i4:F e<=1000)(i0:F c<=1000)(i7:F d<=100000)(t:∀x∈d,x.M<=1000000/\x.f<=1000000/\x.i<=1000000)(g0:j<=200)(b5:F (Wy j e c d)<=1000000)(d1:Ec (Wy j e c d)):C_ 76 #[P_ R] i (U_ (YW (ZB (Wy j e c d++Ba (Gy (Wy j e c d)) 4))) i):=by
 have⟨N,c4⟩:=Y_ s.h s.A;have a:Hid (SB i i ⟨#[71,82]⟩ (Ba j 1++(Ba (F e) 1++(e.flatMap Ll++(Ba (F c) 1++(c.flatMap Dq++(Ba (F d) 2++(d.flatMap xB++[]))))))) (Wy j e c d)):=⟨⟨[71,82],X,by simp[Wy,Ps]⟩,b5,.refl _ _⟩;have e1:Hid (∀W,C_ 134 #[Q_ (ZB (Wy j e c d))] W λf b=>_/\E_ W b):=λW=>fx _ W d1 b5;obtain⟨e9,h7,rfl⟩:=c4.h.1;have f6:=n_ 0 s.v;have f7:=n_ 1 s.v;have i9:=lt_ f6;have⟨j1,Q,a7⟩:=N.i;have⟨j2,f8,a8⟩:=N.k;have⟨j3,c7,a9⟩:=N.l;obtain⟨e5,h4,rfl⟩:=a7.1;obtain⟨e6,h5,rfl⟩:=a8.1;obtain⟨e7,h6,rfl⟩:=a9.1;rw[length_map] at Q f8;have y:=x6_ a7 a8 a9 d2 o t;clear s d2 o t a7 a8 a9 b5 d1;generalize ZB (Wy j e c d++Ba (Gy (Wy j e c d)) 4)=h3 at *;generalize Wy j e c d=v at *
 have⟨e2,c9⟩:=ez_ (Ba (F c) 1++(c.flatMap Dq++(Ba (F d) 2++(d.flatMap xB++[]))));rw[c9] at a;refine dl_ ?_;go_enter func76,ntmps76;go_upto_region 1 with fail;refine rg_ i 13 λb=>?_;refine G_ ?_;refine oc_ 4 (a.A b) ?_;rintro f a1 ⟨b8,rfl,p,a⟩;replace p:¬_<2+ZK b8:=p;refine⟨_,X,a.b,λb=>G_ ?_⟩;refine oc_ 11 (a.A b) ?_;rintro f c0 ⟨d7,rfl,k,a⟩;rw[ByteArray.size_append] at k;replace k:¬_<2+_+_:=k;refine⟨_,X,a.b,λb=>G_ ?_⟩;refine le_ ?_;clear b p k;go_upto_region 3 with fail;go_loopw [3,4] (LoI i Ll e e2 v) (λ_ g _=>F e-ZL (ZA g))
 case atStart=>exact⟨0,_,X,X,v_,a⟩
 clear a;obtain⟨S,h2,rfl,rfl,i2,a⟩:=hrel;have M:=Ah a.b f7
 by_cases b1:S<F e
 ·have⟨g6,h8,e8,f3,f0,f5,D,a3,a4,a5,a6,b6,b7⟩:=c4.get b1;obtain rfl:e9=T ⟨g6,0,ZP⟩:=(by injection D);have⟨c5,a,f9,G⟩:=a.d Aj b1;have w:=y.2.2.2.1 _ (Hu Aj b1);replace a:=Y (a.e (ZoO w.x));clear D;generalize (Z e) S Aj=K at *;obtain⟨⟨c1,n,g⟩,c8⟩:=K;simp only at a3 a4 a5 a6 b6 b7 a;have L:=x4_ b6 b7 w.f w.c;have i1:c8<=1000000:=w.d;have i5:F n+F g<=2000:=add_le_add w.x.1 w.x.2.1;have c2:=Ah a.b a3;have p:=Ah a.b a4;have k:=Ah a.b a5;have c3:=Ah a.b a6;clear a3 a4 a5 a6 b6 b7 w;go_upto_region 6 with fail;have⟨z,d5,o,t⟩:=na_ wr #[ZR c1,V e8 (F n) f3,V f0 (F g) f5,I c8] 227;rw[<- d5];have a0:=Y (bt_ a.b o);have P:=n_ 0 t;have d8:=n_ 1 t;have d9:=n_ 2 t;have h1:=n_ 3 t;clear d5 t o M c2 p k c3;generalize (B wr.1)=h9 at *
  have d6:=lt_ P;have⟨g2,b4⟩:=W_ (ZB (ZoQ c1));have⟨c2,a⟩:=(a.f (W:=z) (.refl _ _)).P (.refl _ _) b4;go_upto_if 42 with fail
  go_cut [6] (λh m=>h=YW g2/\m=z)
  case first=>cases c1<;>(subst b4;go_wp2;go_meet;exact⟨X,X⟩)
  obtain⟨rfl,g1⟩:=hcut;obtain rfl:=g1.s;clear b4 P;have g5:i64.wrap (F n+F g)=F n+F g:=Au O O;have⟨e3,d0⟩:=ez_ (Lw g++c5);rw[d0] at a;go_upto_region 9 with fail;refine rg_ z 16 λb=>?_;refine G_ ?_;refine oc_ 5 (a.A b) ?_;rintro f a1 ⟨b8,rfl,p,a⟩;rw[ByteArray.size_append] at p;refine⟨_,X,a.b,λb=>G_ ?_⟩;refine oc_ 14 (a.A b) ?_;rintro f c0 ⟨d7,rfl,k,a⟩;rw[ByteArray.size_append,ByteArray.size_append] at k;refine⟨_,X,a.b,λb=>G_ ?_⟩;refine le_ ?_;clear b c2 p k g5 h1;go_upto_region 11 with fail;go_loopw [3,7] (LoI z (λx=>Ba x 4) n e3 v) (λ_ h _=>F n-ZL (ZA h))
  case atStart=>exact⟨0,_,X,X,v_,a⟩
  clear a;obtain⟨h,e4,rfl,rfl,d3,a⟩:=hrel;have M:=Ah a.b d8
  by_cases b3:h<F n
  ·obtain⟨a2,rfl,_,_,q⟩:=L.1.b X b3;have m:=Ah a.b (Ah a0 q.1);have A:=L.2.2.1 _ (Hu 0 b3);have⟨c6,a,b0,G⟩:=a.d 0 b3;clear q;generalize (Z n) h 0=x at *;go_wp2_with fail
   apply (a.A a.b).m;rintro f a1 ⟨r,rfl,u,a⟩;clear M m;refine J_ ?_;exact⟨h+1,_,X,g_,O,a.e b0⟩
  obtain rfl:h=F n:=O;have d4:=Int.lt_irrefl (F n);replace a:=a.c;rw[<- d0] at a;generalize wr=j4 at *;go_upto_region 15 with fail;clear M;go_loopw [3,8] (LoI z (λr:ZC=>(ZK r:E)%256::Ab r) g c5 v) (λ_ m _=>F g-ZL (ZA m))
  case atStart=>exact⟨0,_,X,X,v_,a⟩
  clear a;obtain⟨u,a2,rfl,rfl,i3,a⟩:=hrel;have m:=Ah a.b d9
  by_cases b2:u<F g
  ·obtain⟨j0,rfl,_,q⟩:=L.2.1.d X b2 ByteArray.empty;have e0:=Ah a0 q;have A:=Ah a.b e0;have g4:=lt_ e0;have i6:=L.2.2.2 _ (Hu ByteArray.empty b2);have⟨c6,a,b0,G⟩:=a.d ByteArray.empty b2;clear q;generalize (Z g) u ByteArray.empty=b9 at *;replace a:=Y (a.e (R':=Ba (ZK b9) 1++(Ab b9++c6)) X);go_upto_region 17 with fail;refine rg_ z 15 (λb=>?_) (hS:=a.b.drew);refine G_ ?_;refine oc_ 7 (a.A b) ?_;rintro f a1 ⟨r,rfl,p,a⟩;have o:=a.b;have⟨k,a⟩:=a.P o (Zr b9).s;rw[ByteArray.size_append] at k;refine⟨_,X,o,λb=>G_ ?_⟩;refine le_ ?_;clear b o m A;refine J_ ?_;exact⟨u+1,_,X,g_,O,a.e b0⟩
  obtain rfl:u=F g:=O;have q:=Int.lt_irrefl (F g);replace a:=(a.c.e f9).f (bt_ a0 a.b);refine J_ ?_;exact⟨S+1,_,X,g_,O,a⟩
 obtain rfl:S=F e:=O;have f0:=Int.lt_irrefl (F e);have m:=Ah a.b Q;replace a:=a.c;rw[<- c9] at a;have⟨d0,c2⟩:=ez_ (Ba (F d) 2++(d.flatMap xB++[]));rw[c2] at a;go_wp2_with fail
 apply (a.A a.b).m;rintro f a1 ⟨r,rfl,u,a⟩;clear M m;go_upto_region 20 with fail;clear u;go_loopw [3,9] (LoI i Dq c d0 v) (λ_ g _=>F c-ZL (ZA g))
 case atStart=>exact⟨0,_,X,X,v_,a⟩
 clear a;obtain⟨l,e4,rfl,rfl,o,a⟩:=hrel;have m:=Ah a.b Q
 by_cases w:l<F c
 ·obtain⟨e3,f3,b3,b7,D,P,a0⟩:=y.1.2 l (by rw[length_map];exact w);obtain⟨e8,f5,b2,b6,b9,b4,a4⟩:=y.2.1.2 l (by rw[length_map];exact w);obtain rfl:e5=T ⟨e3,0,ZP⟩:=(by injection D);obtain rfl:e6=T ⟨e8,0,ZP⟩:=(by injection b9);rw[show Z (c.map BS.fs) l []=(Z c l Df).fs by simp[Z,w]] at P a0;rw[show Z (c.map BS.N) l []=(Z c l Df).N by simp[Z,w]] at b4 a4;have⟨d5,a,d9,G⟩:=a.d Df w;have n:=y.2.2.2.2.1 _ (Hu Df w);replace a:=Y (a.e (Zop));clear D b9;generalize (Z c) l Df=g at *;have e0:=n.p
  have c8:Hid (∀W,E_ i W->C_ 137 #[P_ R,V b3 (F g.fs) b7] W (U_ (ZX ZQ g.g) i)):=λW L=>by rw[n.h];exact(dg R j b7 b3 g.fs e W (N.j.q L) (a0.q L) n.n e0).m (λ_ _ s=>⟨s.1,bt_ L s.2⟩)
  have c6:Hid (∀W,E_ i W->C_ 136 #[V b2 (F g.N) b6,I g.g] W (U_ (YW (ZB (Ia g.N g.g))) W)):=λW L=>Zh1 b2 b6 g.g g.N W (a4.q L) (n.y ▸ g0) n.i n.val;have a6:=K_ a0 n.A;clear a0 a4 n;have A:=Ah a.b P;have⟨d8,c3⟩:=ez_ (Ia g.N g.g++d5);rw[c3] at a;go_wp2_with fail
  apply (a.A a.b).m;rintro f c0 ⟨r,rfl,u,a⟩;clear m A;go_upto_region 24 with fail;clear u;go_loopw [3,10] (LoI i (λc1:H=>Ba c1 1) g.fs d8 v) (λ_ h _=>F g.fs-ZL (ZA h))
  case atStart=>exact⟨0,_,X,X,v_,a⟩
  clear a;obtain⟨h,a2,rfl,rfl,d3,a⟩:=hrel;have m:=Ah a.b Q;have A:=Ah a.b P
  by_cases c5:h<F g.fs
  ·obtain⟨d6,rfl,q⟩:=a6.1 h c5;have z:=Ah a.b q;have d4:=a6.2 h;have⟨b0,a,a3,G⟩:=a.d 0 c5;clear q;generalize (Z g.fs) h 0=c1 at *;go_wp2_with fail
   apply (a.A a.b).m;rintro f a5 ⟨r,rfl,u,a⟩;clear m A z;refine J_ ?_;exact⟨h+1,_,X,g_,O,a.e a3⟩
  obtain rfl:h=F g.fs:=O;have d4:=Int.lt_irrefl (F g.fs);replace a:=a.c;rw[<- c3] at a;go_upto_region 27 with fail;have d6:=lt_ P;have g4:=lt_ b4;refine rg_ i 19 (λb=>?_) (hS:=a.b.drew);refine G_ ?_;refine oc_ 16 (c8 _ b) ?_;rintro f a5 ⟨rfl,b⟩;refine⟨_,X,b,λb=>G_ ?_⟩;refine oc_ 17 (a.call b (c6 _ b)) ?_;rintro f c1 ⟨r,rfl,u,a⟩;refine⟨_,X,a.b,λb=>G_ ?_⟩;refine le_ ?_;clear b m A;refine J_ ?_;exact⟨l+1,_,X,g_,O,a.e d9⟩
 obtain rfl:l=F c:=O;have D:=Int.lt_irrefl (F c);replace a:=a.c;rw[<- c2] at a;have z:=Ah a.b c7;go_wp2_with fail
 apply (a.A a.b).m;rintro f c0 ⟨r,rfl,u,a⟩;clear m z;go_upto_region 30 with fail;clear u;go_loopw [3,11] (LoI i xB d [] v) (λ_ g _=>F d-ZL (ZA g))
 case atStart=>exact⟨0,_,X,X,v_,a⟩
 clear a;obtain⟨h,a2,rfl,rfl,d3,a⟩:=hrel;have z:=Ah a.b c7
 by_cases g:h<F d
 ·have⟨A,q,n,P,d8,d9⟩:=y.2.2.1.2 h g;obtain rfl:e7=T ⟨A,0,ZP⟩:=(by injection n);clear n;have⟨L,a0,a4⟩:=y.2.2.2.2.2 _ (Hu Dm g);have⟨b0,a,a3,G⟩:=a.d Dm g;generalize (Z d) h Dm=x at *;replace a:=Y (a.e (R':=Ba x.M 1++(Ba x.f 1++(Ba x.i 1++b0))) X);go_upto_region 32 with fail;have d6:=lt_ P;refine rg_ i 31 (λb=>?_) (hS:=a.b.drew);refine G_ ?_;refine oc_ 9 (a.A b) ?_;rintro f a5 ⟨b8,rfl,p,a⟩;refine⟨_,X,a.b,λb=>G_ ?_⟩;refine oc_ 19 (a.A b) ?_;rintro f c1 ⟨d7,rfl,k,a⟩;rw[ByteArray.size_append] at k;refine⟨_,X,a.b,λb=>G_ ?_⟩;refine oc_ 29 (a.A b) ?_;rintro f b2 ⟨a6,rfl,c3,a⟩;rw[ByteArray.size_append,ByteArray.size_append] at c3;refine⟨_,X,a.b,λb=>G_ ?_⟩;refine le_ ?_;clear b z;refine J_ ?_;exact⟨h+1,_,X,g_,O,a.e a3⟩
 obtain rfl:h=F d:=O;have d4:=Int.lt_irrefl (F d)
 obtain rfl:a2=ZB v:=by
  obtain⟨⟨n,f,rfl⟩,_⟩:=a.c
  simpa using f
 go_wp2_with fail
 apply (e1 wr).m;rintro f a5 ⟨rfl,n⟩;have q:=Y (bt_ a.b n);clear n z;refine wr_ ?_;exact⟨X,q⟩
def Zd7{i p k:H}{f a b l}(j:Pi l i p b)(s:¬(0<=f/\f<(k:E)/\0<=a/\a<(F b.g:E)))(z:F b.g<=1000)(x:0<F b.f)(q:F (Z b.f 0 Df).N=k)(N:k<=1000):C_ 44 #[P_ i,I f,I a] l (U_ (Y5 #[ZX ZQ 0,ZX ZQ 1]) l):=by
 have M:=n_ 0 j.f;have v:=Y j;have⟨R,Q,S,P,L,w,r⟩:=j.g;have c:=Nd _ w l r.v x;rw[q] at c
 have m:K (¬(0<=a/\a<F b.g)->∀d:ZT,Pi d i p b->C_ 52 #[P_ i,I a] d (V_ (ZR ZZ) d)):=λn d y=>by have e:=Jk _ _ b a d y z;have g:ZE (0<=a/\a<=F b.g-1)=ZZ:=w_;rw[g] at e;exact e
 clear j r q
 by_cases t:0<=f/\f<=(k:E)-1
 ·have n:¬(0<=a/\a<F b.g):=O;have u:=Y (m n);clear s n m;refine dl_ ?_;go_enter func44,ntmps44;go_wp2_with fail
  apply c.m;rintro h D ⟨rfl,e⟩;have g:=Y e;clear e c;go_wp2_with fail
  apply (Xf t).m;rintro h G ⟨rfl,o⟩;obtain rfl:=o.s;go_wp2_with fail
  apply (u _ (v.q g)).m;rintro h W ⟨rfl,A⟩;obtain rfl:=A.s;go_wp2;go_ret2
  exact⟨X,g⟩
 clear s m;go_enter func44,ntmps44;go_wp2_with fail
 apply c.m;rintro h D ⟨rfl,e⟩;have g:=Y e;clear e c;go_wp2_with fail
 apply (xd t).m;rintro h G ⟨rfl,o⟩;obtain rfl:=o.s;go_wp2;go_ret2
 exact⟨X,g⟩
def Zd5{d h} a {c} b (e:Pi b d h c)(j:¬(0<=a/\a<(F c.g:E)))(k:F c.g<=1000):C_ 27 #[P_ d,I a] b (V_ (Y5 #[ZH ZP 0 0,ZH ZP 0 0,ZX ZQ 1]) b):=by
 have g:C_ 52 #[P_ d,I a] b (V_ (ZR ZZ) b):=(by have f:=Jk _ _ c a b e k;have i:ZE (0<=a/\a<=F c.g-1)=ZZ:=w_;rw[i] at f;exact f);clear e j;refine dl_ ?_;go_enter func27,ntmps27;go_wp2_with fail
 apply g.m;rintro i l ⟨rfl,f⟩;obtain rfl:=f.s;go_wp2;go_ret3
 exact⟨X,X⟩
section
variable {m n budget:H} {a:U ES} {Bb:U (U H)}
def Zjo(f:em m n a Bb){b}(d:b<m+1) e:Z (Z Bb b []) e 0<(Z (Ex a Bb (m+1)) b Aj).g:=by
 rw[Gf a Bb d];show _<(Z a b Sf).b+2;rw[Qc]
 rcases Nat.lt_or_ge e (F (Z Bb b [])) with c|c
 rw[Qd c];exact f.i b d _ (Qf _)
 grind
def Zqd(f:em m n a Bb){c}(g:c<n){b}(d:b<m+1):Z (Z (Iv a Bb (m+1)) b []) c ZZ=sO (Ex a Bb (m+1)) Bb b c:=by unfold sO;rw[Nk a Bb d,Gf a Bb d];have e:c<F (Z Bb b []):=(f.p b d) ▸ g;unfold oF Cz;rw[Qc,getElem?_map,Qd e,Qc (l:=Z Bb b []),Qd e];rfl
def Zge:(Bx m n budget a Bb).g=Ex a Bb (m+1):=Pk _ _ _ _ _
def Znb:F (Bx m n budget a Bb).g=m+1:=Zge ▸ (Ev _ _ _)
def Zm9:(Bx m n budget a Bb).f.map BS.fs=Gk (Ib m (Ex a Bb (m+1)) (Iv a Bb (m+1)) n budget):=by
  have:=jg (Iv a Bb (m+1)) Bb n (Ex a Bb (m+1)) (Ib m (Ex a Bb (m+1)) (Iv a Bb (m+1)) n budget) ⟨Ex a Bb (m+1),[],[]⟩;unfold Bx Fp
  simpa using this
def Zna{c}(e:c∈Ib m (Ex a Bb (m+1)) (Iv a Bb (m+1)) n budget){b}(f:b∈c.fs):b<m+1:=by
 have d:b∈He (Ib m (Ex a Bb (m+1)) (Iv a Bb (m+1)) n budget):=by grind [He]
 grind [Pr]
def ZlM(g:em m n a Bb){d}(q:d.Perm (Bx m n budget a Bb).r){c b}(f:c<m+1)(h:b<n):xbF d c b (Iz (Bx m n budget a Bb).g ((Bx m n budget a Bb).f.map BS.fs) ((Bx m n budget a Bb).f.map BS.N) b c)=Z (Z Bb c []) b 0:=by
 have j:=Ev a Bb (m+1);have k:∀b,_->∀e,e<F (Ex a Bb (m+1))->_=sO _ _ e b:=λb h e w=>Zqd g h O;have t:=ZaK (n:=n) j (Pr m (Ex a Bb (m+1)) _ n _) (Wv m _ (Iv a Bb (m+1)) n budget) (λl i b=>Zjo g i b) k;have r:=ZaJ (n:=n) (Gs:=Ib m (Ex a Bb _) _ n budget) (λl i c f=>by rw[j];exact Zna i f) (λl i b=>Zjo g O b) k;have s:(Bx m n _ _ _).f.map _=_:=r;rw[Zge,Zm9,s];have u:=λv=>q.mem_iff.T (t v);unfold xbF
 cases l:d.find? (λo=>ZE (rt b c o)) with
 | some o=>
  grind
 | none=>
  rw[find?_eq_none] at l
  by_cases i:Iz (Ex a Bb (m+1)) (Gk (Ib m (Ex a Bb (m+1)) (Iv a Bb (m+1)) n budget)) ((Gk (Ib m (Ex a Bb (m+1)) (Iv a Bb (m+1)) n budget)).map (λp=>Hs (Ex a Bb (m+1)) Bb p n)) b c=Z (Z Bb c []) b 0
  exact i;exact absurd (aF (show rt b c _ from⟨X,X⟩)) (l _ ((u ⟨b,c,Z (Z Bb c _) b 0⟩).2 ⟨h,f,aF i,X⟩))
end
def jo{f:Type}(c:f->U E) b:∀(a:U f),(∀d∈a,F (c d)<=b)->F (a.flatMap c)<=F a*b
 |[],_=>s_
 |d::a,e=>by have i:=e d s_;have j:=jo c b a (λh g=>e h (by simp[g]));rw[flatMap_cons,Qe,length_cons,succ_mul];omega
def oj{h a}(b:Kw h a)(g:∀K∈a.g,Xl K){c}(f:c.Perm a.r):F (Hv a c)<=100000:=by have i:=jo Ll _ _ (λd e=>Zf8 (g d e));have j:=jo _ _ _ (λd e=>(b.t d e).2.2.2.2);have e:=jo xB 3 c (λd _=>x_);have k:=b.i;have l:=b.l;have d:=b.u;rw[<- f.length_eq] at d;unfold Hv;simp only[Qe,length_cons,length_nil,Dr];omega
def Oi{h}{a:Ft}(b:Kw h a)(m:∀K∈a.g,Xl K)(z:∀K∈a.g,∀x∈K.e.f,-4294967296<=x){c}(k:c.Perm a.r) o s N L M P G t u j (f:RfX j s o h N L M P G t u a.g (a.f.map BS.fs) (a.f.map BS.N) c):C_ 76 #[P_ o] j (U_ (YW (ZB (Br a c))) j):=by
 have D:=oj b m k;have r:=jx a c;have q:=(b.j _ (b.f b.k)).y;have y:Br a c=Wy h a.g a.f c++Ba (Gy (Wy h a.g a.f c)) 4:=(by unfold Br Hv Wy;rw[q]);have A:Hv a c=Wy h a.g a.f c:=(by unfold Hv Wy;rw[q]);rw[A] at D r;rw[y];have Q:=b.i;refine ZeJ h c j f (λK hK=>?_) (λd i=>?_) O (p_ b.l) (by rw[k.length_eq];have:=b.u;omega) (λx n=>?_) b.w O r
 ·obtain⟨e,l,rfl⟩:=aM hK;have v:Z a.g e Aj=a.g[e]:=w_;have g:=f.x e l;have p:=b.q e l;have w:=b.p e l;rw[v] at g p w;refine⟨g,λx n=>⟨z _ hK x n,?_⟩,λS R=>?_,O⟩
  ·rcases m _ hK with f|f
   ·grind
   grind
  rcases m _ hK with f|f
  ·grind
  grind
 ·have g:=b.j d i;have p:=b.h d i;refine⟨g.y,p_ (b.r d i),b.n d i,λl=>?_,g.sum,O,λv=>?_⟩
  ·rw[Qc]
   rcases Nat.lt_or_ge l (F d.fs) with e|e
   ·rw[Qd e];have:=b.n d i _ (Qf e)
    grind
   grind
  rw[Qc]
  rcases Nat.lt_or_ge v (F d.N) with e|e
  ·rw[Qd e];have:=g.k _ (Qf e)
   grind
  grind
 have:=b.z x (k.subset n);have:=b.w;omega
def Hc(e f:ZT)(c:H->H)(j h:H)(i:YZ ZY):Prop:=∃b g,Gz f b j g h/\Ek e c b/\Aa (λa=>c a<=13∨c a=99) e f/\(∀d,d<4->g[d]? =i[d]?)/\(∀a,B e.1<=a∨c a=99->b a<=13∨b a=99)/\∀a,B f.1<=a->b a=99
def Gz.a{b f e c d}(g:Gz b f e d c):Gz b (λa=>if a<B b.1 then f a else 99) e d c:=
 g.z (S:=λ_=>False) (Aa.refl _ _) (λ_ _ a=>a.elim) (λa h=>ZJ (by simp[h]))
def Gz.P{f e d N b c}(a:Gz f e d c N)(h:N<=b):Gz f e d c b:=
 a.put (S:=λ_=>False) (Aa.refl _ _) (λ_ _ g=>g.elim) a.v (Ek.refl _ _) (λ_ _=>X) a.x h
def Hc.b{j k i g c e}(m:Nz j k i g c e){d}(q:c<=d):Hc j k i g d e:=by
 obtain⟨u,l,n,o,h,p,r,s⟩:=m;have t:=h.size;refine⟨_,l,n.a.P q,λb a=>?_,h,p,λb a=>?_,λb a=>w_⟩
 ·rcases o b a with f|f
  exact ZM f
  grind
 grind
def Hc.a{c k b i g d}(l:Gz c b i d g)(e:E_ c k)(j:∀a,B c.1<=a->b a=99){h}(m:g<=h):Hc c k b i h d:=
 ⟨b,d,(l.z (S:=λ_=>False) (.a e) (λ_ _ f=>f.elim) (Ek.refl _ _)).P m,Ek.refl _ _,.a e,λ_ _=>X,λa f=>ZJ (f.elim (j a) id),λa f=>j a (aG e.size f)⟩
def Hc.T{d h r c f m i k l}(n:Ek d c f)(o:Aa (λa=>c a<=13∨c a=99) d h)(z:∀b,b<4->l[b]? =k[b]?)(A:∀a,B d.1<=a∨c a=99->f a<=13∨f a=99)(y:Hc h r f m i l):Hc d r c m i k:=by
 obtain⟨D,w,s,j,t,u,G,v⟩:=y;refine⟨D,w,s,n.T o.size j,o.c t (λa q=>?_),λb p=>(u b p).T (z b p),λa q=>?_,v⟩
 ·by_cases g:a<B d.1
  ·left
   rcases n a g with e|e
   exact ZJ e;omega
  omega
 rcases A a q with e|e
 ·by_cases g:a<B h.1
  ·rcases j a g with x|x
   omega;omega
  grind
 grind
structure Ly(b:ZT)(dp c i d f k:H)(a:Ft)(n l m o)(j)(g h)(e):Prop where
 dp:b.1[dp]? =T (O_ #[P_ c,P_ d] 137)
 x:Pi b c i a
 y:RfX b f d k n l m o j g h a.g (a.f.map BS.fs) (a.f.map BS.N) e
structure Pj(e:H)(a:Ft)(c:U XS):Prop where
 ok:Kw e a
 w:∀K∈a.g,Xl K
 h:∀K∈a.g,∀f∈K.e.f,-4294967296<=f
 g:c.Perm a.r
 G:Em c
 i:∀d b,d<e->b<F a.g->Tk a c b (De a b) (Iy a b) d=xbF c b d (Iz a.g (a.f.map BS.fs) (a.f.map BS.N) d b)
section
variable {w w':ZT} {dp gb db yb base n:H} {D:Ft} {vF vB vC vX:ZY} {kvs:U (ZY×ZY)} {bvs cvs:U ZY} {a:U XS}
def Ly.q(b:Ly w dp gb db yb base n D vF vB vC vX kvs bvs cvs a)(c:E_ w w'):Ly w' dp gb db yb base n D vF vB vC vX kvs bvs cvs a:=
 ⟨(c.block _ (Qb b.dp).1).T b.dp,b.x.q c,b.y.z (.a c)⟩
def Ly.cells(b:Ly w dp gb db yb base n D vF vB vC vX kvs bvs cvs a):ZV w (J dp 0)=T (P_ gb)/\ZV w (J dp 1)=T (P_ yb)/\ZV w (J yb 0)=T (I n)/\ZV w (J yb 1)=T vF/\ZV w (J yb 2)=T vB:=
 ⟨M_ 0 _ 137 (0,0) b.dp,M_ 1 _ 137 (0,0) b.dp,M_ 0 _ 142 (0,0) b.y.v,M_ 1 _ 142 (0,0) b.y.v,M_ 2 _ 142 (0,0) b.y.v⟩
def Zdm{S t g h u i x N l y L o m A z M wc v}(p:Ly w dp gb db yb base n D vF vB vC vX kvs bvs cvs a)(r:Pj n D a):C_ 77 #[P_ S,P_ dp,Y9 #[I 8,I t,I g,V l o m,I h,I u,I i,V y A z,V L M wc,Q_ v,I x,I N]] w (U_ (ZR Z0) w):=by
 have Q:=Y (r.ok);have c:K (∀f,Below _ w f->_):=λf W=>p.q W;clear p r;refine dl_ ?_;go_enter func77,ntmps77;go_upto_region 3 with fail;generalize s:ZN w (O_ #[I 8,I t,I g,V l o m,I h,I u,I i,V y A z,V L M wc,Q_ v,I x,I N] 93)=G;have b:E_ w G:=(by rw[<- s];exact r_);clear s;have⟨R,j,k,_,_⟩:=(c G b).cells;have e:=Zd8 (c _ b).x Q;clear j k;go_wp2_with fail
 apply e.m;rintro a1 a0 ⟨rfl,q⟩;have d:=b.T (q.m b.size);have⟨_,j,k,_,_⟩:=(c a0 d).cells;have P:=Y d;clear d q b e R;go_wp2;go_ret;exact⟨s_,P⟩
def ZaO{a2 c y l m z o x R p G P r q M L Q wc A}(s:Ly w dp gb db yb base n D vF vB vC vX kvs bvs cvs a)(i:Pj n D a)(a6:c≠8)(a7:c≠9)(a4:c≠10)(a5:c≠11):C_ 77 #[P_ a2,P_ dp,Y9 #[I c,I y,I l,V p r q,I m,I z,I o,V G M L,V P Q wc,Q_ A,I x,I R]] w (U_ (ZR Z0) w):=by
 have b:=K_ (i.ok) i;have g:K (∀d,Below _ w d->_):=λd h=>s.q h;clear s i;refine dl_ ?_;go_enter func77,ntmps77;go_upto_region 26 with fail;generalize v:ZN w (O_ #[I c,I y,I l,V p r q,I m,I z,I o,V G M L,V P Q wc,Q_ A,I x,I R] 93)=N;have e:E_ w N:=(by rw[<- v];exact r_);clear v;have⟨W,_,_,_,_⟩:=(g N e).cells;have j:=fj _ _ n _ _ (g _ e).x b.1 b.2.w a b.2.g b.2.G;have k:=Y (λd h=>Oi b.1 b.2.w b.2.h b.2.g _ _ _ _ _ _ _ _ _ d (g d h).y);generalize ZB (Br D a)=a8 at *;go_wp2_with fail
 apply j.m;rintro a1 a3 ⟨rfl,t⟩;have f:=e.T (t.m e.size);have⟨_,a0,_,_,_⟩:=(g a3 f).cells;clear t e j W;go_wp2_with fail
 apply (k _ f).m;rintro a1 a9 ⟨rfl,u⟩;have S:=Y (f.T (u.m f.size));clear u f a0 k;go_wp2;go_ret;exact⟨s_,S⟩
end
def Du.z{e k a h l i g S}(b:Du e a 0 h l i g)(j:Aa S e k)(o:¬S a)(n:a<B e.1):Du k a 0 h l i g:=by have f:=λp=>cb_ (w:=e) (a:=(J a p)) (j.block _ n o);exact⟨b.k,λm=>Qh (b.lt m) j.size,λd c=>(f _).T (b.t d c),λd c=>(f _).T (b.D d c),λd c=>(f _).T (b.G d c)⟩
section
variable {w w':ZT} {o f:H->H} {t g yb d e m:H} {wd:H->ZG} {sc ct:H->E} {bins:E} {size budget:H} {a b:ZC} {c:ZG}
def Oa(w:ZT)(o:H->H)(t yb d e m:H)(wd:H->ZG)(sc ct:H->E)(bins:E)(size budget:H)(a:ZC)(c:ZG):Prop:=
 o yb=t/\o d=t/\d≠yb/\d<B w.1/\Du w d 0 (m+1) wd sc ct/\∃b g f,ra w yb d (m+1) e bins size budget b g f c/\(c=ZZ->b=a/\g=(Qs (Ol m wd sc a)).1/\f=(Qs (Ol m wd sc a)).2)
def Oa.lt(b:Oa w o t yb d e m wd sc ct bins size budget a c):yb<B w.1:=by obtain⟨_,_,_,_,_,g,i,h,f,_⟩:=b;exact(Qb f).1
def Oa.z{S}(j:Oa w o t yb d e m wd sc ct bins size budget a c)(i:Aa S w w')(p:∀b,b<B w.1->S b->o b≠t)(z:Ek w o f)(L:t≠99):Oa w' f t yb d e m wd sc ct bins size budget a c:=by
 have q:=j.lt;obtain⟨k,l,u,h,v,r,G,D,A,x⟩:=j
 have n:∀b,b<B w.1->o b=t->f b=t:=λb y g=>by rcases z b y with s|s<;>omega
 exact⟨n _ q k,n _ h l,u,Qh h i.size,v.z i (λg=>p _ h g l) h,r,G,D,i.g A (λg=>p _ q g k),x⟩
def feedY(A:Vn m wd sc ct bins size budget)(n:Oa w o t yb d e m wd sc ct bins size budget a c)(z:t≠99)(R:ZK a+ZK b<=200000000000000):C_ 125 #[P_ yb,Q_ b] w λg w'=>g=ZI (Y5 #[ZX ZQ (fdZ m wd sc (az m wd sc a b c) c).1,ZX ZQ (fdZ m wd sc (az m wd sc a b c) c).2])/\Oa w' (Dd w w' o t) t yb d e m wd sc ct bins size budget (az m wd sc a b c) c/\Aa (λr=>o r=t) w w':=by
 have v:=n;have P:=n.lt;obtain⟨x,D,p,k,y,f,u,s,j,G⟩:=n;have W:=A.j
 cases c with
 | true=>
  apply (Zab j).m;rintro g w' ⟨rfl,rfl⟩;have i:az m wd sc a b Z0=a:=rfl;rw[i];exact⟨X,v.z (S:=λ_=>False) (Aa.refl _ _) (λ_ _ g=>g.elim) (Ea _ _ _ _) z,Aa.refl _ _⟩
 | false=>
  obtain⟨rfl,rfl,rfl⟩:=G X
  cases h:Ol m wd sc f with
  | error Q=>
   obtain⟨u,s⟩:=Q;have L:=Nm _ _ _ h;rw[h] at j;apply (Zca u s b w j O).m;rintro g w' ⟨rfl,r,rfl⟩;have i:az m wd sc f b ZZ=f:=(by unfold az;rw[h];rfl);have l:fdZ m wd sc f ZZ=(u,(s:E)):=(by unfold fdZ;rw[h];rfl);have q:E_ w _:=below_drewN y_ r;rw[i,l];exact⟨X,v.z (S:=λ_=>False) (.a q) (λ_ _ g=>g.elim) (Ea _ _ _ _) z,.a q⟩
  | ok a0=>
   rw[h] at j;have i:az m wd sc f b ZZ=f++b:=(by unfold az;rw[h];rfl);have l:fdZ m wd sc (f++b) ZZ=fdA (f++b) (Kr (f++b) (m+1) wd sc (ZK (f++b)+1) [] 0):=(by unfold fdZ;rw[ZdU O];rfl);rw[i,l];apply (Zh3 j y p k O A.sc w_).m;rintro g w' ⟨rfl,M,q⟩;have N:Aa (λr=>_=t) w _:=q.m (λr _ L=>by subst L;exact x);refine⟨X,⟨(Dy P).T x,(Dy k).T D,p,Qh k q.size,y.z q p k,f++b,_,_,M,λ_=>⟨X,?_,?_⟩⟩,N⟩;rw[ZdU O];rfl;rw[ZdU O];rfl
end
theorem ZlY a:wrg a≠0:=by unfold wrg;split<;>omega
def Zps{a b}(c:(Oh a b 0 2 ZZ).2.2.2=0):1<=(Oh a b 0 2 ZZ).1:=by grind [Oh,Bp,ZlY,Ji,Py]
def ZfV{f g i h}:∀c a b d,(Vv f g i h c a b d).2.2=0->F (Vv f g i h c a b d).1=F b+c
 |0,a,b,d,_=>X
 | c+1,a,b,d,e=>by
  unfold Vv at e ⊢;simp only at e ⊢
  by_cases j:(jn f d (i a) (ZL (h a)) (El a g)).2.2=0
  rw[aD j] at e ⊢;rw[ZfV c (a+1) _ _ e,Qe,length_singleton];omega
  grind
theorem Zls a c f e b (d:(iq a c f e b).2.2.2=0):1<=(iq a c f e b).1/\F (iq a c f e b).2.1=c:=by
 unfold iq at d ⊢;simp only at d ⊢
 by_cases g:Pt a (Oh a b 0 2 ZZ).2.2.1 (Oh a b 0 2 ZZ).2.2.2 44=0
 rw[aD g] at d ⊢;have h:(Oh a b 0 2 ZZ).2.2.2=0:=(by grind [Pt,ZlY]);refine⟨Zps h,?_⟩;rw[ZfV c 0 [] _ d];simp
 grind
def Zcn{e d i h}:∀f b c,(∀a∈b,1<=a.1/\F a.2=d)->∀a∈(Kr e d i h f b c).1,1<=a.1/\F a.2=d
 |0,b,c,g=>g
 | f + 1,b,c,g=>by
  unfold Kr
  by_cases j:c<ZK e
  ·rw[aD j]
   by_cases k:F b=200
   ·grind
   rw[aC k];simp only
   by_cases l:(iq e d i h c).2.2.2=0
   ·rw[aD l];refine Zcn f _ _ (λa m=>?_)
    grind [Zls]
   grind
  grind
def Zih{b g e f l d}(q:∀a,a<b+1->g a=ZZ->0<=e a/\e a<=3)(p:Bt (b+1) g e RS.h (Ab f) 0=.ok l)(m:d=(Kr f (b+1) g e (ZK f+1) [] 0).1)(h:Zfr (b+1) l d):kt d/\∀c∈d,F c.2=b+1:=by
 have j:∀c∈d,1<=c.1/\F c.2=b+1:=m ▸ (Zcn _ _ 0 s_);have i:=Vd.a O q _ (Vd.h) (Ja.h (show 1<=b+1 by omega)) p;refine⟨λs o=>⟨⟨(j s o).1,?_⟩,λu r=>?_⟩,λc n=>(j c n).2⟩;exact(i.k _ (by rw[h.1];grind)).2;obtain⟨a,t,rfl⟩:=aM r;have k:a<b+1:=w_;apply i.j a k _;rw[h.2 a k]
 grind
def eS(f:H->ZG)(d:H->E)(c:E)(e:H)(b:RS)(a:H):ES:=Cp Ra (f a) (d a) c e (b.a a) b.k
def esS(c:H)(f:H->ZG)(b:H->E)(a:E)(e:H)(d:RS):U ES:=(range (c+1)).map (eS f b a e d)
def bbS(e:H)(g:H->ZG)(d:H->E)(c:E)(f:H)(b:RS):U (U H):=(range (e+1)).map (λa=>(b.a a).map (Gq (eS g d c f b a)))
section
variable {w w':ZT} {o g:H->H} {t d yb f e m:H} {wd:H->ZG} {sc ct:H->E} {bins:E} {size budget:H} {a b:ZC} {c:ZG}
def whole(m:H)(wd:H->ZG)(sc:H->E)(a:ZC)(c:ZG)(b:RS):Prop:=c=ZZ/\Ol m wd sc a=.ok b/\b.g=0
def clZ(m:H)(wd:H->ZG)(sc:H->E)(a:ZC)(c:ZG):E×E:=if c=Z0 then(1,0) else match Ol m wd sc a with
 |.error (d,b)=>(d,b)
 |.ok _=>(2,ZK a)
def clC(m:H)(wd:H->ZG)(sc:H->E)(a:ZC)(c:ZG):ZG:=if c=Z0 then Z0 else match Ol m wd sc a with
 |.error _=>ZZ
 |.ok _=>Z0
def ZqO(w:ZT)(o:H->H)(t d m:H)(wd:H->ZG)(sc ct:H->E)(bins:E)(size budget:H)(a:ZC)(c:ZG)(f:Ending)(w':ZT):Prop:=
 ((∀b,¬whole m wd sc a c b)/\f=ZI (Y5 #[Y7 ZP,I (clZ m wd sc a c).1,I (clZ m wd sc a c).2])/\Ru w' (Dd w w' o t) t d m wd sc ct bins size budget a (clC m wd sc a c)/\Aa (λe=>o e=t) w w')∨
 (∃b g h,whole m wd sc a c b/\f=ZI (Y5 #[P_ g,I 0,I 0])/\xq (B w.1) w' g h (Bx m (F b.k) budget (esS m wd ct bins size b) (bbS m wd ct bins size b))/\Vo w' d Z0 0 0/\Aa (λe=>e=d) w w')
def Zow(e:Vn m wd sc ct bins size budget)(u:Ru w o t d m wd sc ct bins size budget a c)(z:t≠99):C_ 50 #[P_ d] w λb w'=>ZqO w o t d m wd sc ct bins size budget a c b w':=by
 have v:=u;obtain⟨x,y,N⟩:=u;have D:∀k,_->_->_/\_:=λk A Q=>⟨(e.sc k A).1,(e.sc k A).2 Q⟩
 rcases N with⟨b,n,l,s⟩|⟨b,n,l,f,s⟩|⟨b,h,K,R,a4,a3,a0,W,f,G,a1,a2⟩
 subst b;apply (yg n l w s).m;rintro b w' ⟨rfl,rfl⟩;exact ZM ⟨λh g=>by simp[whole] at g,X,v.z (S:=λ_=>False) (Aa.refl _ _) (λ_ _ b=>b.elim) (Ea _ _ _ _) z,Aa.refl _ _⟩;subst b;apply (Za4 n l w s (Nm _ _ _ f)).m;rintro b w' ⟨rfl,j,rfl⟩;have i:E_ w _:=below_drewN y_ j;have p:clZ m wd sc a ZZ=(n,(l:E)):=(by unfold clZ;rw[f];rfl);have q:clC m wd sc a ZZ=ZZ:=(by unfold clC;rw[f];rfl);refine ZM ⟨λh g=>(by have:=g.2.1;grind),by rw[p],?_,.a i⟩;rw[q];exact v.z (S:=λ_=>False) (.a i) (λ_ _ b=>b.elim) (Ea _ _ _ _) z
 subst b;have p:clZ m wd sc a ZZ=(2,(ZK a:E)):=(by unfold clZ;rw[f];rfl);have q:clC m wd sc a ZZ=Z0:=by unfold clC;rw[f];rfl
 by_cases j:h.g=0
 have g:=Sw (ct:=ct) D e.g e.i (oj_ e.g e.u) e.h f;apply (yh Ra (eS wd ct _ _ h) G j (Ja.a O D _ (Ja.h O) f) e.j e.w g.l (λk=>X) g.ok g.num g.k (oj_ e.g e.u) e.h e.g e.i).m;rintro b w' ⟨M,L,rfl,P,r,i⟩;exact ZJ ⟨h,M,L,⟨X,f,j⟩,X,P,r,i⟩;apply (ZdE G j).m;rintro b w' ⟨rfl,r,i⟩;refine ZM ⟨λM g=>by have:=g.2.1;rw[f] at this;injection this with this;subst this;exact j g.2.2,by rw[p],?_,i.m (λL _ g=>by subst g;exact x)⟩;rw[q];exact⟨(Dy y).T x,Qh y i.size,ZM ⟨X,0,0,r⟩⟩
def ZqP(w:ZT)(o:H->H)(t yb f e m:H)(wd:H->ZG)(sc ct:H->E)(bins:E)(size budget:H)(a:ZC)(c:ZG)(g:Ending)(w':ZT):Prop:=
 ((∀b,¬whole m wd sc a c b)/\g=ZI (Y5 #[Y7 ZP,I (clZ m wd sc a c).1,I (clZ m wd sc a c).2])/\Oa w' (Dd w w' o t) t yb f e m wd sc ct bins size budget a (clC m wd sc a c)/\Aa (λd=>o d=t) w w')∨
 (∃b h,whole m wd sc a c b/\g=ZI (Y5 #[P_ h,I 0,I 0])/\ep w w' h (F b.k) (Bx m (F b.k) budget (esS m wd ct bins size b) (bbS m wd ct bins size b))/\ra w' yb f (m+1) e bins size budget a 0 0 Z0/\Aa (λd=>d=yb) w w')
def ZjG(g:Vn m wd sc ct bins size budget)(D:Oa w o t yb f e m wd sc ct bins size budget a c)(W:t≠99)(b4:ZK a<=200000000000000):C_ 126 #[P_ yb] w λi w'=>ZqP w o t yb f e m wd sc ct bins size budget a c i w':=by
 have P:=D;have a9:=D.lt;have a5:∀b,_->_->_/\_:=λb h a8=>⟨(g.sc b h).1,(g.sc b h).2 a8⟩;obtain⟨Q,a6,G,u,R,d,M,L,r,a7⟩:=D
 cases c with
 | true=>
  apply (sw r).m;rintro i w' ⟨rfl,rfl⟩;exact ZM ⟨λq k=>by simp[whole] at k,X,P.z (S:=λ_=>False) (Aa.refl _ _) (λ_ _ i=>i.elim) (Ea _ _ _ _) W,Aa.refl _ _⟩
 | false =>
  obtain⟨rfl,rfl,rfl⟩:=a7 X
  cases j:Ol m wd sc d with
  | error k=>
   obtain⟨M,L⟩:=k;have v:=Nm _ _ _ j;rw[j] at r;have z:clZ m wd sc d ZZ=(M,(L:E)):=(by unfold clZ;rw[j];rfl);have A:clC m wd sc d ZZ=ZZ:=(by unfold clC;rw[j];rfl);apply (zz M L w r O).m;rintro i w' ⟨rfl,n,rfl⟩;have l:E_ w _:=below_drewN y_ n;refine ZM ⟨λq k=>(by have:=k.2.1;grind),by rw[z],?_,.a l⟩;rw[A];exact P.z (S:=λ_=>False) (.a l) (λ_ _ i=>i.elim) (Ea _ _ _ _) W
  | ok q=>
   rw[j] at r;have z:clZ m wd sc d ZZ=(2,(ZK d:E)):=(by unfold clZ;rw[j];rfl);have A:clC m wd sc d ZZ=Z0:=(by unfold clC;rw[j];rfl);have s:Bt _ _ _ _ _ 0=_:=j;have a3:=Zco (S:=d) (n:=m+1) (wd:=wd) (sc:=sc) O;refine(ZeL yb f m e size bins d wd sc ct (λb=>Cp Ra (wd b) (ct b) bins size (Bn (Kr d (m+1) wd sc (ZK d+1) [] 0).1 b) (Jp (Kr d (m+1) wd sc (ZK d+1) [] 0).1)) w r R G u g.j g.sc O g.w (oj_ g.g g.u) g.h g.g g.i g.ct ?_).m ?_
   ·rintro a1 rfl v
    rcases a3 with⟨y,q1,n,p,x,l⟩|⟨y,q1,n,p,x⟩|⟨q1,n,p⟩
    rw[s] at q1;injection q1 with q1;subst q1;have⟨N,a0⟩:=Zih a5 s X l;refine⟨N,a0,λb=>X,λb h=>?_⟩;have i:=(Sw (ct:=ct) a5 g.g g.i (oj_ g.g g.u) g.h s).ok b h;rw[l.1,l.2 b h] at i;exact i;omega;omega
   rintro i w' ⟨a4,v,a0⟩
   rcases a3 with⟨y,q1,n,p,x,l⟩|⟨y,q1,n,p,x⟩|⟨q1,n,p⟩
   ·rw[s] at q1;injection q1 with q1;subst q1
    rcases a0 with⟨N,_⟩|⟨_,b0,rfl,b3⟩
    exact absurd p N;refine ZJ ⟨q,b0,⟨X,j,n⟩,X,?_,a4,v⟩;have b5:F q.k=F (Kr d (m+1) wd sc (ZK d+1) [] 0).1:=by rw[l.1,length_map]
    have a1:∀b,b<m+1->Cp Ra (wd b) (ct b) bins size (Bn (Kr d (m+1) wd sc (ZK d+1) [] 0).1 b) (Jp (Kr d (m+1) wd sc (ZK d+1) [] 0).1)=eS wd ct bins size q b:=λb h=>by unfold eS;rw[l.1,l.2 b h];rfl
    have b1:esR m (λb=>Cp Ra (wd b) (ct b) bins size (Bn (Kr d (m+1) wd sc (ZK d+1) [] 0).1 b) (Jp (Kr d (m+1) wd sc (ZK d+1) [] 0).1))=esS m wd ct bins size q:=by unfold esR esS;exact map_congr_left (λb h=>a1 b (by simpa using h))
    have b2:Ud m (Kr d (m+1) wd sc (ZK d+1) [] 0).1 (λb=>Cp Ra (wd b) (ct b) bins size (Bn (Kr d (m+1) wd sc (ZK d+1) [] 0).1 b) (Jp (Kr d (m+1) wd sc (ZK d+1) [] 0).1))=bbS m wd ct bins size q:=by
     unfold Ud bbS;refine map_congr_left (λb h=>?_)
     have a2:b<m+1:=by simpa using h
     unfold btR;show List.map (Gq (Cp Ra (wd b) (ct b) bins size (Bn (Kr d (m+1) wd sc (ZK d+1) [] 0).1 b) (Jp (Kr d (m+1) wd sc (ZK d+1) [] 0).1))) (Bn (Kr d (m+1) wd sc (ZK d+1) [] 0).1 b)=_;rw[a1 b a2,l.2 b a2];rfl
    grind
   ·rw[s] at q1;injection q1 with q1;subst q1
    rcases a0 with⟨_,rfl⟩|⟨N,_⟩
    rw[p,x];refine ZM ⟨λy k=>by have:=k.2.1;rw[j] at this;injection this with this;subst this;exact n k.2.2,by rw[z],?_,v.m (λa1 _ k=>by subst k;exact Q)⟩;rw[A];exact⟨(Dy a9).T Q,(Dy u).T a6,G,Qh u v.size,R.z v G u,d,0,0,a4,λi=>by cases i⟩;omega
   grind
end
def xm.a{h g k m q l i s v t p n u o}(a:xm h g k m q l i s v t p n u o):∃K c,InX h K c k m l q i s v t p n u o RS.h 0/\(∀b,K b∨c b->g<=b/\b<B h.1)/\g<=k/\g<=m:=by
 have r:=a.r.w;unfold RB at r;refine⟨λb=>g<=b/\∃f d,h.1[b]? =T (O_ f d)/\(d=3∨d=261∨d=263),λb=>b=l∨b=i,⟨a.q,a.r.r,⟨N_,N_,N_,λ_=>N_,?_⟩,?_,?_⟩,?_,a.t,a.r.t.1⟩
 ·refine⟨a.r.w,rn_,rn_,rn_,⟨_,a.r.u,?_,λw x=>?_⟩,λ_ _=>rn_,Wg.a a.r.fs ⟨a.r.t.2.1,?_⟩ (λb f d c e j=>⟨c,f,d,e,w_⟩),λ_ _ _ _ _=>ZM X,λ_ _=>ZM X,ZM X,ZJ X,?_,?_,?_,?_,?_,?_⟩;simp[YV]
  ·rw[<- Array.getElem?_toList,Tl]
   grind
  ·have⟨f,c,_⟩:=a.r.fs
   grind
  intro b c;simp[ZW] at c;intro b c;simp[ZW] at c;intro b c;simp[ZW] at c;intro w b _ c;simp[ZW] at c
  ·rintro b ⟨_,f,d,e,j⟩;refine⟨(Qb e).1,?_⟩;rintro(c|c)
   ·grind
   rw[c,a.r.u] at e;grind
  rintro b (c|c)
  ·grind
  rw[c];exact(Qb a.r.u).1
 refine⟨?_,?_⟩;rintro⟨_,f,d,e,j⟩;rw[a.q] at e;grind;rintro(c|c);have:=a.q;grind;have:=a.q;rw[c,a.r.u] at this;simp at this;refine⟨?_,?_⟩;rintro⟨_,f,d,e,j⟩;rw[a.r.r] at e;grind;rintro(c|c);have:=a.r.r;grind;have:=a.r.r;rw[c,a.r.u] at this;simp at this;rintro b (c|c|c)
 ·grind
 rw[c];exact⟨a.r.t.2.2.1,(Qb r).1⟩;rw[c];exact⟨a.r.t.2.2.2,(Qb a.r.u).1⟩
section
variable {w:ZT} {o:H->H} {t m:H} {wd:H->ZG} {sc ct:H->E} {bins:E} {size budget:H}
def Vn.N(a:Ih (m+1) bins size budget wd sc ct=Z0):Vn m wd sc ct bins size budget:=by
 have⟨_,b,c,d,e,g,_,h,j⟩:=Nb a;refine⟨b,λi f=>?_,λi f k=>?_,c,d,e,O,O⟩
 ·grind [Nf]
 grind [Nf]
def Znu g k {q}(s:Du w g k (m+1) wd sc ct)(x:Ih (m+1) bins size budget wd sc ct=Z0):C_ 31 #[Y9 #[V (T (J g k)) (m+1:H) q,I bins,I size,I budget]] w λh b=>∃a,h=ZI (Y5 #[Y7 (T ⟨a,0,ZP⟩),ZX ZQ 0])/\B w.1<=a/\Ru b (Dd w b o t) t a m wd sc ct bins size budget ⟨#[]⟩ ZZ/\E_ w b:=by apply (ZeQ _ s x).m;rintro h b ⟨a,A,p,z,n,rfl,u,v⟩;have⟨K,l,d,c,i,r⟩:=u.a;have j:=(Qb d.q).1;have y:=(Qb d.r).1;exact⟨a,X,i,⟨Kk i j,j,ZJ (ZJ ⟨X,RS.h,K,l,A,z,p,n,X,d,λe f=>⟨(c e f).2,Kk (c e f).1 (c e f).2⟩,Kk r y⟩)⟩,v⟩
def Znv{e j k}(n:Du w e j (m+1) wd sc ct)(q:Ih (m+1) bins size budget wd sc ct=Z0):C_ 123 #[Y9 #[V (T (J e j)) (m+1:H) k,I bins,I size,I budget]] w λf b=>∃a d c,f=ZI (Y5 #[Y7 (T ⟨a,0,ZP⟩),ZX ZQ 0])/\B w.1<=a/\Oa b (Dd w b o t) t a d c m wd sc ct bins size budget ⟨#[]⟩ ZZ/\E_ w b:=by apply (Zcf n q).m;rintro f b ⟨a,d,c,rfl,i,r,s,l,g,h,p⟩;have u:=(Qb i).1;exact⟨a,d,c,X,g,⟨Kk g u,Kk l h,s,h,r,⟨#[]⟩,0,0,i,λ_=>⟨X,X,X⟩⟩,p⟩
end
section
variable {w w':ZT} {dp gb db yb base n:H} {D:Ft} {vF vB vC vX:ZY} {kvs:U (ZY×ZY)} {bvs cvs:U ZY} {a:U XS}
def ZhD x h (l:Pj n D a):∃q p:E,∀d,Ly d dp gb db yb base n D vF vB vC vX kvs bvs cvs a->(C_ 44 #[P_ gb,I x,I h] d (U_ (Y5 #[ZX ZQ q,ZX ZQ p]) d))/\(C_ 138 #[P_ yb,I x,I h] d (U_ (Y5 #[ZX ZQ q,ZX ZQ p]) d)):=by
 have b:=l.ok;have t:=(b.j _ (b.f b.k)).y;have G:=b.w;have A:=b.i
 by_cases e:0<=x/\x<(n:E)/\0<=h/\h<(F D.g:E)
 ·obtain⟨g,v⟩:∃g:H,x=g:=⟨ZL x,O⟩;obtain⟨i,u⟩:∃i:H,h=i:=⟨ZL h,O⟩;subst v u;have o:g<n:=O;have r:i<F D.g:=O;refine⟨_,0,λd j=>⟨zg j.x b r o l.g l.G,?_⟩⟩;have w:F a<=1000000:=(by rw[l.g.length_eq];have:=b.u;omega);have s:=oz n g i _ _ _ d j.y.h ⟨s_,by simp;have:=b.l;omega,λc e=>?_,λc e g=>?_,λc e=>?_,λc e=>?_⟩ o O w;rw[l.i g i o r];exact s
  all_goals
   simp only[length_map] at e;have k:=b.f e
  have f:Z (D.f.map BS.N) c []=(Z D.f c Df).N:=w_;rw[f];exact(b.j _ k).y
  ·have f:Z (D.f.map BS.N) c []=(Z D.f c Df).N:=w_;rw[f,Qc]
   rcases Nat.lt_or_ge g (F (Z D.f c Df).N) with m|m
   ·rw[Qd m];have y:=(b.j _ k).k _ (Qf m);have z:=b.h _ k
    grind
   grind
  have f:Z (D.f.map BS.fs) c []=(Z D.f c Df).fs:=w_;rw[f];have:=b.r _ k;omega;have f:Z (D.f.map BS.fs) c []=(Z D.f c Df).fs:=w_;rw[f];exact b.n _ k
 refine⟨0,1,λd j=>⟨Zd7 j.x e O b.k t O,?_⟩⟩;exact(Zcc j.y.h.j e).m (λ_ _ c=>⟨c.1,c.2 ▸ y_⟩)
def Zdl{a8 S G L W M x g N a1 a4 Q P a3 a2 a5 wc a0}(b:Ly w dp gb db yb base n D vF vB vC vX kvs bvs cvs a)(R:Pj n D a):C_ 77 #[P_ a8,P_ dp,Y9 #[I 9,I S,I G,V N Q P,I L,I W,I M,V a1 a3 a2,V a4 a5 wc,Q_ a0,I x,I g]] w (U_ (ZR Z0) w):=by
 have⟨A,y,q⟩:=ZhD (dp:=dp) (gb:=gb) (db:=db) (yb:=yb) (base:=base) (vF:=vF) (vB:=vB) (vC:=vC) (vX:=vX) (kvs:=kvs) (bvs:=bvs) (cvs:=cvs) x g R;have z:K (∀c,Below _ w c->_):=λc d=>b.q d;have a6:K (∀c,_->Calls _ _ _ c λh _=>_/\_/\_):=λc d=>(q c (b.q d)).1.m (λ_ _ b=>⟨b.1,d.T (b.2.m d.size),b.2⟩);have a7:K (∀c,_->Calls _ _ _ c λh _=>_/\_/\_):=λc d=>(q c (b.q d)).2.m (λ_ _ b=>⟨b.1,d.T (b.2.m d.size),b.2⟩);clear b R q;refine dl_ ?_;go_enter func77,ntmps77;go_upto_region 6 with fail;generalize k:ZN w (O_ #[I 9,I S,I G,V N Q P,I L,I W,I M,V a1 a3 a2,V a4 a5 wc,Q_ a0,I x,I g] 93)=f;have i:E_ w f:=(by rw[<- k];exact r_);have l:D_ f (B w.1) 10 (I x):=by rw[<- k];simp[go_sem]
 have m:D_ f (B w.1) 11 (I g):=(by rw[<- k];simp[go_sem]);clear k;have⟨o,_,_,_,_⟩:=(z f i).cells;go_cut [8,9] (λh r t=>h=I A/\r=I y/\K (E_ f t))
 case first=>
  go_region_held3 (λw'=>D_ w' dp 0 (P_ gb)/\D_ w' (B w.1) 10 (I x)/\D_ w' (B w.1) 11 (I g)) (first|exact⟨o,l,m⟩|exact⟨Ah aA o,Ah aA l,Ah aA m⟩) (first|(go_at_call 44;apply (a6 _ i.drew).m;rintro h s ⟨rfl,e,r⟩;have aA:Below (B f.1) _ _:=y_.drew.T r))
  all_goals go_wp2
  all_goals go_meet
  all_goals exact⟨X,X,aA⟩
 obtain⟨rfl,rfl,j⟩:=hcut;have u:=Ah j l;have v:=Ah j m;have e:=i.T (j.m i.size);have⟨_,p,_,_,_⟩:=(z wc e).cells;clear o l m i j;generalize wc=s at *;go_upto_region 7 with fail;go_cut [10,11] (λh r t=>h=I A/\r=I y/\K (E_ s t))
 case first=>
  go_region_held3 (λw'=>D_ w' dp 1 (P_ yb)/\D_ w' (B w.1) 10 (I x)/\D_ w' (B w.1) 11 (I g)) (first|exact⟨p,u,v⟩|exact⟨Ah aA p,Ah aA u,Ah aA v⟩) (first|(go_at_call 138;apply (a7 _ e.drew).m;rintro h a9 ⟨rfl,t,r⟩;have aA:Below (B s.1) _ _:=y_.drew.T r))
  all_goals go_wp2
  all_goals go_meet
  all_goals exact⟨X,X,aA⟩
 obtain⟨rfl,rfl,r⟩:=hcut;have t:=Y (e.T (r.m e.size));clear p u v e r;go_wp2_with fail
 apply (Ee).m;rintro h b1 ⟨rfl,a9⟩;obtain rfl:=a9.s;go_wp2_with fail
 apply (Ee).m;rintro h b2 ⟨rfl,b0⟩;obtain rfl:=b0.s;go_wp2;go_ret;exact⟨s_,t⟩
end
end Go.Proofs.YtfcgnpchbcmdeaaGreat
