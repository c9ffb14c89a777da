import Derived.Test.YtfcgnpchbcmdeaaGreatZsbc
import Derived.Test.YtfcgnpchbcmdeaaGreatZsbd
open ByteArray renaming size->ZK
open List renaming length->F,getD->Z,drop->ZF
open _root_ renaming List->U,Int->E,Bool->ZG,Nat->H,rfl->X,ByteArray->ZC,Array->YZ,Option->Y0
open Bool renaming true->Z0,false->ZZ
open Option renaming some->T,none->ZP,some->Z2
open Go.World renaming cell?->ZV,alloc->ZN,ownsRow->ZD,drewN->Y1,setCell->ZO,grownBy->Y3
open Go.Value renaming bool->ZR,slice->ZH,string->YW,int->ZX,agg->Y9,tuple->Y5,pointer->Y7,ownBlock->ZW
open Go renaming strOfNums->ZB,World->ZT,Value->ZY,madeCells->YV,maxLen->Y2
open Go.Ending renaming returned->ZI
open Array renaming size->B,toList->Y4,setIfInBounds->YS
open Go.IntKind renaming i64->ZQ
open Int renaming toNat->ZL
open Go.Proofs renaming intOf->ZA
open Decidable renaming decide->ZE
open Or renaming inr->ZJ,inl->ZM
namespace Go.Proofs.YtfcgnpchbcmdeaaGreat
set_option linter.all false
set_option maxRecDepth 100000
set_option maxHeartbeats 16000000
open Go.RowKit List Nat Go.World Go.Proofs.Tryz Go.Value Go.IntKind Go.Lib Go.Region
structure KnR(k):Prop where
 x:Vc k
 f:∀a∈k.e.f,-4294967296<=a/\a<=1000000000000
 c:∀b∈k.e.c,ZK b<=1000
 d:k.d<=1000000
structure BuR(e)(b:U KS)(a:BS):Prop where
 y:F a.N=e
 p:F a.fs<=1000
 n:∀c∈a.fs,c<F b
 A:∀d,Z a.fs d 0<=1000000
 h:a.g=Bk b a.fs
 i:a.g<64
 val:∀f,Z a.N f 0<=1000000
def ZoQ(a:ZG):U E:=if a=Z0 then[119] else[110]
def ZoO{a}(d:Vc a){c}:Ll a++c=ZoQ a.e.a++(Ba a.d 1++(Ba ((F a.e.f:E)+F a.e.c) 1++(Lr a.e.f++(Lw a.e.c++c)))):=by
 unfold Ll ZoQ
 cases b:a.e.a
 rw[d.2.2.2 b];simp[knB,ES.b,Kz,b,Lw,Ps];rw[d.2.2.1 b];simp[ng,ES.b,Kz,b,Lr,Ps]
def Zop{a:BS}{b}:Dq a++b=Ba (F a.fs) 1++(a.fs.flatMap (λc:H=>Ba c 1)++(Ia a.N a.g++b)):=by simp only[Dq,Ps,Sr,append_assoc,map_eq_flatMap]
def Wy(d:H)(b:U KS)(a:U BS)(c:U XS):U E:=[71,82,(d:E)%256,F b%256]++b.flatMap Ll++[(F a:E)%256]++a.flatMap Dq++Ba (F c) 2++c.flatMap xB
def ja.get{d m o l a}(b:ja d m o l a){i}(e:i<F a):∃c p g j h k,o=L_ c (F a) p/\ZV d (J c (i*4))=T (ZR (Z a i Aj).e.a)/\ZV d (J c (i*4+1))=T (ZH g (F (Z a i Aj).e.f) j)/\ZV d (J c (i*4+2))=T (ZH h (F (Z a i Aj).e.c) k)/\ZV d (J c (i*4+3))=T (I (Z a i Aj).d)/\Ad d m (ZH g (F (Z a i Aj).e.f) j) (Z a i Aj).e.f/\Bj d m (ZH h (F (Z a i Aj).e.c) k) (Z a i Aj).e.c:=by
 have⟨c,q,n,_,_,_,_,f⟩:=b.M.at (i:=i) (b.a ▸ e);rw[b.a] at n;have u:=b.j i e;have⟨g,j,r⟩:=(b.j i e).1.d;have⟨h,k,s⟩:=(b.j i e).2.a;have t:Z (zipWith Bs a l) i []=Bs (Z a i Aj) (Z l i Lm):=(by simp[Z,getElem?_zipWith,e,show i<F l by rw[b.y];exact e]);rw[t] at f;exact⟨c,q,g,j,h,k,n,f 0 O _ X,f 1 O _ (by rw[<- r];rfl),f 2 O _ (by rw[<- s];rfl),f 3 O _ X,w_,w_⟩
def Hu{d:Type}{a:U d}{b} c (e:b<F a):Z a b c∈a:=w_
def Zr a:ZB (Ab a)=a:=by
 cases a with
 | mk b=>
  unfold ZB Ab;congr 1;apply Array.ext';simp[map_map,Function.comp_def]
structure SB(f wr:ZT)(e:ZC)(d c:U E):Prop where
 s:∃a,e=ZB a/\a++d=c
 z:F c<=1000000
 b:E_ f wr
section
variable {w wr W:ZT} {S:ZC} {R R' a:U E}
def SB.size(b:SB w wr S R a):ZK S+F R<=1000000:=by
 obtain⟨⟨d,rfl,rfl⟩,c,_⟩:=b;rw[Bi]
 simpa using c
def SB.e(b:SB w wr S R a)(c:R=R'):SB w wr S R' a:=c ▸ b
def SB.f{c}(b:SB w wr S R a)(d:E_ W c):K (SB W c S R a):=⟨b.s,b.z,d⟩
def SB.P{c d}(e:SB w wr S (c++R) a)(g:E_ w W)(b:d=ZB c):(¬9223372036854775807<ZK S+ZK d)/\K (SB w W (S++d) R a):=by have h:=e.size;subst b;obtain⟨⟨f,rfl,b⟩,i,_⟩:=e;rw[Bi] at *;rw[Qe] at h;exact⟨by rw[Bi];omega,⟨f++c,Nn _ _,by simpa using b⟩,i,g⟩
def LoP(w:ZT)(S:ZC)(R a:U E)(c:Ending)(d:ZT):Prop:=∃b,c=ZI (YW b)/\(¬9223372036854775807<ZK S+ZK b)/\K (SB w d (S++b) R a)
def SB.call{c:H}{b:YZ ZY}{e}(f:SB w wr S (e++R) a)(g:E_ w W)(h:C_ c b W (U_ (YW (ZB e)) W)):C_ c b W (LoP w S R a):=h.m λ_ _ d=>⟨_,d.1,f.P (bt_ g d.2) X⟩
def SB.A{x b}(c:SB w wr S (Ba x b++R) a)(f:E_ w W)(g:b<=4:=by omega)(d: -4294967296<=x:=by omega)(e:x<=1000000000000:=by omega):C_ 135 #[I x,I (b:H)] W (LoP w S R a):=c.call f (Zcd x b W g d e)
def LoI{d:Type}(w:ZT)(e:d->U E)(c:U d)(R a:U E)(f g:ZY)(wr:ZT):Prop:=∃(b:H) (S:ZC),f=YW S/\g=I b/\b<=F c/\K (SB w wr S ((ZF b c).flatMap e++R) a)
def SB.d{f:Type}{d:f->U E}{c:U f}{b}(g:SB w wr S ((ZF b c).flatMap d++R) a)(h)(e:b<F c):∃R',K (SB w wr S (d (Z c b h)++R') a)/\K (R'=(ZF (b+1) c).flatMap d++R)/\(0:E)<=b/\(b:E)<F c:=by refine⟨_,g.e ?_,X,F_ _ _⟩;rw[aN e,flatMap_cons,append_assoc];simp[Z,e]
def SB.c{c:Type}{e:c->U E}{b:U c}(d:SB w wr S ((ZF (F b) b).flatMap e++R) a):K (SB w wr S R a):=d.e s_
end
def ZeJ{R f1} j {g9 g7 g8 h0 g3 f2 f4 e c} d i (s:RfX i f1 R j g9 g7 g8 h0 g3 f2 f4 e (c.map BS.fs) (c.map BS.N) d)(d2:∀K∈e,KnR K)(o:∀l∈c,BuR j e l)(i4:F e<=1000)(i0:F c<=1000)(i7:F d<=100000)(t:∀x∈d,x.M<=1000000/\x.f<=1000000/\x.i<=1000000)(g0:j<=200)(b5:F (Wy j e c d)<=1000000)(d1:Ec (Wy j e c d)):C_ 76 #[P_ R] i (U_ (YW (ZB (Wy j e c d++Ba (Gy (Wy j e c d)) 4))) i):=by
 have⟨N,c4⟩:=Y_ s.h s.A;have a:Hid (SB i i ⟨#[71,82]⟩ (Ba j 1++(Ba (F e) 1++(e.flatMap Ll++(Ba (F c) 1++(c.flatMap Dq++(Ba (F d) 2++(d.flatMap xB++[]))))))) (Wy j e c d)):=⟨⟨[71,82],X,by simp[Wy,Ps]⟩,b5,.refl _ _⟩;have e1:Hid (∀W,C_ 134 #[Q_ (ZB (Wy j e c d))] W λf b=>_/\E_ W b):=λW=>fx _ W d1 b5;obtain⟨e9,h7,rfl⟩:=c4.h.1;have f6:=n_ 0 s.v;have f7:=n_ 1 s.v;have i9:=lt_ f6;have⟨j1,Q,a7⟩:=N.i;have⟨j2,f8,a8⟩:=N.k;have⟨j3,c7,a9⟩:=N.l;obtain⟨e5,h4,rfl⟩:=a7.1;obtain⟨e6,h5,rfl⟩:=a8.1;obtain⟨e7,h6,rfl⟩:=a9.1;rw[length_map] at Q f8;have y:=x6_ a7 a8 a9 d2 o t;clear s d2 o t a7 a8 a9 b5 d1;generalize ZB (Wy j e c d++Ba (Gy (Wy j e c d)) 4)=h3 at *;generalize Wy j e c d=v at *
 have⟨e2,c9⟩:=ez_ (Ba (F c) 1++(c.flatMap Dq++(Ba (F d) 2++(d.flatMap xB++[]))));rw[c9] at a;refine dl_ ?_;go_enter func76,ntmps76;go_upto_region 1 with fail;refine rg_ i 13 λb=>?_;refine G_ ?_;refine oc_ 4 (a.A b) ?_;rintro f a1 ⟨b8,rfl,p,a⟩;replace p:¬_<2+ZK b8:=p;refine⟨_,X,a.b,λb=>G_ ?_⟩;refine oc_ 11 (a.A b) ?_;rintro f c0 ⟨d7,rfl,k,a⟩;rw[ByteArray.size_append] at k;replace k:¬_<2+_+_:=k;refine⟨_,X,a.b,λb=>G_ ?_⟩;refine le_ ?_;clear b p k;go_upto_region 3 with fail;go_loopw [3,4] (LoI i Ll e e2 v) (λ_ g _=>F e-ZL (ZA g))
 case atStart=>exact⟨0,_,X,X,v_,a⟩
 clear a;obtain⟨S,h2,rfl,rfl,i2,a⟩:=hrel;have M:=Ah a.b f7
 by_cases b1:S<F e
 ·have⟨g6,h8,e8,f3,f0,f5,D,a3,a4,a5,a6,b6,b7⟩:=c4.get b1;obtain rfl:e9=T ⟨g6,0,ZP⟩:=(by injection D);have⟨c5,a,f9,G⟩:=a.d Aj b1;have w:=y.2.2.2.1 _ (Hu Aj b1);replace a:=Y (a.e (ZoO w.x));clear D;generalize (Z e) S Aj=K at *;obtain⟨⟨c1,n,g⟩,c8⟩:=K;simp only at a3 a4 a5 a6 b6 b7 a;have L:=x4_ b6 b7 w.f w.c;have i1:c8<=1000000:=w.d;have i5:F n+F g<=2000:=add_le_add w.x.1 w.x.2.1;have c2:=Ah a.b a3;have p:=Ah a.b a4;have k:=Ah a.b a5;have c3:=Ah a.b a6;clear a3 a4 a5 a6 b6 b7 w;go_upto_region 6 with fail;have⟨z,d5,o,t⟩:=na_ wr #[ZR c1,V e8 (F n) f3,V f0 (F g) f5,I c8] 227;rw[<- d5];have a0:=Y (bt_ a.b o);have P:=n_ 0 t;have d8:=n_ 1 t;have d9:=n_ 2 t;have h1:=n_ 3 t;clear d5 t o M c2 p k c3;generalize (B wr.1)=h9 at *
  have d6:=lt_ P;have⟨g2,b4⟩:=W_ (ZB (ZoQ c1));have⟨c2,a⟩:=(a.f (W:=z) (.refl _ _)).P (.refl _ _) b4;go_upto_if 42 with fail
  go_cut [6] (λh m=>h=YW g2/\m=z)
  case first=>cases c1<;>(subst b4;go_wp2;go_meet;exact⟨X,X⟩)
  obtain⟨rfl,g1⟩:=hcut;obtain rfl:=g1.s;clear b4 P;have g5:i64.wrap (F n+F g)=F n+F g:=Au O O;have⟨e3,d0⟩:=ez_ (Lw g++c5);rw[d0] at a;go_upto_region 9 with fail;refine rg_ z 16 λb=>?_;refine G_ ?_;refine oc_ 5 (a.A b) ?_;rintro f a1 ⟨b8,rfl,p,a⟩;rw[ByteArray.size_append] at p;refine⟨_,X,a.b,λb=>G_ ?_⟩;refine oc_ 14 (a.A b) ?_;rintro f c0 ⟨d7,rfl,k,a⟩;rw[ByteArray.size_append,ByteArray.size_append] at k;refine⟨_,X,a.b,λb=>G_ ?_⟩;refine le_ ?_;clear b c2 p k g5 h1;go_upto_region 11 with fail;go_loopw [3,7] (LoI z (λx=>Ba x 4) n e3 v) (λ_ h _=>F n-ZL (ZA h))
  case atStart=>exact⟨0,_,X,X,v_,a⟩
  clear a;obtain⟨h,e4,rfl,rfl,d3,a⟩:=hrel;have M:=Ah a.b d8
  by_cases b3:h<F n
  ·obtain⟨a2,rfl,_,_,q⟩:=L.1.b X b3;have m:=Ah a.b (Ah a0 q.1);have A:=L.2.2.1 _ (Hu 0 b3);have⟨c6,a,b0,G⟩:=a.d 0 b3;clear q;generalize (Z n) h 0=x at *;go_wp2_with fail
   apply (a.A a.b).m;rintro f a1 ⟨r,rfl,u,a⟩;clear M m;refine J_ ?_;exact⟨h+1,_,X,g_,O,a.e b0⟩
  obtain rfl:h=F n:=O;have d4:=Int.lt_irrefl (F n);replace a:=a.c;rw[<- d0] at a;generalize wr=j4 at *;go_upto_region 15 with fail;clear M;go_loopw [3,8] (LoI z (λr:ZC=>(ZK r:E)%256::Ab r) g c5 v) (λ_ m _=>F g-ZL (ZA m))
  case atStart=>exact⟨0,_,X,X,v_,a⟩
  clear a;obtain⟨u,a2,rfl,rfl,i3,a⟩:=hrel;have m:=Ah a.b d9
  by_cases b2:u<F g
  ·obtain⟨j0,rfl,_,q⟩:=L.2.1.d X b2 ByteArray.empty;have e0:=Ah a0 q;have A:=Ah a.b e0;have g4:=lt_ e0;have i6:=L.2.2.2 _ (Hu ByteArray.empty b2);have⟨c6,a,b0,G⟩:=a.d ByteArray.empty b2;clear q;generalize (Z g) u ByteArray.empty=b9 at *;replace a:=Y (a.e (R':=Ba (ZK b9) 1++(Ab b9++c6)) X);go_upto_region 17 with fail;refine rg_ z 15 (λb=>?_) (hS:=a.b.drew);refine G_ ?_;refine oc_ 7 (a.A b) ?_;rintro f a1 ⟨r,rfl,p,a⟩;have o:=a.b;have⟨k,a⟩:=a.P o (Zr b9).s;rw[ByteArray.size_append] at k;refine⟨_,X,o,λb=>G_ ?_⟩;refine le_ ?_;clear b o m A;refine J_ ?_;exact⟨u+1,_,X,g_,O,a.e b0⟩
  obtain rfl:u=F g:=O;have q:=Int.lt_irrefl (F g);replace a:=(a.c.e f9).f (bt_ a0 a.b);refine J_ ?_;exact⟨S+1,_,X,g_,O,a⟩
 obtain rfl:S=F e:=O;have f0:=Int.lt_irrefl (F e);have m:=Ah a.b Q;replace a:=a.c;rw[<- c9] at a;have⟨d0,c2⟩:=ez_ (Ba (F d) 2++(d.flatMap xB++[]));rw[c2] at a;go_wp2_with fail
 apply (a.A a.b).m;rintro f a1 ⟨r,rfl,u,a⟩;clear M m;go_upto_region 20 with fail;clear u;go_loopw [3,9] (LoI i Dq c d0 v) (λ_ g _=>F c-ZL (ZA g))
 case atStart=>exact⟨0,_,X,X,v_,a⟩
 clear a;obtain⟨l,e4,rfl,rfl,o,a⟩:=hrel;have m:=Ah a.b Q
 by_cases w:l<F c
 ·obtain⟨e3,f3,b3,b7,D,P,a0⟩:=y.1.2 l (by rw[length_map];exact w);obtain⟨e8,f5,b2,b6,b9,b4,a4⟩:=y.2.1.2 l (by rw[length_map];exact w);obtain rfl:e5=T ⟨e3,0,ZP⟩:=(by injection D);obtain rfl:e6=T ⟨e8,0,ZP⟩:=(by injection b9);rw[show Z (c.map BS.fs) l []=(Z c l Df).fs by simp[Z,w]] at P a0;rw[show Z (c.map BS.N) l []=(Z c l Df).N by simp[Z,w]] at b4 a4;have⟨d5,a,d9,G⟩:=a.d Df w;have n:=y.2.2.2.2.1 _ (Hu Df w);replace a:=Y (a.e (Zop));clear D b9;generalize (Z c) l Df=g at *;have e0:=n.p
  have c8:Hid (∀W,E_ i W->C_ 137 #[P_ R,V b3 (F g.fs) b7] W (U_ (ZX ZQ g.g) i)):=λW L=>by rw[n.h];exact(dg R j b7 b3 g.fs e W (N.j.q L) (a0.q L) n.n e0).m (λ_ _ s=>⟨s.1,bt_ L s.2⟩)
  have c6:Hid (∀W,E_ i W->C_ 136 #[V b2 (F g.N) b6,I g.g] W (U_ (YW (ZB (Ia g.N g.g))) W)):=λW L=>Zh1 b2 b6 g.g g.N W (a4.q L) (n.y ▸ g0) n.i n.val;have a6:=K_ a0 n.A;clear a0 a4 n;have A:=Ah a.b P;have⟨d8,c3⟩:=ez_ (Ia g.N g.g++d5);rw[c3] at a;go_wp2_with fail
  apply (a.A a.b).m;rintro f c0 ⟨r,rfl,u,a⟩;clear m A;go_upto_region 24 with fail;clear u;go_loopw [3,10] (LoI i (λc1:H=>Ba c1 1) g.fs d8 v) (λ_ h _=>F g.fs-ZL (ZA h))
  case atStart=>exact⟨0,_,X,X,v_,a⟩
  clear a;obtain⟨h,a2,rfl,rfl,d3,a⟩:=hrel;have m:=Ah a.b Q;have A:=Ah a.b P
  by_cases c5:h<F g.fs
  ·obtain⟨d6,rfl,q⟩:=a6.1 h c5;have z:=Ah a.b q;have d4:=a6.2 h;have⟨b0,a,a3,G⟩:=a.d 0 c5;clear q;generalize (Z g.fs) h 0=c1 at *;go_wp2_with fail
   apply (a.A a.b).m;rintro f a5 ⟨r,rfl,u,a⟩;clear m A z;refine J_ ?_;exact⟨h+1,_,X,g_,O,a.e a3⟩
  obtain rfl:h=F g.fs:=O;have d4:=Int.lt_irrefl (F g.fs);replace a:=a.c;rw[<- c3] at a;go_upto_region 27 with fail;have d6:=lt_ P;have g4:=lt_ b4;refine rg_ i 19 (λb=>?_) (hS:=a.b.drew);refine G_ ?_;refine oc_ 16 (c8 _ b) ?_;rintro f a5 ⟨rfl,b⟩;refine⟨_,X,b,λb=>G_ ?_⟩;refine oc_ 17 (a.call b (c6 _ b)) ?_;rintro f c1 ⟨r,rfl,u,a⟩;refine⟨_,X,a.b,λb=>G_ ?_⟩;refine le_ ?_;clear b m A;refine J_ ?_;exact⟨l+1,_,X,g_,O,a.e d9⟩
 obtain rfl:l=F c:=O;have D:=Int.lt_irrefl (F c);replace a:=a.c;rw[<- c2] at a;have z:=Ah a.b c7;go_wp2_with fail
 apply (a.A a.b).m;rintro f c0 ⟨r,rfl,u,a⟩;clear m z;go_upto_region 30 with fail;clear u;go_loopw [3,11] (LoI i xB d [] v) (λ_ g _=>F d-ZL (ZA g))
 case atStart=>exact⟨0,_,X,X,v_,a⟩
 clear a;obtain⟨h,a2,rfl,rfl,d3,a⟩:=hrel;have z:=Ah a.b c7
 by_cases g:h<F d
 ·have⟨A,q,n,P,d8,d9⟩:=y.2.2.1.2 h g;obtain rfl:e7=T ⟨A,0,ZP⟩:=(by injection n);clear n;have⟨L,a0,a4⟩:=y.2.2.2.2.2 _ (Hu Dm g);have⟨b0,a,a3,G⟩:=a.d Dm g;generalize (Z d) h Dm=x at *;replace a:=Y (a.e (R':=Ba x.M 1++(Ba x.f 1++(Ba x.i 1++b0))) X);go_upto_region 32 with fail;have d6:=lt_ P;refine rg_ i 31 (λb=>?_) (hS:=a.b.drew);refine G_ ?_;refine oc_ 9 (a.A b) ?_;rintro f a5 ⟨b8,rfl,p,a⟩;refine⟨_,X,a.b,λb=>G_ ?_⟩;refine oc_ 19 (a.A b) ?_;rintro f c1 ⟨d7,rfl,k,a⟩;rw[ByteArray.size_append] at k;refine⟨_,X,a.b,λb=>G_ ?_⟩;refine oc_ 29 (a.A b) ?_;rintro f b2 ⟨a6,rfl,c3,a⟩;rw[ByteArray.size_append,ByteArray.size_append] at c3;refine⟨_,X,a.b,λb=>G_ ?_⟩;refine le_ ?_;clear b z;refine J_ ?_;exact⟨h+1,_,X,g_,O,a.e a3⟩
 obtain rfl:h=F d:=O;have d4:=Int.lt_irrefl (F d)
 obtain rfl:a2=ZB v:=by
  obtain⟨⟨n,f,rfl⟩,_⟩:=a.c
  simpa using f
 go_wp2_with fail
 apply (e1 wr).m;rintro f a5 ⟨rfl,n⟩;have q:=Y (bt_ a.b n);clear n z;refine wr_ ?_;exact⟨X,q⟩
section
variable {m n budget:H} {a:U ES} {Bb:U (U H)}
def Zjo(f:em m n a Bb){b}(d:b<m+1) e:Z (Z Bb b []) e 0<(Z (Ex a Bb (m+1)) b Aj).g:=by
 rw[Gf a Bb d];show _<(Z a b Sf).b+2;rw[Qc]
 rcases Nat.lt_or_ge e (F (Z Bb b [])) with c|c
 rw[Qd c];exact f.i b d _ (Qf _)
 grind
def Zqd(f:em m n a Bb){c}(g:c<n){b}(d:b<m+1):Z (Z (Iv a Bb (m+1)) b []) c ZZ=sO (Ex a Bb (m+1)) Bb b c:=by unfold sO;rw[Nk a Bb d,Gf a Bb d];have e:c<F (Z Bb b []):=(f.p b d) ▸ g;unfold oF Cz;rw[Qc,getElem?_map,Qd e,Qc (l:=Z Bb b []),Qd e];rfl
def Zge:(Bx m n budget a Bb).g=Ex a Bb (m+1):=Pk _ _ _ _ _
def Znb:F (Bx m n budget a Bb).g=m+1:=Zge ▸ (Ev _ _ _)
def Zm9:(Bx m n budget a Bb).f.map BS.fs=Gk (Ib m (Ex a Bb (m+1)) (Iv a Bb (m+1)) n budget):=by
  have:=jg (Iv a Bb (m+1)) Bb n (Ex a Bb (m+1)) (Ib m (Ex a Bb (m+1)) (Iv a Bb (m+1)) n budget) ⟨Ex a Bb (m+1),[],[]⟩;unfold Bx Fp
  simpa using this
def Zna{c}(e:c∈Ib m (Ex a Bb (m+1)) (Iv a Bb (m+1)) n budget){b}(f:b∈c.fs):b<m+1:=by
 have d:b∈He (Ib m (Ex a Bb (m+1)) (Iv a Bb (m+1)) n budget):=by grind [He]
 grind [Pr]
def ZlM(g:em m n a Bb){d}(q:d.Perm (Bx m n budget a Bb).r){c b}(f:c<m+1)(h:b<n):xbF d c b (Iz (Bx m n budget a Bb).g ((Bx m n budget a Bb).f.map BS.fs) ((Bx m n budget a Bb).f.map BS.N) b c)=Z (Z Bb c []) b 0:=by
 have j:=Ev a Bb (m+1);have k:∀b,_->∀e,e<F (Ex a Bb (m+1))->_=sO _ _ e b:=λb h e w=>Zqd g h O;have t:=ZaK (n:=n) j (Pr m (Ex a Bb (m+1)) _ n _) (Wv m _ (Iv a Bb (m+1)) n budget) (λl i b=>Zjo g i b) k;have r:=ZaJ (n:=n) (Gs:=Ib m (Ex a Bb _) _ n budget) (λl i c f=>by rw[j];exact Zna i f) (λl i b=>Zjo g O b) k;have s:(Bx m n _ _ _).f.map _=_:=r;rw[Zge,Zm9,s];have u:=λv=>q.mem_iff.T (t v);unfold xbF
 cases l:d.find? (λo=>ZE (rt b c o)) with
 | some o=>
  grind
 | none=>
  rw[find?_eq_none] at l
  by_cases i:Iz (Ex a Bb (m+1)) (Gk (Ib m (Ex a Bb (m+1)) (Iv a Bb (m+1)) n budget)) ((Gk (Ib m (Ex a Bb (m+1)) (Iv a Bb (m+1)) n budget)).map (λp=>Hs (Ex a Bb (m+1)) Bb p n)) b c=Z (Z Bb c []) b 0
  exact i;exact absurd (aF (show rt b c _ from⟨X,X⟩)) (l _ ((u ⟨b,c,Z (Z Bb c _) b 0⟩).2 ⟨h,f,aF i,X⟩))
end
def jo{f:Type}(c:f->U E) b:∀(a:U f),(∀d∈a,F (c d)<=b)->F (a.flatMap c)<=F a*b
 |[],_=>s_
 |d::a,e=>by have i:=e d s_;have j:=jo c b a (λh g=>e h (by simp[g]));rw[flatMap_cons,Qe,length_cons,succ_mul];omega
def oj{h a}(b:Kw h a)(g:∀K∈a.g,Xl K){c}(f:c.Perm a.r):F (Hv a c)<=100000:=by have i:=jo Ll _ _ (λd e=>Zf8 (g d e));have j:=jo _ _ _ (λd e=>(b.t d e).2.2.2.2);have e:=jo xB 3 c (λd _=>x_);have k:=b.i;have l:=b.l;have d:=b.u;rw[<- f.length_eq] at d;unfold Hv;simp only[Qe,length_cons,length_nil,Dr];omega
def Oi{h}{a:Ft}(b:Kw h a)(m:∀K∈a.g,Xl K)(z:∀K∈a.g,∀x∈K.e.f,-4294967296<=x){c}(k:c.Perm a.r) o s N L M P G t u j (f:RfX j s o h N L M P G t u a.g (a.f.map BS.fs) (a.f.map BS.N) c):C_ 76 #[P_ o] j (U_ (YW (ZB (Br a c))) j):=by
 have D:=oj b m k;have r:=jx a c;have q:=(b.j _ (b.f b.k)).y;have y:Br a c=Wy h a.g a.f c++Ba (Gy (Wy h a.g a.f c)) 4:=(by unfold Br Hv Wy;rw[q]);have A:Hv a c=Wy h a.g a.f c:=(by unfold Hv Wy;rw[q]);rw[A] at D r;rw[y];have Q:=b.i;refine ZeJ h c j f (λK hK=>?_) (λd i=>?_) O (p_ b.l) (by rw[k.length_eq];have:=b.u;omega) (λx n=>?_) b.w O r
 ·obtain⟨e,l,rfl⟩:=aM hK;have v:Z a.g e Aj=a.g[e]:=w_;have g:=f.x e l;have p:=b.q e l;have w:=b.p e l;rw[v] at g p w;refine⟨g,λx n=>⟨z _ hK x n,?_⟩,λS R=>?_,O⟩
  ·rcases m _ hK with f|f
   ·grind
   grind
  rcases m _ hK with f|f
  ·grind
  grind
 ·have g:=b.j d i;have p:=b.h d i;refine⟨g.y,p_ (b.r d i),b.n d i,λl=>?_,g.sum,O,λv=>?_⟩
  ·rw[Qc]
   rcases Nat.lt_or_ge l (F d.fs) with e|e
   ·rw[Qd e];have:=b.n d i _ (Qf e)
    grind
   grind
  rw[Qc]
  rcases Nat.lt_or_ge v (F d.N) with e|e
  ·rw[Qd e];have:=g.k _ (Qf e)
   grind
  grind
 have:=b.z x (k.subset n);have:=b.w;omega
def Hc(e f:ZT)(c:H->H)(j h:H)(i:YZ ZY):Prop:=∃b g,Gz f b j g h/\Ek e c b/\Aa (λa=>c a<=13∨c a=99) e f/\(∀d,d<4->g[d]? =i[d]?)/\(∀a,B e.1<=a∨c a=99->b a<=13∨b a=99)/\∀a,B f.1<=a->b a=99
def Gz.a{b f e c d}(g:Gz b f e d c):Gz b (λa=>if a<B b.1 then f a else 99) e d c:=
 g.z (S:=λ_=>False) (Aa.refl _ _) (λ_ _ a=>a.elim) (λa h=>ZJ (by simp[h]))
def Gz.P{f e d N b c}(a:Gz f e d c N)(h:N<=b):Gz f e d c b:=
 a.put (S:=λ_=>False) (Aa.refl _ _) (λ_ _ g=>g.elim) a.v (Ek.refl _ _) (λ_ _=>X) a.x h
def Hc.b{j k i g c e}(m:Nz j k i g c e){d}(q:c<=d):Hc j k i g d e:=by
 obtain⟨u,l,n,o,h,p,r,s⟩:=m;have t:=h.size;refine⟨_,l,n.a.P q,λb a=>?_,h,p,λb a=>?_,λb a=>w_⟩
 ·rcases o b a with f|f
  exact ZM f
  grind
 grind
def Hc.a{c k b i g d}(l:Gz c b i d g)(e:E_ c k)(j:∀a,B c.1<=a->b a=99){h}(m:g<=h):Hc c k b i h d:=
 ⟨b,d,(l.z (S:=λ_=>False) (.a e) (λ_ _ f=>f.elim) (Ek.refl _ _)).P m,Ek.refl _ _,.a e,λ_ _=>X,λa f=>ZJ (f.elim (j a) id),λa f=>j a (aG e.size f)⟩
def Hc.T{d h r c f m i k l}(n:Ek d c f)(o:Aa (λa=>c a<=13∨c a=99) d h)(z:∀b,b<4->l[b]? =k[b]?)(A:∀a,B d.1<=a∨c a=99->f a<=13∨f a=99)(y:Hc h r f m i l):Hc d r c m i k:=by
 obtain⟨D,w,s,j,t,u,G,v⟩:=y;refine⟨D,w,s,n.T o.size j,o.c t (λa q=>?_),λb p=>(u b p).T (z b p),λa q=>?_,v⟩
 ·by_cases g:a<B d.1
  ·left
   rcases n a g with e|e
   exact ZJ e;omega
  omega
 rcases A a q with e|e
 ·by_cases g:a<B h.1
  ·rcases j a g with x|x
   omega;omega
  grind
 grind
structure Ly(b:ZT)(dp c i d f k:H)(a:Ft)(n l m o)(j)(g h)(e):Prop where
 dp:b.1[dp]? =T (O_ #[P_ c,P_ d] 137)
 x:Pi b c i a
 y:RfX b f d k n l m o j g h a.g (a.f.map BS.fs) (a.f.map BS.N) e
structure Pj(e:H)(a:Ft)(c:U XS):Prop where
 ok:Kw e a
 w:∀K∈a.g,Xl K
 h:∀K∈a.g,∀f∈K.e.f,-4294967296<=f
 g:c.Perm a.r
 G:Em c
 i:∀d b,d<e->b<F a.g->Tk a c b (De a b) (Iy a b) d=xbF c b d (Iz a.g (a.f.map BS.fs) (a.f.map BS.N) d b)
section
variable {w w':ZT} {dp gb db yb base n:H} {D:Ft} {vF vB vC vX:ZY} {kvs:U (ZY×ZY)} {bvs cvs:U ZY} {a:U XS}
def Ly.q(b:Ly w dp gb db yb base n D vF vB vC vX kvs bvs cvs a)(c:E_ w w'):Ly w' dp gb db yb base n D vF vB vC vX kvs bvs cvs a:=
 ⟨(c.block _ (Qb b.dp).1).T b.dp,b.x.q c,b.y.z (.a c)⟩
def Ly.cells(b:Ly w dp gb db yb base n D vF vB vC vX kvs bvs cvs a):ZV w (J dp 0)=T (P_ gb)/\ZV w (J dp 1)=T (P_ yb)/\ZV w (J yb 0)=T (I n)/\ZV w (J yb 1)=T vF/\ZV w (J yb 2)=T vB:=
 ⟨M_ 0 _ 137 (0,0) b.dp,M_ 1 _ 137 (0,0) b.dp,M_ 0 _ 142 (0,0) b.y.v,M_ 1 _ 142 (0,0) b.y.v,M_ 2 _ 142 (0,0) b.y.v⟩
def Zdm{S t g h u i x N l y L o m A z M wc v}(p:Ly w dp gb db yb base n D vF vB vC vX kvs bvs cvs a)(r:Pj n D a):C_ 77 #[P_ S,P_ dp,Y9 #[I 8,I t,I g,V l o m,I h,I u,I i,V y A z,V L M wc,Q_ v,I x,I N]] w (U_ (ZR Z0) w):=by
 have Q:=Y (r.ok);have c:K (∀f,Below _ w f->_):=λf W=>p.q W;clear p r;refine dl_ ?_;go_enter func77,ntmps77;go_upto_region 3 with fail;generalize s:ZN w (O_ #[I 8,I t,I g,V l o m,I h,I u,I i,V y A z,V L M wc,Q_ v,I x,I N] 93)=G;have b:E_ w G:=(by rw[<- s];exact r_);clear s;have⟨R,j,k,_,_⟩:=(c G b).cells;have e:=Zd8 (c _ b).x Q;clear j k;go_wp2_with fail
 apply e.m;rintro a1 a0 ⟨rfl,q⟩;have d:=b.T (q.m b.size);have⟨_,j,k,_,_⟩:=(c a0 d).cells;have P:=Y d;clear d q b e R;go_wp2;go_ret;exact⟨s_,P⟩
def ZaO{a2 c y l m z o x R p G P r q M L Q wc A}(s:Ly w dp gb db yb base n D vF vB vC vX kvs bvs cvs a)(i:Pj n D a)(a6:c≠8)(a7:c≠9)(a4:c≠10)(a5:c≠11):C_ 77 #[P_ a2,P_ dp,Y9 #[I c,I y,I l,V p r q,I m,I z,I o,V G M L,V P Q wc,Q_ A,I x,I R]] w (U_ (ZR Z0) w):=by
 have b:=K_ (i.ok) i;have g:K (∀d,Below _ w d->_):=λd h=>s.q h;clear s i;refine dl_ ?_;go_enter func77,ntmps77;go_upto_region 26 with fail;generalize v:ZN w (O_ #[I c,I y,I l,V p r q,I m,I z,I o,V G M L,V P Q wc,Q_ A,I x,I R] 93)=N;have e:E_ w N:=(by rw[<- v];exact r_);clear v;have⟨W,_,_,_,_⟩:=(g N e).cells;have j:=fj _ _ n _ _ (g _ e).x b.1 b.2.w a b.2.g b.2.G;have k:=Y (λd h=>Oi b.1 b.2.w b.2.h b.2.g _ _ _ _ _ _ _ _ _ d (g d h).y);generalize ZB (Br D a)=a8 at *;go_wp2_with fail
 apply j.m;rintro a1 a3 ⟨rfl,t⟩;have f:=e.T (t.m e.size);have⟨_,a0,_,_,_⟩:=(g a3 f).cells;clear t e j W;go_wp2_with fail
 apply (k _ f).m;rintro a1 a9 ⟨rfl,u⟩;have S:=Y (f.T (u.m f.size));clear u f a0 k;go_wp2;go_ret;exact⟨s_,S⟩
end
def Du.z{e k a h l i g S}(b:Du e a 0 h l i g)(j:Aa S e k)(o:¬S a)(n:a<B e.1):Du k a 0 h l i g:=by have f:=λp=>cb_ (w:=e) (a:=(J a p)) (j.block _ n o);exact⟨b.k,λm=>Qh (b.lt m) j.size,λd c=>(f _).T (b.t d c),λd c=>(f _).T (b.D d c),λd c=>(f _).T (b.G d c)⟩
section
variable {w w':ZT} {o f:H->H} {t g yb d e m:H} {wd:H->ZG} {sc ct:H->E} {bins:E} {size budget:H} {a b:ZC} {c:ZG}
def Oa(w:ZT)(o:H->H)(t yb d e m:H)(wd:H->ZG)(sc ct:H->E)(bins:E)(size budget:H)(a:ZC)(c:ZG):Prop:=
 o yb=t/\o d=t/\d≠yb/\d<B w.1/\Du w d 0 (m+1) wd sc ct/\∃b g f,ra w yb d (m+1) e bins size budget b g f c/\(c=ZZ->b=a/\g=(Qs (Ol m wd sc a)).1/\f=(Qs (Ol m wd sc a)).2)
def Oa.lt(b:Oa w o t yb d e m wd sc ct bins size budget a c):yb<B w.1:=by obtain⟨_,_,_,_,_,g,i,h,f,_⟩:=b;exact(Qb f).1
def Oa.z{S}(j:Oa w o t yb d e m wd sc ct bins size budget a c)(i:Aa S w w')(p:∀b,b<B w.1->S b->o b≠t)(z:Ek w o f)(L:t≠99):Oa w' f t yb d e m wd sc ct bins size budget a c:=by
 have q:=j.lt;obtain⟨k,l,u,h,v,r,G,D,A,x⟩:=j
 have n:∀b,b<B w.1->o b=t->f b=t:=λb y g=>by rcases z b y with s|s<;>omega
 exact⟨n _ q k,n _ h l,u,Qh h i.size,v.z i (λg=>p _ h g l) h,r,G,D,i.g A (λg=>p _ q g k),x⟩
def feedY(A:Vn m wd sc ct bins size budget)(n:Oa w o t yb d e m wd sc ct bins size budget a c)(z:t≠99)(R:ZK a+ZK b<=200000000000000):C_ 125 #[P_ yb,Q_ b] w λg w'=>g=ZI (Y5 #[ZX ZQ (fdZ m wd sc (az m wd sc a b c) c).1,ZX ZQ (fdZ m wd sc (az m wd sc a b c) c).2])/\Oa w' (Dd w w' o t) t yb d e m wd sc ct bins size budget (az m wd sc a b c) c/\Aa (λr=>o r=t) w w':=by
 have v:=n;have P:=n.lt;obtain⟨x,D,p,k,y,f,u,s,j,G⟩:=n;have W:=A.j
 cases c with
 | true=>
  apply (Zab j).m;rintro g w' ⟨rfl,rfl⟩;have i:az m wd sc a b Z0=a:=rfl;rw[i];exact⟨X,v.z (S:=λ_=>False) (Aa.refl _ _) (λ_ _ g=>g.elim) (Ea _ _ _ _) z,Aa.refl _ _⟩
 | false=>
  obtain⟨rfl,rfl,rfl⟩:=G X
  cases h:Ol m wd sc f with
  | error Q=>
   obtain⟨u,s⟩:=Q;have L:=Nm _ _ _ h;rw[h] at j;apply (Zca u s b w j O).m;rintro g w' ⟨rfl,r,rfl⟩;have i:az m wd sc f b ZZ=f:=(by unfold az;rw[h];rfl);have l:fdZ m wd sc f ZZ=(u,(s:E)):=(by unfold fdZ;rw[h];rfl);have q:E_ w _:=below_drewN y_ r;rw[i,l];exact⟨X,v.z (S:=λ_=>False) (.a q) (λ_ _ g=>g.elim) (Ea _ _ _ _) z,.a q⟩
  | ok a0=>
   rw[h] at j;have i:az m wd sc f b ZZ=f++b:=(by unfold az;rw[h];rfl);have l:fdZ m wd sc (f++b) ZZ=fdA (f++b) (Kr (f++b) (m+1) wd sc (ZK (f++b)+1) [] 0):=(by unfold fdZ;rw[ZdU O];rfl);rw[i,l];apply (Zh3 j y p k O A.sc w_).m;rintro g w' ⟨rfl,M,q⟩;have N:Aa (λr=>_=t) w _:=q.m (λr _ L=>by subst L;exact x);refine⟨X,⟨(Dy P).T x,(Dy k).T D,p,Qh k q.size,y.z q p k,f++b,_,_,M,λ_=>⟨X,?_,?_⟩⟩,N⟩;rw[ZdU O];rfl;rw[ZdU O];rfl
end
def eS(f:H->ZG)(d:H->E)(c:E)(e:H)(b:RS)(a:H):ES:=Cp Ra (f a) (d a) c e (b.a a) b.k
def esS(c:H)(f:H->ZG)(b:H->E)(a:E)(e:H)(d:RS):U ES:=(range (c+1)).map (eS f b a e d)
def bbS(e:H)(g:H->ZG)(d:H->E)(c:E)(f:H)(b:RS):U (U H):=(range (e+1)).map (λa=>(b.a a).map (Gq (eS g d c f b a)))
section
variable {w w':ZT} {o g:H->H} {t d yb f e m:H} {wd:H->ZG} {sc ct:H->E} {bins:E} {size budget:H} {a b:ZC} {c:ZG}
def whole(m:H)(wd:H->ZG)(sc:H->E)(a:ZC)(c:ZG)(b:RS):Prop:=c=ZZ/\Ol m wd sc a=.ok b/\b.g=0
def clZ(m:H)(wd:H->ZG)(sc:H->E)(a:ZC)(c:ZG):E×E:=if c=Z0 then(1,0) else match Ol m wd sc a with
 |.error (d,b)=>(d,b)
 |.ok _=>(2,ZK a)
def clC(m:H)(wd:H->ZG)(sc:H->E)(a:ZC)(c:ZG):ZG:=if c=Z0 then Z0 else match Ol m wd sc a with
 |.error _=>ZZ
 |.ok _=>Z0
def ZqO(w:ZT)(o:H->H)(t d m:H)(wd:H->ZG)(sc ct:H->E)(bins:E)(size budget:H)(a:ZC)(c:ZG)(f:Ending)(w':ZT):Prop:=
 ((∀b,¬whole m wd sc a c b)/\f=ZI (Y5 #[Y7 ZP,I (clZ m wd sc a c).1,I (clZ m wd sc a c).2])/\Ru w' (Dd w w' o t) t d m wd sc ct bins size budget a (clC m wd sc a c)/\Aa (λe=>o e=t) w w')∨
 (∃b g h,whole m wd sc a c b/\f=ZI (Y5 #[P_ g,I 0,I 0])/\xq (B w.1) w' g h (Bx m (F b.k) budget (esS m wd ct bins size b) (bbS m wd ct bins size b))/\Vo w' d Z0 0 0/\Aa (λe=>e=d) w w')
def Zow(e:Vn m wd sc ct bins size budget)(u:Ru w o t d m wd sc ct bins size budget a c)(z:t≠99):C_ 50 #[P_ d] w λb w'=>ZqO w o t d m wd sc ct bins size budget a c b w':=by
 have v:=u;obtain⟨x,y,N⟩:=u;have D:∀k,_->_->_/\_:=λk A Q=>⟨(e.sc k A).1,(e.sc k A).2 Q⟩
 rcases N with⟨b,n,l,s⟩|⟨b,n,l,f,s⟩|⟨b,h,K,R,a4,a3,a0,W,f,G,a1,a2⟩
 subst b;apply (yg n l w s).m;rintro b w' ⟨rfl,rfl⟩;exact ZM ⟨λh g=>by simp[whole] at g,X,v.z (S:=λ_=>False) (Aa.refl _ _) (λ_ _ b=>b.elim) (Ea _ _ _ _) z,Aa.refl _ _⟩;subst b;apply (Za4 n l w s (Nm _ _ _ f)).m;rintro b w' ⟨rfl,j,rfl⟩;have i:E_ w _:=below_drewN y_ j;have p:clZ m wd sc a ZZ=(n,(l:E)):=(by unfold clZ;rw[f];rfl);have q:clC m wd sc a ZZ=ZZ:=(by unfold clC;rw[f];rfl);refine ZM ⟨λh g=>(by have:=g.2.1;grind),by rw[p],?_,.a i⟩;rw[q];exact v.z (S:=λ_=>False) (.a i) (λ_ _ b=>b.elim) (Ea _ _ _ _) z
 subst b;have p:clZ m wd sc a ZZ=(2,(ZK a:E)):=(by unfold clZ;rw[f];rfl);have q:clC m wd sc a ZZ=Z0:=by unfold clC;rw[f];rfl
 by_cases j:h.g=0
 have g:=Sw (ct:=ct) D e.g e.i (oj_ e.g e.u) e.h f;apply (yh Ra (eS wd ct _ _ h) G j (Ja.a O D _ (Ja.h O) f) e.j e.w g.l (λk=>X) g.ok g.num g.k (oj_ e.g e.u) e.h e.g e.i).m;rintro b w' ⟨M,L,rfl,P,r,i⟩;exact ZJ ⟨h,M,L,⟨X,f,j⟩,X,P,r,i⟩;apply (ZdE G j).m;rintro b w' ⟨rfl,r,i⟩;refine ZM ⟨λM g=>by have:=g.2.1;rw[f] at this;injection this with this;subst this;exact j g.2.2,by rw[p],?_,i.m (λL _ g=>by subst g;exact x)⟩;rw[q];exact⟨(Dy y).T x,Qh y i.size,ZM ⟨X,0,0,r⟩⟩
def ZqP(w:ZT)(o:H->H)(t yb f e m:H)(wd:H->ZG)(sc ct:H->E)(bins:E)(size budget:H)(a:ZC)(c:ZG)(g:Ending)(w':ZT):Prop:=
 ((∀b,¬whole m wd sc a c b)/\g=ZI (Y5 #[Y7 ZP,I (clZ m wd sc a c).1,I (clZ m wd sc a c).2])/\Oa w' (Dd w w' o t) t yb f e m wd sc ct bins size budget a (clC m wd sc a c)/\Aa (λd=>o d=t) w w')∨
 (∃b h,whole m wd sc a c b/\g=ZI (Y5 #[P_ h,I 0,I 0])/\ep w w' h (F b.k) (Bx m (F b.k) budget (esS m wd ct bins size b) (bbS m wd ct bins size b))/\ra w' yb f (m+1) e bins size budget a 0 0 Z0/\Aa (λd=>d=yb) w w')
def ZjG(g:Vn m wd sc ct bins size budget)(D:Oa w o t yb f e m wd sc ct bins size budget a c)(W:t≠99)(b4:ZK a<=200000000000000):C_ 126 #[P_ yb] w λi w'=>ZqP w o t yb f e m wd sc ct bins size budget a c i w':=by
 have P:=D;have a9:=D.lt;have a5:∀b,_->_->_/\_:=λb h a8=>⟨(g.sc b h).1,(g.sc b h).2 a8⟩;obtain⟨Q,a6,G,u,R,d,M,L,r,a7⟩:=D
 cases c with
 | true=>
  apply (sw r).m;rintro i w' ⟨rfl,rfl⟩;exact ZM ⟨λq k=>by simp[whole] at k,X,P.z (S:=λ_=>False) (Aa.refl _ _) (λ_ _ i=>i.elim) (Ea _ _ _ _) W,Aa.refl _ _⟩
 | false =>
  obtain⟨rfl,rfl,rfl⟩:=a7 X
  cases j:Ol m wd sc d with
  | error k=>
   obtain⟨M,L⟩:=k;have v:=Nm _ _ _ j;rw[j] at r;have z:clZ m wd sc d ZZ=(M,(L:E)):=(by unfold clZ;rw[j];rfl);have A:clC m wd sc d ZZ=ZZ:=(by unfold clC;rw[j];rfl);apply (zz M L w r O).m;rintro i w' ⟨rfl,n,rfl⟩;have l:E_ w _:=below_drewN y_ n;refine ZM ⟨λq k=>(by have:=k.2.1;grind),by rw[z],?_,.a l⟩;rw[A];exact P.z (S:=λ_=>False) (.a l) (λ_ _ i=>i.elim) (Ea _ _ _ _) W
  | ok q=>
   rw[j] at r;have z:clZ m wd sc d ZZ=(2,(ZK d:E)):=(by unfold clZ;rw[j];rfl);have A:clC m wd sc d ZZ=Z0:=(by unfold clC;rw[j];rfl);have s:Bt _ _ _ _ _ 0=_:=j;have a3:=Zco (S:=d) (n:=m+1) (wd:=wd) (sc:=sc) O;refine(ZeL yb f m e size bins d wd sc ct (λb=>Cp Ra (wd b) (ct b) bins size (Bn (Kr d (m+1) wd sc (ZK d+1) [] 0).1 b) (Jp (Kr d (m+1) wd sc (ZK d+1) [] 0).1)) w r R G u g.j g.sc O g.w (oj_ g.g g.u) g.h g.g g.i g.ct ?_).m ?_
   ·rintro a1 rfl v
    rcases a3 with⟨y,q1,n,p,x,l⟩|⟨y,q1,n,p,x⟩|⟨q1,n,p⟩
    rw[s] at q1;injection q1 with q1;subst q1;have⟨N,a0⟩:=Zih a5 s X l;refine⟨N,a0,λb=>X,λb h=>?_⟩;have i:=(Sw (ct:=ct) a5 g.g g.i (oj_ g.g g.u) g.h s).ok b h;rw[l.1,l.2 b h] at i;exact i;omega;omega
   rintro i w' ⟨a4,v,a0⟩
   rcases a3 with⟨y,q1,n,p,x,l⟩|⟨y,q1,n,p,x⟩|⟨q1,n,p⟩
   ·rw[s] at q1;injection q1 with q1;subst q1
    rcases a0 with⟨N,_⟩|⟨_,b0,rfl,b3⟩
    exact absurd p N;refine ZJ ⟨q,b0,⟨X,j,n⟩,X,?_,a4,v⟩;have b5:F q.k=F (Kr d (m+1) wd sc (ZK d+1) [] 0).1:=by rw[l.1,length_map]
    have a1:∀b,b<m+1->Cp Ra (wd b) (ct b) bins size (Bn (Kr d (m+1) wd sc (ZK d+1) [] 0).1 b) (Jp (Kr d (m+1) wd sc (ZK d+1) [] 0).1)=eS wd ct bins size q b:=λb h=>by unfold eS;rw[l.1,l.2 b h];rfl
    have b1:esR m (λb=>Cp Ra (wd b) (ct b) bins size (Bn (Kr d (m+1) wd sc (ZK d+1) [] 0).1 b) (Jp (Kr d (m+1) wd sc (ZK d+1) [] 0).1))=esS m wd ct bins size q:=by unfold esR esS;exact map_congr_left (λb h=>a1 b (by simpa using h))
    have b2:Ud m (Kr d (m+1) wd sc (ZK d+1) [] 0).1 (λb=>Cp Ra (wd b) (ct b) bins size (Bn (Kr d (m+1) wd sc (ZK d+1) [] 0).1 b) (Jp (Kr d (m+1) wd sc (ZK d+1) [] 0).1))=bbS m wd ct bins size q:=by
     unfold Ud bbS;refine map_congr_left (λb h=>?_)
     have a2:b<m+1:=by simpa using h
     unfold btR;show List.map (Gq (Cp Ra (wd b) (ct b) bins size (Bn (Kr d (m+1) wd sc (ZK d+1) [] 0).1 b) (Jp (Kr d (m+1) wd sc (ZK d+1) [] 0).1))) (Bn (Kr d (m+1) wd sc (ZK d+1) [] 0).1 b)=_;rw[a1 b a2,l.2 b a2];rfl
    grind
   ·rw[s] at q1;injection q1 with q1;subst q1
    rcases a0 with⟨_,rfl⟩|⟨N,_⟩
    rw[p,x];refine ZM ⟨λy k=>by have:=k.2.1;rw[j] at this;injection this with this;subst this;exact n k.2.2,by rw[z],?_,v.m (λa1 _ k=>by subst k;exact Q)⟩;rw[A];exact⟨(Dy a9).T Q,(Dy u).T a6,G,Qh u v.size,R.z v G u,d,0,0,a4,λi=>by cases i⟩;omega
   grind
end
def xm.a{h g k m q l i s v t p n u o}(a:xm h g k m q l i s v t p n u o):∃K c,InX h K c k m l q i s v t p n u o RS.h 0/\(∀b,K b∨c b->g<=b/\b<B h.1)/\g<=k/\g<=m:=by
 have r:=a.r.w;unfold RB at r;refine⟨λb=>g<=b/\∃f d,h.1[b]? =T (O_ f d)/\(d=3∨d=261∨d=263),λb=>b=l∨b=i,⟨a.q,a.r.r,⟨N_,N_,N_,λ_=>N_,?_⟩,?_,?_⟩,?_,a.t,a.r.t.1⟩
 ·refine⟨a.r.w,rn_,rn_,rn_,⟨_,a.r.u,?_,λw x=>?_⟩,λ_ _=>rn_,Wg.a a.r.fs ⟨a.r.t.2.1,?_⟩ (λb f d c e j=>⟨c,f,d,e,w_⟩),λ_ _ _ _ _=>ZM X,λ_ _=>ZM X,ZM X,ZJ X,?_,?_,?_,?_,?_,?_⟩;simp[YV]
  ·rw[<- Array.getElem?_toList,Tl]
   grind
  ·have⟨f,c,_⟩:=a.r.fs
   grind
  intro b c;simp[ZW] at c;intro b c;simp[ZW] at c;intro b c;simp[ZW] at c;intro w b _ c;simp[ZW] at c
  ·rintro b ⟨_,f,d,e,j⟩;refine⟨(Qb e).1,?_⟩;rintro(c|c)
   ·grind
   rw[c,a.r.u] at e;grind
  rintro b (c|c)
  ·grind
  rw[c];exact(Qb a.r.u).1
 refine⟨?_,?_⟩;rintro⟨_,f,d,e,j⟩;rw[a.q] at e;grind;rintro(c|c);have:=a.q;grind;have:=a.q;rw[c,a.r.u] at this;simp at this;refine⟨?_,?_⟩;rintro⟨_,f,d,e,j⟩;rw[a.r.r] at e;grind;rintro(c|c);have:=a.r.r;grind;have:=a.r.r;rw[c,a.r.u] at this;simp at this;rintro b (c|c|c)
 ·grind
 rw[c];exact⟨a.r.t.2.2.1,(Qb r).1⟩;rw[c];exact⟨a.r.t.2.2.2,(Qb a.r.u).1⟩
section
variable {w:ZT} {o:H->H} {t m:H} {wd:H->ZG} {sc ct:H->E} {bins:E} {size budget:H}
def Vn.N(a:Ih (m+1) bins size budget wd sc ct=Z0):Vn m wd sc ct bins size budget:=by
 have⟨_,b,c,d,e,g,_,h,j⟩:=Nb a;refine⟨b,λi f=>?_,λi f k=>?_,c,d,e,O,O⟩
 ·grind [Nf]
 grind [Nf]
def Znu g k {q}(s:Du w g k (m+1) wd sc ct)(x:Ih (m+1) bins size budget wd sc ct=Z0):C_ 31 #[Y9 #[V (T (J g k)) (m+1:H) q,I bins,I size,I budget]] w λh b=>∃a,h=ZI (Y5 #[Y7 (T ⟨a,0,ZP⟩),ZX ZQ 0])/\B w.1<=a/\Ru b (Dd w b o t) t a m wd sc ct bins size budget ⟨#[]⟩ ZZ/\E_ w b:=by apply (ZeQ _ s x).m;rintro h b ⟨a,A,p,z,n,rfl,u,v⟩;have⟨K,l,d,c,i,r⟩:=u.a;have j:=(Qb d.q).1;have y:=(Qb d.r).1;exact⟨a,X,i,⟨Kk i j,j,ZJ (ZJ ⟨X,RS.h,K,l,A,z,p,n,X,d,λe f=>⟨(c e f).2,Kk (c e f).1 (c e f).2⟩,Kk r y⟩)⟩,v⟩
def Znv{e j k}(n:Du w e j (m+1) wd sc ct)(q:Ih (m+1) bins size budget wd sc ct=Z0):C_ 123 #[Y9 #[V (T (J e j)) (m+1:H) k,I bins,I size,I budget]] w λf b=>∃a d c,f=ZI (Y5 #[Y7 (T ⟨a,0,ZP⟩),ZX ZQ 0])/\B w.1<=a/\Oa b (Dd w b o t) t a d c m wd sc ct bins size budget ⟨#[]⟩ ZZ/\E_ w b:=by apply (Zcf n q).m;rintro f b ⟨a,d,c,rfl,i,r,s,l,g,h,p⟩;have u:=(Qb i).1;exact⟨a,d,c,X,g,⟨Kk g u,Kk l h,s,h,r,⟨#[]⟩,0,0,i,λ_=>⟨X,X,X⟩⟩,p⟩
end
section
variable {w w':ZT} {dp gb db yb base n:H} {D:Ft} {vF vB vC vX:ZY} {kvs:U (ZY×ZY)} {bvs cvs:U ZY} {a:U XS}
def ZhD x h (l:Pj n D a):∃q p:E,∀d,Ly d dp gb db yb base n D vF vB vC vX kvs bvs cvs a->(C_ 44 #[P_ gb,I x,I h] d (U_ (Y5 #[ZX ZQ q,ZX ZQ p]) d))/\(C_ 138 #[P_ yb,I x,I h] d (U_ (Y5 #[ZX ZQ q,ZX ZQ p]) d)):=by
 have b:=l.ok;have t:=(b.j _ (b.f b.k)).y;have G:=b.w;have A:=b.i
 by_cases e:0<=x/\x<(n:E)/\0<=h/\h<(F D.g:E)
 ·obtain⟨g,v⟩:∃g:H,x=g:=⟨ZL x,O⟩;obtain⟨i,u⟩:∃i:H,h=i:=⟨ZL h,O⟩;subst v u;have o:g<n:=O;have r:i<F D.g:=O;refine⟨_,0,λd j=>⟨zg j.x b r o l.g l.G,?_⟩⟩;have w:F a<=1000000:=(by rw[l.g.length_eq];have:=b.u;omega);have s:=oz n g i _ _ _ d j.y.h ⟨s_,by simp;have:=b.l;omega,λc e=>?_,λc e g=>?_,λc e=>?_,λc e=>?_⟩ o O w;rw[l.i g i o r];exact s
  all_goals
   simp only[length_map] at e;have k:=b.f e
  have f:Z (D.f.map BS.N) c []=(Z D.f c Df).N:=w_;rw[f];exact(b.j _ k).y
  ·have f:Z (D.f.map BS.N) c []=(Z D.f c Df).N:=w_;rw[f,Qc]
   rcases Nat.lt_or_ge g (F (Z D.f c Df).N) with m|m
   ·rw[Qd m];have y:=(b.j _ k).k _ (Qf m);have z:=b.h _ k
    grind
   grind
  have f:Z (D.f.map BS.fs) c []=(Z D.f c Df).fs:=w_;rw[f];have:=b.r _ k;omega;have f:Z (D.f.map BS.fs) c []=(Z D.f c Df).fs:=w_;rw[f];exact b.n _ k
 refine⟨0,1,λd j=>⟨Zd7 j.x e O b.k t O,?_⟩⟩;exact(Zcc j.y.h.j e).m (λ_ _ c=>⟨c.1,c.2 ▸ y_⟩)
def Zdl{a8 S G L W M x g N a1 a4 Q P a3 a2 a5 wc a0}(b:Ly w dp gb db yb base n D vF vB vC vX kvs bvs cvs a)(R:Pj n D a):C_ 77 #[P_ a8,P_ dp,Y9 #[I 9,I S,I G,V N Q P,I L,I W,I M,V a1 a3 a2,V a4 a5 wc,Q_ a0,I x,I g]] w (U_ (ZR Z0) w):=by
 have⟨A,y,q⟩:=ZhD (dp:=dp) (gb:=gb) (db:=db) (yb:=yb) (base:=base) (vF:=vF) (vB:=vB) (vC:=vC) (vX:=vX) (kvs:=kvs) (bvs:=bvs) (cvs:=cvs) x g R;have z:K (∀c,Below _ w c->_):=λc d=>b.q d;have a6:K (∀c,_->Calls _ _ _ c λh _=>_/\_/\_):=λc d=>(q c (b.q d)).1.m (λ_ _ b=>⟨b.1,d.T (b.2.m d.size),b.2⟩);have a7:K (∀c,_->Calls _ _ _ c λh _=>_/\_/\_):=λc d=>(q c (b.q d)).2.m (λ_ _ b=>⟨b.1,d.T (b.2.m d.size),b.2⟩);clear b R q;refine dl_ ?_;go_enter func77,ntmps77;go_upto_region 6 with fail;generalize k:ZN w (O_ #[I 9,I S,I G,V N Q P,I L,I W,I M,V a1 a3 a2,V a4 a5 wc,Q_ a0,I x,I g] 93)=f;have i:E_ w f:=(by rw[<- k];exact r_);have l:D_ f (B w.1) 10 (I x):=by rw[<- k];simp[go_sem]
 have m:D_ f (B w.1) 11 (I g):=(by rw[<- k];simp[go_sem]);clear k;have⟨o,_,_,_,_⟩:=(z f i).cells;go_cut [8,9] (λh r t=>h=I A/\r=I y/\K (E_ f t))
 case first=>
  go_region_held3 (λw'=>D_ w' dp 0 (P_ gb)/\D_ w' (B w.1) 10 (I x)/\D_ w' (B w.1) 11 (I g)) (first|exact⟨o,l,m⟩|exact⟨Ah aA o,Ah aA l,Ah aA m⟩) (first|(go_at_call 44;apply (a6 _ i.drew).m;rintro h s ⟨rfl,e,r⟩;have aA:Below (B f.1) _ _:=y_.drew.T r))
  all_goals go_wp2
  all_goals go_meet
  all_goals exact⟨X,X,aA⟩
 obtain⟨rfl,rfl,j⟩:=hcut;have u:=Ah j l;have v:=Ah j m;have e:=i.T (j.m i.size);have⟨_,p,_,_,_⟩:=(z wc e).cells;clear o l m i j;generalize wc=s at *;go_upto_region 7 with fail;go_cut [10,11] (λh r t=>h=I A/\r=I y/\K (E_ s t))
 case first=>
  go_region_held3 (λw'=>D_ w' dp 1 (P_ yb)/\D_ w' (B w.1) 10 (I x)/\D_ w' (B w.1) 11 (I g)) (first|exact⟨p,u,v⟩|exact⟨Ah aA p,Ah aA u,Ah aA v⟩) (first|(go_at_call 138;apply (a7 _ e.drew).m;rintro h a9 ⟨rfl,t,r⟩;have aA:Below (B s.1) _ _:=y_.drew.T r))
  all_goals go_wp2
  all_goals go_meet
  all_goals exact⟨X,X,aA⟩
 obtain⟨rfl,rfl,r⟩:=hcut;have t:=Y (e.T (r.m e.size));clear p u v e r;go_wp2_with fail
 apply (Ee).m;rintro h b1 ⟨rfl,a9⟩;obtain rfl:=a9.s;go_wp2_with fail
 apply (Ee).m;rintro h b2 ⟨rfl,b0⟩;obtain rfl:=b0.s;go_wp2;go_ret;exact⟨s_,t⟩
end
def Nz.a{e j t g b o k m n}(p:Ek e g b)(q:Aa (λa=>g a<=13∨g a=99) e j)(A:∀d,d<4->n[d]? =m[d]?)(D:∀a,B e.1<=a->b a<=13∨b a=99)(G:∀a,a<B e.1->g a=99->b a<=13∨b a=99)(z:Nz j t b o k n):Nz e t g o k m:=by
 obtain⟨i,y,u,l,v,w,N,x⟩:=z;have M:=q.size
 have s:∀a,b a<=13∨b a=99->i a<=13∨i a=99:=λa c=>by
  by_cases h:a<B j.1
  ·rcases c with f|f
   ·rcases l a h with r|r
    omega;omega
   exact x a h f
  grind
 refine⟨i,y,u,p.T M l,q.c v (λa c=>?_),λd r=>(w d r).T (A d r),λa c=>s a (D a c),λa c L=>s a (G a c L)⟩
 by_cases h:a<B e.1
 ·left
  rcases p a h with f|f
  exact ZJ f;omega
 omega
def rl.a{g h b e c d f}(q:rl g h b e c f d)(r:∀a,ZW f=T a->b a=99):Nz g h b e (c+1) d:=by obtain⟨s,o,i,j,k,l,m,t,n⟩:=q;exact⟨s,o,i,j,k.m (λa _ p=>p.imp id (r a)),l,m,n⟩
section
variable {w w':ZT} {dp gb db yb base n:H} {D:Ft} {vF vB vC vX:ZY} {kvs:U (ZY×ZY)} {bvs cvs:U ZY} {a:U XS}
def BdQ(e:H)(i:ZT)(a:U E)(b:U ZC)(h:E)(j:Ending)(w':ZT):Prop:=∃c f d g,j=ZI (Y5 #[ZH c (F a) f,ZH d (F b) g,I h])/\Ad w' e (V c (F a) f) a/\Bj w' e (V d (F b) g) b/\E_ i w'
def ZaU x (A:Pj n D a):∃i j r,F i<=1000/\F j<=1000/\∀c,Ly c dp gb db yb base n D vF vB vC vX kvs bvs cvs a->(C_ 27 #[P_ gb,I x] c λd w'=>BdQ (B c.1) c i j r d w')/\(C_ 139 #[P_ yb,I x] c λd w'=>BdQ 0 c i j r d w'):=by
 have q:=A.ok;have M:=q.i
 by_cases s:0<=x/\x<(F D.g:E)
 ·obtain⟨b,z⟩:∃b:H,x=b:=⟨ZL x,O⟩;subst z;have g:b<F D.g:=O;have L:=q.x b g;refine⟨bdI (Z D.g b Aj).e,bdS (Z D.g b Aj).e,0,?_,?_,λc e=>⟨?_,?_⟩⟩;unfold bdI;grind;unfold bdS;grind;apply (ze _ _ b n _ c e.x q g).m;rintro d w' ⟨h,p,rfl,f⟩;obtain⟨k,m,rfl⟩:=f.x.d;obtain⟨l,o,rfl⟩:=f.z.a;exact⟨k,m,l,o,X,f.x,f.z,f.A⟩;apply (ZdM b e.y g).m;rintro d w' ⟨rfl,G,rfl⟩;have⟨f,h⟩:=e.y.A.j b g;have t:=e.y.x b g;have w:bdI (Z D.g b Aj).e=(Z D.g b Aj).e.f:=(by unfold bdI;split;rename_i k;exact(t.2.2.1 k).s;rfl);have y:bdS (Z D.g b Aj).e=(Z D.g b Aj).e.c:=by unfold bdS;split;rfl;rename_i k;exact(t.2.2.2 (by simpa using k)).s
  rw[<- w] at f;rw[<- y] at h;have⟨k,m,u⟩:=f.d;have⟨l,o,v⟩:=h.a;rw[u] at f;rw[v] at h;have p:E_ c _:=below_drewN y_ G;exact⟨k,m,l,o,by rw[u,v],Ad.q (base:=0) (Da f v_) p,Bj.q (base:=0) (Da h v_) p,p⟩
 refine⟨[],[],1,v_,v_,λc e=>⟨?_,?_⟩⟩;apply (Zd5 x c e.x s O).m;rintro d w' ⟨rfl,rfl⟩;exact⟨ZP,0,ZP,0,X,Ad.nil,Bj.nil,y_⟩;apply (Zbc x e.y.h.j s).m;rintro d w' ⟨rfl,rfl⟩;exact⟨ZP,0,ZP,0,X,Ad.nil,Bj.nil,y_⟩
def xx{o v r b1 f5 d4 d5 f6 d6 x g7 d9 f8 g5 e1 e0 g0 f9 g6 wc f7}(e2:Gz w o v b1 r)(W:∀b,B w.1<=b->o b=99)(h5:r<=10000000)(R:Ly w dp gb db yb base n D vF vB vC vX kvs bvs cvs a)(f0:Pj n D a):C_ 77 #[P_ v,P_ dp,Y9 #[I 10,I f5,I d4,V d9 e1 e0,I d5,I f6,I d6,V f8 g0 f9,V g5 g6 wc,Q_ f7,I x,I g7]] w λd w'=>d=ZI (ZR Z0)/\Nz w w' o v (r+2) b1:=by
 have⟨a8,Q,c3,e6,e8,b4⟩:=ZaU (dp:=dp) (gb:=gb) (db:=db) (yb:=yb) (base:=base) (vF:=vF) (vB:=vB) (vC:=vC) (vX:=vX) (kvs:=kvs) (bvs:=bvs) (cvs:=cvs) x f0;have q:=K_ e2 W;have a7:K (∀k,Below _ w k->_):=λk y=>R.q y;have⟨c6,c7⟩:=Y_ (λk y=>(b4 k (R.q y)).1) (λk y=>(b4 k (R.q y)).2);have⟨G,e7⟩:=Z_ (F a8);have⟨i,e9⟩:=Z_ (F Q);have e:=x4_ e7 e9 e6 e8;clear R f0 b4 e2 W e7 e9 e6 e8;refine dl_ ?_;go_enter func77,ntmps77;go_upto_region 10 with fail;generalize b8:ZN w (O_ #[I 10,I f5,I d4,V d9 e1 e0,I d5,I f6,I d6,V f8 g0 f9,V g5 g6 wc,Q_ f7,I x,I g7] 93)=L;have h:E_ w L:=(by rw[<- b8];exact r_);have a3:D_ L (B w.1) 10 (I x):=(by rw[<- b8];simp[go_sem]);clear b8;have⟨b2,_,_,_,_⟩:=(a7 L h).cells
 go_cut [12,13,14] (λd f j c=>∃l m g p,d=ZH l G m/\f=ZH g i p/\j=I c3/\K (Ad c (B w.1) (V l G m) a8/\Bj c (B w.1) (V g i p) Q/\E_ L c))
 case first=>
  go_region_held3 (λw'=>D_ w' dp 0 (P_ gb)/\D_ w' (B w.1) 10 (I x)) (first|exact⟨b2,a3⟩|exact⟨Ah aA b2,Ah aA a3⟩) (first|(go_at_call 27;apply (c6 _ h.drew).m;rintro d b9 ⟨l,b3,g,u,rfl,b5,b6,c⟩;have aA:Below (B L.1) _ _:=y_.drew.T c))
  all_goals go_wp2
  all_goals go_meet
  all_goals exact⟨l,b3,g,u,by rw[e.1],by rw[e.2.1],X,by rw[<- e.1];exact Da b5 h.size,by rw[<- e.2.1];exact Da b6 h.size,aA⟩
 obtain⟨l,b3,g,u,rfl,rfl,rfl,p⟩:=hcut;have c0:=Ah p.2.2 a3;have z:=h.T (p.2.2.m h.size);have⟨_,m,_,_,_⟩:=(a7 wc z).cells;have a6:=K_ p.1 p.2.1;clear b2 a3 h p;generalize wc=b9 at *;go_upto_region 11 with fail;go_cut [15,16,17] (λd f j c=>∃s A t M,d=ZH s G A/\f=ZH t i M/\j=I c3/\K (Ad c 0 (V s G A) a8/\Bj c 0 (V t i M) Q/\E_ b9 c))
 case first=>
  go_region_held3 (λw'=>D_ w' dp 1 (P_ yb)/\D_ w' (B w.1) 10 (I x)) (first|exact⟨m,c0⟩|exact⟨Ah aA m,Ah aA c0⟩) (first|(go_at_call 139;apply (c7 _ z.drew).m;rintro d g1 ⟨s,d7,t,d8,rfl,b5,b6,c⟩;have aA:Below (B b9.1) _ _:=y_.drew.T c))
  all_goals go_wp2
  all_goals go_meet
  all_goals exact⟨s,d7,t,d8,by rw[e.1],by rw[e.2.1],X,by rw[<- e.1];exact b5,by rw[<- e.2.1];exact b6,aA⟩
 obtain⟨s,d7,t,d8,rfl,rfl,rfl,j⟩:=hcut;have N:=K_ (a6.1.q j.2.2) (a6.2.q j.2.2);have a5:=Y (z.T (j.2.2.m z.size));have c8:=Tt 0 N.1 j.1 (p_ e.2.2.1);have c5:=Y j.2.1;clear m c0 z j a6 c6 c7;generalize wc=g1 at *;go_wp2_with fail
 apply c8.m;rintro d g2 ⟨rfl,h7,f3⟩;have A:E_ g1 g2:=f3 ▸ (below_drewN y_ _);have a4:=Y (a5.T (A.m a5.size));have P:=K_ (N.1.q A) (N.2.q A);have c9:=Zag 0 P.2 (c5.q A) (p_ e.2.2.2);clear f3 A c8 N c5 a5;go_wp2_with fail
 apply c9.m;rintro d g3 ⟨rfl,h8,f4⟩;have a0:E_ g2 g3:=f4 ▸ (below_drewN y_ _);have M:=Y (a4.T (a0.m a4.size));have f:=K_ (P.1.q a0) (P.2.q a0);have e3:=q.1.z (S:=λ_=>False) (.a M) (λ_ _ d=>d.elim) (Ek.refl _ _);have f1:=λb c=>q.2 b (B_ f.1 b c).1;have f2:=λb c=>q.2 b (B_ f.2 b c).1;have c1:=e3.c (Da f.1 v_:Ad _ 0 _ _) f1 (p_ e.2.2.1) O;clear f4 a0 c9 P a4 e3;go_wp2_with fail
 apply c1.m;rintro d g4 ⟨rfl,a1⟩;obtain⟨h3,h0,d0,d1,a9,d2,g9,d3,b0⟩:=a1
 have e5:∀b,ZW (ZH g i u)=T b->ZW (ZH l G b3)≠T b:=λb c d=>by
  have⟨c2,a2⟩:=Ac f.1 d;have⟨c4,b7⟩:=Ac f.2 c
  grind
 have e4:Bj g4 0 (V g i u) Q:=a9.M (Da f.2 v_) (λb c d=>w_);have b7:=λb c=>d3 b (B_ f.2 b c).2 (f2 b c) (e5 b c);have c2:=d0.g e4 b7 (p_ e.2.2.2) O
 have c4:K (∀a2,rl g4 a2 h3 v (r+1) (V g i u) h0->Nz w a2 o v (r+2) b1):=λa2 h4=>by
  have h1:=h4.a b7;have h6:=M.size;have h2:=(Aa.a (S:=λb=>o b<=13∨o b=99) M).c a9 (λb c=>w_);refine Nz.a (λb c=>d1 b O) h2 d2 (λb c=>?_) (λb c W=>b0 b O W) h1
  by_cases g8:b<B g3.1
  exact b0 b g8 (q.2 b c)
  grind
 clear d0 d1 a9 d2 g9 d3 b0 e4 b7 c1 e5 f1 f2 f M q a7;go_wp2_with fail
 apply c2.m;rintro d a2 ⟨rfl,a1⟩;have g8:=Y (c4 _ a1);clear a1 c2 c4;go_wp2_with fail
 apply (Ee).m;rintro d h6 ⟨rfl,h1⟩;obtain rfl:=h1.s;go_wp2_with fail
 apply (Ee).m;rintro d h9 ⟨rfl,h2⟩;obtain rfl:=h2.s;go_wp2;go_ret;exact⟨s_,g8⟩
end
def Mx.M{i e f b j}(k:Mx i e f b b j)(p:e<=f)(v:b<=1000):∃d:U ZY,F d=b/\ZD i e 25 1 (L_ f b b) b d/\(∀a,a<b->Ad i e (Z d a Ir) (Z j a []))/\∀g a,g<a->a<b->∀h,ZW (Z d g Ir)=T h->ZW (Z d a Ir)≠T h:=by
 have⟨c,l,m,q,r⟩:=k.n;have o:F (Y4 c)=b:=(by simp[m]);have s:∀a,a<b->c[a]? =T (Z (Y4 c) a Ir):=w_;refine⟨Y4 c,o,⟨O,ZJ ⟨f,b,c,X,p,l,x_,by unfold Y2;omega,O,w_⟩⟩,λa n=>?_,λg a t n h u=>?_⟩
 ·grind
 grind
section
variable {w w':ZT} {dp gb db yb base n:H} {D:Ft} {vF vB vC vX:ZY} {kvs:U (ZY×ZY)} {bvs cvs:U ZY} {a:U XS}
def rr{z v u A c5 a5 a6 c6 a7 x d4 a9 c8 d2 b1 b0 d0 c9 d3 wc c7}(b3:Gz w z v A u)(G:∀b,B w.1<=b->z b=99)(e1:u<=10000000)(r:Ly w dp gb db yb base n D vF vB vC vX kvs bvs cvs a)(c1:Pj n D a):C_ 77 #[P_ v,P_ dp,Y9 #[I 11,I c5,I a5,V a9 b1 b0,I a6,I c6,I a7,V c8 d0 c9,V d2 d3 wc,Q_ c7,I x,I d4]] w λe w'=>e=ZI (ZR Z0)/\Nz w w' z v (u+5) A:=by
 have W:=c1.ok;have q:=Y W;have p:=K_ b3 G;have t:K (∀a4,Below _ w a4->_):=λa4 e2=>r.q e2;have⟨k,L⟩:=Z_ (F D.f);have N:=Y L;have f7:k<=4:=(by rw[<- L];exact W.l);have⟨d8,f3,c2⟩:=r.y.w.d;rw[length_map,length_map,L] at c2;subst c2;clear r c1 b3 G L W;refine q_ ?_;go_upto_region 18 with fail;generalize c4:ZN w (O_ #[I 11,I c5,I a5,V a9 b1 b0,I a6,I c6,I a7,V c8 d0 c9,V d2 d3 wc,Q_ c7,I x,I d4] 93)=d1;have s:E_ w d1:=(by rw[<- c4];exact r_);clear c4;have⟨e0,_,_,_,_⟩:=(t d1 s).cells;have a2:=sd (t _ s).x q;go_wp2_with fail
 apply a2.m;rintro e d ⟨e6,rfl,b9,Q,b5⟩;have R:=s.T (b5.m s.size);rw[N] at Q;have⟨a1,c3,c0,b6,b4⟩:=Q.M b9 O;have c:=x4_ c3 c0 b6 b4;have o:=K_ R s.size;have⟨_,f1,_,_,f2⟩:=(t d R).cells;rw[N];clear e0 a2 Q s b5 R b9 c3 c0 b6 b4;go_upto_region 21 with fail;go_loopw [21,22] (λg f h=>∃(i b:H),g=ZR Z0/\f=ZX ZQ i/\i<=k/\K (h=Y1 d b)) (λ_ f _=>k-ZL (ZA f))
 exact⟨0,0,s_,X,v_,X⟩;obtain⟨i,b,rfl,rfl,f8,a3⟩:=hrel;have e4:=a3.out;subst e4;clear a3
 by_cases a0:i<k
 ·have f9:=F_ i k;have f:E_ d _:=below_drewN y_ b;have l:=o.1.T (f.m o.1.size);have m:=t _ l;have⟨_,f5,_,_,f6⟩:=m.cells;have y:=c.2.1;have g:=c.2.2.1 i a0;have e9:_=T (Z a1 i Ir):=Ah f (Hn y (by rw[Qc,Qd (c.1 ▸ a0)];rfl));have⟨e7,f4,d7,e5,M,f0,_,a8,_,_⟩:=m.y.w.at (i:=i) (by rw[length_map,length_map,N];exact a0);have e3:d8=T ⟨e7,0,ZP⟩:=(by injection M);subst e3;have b8:Z (D.f.map BS.fs|>.map An) i []=Z (ce D) i []:=(by grind [Yy]);have j:=m.y.w.j i w_;rw[a8] at j;rw[b8] at f0 j;have b7:F (Z (ce D) i [])<=1000000:=(by have h:i<F D.f:=w_;rw[Yy h,Ak];have:=q.r _ (q.f h);omega);have⟨P,d9,b2⟩:=g.d;rw[b2] at e9 g
  have d5:K (∀e,C_ 140 #[V P (F (Z (ce D) i [])) d9,V d7 (F (Z (ce D) i [])) e5] (Y1 (Y1 d b) e) λd6 w'=>d6=ZI (ZR Z0)/\∃h,w'=Y1 (Y1 d b) h):=λe=>by
   have h:Below (B (Y1 d b).1) (Y1 d b) _:=below_drewN y_ e;apply (Tt _ ((g.q f).q h) (j.q h) b7).m
   grind [drewN_drewN]
  clear g j m a8 M b8 b2 y l b7;generalize (F (Z (ce D) i []))=g0 at *;generalize h:Y1 d b=e8 at *;have d6:=Y h;clear h f;go_upto_region 23 with fail;go_quiet (first|(go_at_call 140;exact(d5 _).m (λ_ _ r=>⟨r.1,r.2⟩)));go_wp2;go_roundw;exact⟨i+1,_,X,g_,O,by rw[<- d6];exact drewN_drewN _ _ _⟩;exact z_
 have e7:¬i<(k:E):=O;have f:E_ d _:=below_drewN y_ b;have l:=o.1.T (f.m o.1.size);have a8:=o.2;have b2:=p.1.z (S:=λ_=>False) (.a l) (λ_ _ e=>e.elim) (Ek.refl _ _);have y:ZD (Y1 d b) 0 25 1 (L_ e6 k k) (F a1) a1:=by rw[c.1];exact(Aa.a (S:=λ_=>False) f).M (Da c.2.1 v_) (λ_ _=>id)
 have M:=b2.f (Ls:=λh=>Z (ce _) h []) y (λj g=>p.2 j (aG a8 (B_ c.2.1 j g).1)) (λh m=>by
  have P:=c.2.2.1 h (by rw[<- c.1];exact m)
  exact⟨Ad.q (base:=0) (Da P v_) f,λj g=>p.2 _ (aG a8 (B_ P _ g).1)⟩) (λh=>by
  rcases Nat.lt_or_ge h (F D.f) with m|m
  rw[Yy m,Ak];have:=q.r _ (q.f m);omega
  grind [ce]) (λi h b7 m j g=>c.2.2.2 i h b7 (by rw[<- c.1];exact m) j g) (p_ c.1) e1 (λj g=>p.2 j (aG l.size g))
 rw[c.1] at M
 have m:K (∀h,Nz (Y1 d b) h z v (u+k+1) A->Nz w h z v (u+5) A):=λh e5=>by obtain⟨e3,d9,b7,b8,d5,d6,P,d7⟩:=e5;exact Nz.a (Ek.refl _ _) (.a l) (λ_ _=>X) (λj g=>ZJ (p.2 _ g)) (λj _ G=>ZJ G) ⟨e3,d9,b7.P O,b8,d5,d6,P,d7⟩
 clear b2 y f l p t c o q;generalize (Y1 d) b=e8 at *;go_wp2_with fail
 apply M.m;rintro e h ⟨rfl,g⟩;have j:=Y (m _ g);clear g M m;go_wp2;go_ret;exact⟨X,j⟩
end
def Hc.P{e f d c N a b}(h:Hc e f d c N b)(o:N<=a):Hc e f d c a b:=by obtain⟨p,g,i,j,k,l,m,n⟩:=h;exact⟨p,g,i.P o,j,k,l,m,n⟩
section
variable {w w' wr:ZT} {dp gb db yb base n:H} {D:Ft} {vF vB vC vX:ZY} {kvs:U (ZY×ZY)} {bvs cvs:U ZY} {a:U XS}
def tv{j i h k g A s t G u} x S {v M Q z y P N R wc L}(e:Gz w j i k h)(d:∀r,B w.1<=r->j r=99)(q:h<=10000000)(c:Ly w dp gb db yb base n D vF vB vC vX kvs bvs cvs a)(f:Pj n D a):C_ 77 #[P_ i,P_ dp,Y9 #[I g,I A,I s,V v z y,I t,I G,I u,V M P N,V Q R wc,Q_ L,I x,I S]] w λb w'=>b=ZI (ZR Z0)/\Hc w w' j i (h+5) k:=by
 by_cases o:g=8
 subst o;exact(Zdm c f).m (λ_ _ b=>⟨b.1,.a e b.2 d O⟩)
 by_cases p:g=9
 subst p;exact(Zdl c f).m (λ_ _ b=>⟨b.1,.a e b.2 d O⟩)
 by_cases l:g=10
 subst l;exact(xx e d q c f).m (λ_ _ b=>⟨b.1,.b b.2 O⟩)
 by_cases m:g=11
 subst m;exact(rr e d q c f).m (λ_ _ b=>⟨b.1,.b b.2 O⟩);exact(ZaO c f o p l m).m (λ_ _ b=>⟨b.1,.a e b.2 d O⟩)
def Hc.i{c g d a f b}(h:Hc w w' c g d f)(i:Kc w c a b)(n:13<a)(o:a≠99):b w':=by obtain⟨q,l,j,k,e,_⟩:=h;exact i _ (e.m (λp _ m=>O))
def Zdk{d c b e f} P Q r s R t x i u W a2 y v a1 a0 a3 wc S (g:Hc w wr d c b f)(G:b<=10000000)(M:Kc w d e (λj=>Ly j dp gb db yb base n D vF vB vC vX kvs bvs cvs a))(z:13<e)(A:e≠99)(N:Pj n D a):C_ 77 #[P_ c,P_ dp,Y9 #[I P,I Q,I r,V u y v,I s,I R,I t,V W a1 a0,V a2 a3 wc,Q_ S,I x,I i]] wr λh w'=>h=ZI (ZR Z0)/\Hc w w' d c (b+5) f:=by have L:=g.i M z A;obtain⟨a5,a4,k,l,m,o,p,q⟩:=g;exact(tv x i k q G L N).m (λ_ _ h=>⟨h.1,Hc.T l m o p h.2⟩)
def Zmk{d c g M e}(G:Hc w wr d c g e)(a8:g<=9000000)(x:Kc w d M (λi=>Ly i dp gb db yb base n D vF vB vC vX kvs bvs cvs a))(u:13<M)(v:M≠99)(y:Pj n D a):C_ 42 #[P_ c,P_ dp] wr λA w'=>A=ZI (ZR Z0)/\Hc w w' d c (g+6000) e:=by
 have N:K (∀(_ S W:_) (i:_) (o:_),Hc w i d c o e->_):=λa5 S W i o L a2=>Zdk a5 0 0 0 0 0 S W ZP ZP ZP 0 0 0 0 0 0 ⟨#[]⟩ L a2 x u v y;have⟨a0,a1,a4⟩:=(G.i x u v).y.A.h.1;subst a4
 have z:K (∀i o,Hc w i d c o e->ZV i (J dp 1)=T (P_ yb)/\ZV i (J yb 0)=T (I n)/\ZV i (J yb 1)=T (V a0 (F D.g) a1)):=λi o L=>by
  have⟨_,r,s,t,_⟩:=(L.i x u v).cells
  grind
 have a3:=y.ok.i;have b4:=y.ok.w;have b:K (Hc w _ d c (g+30*(8-8)) e):=G;have⟨p,R⟩:=W_ (F D.g);rw[<- R] at z a3;clear x u v y G R;generalize wr=b7 at *;refine q_ ?_;go_upto_region 2 with fail;go_loopw [5] (λf j=>∃h:H,8<=h/\h<=13/\f=ZX ZQ h/\K (Hc w j d c (g+30*(h-8)) e)) (λf _=>13-ZL (ZA f))
 grind
 clear b;obtain⟨h,b3,b2,rfl,b⟩:=hrel
 by_cases b1:h<=12
 ·have P:(h:E)<=12:=O;have m:K (Hc w _ d c (g+_+5*0) e):=b;clear b;generalize wr=a7 at *;go_upto_region 5 with fail;go_loopw [6] (λj k=>∃f:H,f<=6/\j=ZX ZQ ((f:E)-1)/\K (Hc w k d c (g+30*(h-8)+5*f) e)) (λj _=>6-ZL (ZA j+1))
  grind
  clear m;obtain⟨f,s,rfl,b⟩:=hrel
  by_cases r:f<=5
  ·have Q:(f:E)-1<=4:=O;have l:=N (h:H) ((f:E)-1) 0 _ _ b O;have j:i64.wrap (f-1+1)=(f+1:H)-1:=(by rw[Au O O];omega);have t:f-1+1=((f+1:H):E)-1:=O;go_wp2_with fail
   apply l.m;rintro A a6 ⟨rfl,q⟩;have k:K (Hc w _ d c (_+5*(f+1)) e):=q;clear q l b;go_wp2;go_roundw;exact⟨f+1,O,w_,k⟩;exact z_
  have j:f=6:=O;subst j;have k:K (Hc w wr d c (g+30*(h+1-8)) e):=w_;clear b;go_wp2;go_roundw;exact⟨h+1,O,O,g_,k⟩;exact z_
 have gk:¬(h:E)<=12:=O;have m:K (Hc w _ d c (g+150+25*0) e):=b.P O;clear b;generalize wr=a7 at *;go_upto_region 11 with fail;go_loopw [8] (λj k=>∃f:H,f<=n+1/\j=ZX ZQ f/\K (Hc w k d c (g+150+25*f) e)) (λj _=>n+1-ZL (ZA j))
 grind
 clear m;obtain⟨f,b5,rfl,b⟩:=hrel;have⟨r,s,t⟩:=z _ _ b
 by_cases b6:f<=n
 ·have P:f<=(n:E):=O;have m:K (Hc w _ d c (_+_+5*0) e):=b;clear b;go_upto_region 14 with fail;clear r s t;generalize wr=b8 at *;go_loopw [9] (λk l=>∃j:H,j<=p+1/\k=ZX ZQ j/\K (Hc w l d c (g+150+25*f+5*j) e)) (λk _=>p+1-ZL (ZA k))
  grind
  clear m;obtain⟨j,a9,rfl,b⟩:=hrel;have⟨r,s,t⟩:=z _ _ b
  by_cases b0:j<=p
  ·have Q:j<=(p:E):=O;have l:=N 9 (f:H) (j:H) _ _ b O;go_wp2_with fail
   apply l.m;rintro A a6 ⟨rfl,q⟩;have k:K (Hc w _ d c (_+5*(j+1)) e):=q;clear q l b r s t;go_wp2;go_roundw;exact⟨j+1,O,g_,k⟩;exact z_
  have Q:¬j<=(p:E):=O;have k:K (Hc w wr d c (g+150+25*(f+1)) e):=b.P O;clear b;go_wp2;go_roundw;exact⟨f+1,O,g_,k⟩;exact z_
 have P:¬f<=(n:E):=O;have j:K (Hc w _ d c (g+6000) e):=b.P O;clear b;go_wp2;go_ret;exact⟨X,j⟩
end
def ZoM:(prog.info? 96).map (λa=>(a.zero,a.size,a.bytes))=T (T (Y7 ZP),1,8):=k_
def ZmT:(prog.info? 208).map (λa=>(a.zero,a.size,a.bytes))=T (T (Y7 ZP),1,8):=k_
structure Pg(e b:ZT)(f j m n:H)(i:YZ ZY)(h:ZY)(g)(k l)(c)(d):Prop where
 t:B e.1<=c
 o:b.1[c]? =T (O_ #[k,l] m)
 v:WB b f (YS i j d)
 M:ZD b 0 n 1 d (F g+1) (g++[P_ c])
 D:∀a,ZW d=T a->ZW h=T a∨B e.1<=a
 u:Aa (λa=>a=f∨ZW h=T a) e b
def WB.o{d a f}(h:WB d a f){e b l k:H}{c m}(j:ZD d e b l c k m)(o:b≠90):ZW c≠T a:=λg=>by
 have⟨n,i⟩:=Ac j g;rw[h] at i
 grind
def Wj b {a}:C_ 127 #[P_ b,Y7 ZP,Y7 ZP] a (V_ (ZR Z0) a):=by refine dl_ ?_;go_enter func127,ntmps127;go_wp2;go_ret;exact⟨X,X⟩
def Zb0(a:ZT)(d f:H){b c}:∀e g,[c][e]? =T g->ZV (ZN (ZN a (O_ b d)) (O_ #[c] f)) (((J (B a.1+1) 0):Addr).add e)=T g:=by have:=one_new (ZN a (O_ b d)) #[c] f;rw[show B (ZN a (O_ b d)).1=B a.1+1 by simp] at this;exact this
def Pg.N{a g}{d j k e:H}{m l v' h i f}(o:WB a d m)(s:ZD a 0 e 1 l (F f) f)(t:e≠90)(r:ZD g 0 e 1 v' (F f+1) (f++[P_ (B a.1)]))(n:Y3 (ZN (ZN a (O_ #[h,i] k)) (O_ #[P_ (B a.1)] e)) g (ZW l))(v:∀b,ZW v'=T b->ZW l=T b∨B a.1<=b):WB g d m/\Pg a (ZO g (J d j) v') d j k e m l f h i (B a.1) v':=by
 have w:=o.o s t;have x:=o.lt;have u:Aa (λb=>b=d∨_) a _:=(((Aa.refl _ a).alloc _).alloc _).grown n (λb c _=>ZJ c);have p:=((o.alloc _).alloc _).grown n (λc=>w c.s);have z:g.1[B a.1]? =T (O_ #[h,i] k):=(by have q:(ZN (ZN a (O_ #[h,i] k)) (O_ #[P_ (B a.1)] e)).1[_]? =_:=(hc_ s_).T (ha_ a _);refine(n.block _ (Qb q).1 (λc=>?_)).T q;have:=(B_ s _ c.s).2;omega);have q:=p.o r t;refine⟨p,x_,?_,p.set j _,?_,v,u.setCell (λ_=>ZM X) _⟩
 ·grind [Below.heap_setCell]
 exact(Aa.setCell (S:=λb=>b=d) (Aa.refl _ _) (λ_=>X) _).M r (λb y c=>q w_)
def Wk c l p g a f b (e:WB b c g)(d:g[2]? =T a)(i:ZD b 0 96 1 a (F f) f)(M:F f<=10000000):C_ 127 #[P_ c,P_ l,P_ p] b λj k=>j=ZI (ZR Z0)/\∃h o,Pg b k c 2 137 96 g a f (P_ l) (P_ p) h o:=by
 have⟨w,x,y,z,A⟩:=info_parts ZoM;have⟨s,k,_⟩:=y4_ e i (e.o i C) e.lt;have t:ZV b (J c 2)=T a:=(by rw[e.cell];exact d);have u:=λj=>e.frozen j;have q:=Y d;clear e i d;refine dl_ ?_;go_enter func127,ntmps127;go_wp2_with (at_builtin;apply Dl X _ _ 82 X 0 96 w _ 1 8 underlying82 x y z A X C a _ f X (ra_ (ra_ k _) _) _ 1 1 _ X X (Zb0 b _ 96) (by intro m h;simp only[mem_cons,not_mem_nil,or_false] at h;subst h;rfl) C (by unfold Y2;omega) O v_)
 rintro o D ⟨m,d,v,_,P,N,rfl⟩;have⟨h,n⟩:=Pg.N (j:=2) s k C m d (λG r=>w_);have r:K (Pg b _ c 2 _ 96 g a _ _ _ _ _):=n;have G:ZV D (J c 2)=T a:=(by rw[h.cell];exact q);have L:=λj=>h.frozen j;clear m d v h n t u;go_wp2;go_ret;exact⟨X,_,_,r⟩
structure RP where
 d:H
 ib:H
 c:H
 n:H
 e:H
 m:H
 a:H->ZG
 sc:H->E
 ct:H->E
 k:E
 size:H
 b:H
 T:ZC
 u:ZG
def ptR(a:RP):ZY:=P_ a.d
def zw(a:H):ZY:=P_ a
structure Zje(c:ZT)(b:H->H)(d)(a:RP):Prop where
 o:c.1[a.d]? =T (O_ #[P_ a.ib,P_ a.c] 210)
 f:b a.d=16
 cf:Vn a.m a.a a.sc a.ct a.k a.size a.b
 x:Ru c b d a.ib a.m a.a a.sc a.ct a.k a.size a.b a.T a.u
 y:Oa c b (d+1) a.c a.n a.e a.m a.a a.sc a.ct a.k a.size a.b a.T a.u
def Zme(q:ZT)(l:H->H)(i:H):Prop:=∃j h r e c a o m n p k f g b,Kc q l 17 (λd=>Ly d i j h r e c a o m n p k f g b)/\Pj c a b
structure ZS where
 p:H->Prop
 u:ZY
 v:ZY
structure Ce(g:ZS)(c)(b)(o)(d)(m l)(i j)(f:U RP)(h:U H):Prop where
 r:Gz c b o d m
 N:∀a,B c.1<=a->b a=99
 D:d[1]? =T i
 M:ZD c 0 208 1 i (F (f.map ptR)) (f.map ptR)
 P:∀a,ZW i=T a->b a=14
 G:d[2]? =T j
 y:ZD c 0 96 1 j (F (h.map zw)) (h.map zw)
 z:∀a,ZW j=T a->b a=15
 w:∀k e,f[k]? =T e->Zje c b (100+2*k) e
 x:∀e∈f,ZK e.T<=l
 L:∀n∈h,Zme c b n
 t:(∀a,g.p a->a<B c.1/\b a=98)/\d[0]? =T g.u/\d[3]? =T g.v
def Dh(a:ZS)(c d:ZT):Prop:=Aa (λb=>¬a.p b) c d
def Dh.a{c a b}(d:E_ a b):Dh c a b:=Aa.a d
def Dh.T{a b c d}(e:Dh a b c)(f:Dh a c d):Dh a b d:=Aa.T e f
section
variable {w w':ZT} {o a:H->H} {g N N' L L' t:H} {c d:YZ ZY} {v1 v2 h v2':ZY} {e:U RP} {f:U H} {r:RP} {S:H->Prop} {b:ZS}
def Zje.z(c:Zje w o t r)(h:Aa S w w')(g:∀b,b<B w.1->S b->o b≠16/\o b≠t/\o b≠t+1)(f:Ek w o a)(j:100<=t):Zje w' a t r:=by have i:=(Qb c.o).1;exact⟨h.g c.o (λd=>(g _ i d).1 c.f),f.at i c.f C,c.cf,c.x.z h (λb e d=>(g b e d).2.1) f O,c.y.z h (λb e d=>(g b e d).2.2) f O⟩
def Zme.z{c}(k:Zme w o c)(s:Aa S w w')(p:∀b,b<B w.1->S b->o b≠17)(n:Ek w o a):Zme w' a c:=by obtain⟨j,i,y,f,r,d,v,t,u,x,q,g,h,e,l,m⟩:=k;exact⟨j,i,y,f,r,d,v,t,u,x,q,g,h,e,l.i s p n,m⟩
def Ho{i h d:H}{e j}(f:ZD w 0 i 1 e h j)(g:∀b,ZW e=T b->o b=d)(p:Aa S w w')(n:∀b,b<B w.1->S b->o b≠d)(m:Ek w o a)(l:d≠99):ZD w' 0 i 1 e h j/\∀b,ZW e=T b->a b=d:=
 ⟨p.M f (λb c k=>n b (B_ f b c).2 k (g b c)),λb c=>m.at (B_ f b c).2 (g b c) l⟩
def Ce.l(i:Ce b w o g c N L v1 v2 e f)(l:Ek w o a)(m:B w.1<=B w'.1)(k:d[0]? =c[0]?/\d[3]? =c[3]?:=by first|exact⟨rfl,rfl⟩|exact⟨aH O,aH O⟩):(∀h,b.p h->h<B w'.1/\a h=98)/\d[0]? =T b.u/\d[3]? =T b.v:=⟨λh j=>⟨Qh (i.t.1 h j).1 m,l.at (i.t.1 h j).1 (i.t.1 h j).2 C⟩,k.1.T i.t.2.1,k.2.T i.t.2.2⟩
def Ce.A(h:Ce b w o g c N L v1 v2 e f)(l:Aa S w w')(j:∀a,a<B w.1->S a->o a≠98):Dh b w w':=l.m (λa i d k=>j a i d (h.t.1 a k).2)
def Ce.k(i:Ce b w o g c N L v1 v2 e f)(s:Gz w' a g d N')(k:Ek w o a)(j:Aa (λh=>o h<=13∨o h=99) w w')(l:∀n,n<4->d[n]? =c[n]?)(t:∀h,B w'.1<=h->a h=99):Ce b w' a g d N' L v1 v2 e f/\Dh b w w':=by have q:∀{m},13<m->m≠99->∀h,h<B w.1->(o h<=13∨o h=99)->o h≠m:=O;have⟨z,A⟩:=Ho i.M i.P j (q C C) k C;have⟨D,G⟩:=Ho i.y i.z j (q C C) k C;refine⟨⟨s,t,(l 1 C).T i.D,z,A,(l 2 C).T i.G,D,G,λy r x=>(i.w y r x).z j (λh _ p=>O) k O,i.x,λu v=>(i.L u v).z j (λh _ p=>O) k,i.l k j.size ⟨l 0 C,l 3 C⟩⟩,i.A j (λh _ p=>O)⟩
def Ce.p(m:Ce b w o g c N L v1 v2 e f)(n:Hc w w' o g N' c):(∃a d,Ce b w' a g d N' L v1 v2 e f)/\Dh b w w':=by obtain⟨a,d,h,i,j,k,p,l⟩:=n;exact⟨⟨a,d,(m.k h i j k l).1⟩,(m.k h i j k l).2⟩
def Ce.i{l r n}(d:Ce b w o g c N L v1 v2 e f)(u:e[l]? =T r)(j:Aa (λh=>o h=100+2*l∨o h=100+2*l+1) w w')(k:Ek w o a)(y:∀h,B w'.1<=h->a h=99)(Q:Zje w' a (100+2*l) n)(i:n.d=r.d)(s:L<=L')(M:ZK n.T<=L'):Ce b w' a g c N L' v1 v2 (e.set l n) f/\Dh b w w':=by
 have P:=(List.getElem?_eq_some_iff.1 u).1
 have v:(e.set l n).map ptR=e.map ptR:=by
  apply ext_getElem?
  grind [ptR]
 have⟨z,A⟩:=Ho d.M d.P j (λh _ i=>O) k C;have⟨D,G⟩:=Ho d.y d.z j (λh _ i=>O) k C;refine⟨⟨d.r.z j (λh _ i=>O) k,y,d.D,v ▸ z,A,d.G,D,G,λx p m=>?_,λp m=>?_,λq t=>(d.L q t).z j (λh _ i=>O) k,d.l k j.size⟩,d.A j (λh _ i=>O)⟩
 ·rw[getElem?_set] at m;split at m
  ·grind
  exact(d.w x p m).z j (λh _ i=>O) k O
 rcases mem_or_eq_of_mem_set m with i|i
 exact aG (d.x p i) s
 grind
end
def Zk8{a d x e g f m y c o}(b:Vn a d x e g f m)(u:Ol a d x y=.ok c)(q:o.Perm (Bx a (F c.k) m (esS a d e g f c) (bbS a d e g f c)).r)(j:Em o):Pj (F c.k) (Bx a (F c.k) m (esS a d e g f c) (bbS a d e g f c)) o:=by
 have w:∀k,_->_->_/\_:=λk h n=>⟨(b.sc k h).1,(b.sc k h).2 n⟩;have r:2<=f:=oj_ b.g b.u;have i:=Zq7 w u;have p:=i.b (Sw (ct:=e) w b.g b.i r b.h u);refine⟨ZbG b.j i.a.k p,i.w r b.h b.g b.i,λK hK A j=>?_,q,j,λD z v l=>?_⟩
 rotate_left
 have l:z<a+1:=(by rw[Znb] at l;exact l);exact(ZkG b.j i.a.k p q l v).T (ZlM p q l v).s;rw[show(Bx a (F c.k) m (esS a d e g f c) (bbS a d e g f c)).g=Ex (esD a d e g f c) (bbD a d e g f c) (a+1) from Pk _ _ _ _ _] at hK;unfold Ex at hK;obtain⟨k,h,rfl⟩:=mem_map.1 hK;have h:=mem_range.1 h;unfold kF at j;rw[Ye h] at j
 cases n:d k with
 | true=>
  rw[n] at j;simp[Cp,Ra] at j
 | false=>
  rw[n] at j;obtain⟨t,s,_,rfl⟩:=fp ((i.a.j k h) ▸ i.a.k) r b.h (λt s=>(i.val.j k h t s).1) A (by simpa [Cp] using j);have:=(i.val.j k h t s).1;omega
section
variable {e:ZS} {w a w2 w3:ZT} {o:H->H} {g N L L' i:H} {c:YZ ZY} {v1 v2:ZY} {b:U RP} {d:U H} {r:RP}
def cz{c b}(d:B w.1<=B a.1)(e:B a.1<=b):Dd w a o c b=99:=by
 unfold Dd
 grind
def Ce.f{f h}(n:Ce e w o g c N L v1 v2 b d)(q:b[i]? =Z2 r){k m}(x:Ru f (Dd w f o (100+2*i)) (100+2*i) r.ib r.m r.a r.sc r.ct r.k r.size r.b k m)(v:Aa (λa=>o a=100+2*i) w f)(p:E_ f h)(P:Oa w2 (Dd h w2 (Dd w f o (100+2*i)) (100+2*i+1)) (100+2*i+1) r.c r.n r.e r.m r.a r.sc r.ct r.k r.size r.b k m)(y:Aa (λa=>Dd w f o (100+2*i) a=100+2*i+1) h w2)(D:L<=L')(G:ZK k<=L'):Ce e w2 (Dd h w2 (Dd w f o (100+2*i)) (100+2*i+1)) g c N L' v1 v2 (b.set i {r with T:=k,u:=m}) d/\Dh e w w2:=by
 have j:=n.w i r q;have M:=(Qb j.o).1;have Q:=p.size;have z:=(Aa.a p).T y;have A:Aa (λa=>o a=100+2*i∨o a=100+2*i+1) w w2:=(v.m (λa _ l=>ZM l)).c z (λa l=>by grind [Dy]);have u:Ek f (Dd w f o (100+2*i)) (Dd h w2 _ (100+2*i+1)):=λa s=>ZJ (Dy O);have t:=(Ea w _ o _).T v.size u;refine n.i q A t (λa s=>cz y.size s) ⟨?_,t.at M j.f C,j.cf,?_,P⟩ X D G;exact A.g j.o (λl=>by have R:=j.f;grind);exact x.z z (λa _ l=>O) u O
def Ce.q(f:Ce e w o g c N L v1 v2 b d)(l:E_ w a):Ce e a o g c N L v1 v2 b d:=by have k:Aa (λ_=>False) w _:=.a l;have i:=Ek.refl w o;have⟨s,t⟩:=Ho f.M f.P k (λj _ h=>h.elim) i C;have⟨v,x⟩:=Ho f.y f.z k (λj _ h=>h.elim) i C;exact⟨f.r.z k (λj _ h=>h.elim) i,λj p=>f.N j (aG l.size p),f.D,s,t,f.G,v,x,λr u q=>(f.w r u q).z k (λj _ h=>h.elim) i O,f.x,λm n=>(f.L m n).z k (λj _ h=>h.elim) i,f.l i k.size⟩
def Ce.h(j:Ce e w o g c N L v1 v2 b d)(k:b[i]? =T r){h}(l:Aa h w a)(p:∀f,f<B w.1->h f->o f=100+2*i):Oa a (Dd w a o (100+2*i)) (100+2*i+1) r.c r.n r.e r.m r.a r.sc r.ct r.k r.size r.b r.T r.u:=
 (j.w i r k).y.z l (λf n m=>w_) (Ea _ _ _ _) O
def Fh(w e:ZT)(o:H->H)(d:ZY)(b c:H)(a:H):H:=if a<B w.1 then o a else if ZW d=T a then b else if a<B e.1 then c else 99
def mt{w e o d a c}:Ek w o (Fh w e o d a c):=λf b=>ZJ (by unfold Fh;rw[aD b])
def Pq{w d o c e b a}(f:B w.1<=a)(g:a<B d.1)(h:ZW c≠T a):Fh w d o c e b a=b:=by
 unfold Fh
 grind
def Ce.v(j:Ce e w o g c N L v1 v2 b d)(t:b[i]? =T r){p x M yd dp v2'}(b9:whole r.m r.a r.sc r.T r.u p)(a9:xq (B w.1) a x M (Bx r.m (F p.k) r.b (esS r.m r.a r.ct r.k r.size p) (bbS r.m r.a r.ct r.k r.size p)))(a7:Vo a r.ib Z0 0 0)(R:Aa (λh=>h=r.ib) w a)(a8:ep a w2 yd (F p.k) (Bx r.m (F p.k) r.b (esS r.m r.a r.ct r.k r.size p) (bbS r.m r.a r.ct r.k r.size p)))(b0:ra w2 r.c r.n (r.m+1) r.e r.k r.size r.b r.T 0 0 Z0)(v:Aa (λh=>h=r.c) a w2)(k:Pg w2 w3 g 2 137 96 c v2 (d.map zw) (P_ x) (P_ yd) dp v2'):Ce e w3 (Fh w w3 o v2' 15 17) g (YS c 2 v2') N L v1 v2' (b.set i {r with u:=Z0}) (d++[dp])/\Dh e w w3:=by
 have n:=j.w i r t;have d0:=(List.getElem?_eq_some_iff.1 t).1;have c9:=j.r.v.lt;have P:=n.x.1;have Q:=n.x.2.1;have c0:=n.y.lt;have⟨S,W,a0,G,c8,_⟩:=n.y;have d1:=R.size;have d2:=v.size;have d3:=k.u.size;have d4:=λh l=>(B_ j.y h l).2;have m:Aa (λh=>_∨_∨_) w _:=((R.m (λh _ f=>ZM f)).c (v.m (S':=λh=>h=r.c) (λh _ f=>f)) (λh f=>ZM (ZJ (ZM f)))).c k.u (λh f=>ZM (ZJ (ZJ f)))
 have b1:∀h,h<B w.1->(h=r.ib∨h=r.c∨h=g∨ZW v2=T h)->o h=100+2*i∨o h=100+2*i+1∨o h=0∨o h=15:=λh l f=>by
  rcases f with f|f|f|f
  ·grind
  ·grind
  subst f;exact ZJ (ZJ (ZM j.r.b));exact ZJ (ZJ (ZJ (j.z h f)))
 have q:Ek w o (Fh w w3 o v2' 15 17):=mt
 have s:∀h,_->Fh w w3 o v2' 15 17 h=_:=λh l=>by unfold Fh;rw[aD l]
 have b6:∀h,B w.1<=h->h<B w2.1->Fh w w3 o v2' 15 17 h=17:=λh y a6=>Pq y O (λf=>by
  rcases k.D h f with u|u
  ·grind
  omega)
 have b4:Fh w w3 o v2' 15 17 dp=17:=Pq (p_ k.t) ((Qb k.o).1) (λf=>by
  have⟨z,u⟩:=Ac k.M f;rw[k.o] at u
  simp at u)
 have b5:(b.set i {r with u:=Z0}).map ptR=b.map ptR:=(by apply ext_getElem?;intro A;rw[getElem?_map,getElem?_map,getElem?_set];split;rename_i u;subst u;rw[t];rfl;rfl);have⟨c2,c3⟩:=Ho j.M j.P m (λh l f=>w_) q C;refine⟨⟨j.r.put m (λh l f=>?_) k.v q (λA u=>aH O) (by simp[j.r.x]),λh l=>?_,(aH O).T j.D,b5 ▸ c2,c3,Array.getElem?_setIfInBounds_self_of_lt (by rw[j.r.x];decide),?_,λh l=>?_,λA D hq=>?_,λD hq=>?_,λa5 b3=>?_,j.l q m.size⟩,j.A m (λh l f=>w_)⟩
 ·rcases f with f|f|f|f
  ·grind
  ·grind
  exact ZM f;exact ZJ (p_ (j.z h f))
 unfold Fh;rw[aC O,aC (λf=>p_ (B_ k.M h f).2),aC O];have f:(d++[dp]).map zw=d.map zw++[P_ dp]:=(by simp[zw]);rw[f,Qe];exact k.M
 ·by_cases z:h<B w.1
  ·rw[s h z]
   rcases k.D h l with f|f
   exact j.z h f;omega
  unfold Fh
  grind
 ·rw[getElem?_set] at hq;split at hq
  ·rename_i u;subst u;injection hq with hq;subst hq;have z:=(Qb n.o).1
   have a1:¬(r.n=r.ib∨r.n=r.c∨r.n=g∨ZW v2=T r.n):=λf=>by
    rcases f with f|f|f|f
    ·grind
    exact a0 f;rw[f] at W;have:=j.r.b;omega;have:=j.z _ f;omega
   have a2:¬(r.ib=g∨ZW v2=T r.ib):=λf=>by
    rcases f with f|f
    rw[f] at P;have:=j.r.b;omega;have:=j.z _ f;omega
   have a3:¬(r.c=g∨ZW v2=T r.c):=λf=>by
    rcases f with f|f
    rw[f] at S;have:=j.r.b;omega;have:=j.z _ f;omega
   refine⟨m.g n.o (λf=>?_),(s _ z).T n.f,n.cf,⟨(s _ Q).T P,Qh Q m.size,ZM ⟨X,0,0,k.u.g (v.g a7 (λf=>?_)) a2⟩⟩,⟨(s _ c0).T S,(s _ G).T W,a0,Qh G m.size,c8.z m a1 G,r.T,0,0,k.u.g b0 a3,λf=>by cases f⟩⟩;have:=b1 _ z f;have:=n.f;omega
   grind
  exact(j.w A D hq).z m (λh l f=>w_) q O
 ·rcases mem_or_eq_of_mem_set hq with f|f
  exact j.x D f;rw[f];exact j.x r (mem_of_getElem? t)
 rcases mem_append.1 b3 with f|f
 exact(j.L a5 f).z m (λh l f=>w_) q;rw[mem_singleton] at f;subst f;obtain⟨c6,c4,c5,c7,c1,a3,a4,a2,b2,b7,b8⟩:=a8;refine⟨x,M,yd,B a.1,F p.k,_,c6,c4,c5,c7,c1,a3,a4,a2,λd5 z=>⟨z.g k.o (λf=>f b4),?_,?_⟩,Zk8 n.cf b9.2.1 b7 b8⟩
 ·have hq:=a9.a (λh y a6=>b6 h y O);have a1:Aa (λh=>_∨_) _ _:=(v.m (λh _ f=>ZM f)).c k.u (λh f=>ZM (ZJ f));refine hq.i a1 (λh l f=>?_) (Ek.refl _ _) C _ z
  grind
 have a1:=(k.u.m (S':=λh=>h<B a.1) (λh _ f=>w_)).c z (λh f=>w_);exact b2.z a1
end
section
variable {k:ZS} {w d b e h i:ZT} {o:H->H} {g N L j n l yb r q m:H} {c:YZ ZY} {v1 v2 f:ZY} {a:U RP} {p:U H} {wd:H->ZG} {sc ct:H->E} {bins:E} {size budget:H}
def Ce.u(v:Ce k w o g c N L v1 v2 a p)(a7:E_ w d)(x:Ru b (Dd d b o (100+2*F a)) (100+2*F a) l m wd sc ct bins size budget ⟨#[]⟩ ZZ)(W:E_ d b)(b7:Oa e (Dd b e (Dd d b o (100+2*F a)) (100+2*F a+1)) (100+2*F a+1) yb r q m wd sc ct bins size budget ⟨#[]⟩ ZZ)(a0:E_ b e)(Q:Aa (λs=>s=j) e h)(b3:B w.1<=j/\j<B d.1)(y:Pg h i g 1 210 208 c v1 (a.map ptR) (P_ l) (P_ yb) n f)(a8:Vn m wd sc ct bins size budget):Ce k i (Fh h i (Dd b e (Dd d b o (100+2*F a)) (100+2*F a+1)) f 14 16) g (YS c 1 f) N L f v2 (a++[⟨n,l,yb,r,q,m,wd,sc,ct,bins,size,budget,⟨#[]⟩,ZZ⟩]) p/\Dh k w i:=by
 have c1:=W.size;have c2:=a0.size;have c3:=Q.size;have c4:=y.u.size;have b9:=v.r.v.lt;have b4:=λs u=>(B_ v.M s u).2;have R:Aa (λs=>_∨_) _ _:=((Aa.a a0).c Q (λs t=>ZM (ZM t))).c y.u (λs t=>ZM (ZJ t));have a3:Aa (λs=>_∨_) _ _:=(Q.m (λs _ t=>ZM t)).c y.u (λs t=>ZM (ZJ t))
 have z:=((Aa.a a7).c (Aa.a (S:=λ_=>False) W) (λs t=>t.elim)).c R (λs t=>by
  rcases t with t|t
  exact ZJ O
  exact ZM t)
 have G:∀s,s<B w.1->(s=g∨ZW v1=T s)->o s=0∨o s=14:=λs u t=>by
  rcases t with t|t
  subst t;exact ZM v.r.b;exact ZJ (v.P s t)
 have c0:=v.N j b3.1;have a5:∀s,_->Dd d b o (100+2*F a) s=_:=λs u=>Dy u;have a6:∀s,_->Dd b e (Dd d b o (100+2*F a)) (100+2*F a+1) s=_:=λs u=>Dy u
 have S:∀s,_->Fh h i _ f 14 16 s=Dd b e (Dd d b o (100+2*F a)) (100+2*F a+1) s:=λs u=>by unfold Fh;rw[aD u]
 have a2:∀s,s<B w.1->Fh _ _ _ _ 14 16 s=_:=λs u=>by rw[S s O,a6 s O,a5 s O]
 have D:Ek w o _:=λs u=>ZJ (a2 s u);have b1:=(Qb y.o).1
 have b2:Fh h i (Dd b e (Dd d b o (100+2*F a)) (100+2*F a+1)) f 14 16 n=16:=Pq y.t b1 (λt=>by
  have⟨M,A⟩:=Ac y.M t;rw[y.o] at A
  simp at A)
 have b8:∀s,(s=j∨s=g∨ZW v1=T s)->s<B d.1/\o s<100:=w_;have⟨b5,b6⟩:=Ho v.y v.z z (λs u t=>p_ (G s u t)) D C;refine⟨⟨v.r.put z (λs u t=>?_) y.v D (λM a1=>aH O) (by simp[v.r.x]),λs u=>?_,Array.getElem?_setIfInBounds_self_of_lt (by rw[v.r.x];decide),?_,λs u=>?_,(aH O).T v.G,b5,b6,λM P A=>?_,λP A=>?_,λa4 a9=>(v.L a4 a9).z z (λs u t=>p_ (G s u t)) D,v.l D z.size⟩,v.A z (λs u t=>p_ (G s u t))⟩
 ·rcases t with t|t
  exact ZM t;exact ZJ (p_ (v.P s t))
 unfold Fh;rw[aC O,aC (λt=>p_ (B_ y.M s t).2),aC O];rw[map_append,Qe];exact y.M
 ·by_cases b0:s<B h.1
  ·rcases y.D s u with t|t
   rw[a2 s (b4 s t)];exact v.P s t;omega
  unfold Fh
  grind
 ·by_cases a1:M<F a
  rw[getElem?_append_left a1] at A;exact(v.w M P A).z z (λs u t=>p_ (G s u t)) D O;have b0:M=F a:=w_;subst b0;simp at A;subst A;refine⟨y.o,b2,a8,?_,?_⟩;exact x.z R (λs u t=>w_) (λs u=>ZJ w_) O;exact b7.z a3 (λs u t=>w_) (λs u=>ZJ (S s O)) O
 rcases mem_append.1 A with t|t
 exact v.x P t;rw[mem_singleton] at t;subst t;exact v_
end
structure Xj(b c:ZT)(m j e i f x v)(h p s d)(a l r q u wc g)(o)(t)(n k):Prop where
 w:c.1[B b.1]? =T (O_ #[I 5,I m,I j,V h a l,I e,I i,I f,V p r q,V s u wc,Q_ o,I x,I v] 93)
 z:c.1[B b.1+1]? =T (O_ #[V d a g,I e,I i,I f] 37)
 y:Mw c (B b.1+2) (V d a g) h a t n k
 A:E_ b c
section
variable {w w2 w3:ZT} {e bb bins size budget x y:E} {c f i a:Y0 Addr} {fl d h g j wc b:H} {st:ZC} {wd:H->ZG} {sc ct:H->E}
def Xj.q(k:Xj w w2 e bb bins size budget x y c f i a fl d h g j wc b st wd sc ct)(l:E_ w2 w3):Xj w w3 e bb bins size budget x y c f i a fl d h g j wc b st wd sc ct:=
 ⟨(l.block _ (Qb k.w).1).T k.w,(l.block _ (Qb k.z).1).T k.z,k.y.q l,k.A.T (l.m k.A.size)⟩
def Xj.l(k:Xj w w2 e bb bins size budget x y c f i a fl d h g j wc b st wd sc ct):ZV w2 (J (B w.1) 0)=T (I 5)/\ZV w2 (J (B w.1) 3)=T (V c fl d)/\ZV w2 (J (B w.1) 4)=T (I bins)/\ZV w2 (J (B w.1) 5)=T (I size)/\ZV w2 (J (B w.1) 6)=T (I budget):=
 ⟨M_ 0 _ 93 (0,0) k.w,M_ 3 _ 93 (0,0) k.w,M_ 4 _ 93 (0,0) k.w,M_ 5 _ 93 (0,0) k.w,M_ 6 _ 93 (0,0) k.w⟩
def Xj.k(k:Xj w w2 e bb bins size budget x y c f i a fl d h g j wc b st wd sc ct):ZV w2 (J (B w.1+1) 0)=T (V a fl b)/\ZV w2 (J (B w.1+1) 1)=T (I bins)/\ZV w2 (J (B w.1+1) 2)=T (I size)/\ZV w2 (J (B w.1+1) 3)=T (I budget):=
 ⟨M_ 0 _ 37 (0,0) k.z,M_ 1 _ 37 (0,0) k.z,M_ 2 _ 37 (0,0) k.z,M_ 3 _ 37 (0,0) k.z⟩
end
def Zae c4 {u o f h g} x L {e w D b i z y G wc v a4 a2 N} a (S:Ed a e b a4 a2 N)(r:b<=2097152)(b0:Ih b f h g a4 a2 N=ZZ):C_ 71 #[P_ c4,Y9 #[I 5,I u,I o,V e b i,I f,I h,I g,V w z y,V D G wc,Q_ v,I x,I L]] a (U_ (ZR Z0) a):=by
 have⟨M,a5⟩:=Y_ S b0
 have b5:K (∀k,e=T k->0<b->k.block<B a.1):=λk c R=>by subst c;exact(S.at r).1.lt R
 clear S b0;refine dl_ ?_;go_enter func71,ntmps71;go_wp2_with fail
 generalize s:ZN (ZN a (O_ #[I 5,I u,I o,V e b i,I f,I h,I g,V w z y,V D G wc,Q_ v,I x,I L] 93)) (O_ #[V e b i,I f,I h,I g] 37)=A;have b2:B A.1=B a.1+2:=(by rw[<- s];simp);have a0:E_ a A:=(by rw[<- s];exact r_.alloc s_ _);have a7:A.1[B a.1]? =T (O_ #[I 5,I u,I o,V e b i,I f,I h,I g,V w z y,V D G wc,Q_ v,I x,I L] 93):=(by grind [Below.heap_alloc,heap_alloc_new]);have a6:A.1[B a.1+1]? =T (O_ #[V e b i,I f,I h,I g] 37):=(by rw[<- s];exact If s_);clear s;apply (ux (M.q a0) r).m;rintro c a3 ⟨c6,rfl,W,q⟩;obtain⟨n,p,rfl⟩:=W.d;have t:=(q.block _ O).T a6;have b3:=(q.block _ O).T a7;have b6:=n_ 0 t;have c3:=λc5=>R_ c5 _ _ t
 have l:K (Xj a (ZO a3 (J (B a.1+1) 0) (V n b p)) u o f h g x L e w D n b i z y G wc p v a4 a2 N):=(by have j:Aa _ _ (ZO a3 _ (V n b p)):=Aa.setCell (S:=λa1=>a1=B a.1+1) (Aa.refl _ _) (p:=(J (B a.1+1) 0)) (λ_=>X) _;refine⟨j.g b3 O,?_,(b2 ▸ W).p j (λa1 b1 c=>O),?_⟩;exact ht_ 0 _ _ _ t;exact(a0.T (q.m O)).setCell w_ _);clear W q t b3 a7 a6 a0;go_upto_region 4 with fail;generalize (ZO a3) (J (B a.1+1) 0) (V n b p)=c7 at *;clear b6 c3 b2;have⟨P,b7,b8,b9⟩:=l.k;go_wp2_with fail
 apply (Zij (by unfold Y2;omega) (l.y.h r) a5).m;rintro c c8 ⟨rfl,a8⟩;have m:=Y (l.q a8);clear a8 l P b7 b8 b9;go_upto_region 5 with fail;have⟨_,Q,c0,c1,c2⟩:=m.l;go_wp2_with fail
 apply (ZeM (by unfold Y2;omega) (M.q m.A) a5).m;rintro c c9 ⟨rfl,a9⟩;have d:=Y (m.q a9);clear a9 m Q c0 c1 c2;go_upto_region 6 with fail;have⟨_,Q,_,_,_⟩:=d.l;have⟨P,_,_,_⟩:=d.k;go_wp2_with fail
 apply (qb d.y (M.q d.A) (λk c R=>p_ (b5 k c R)) r).m;rintro c d0 ⟨rfl,j⟩;have b4:=Y (d.A.T (j.b d.A.size (λa1 b1=>p_ (d.y.D b1).1)));clear j d Q P;go_wp2_with (go_at_call 68;apply (Ee).m;rintro c a1 ⟨rfl,rfl⟩)
 go_ret;exact⟨s_,b4⟩
def Bw(f:ZS)(l:ZT)(h e d a:H):Prop:=∃i g j k c b,Ce f l i h g e d j k c b/\F c<=a/\F b<=a
def Below.ownsRow{d e}{b a:H}{c f}(g:ZD d 0 b 1 c a f)(h:E_ d e):ZD e 0 b 1 c a f:=(Aa.a (S:=λ_=>False) h).M g (λ_ _=>id)
def tb L (q b:H){n l:H}(b3 b2 G:H){a0 M k} x a8 {P a2 a6 p a4 a3 a7 wc a1 z y w} a (g3:Bw L a q b3 b2 G)(i0:G<=10000000)(m:Ed a P (b+1) z y w)(c1:Ih (b+1) k n l z y w=Z0):C_ 71 #[P_ q,Y9 #[I 5,I a0,I M,V P (b+1:H) p,I k,I n,I l,V a2 a4 a3,V a6 a7 wc,Q_ a1,I x,I a8]] a λe c4=>e=ZI (ZR Z0)/\Bw L c4 q b3 b2 (G+1)/\Dh L a c4:=by
 have i1:=(Nb c1).2.1;have R:b+1<=2097152:=O;obtain⟨j,h4,c3,i9,u,h8,e0,e5,e6⟩:=g3;have f:=x3_ e0 e5 e6;have⟨g7,g8,g9,h0,h1⟩:=info_parts ZmT;have i2:F (u.map ptR)<=10000000:=w_;have⟨D,a9⟩:=Y_ m c1
 have d1:K (∀t,P=T t->0<b+1->t.block<B a.1):=λt e b6=>by subst e;exact(m.at R).1.lt b6
 obtain⟨g,h,rfl,_⟩:∃g h,P=T ⟨g,h,ZP⟩/\True:=by
  rcases m with e|⟨d,i,e,_⟩
  omega
  grind
 clear m c1 e0 e5 e6;refine dl_ ?_;go_enter func71,ntmps71;go_wp2_with fail
 generalize S:ZN (ZN a (O_ #[I 5,I a0,I M,V (T (J g h)) (b+1:H) p,I k,I (n:H),I (l:H),V a2 a4 a3,V a6 a7 wc,Q_ a1,I x,I a8] 93)) (O_ #[V (T (J g h)) (b+1:H) p,I k,I (n:H),I (l:H)] 37)=a5;have e7:B a5.1=B a.1+2:=(by rw[<- S];simp);have b8:E_ a a5:=(by rw[<- S];exact r_.alloc s_ _);have d9:a5.1[B a.1]? =T (O_ #[I 5,I a0,I M,V (T (J g h)) (b+1:H) p,I k,I n,I l,V a2 a4 a3,V a6 a7 wc,Q_ a1,I x,I a8] 93):=(by grind [Below.heap_alloc,heap_alloc_new]);have d8:a5.1[B a.1+1]? =T (O_ #[V (T (J g h)) (b+1:H) p,I k,I n,I l] 37):=(by rw[<- S];exact If s_);clear S;apply (ux (D.q b8) R).m;rintro e c5 ⟨i4,rfl,r,Q⟩;obtain⟨v,N,rfl⟩:=r.d;have W:=(Q.block _ O).T d8
 have f0:=(Q.block _ O).T d9;have f3:=n_ 0 W;have g2:=λj=>R_ j _ _ W;have o:K (Xj a (ZO c5 (J (B a.1+1) 0) (V v (b+1:H) N)) a0 M k n l x a8 (T (J g h)) a2 a6 v (b+1) p a4 a3 a7 wc N a1 z y w):=(by have s:Aa _ _ (ZO c5 _ (V v (b+1:_) N)):=Aa.setCell (S:=λi=>i=B a.1+1) (Aa.refl _ _) (p:=(J (B a.1+1) 0)) (λ_=>X) _;refine⟨s.g f0 O,?_,(e7 ▸ r).p s (λi c2 e=>O),?_⟩;exact ht_ 0 _ _ _ W;exact(b8.T (Q.m O)).setCell w_ _);clear r Q W f0 d9 d8 b8;go_upto_region 4 with fail;generalize (ZO c5) (J (B a.1+1) 0) (V v (b+1:H) N)=c6 at *;clear f3 g2 e7
 obtain⟨c,rfl,e3,e4⟩:∃c,v=T ⟨c,0,ZP⟩/\B a.1+2<=c/\c<B c6.1:=by
  rcases o.out.y with⟨_,e,_⟩|⟨t,c,_,e,d7,d,_⟩
  omega
  grind
 have d2:=K_ e3 e4
 have c9:K (Du c6 c 0 (b+1) z y w):=by
  rcases o.out.y.h R with e|⟨d,i,e,m⟩
  omega
  grind
 have⟨b4,f5,f6,f7⟩:=o.k;clear e3 e4;go_wp2_with fail
 apply (Znu (o:=j) (t:=100+2*F u) c 0 c9 a9).m;rintro e f1 ⟨i3,rfl,g4,e8,b9⟩;have b1:=x3_ e8 b9 o.A;have A:=Y (o.q b9);clear g4 e8 b9 o b4 f5 f6 f7;go_upto_region 5 with fail;have⟨_,b5,f9,g0,g1⟩:=A.l
 have d0:K (Du f1 g h (b+1) z y w):=by
  rcases D.out.q A.A with e|⟨d,i,e,m⟩
  omega;injection e with e;injection e with e1 e2;subst e1;subst e2;exact m
 go_wp2_with fail
 apply (Znv (o:=Dd c6 f1 j (100+2*F u)) (t:=100+2*F u+1) d0 a9).m;rintro e h2 ⟨j0,h9,h6,rfl,g5,e9,c0⟩;have d4:=K_ e9 c0;have d:=Y (A.q c0);clear g5 e9 c0 A b5 f9 g0 g1 d0;go_upto_region 6 with fail;have⟨_,b5,_,_,_⟩:=d.l;have⟨b4,_,_,_⟩:=d.k;go_wp2_with fail
 apply (qb d.y (D.q d.A) (λt e b6=>p_ (d1 t e b6)) R).m;rintro e c7 ⟨rfl,s⟩
 have f2:K (Aa (λi=>i=c) h2 c7):=s.m (λi _ e=>by
  have:T c=T i:=e
  grind)
 have c8:=Y (d.A.T (s.b d.A.size (λi c2=>p_ (d.y.D c2).1)));clear s d b5 b4 c9 D d1;have⟨b0,d3⟩:=Y_ (f.1.r.v.q c8 f.1.r.v.lt) (Below.ownsRow f.1.M c8);have f4:ZV c7 (J q 1)=T c3:=(by rw[b0.cell];exact f.1.D);have f8:=λj=>b0.frozen j;go_upto_region 10 with(go_at_call 68;apply (Ee).m;rintro e c4 ⟨rfl,g6⟩;obtain rfl:=g6.s)
 go_wp2_with (at_builtin;apply Dl X (.tmp 68) (.tmp 73) 81 X 0 208 g7 (Y7 ZP) 1 8 underlying81 g8 g9 h0 h1 X C c3 (F (u.map ptR)) (u.map ptR) X (ra_ (ra_ d3 _) _) _ 1 1 _ X X (Zb0 c7 210 208) (by intro b7 i;simp only[mem_cons,not_mem_nil,or_false] at i;subst i;rfl) C (by unfold Y2;omega) O v_)
 rintro i7 h3 ⟨d5,d6,d7,_,i6,i5,rfl⟩;obtain⟨b7,r⟩:=Pg.N (j:=1) b0 d3 C (by rw[length_map];exact d5) d6 (λi c2=>w_);have i:=f.1.u b1.2.2 b1.1 b1.2.1 d4.1 d4.2 f2 ⟨by have:=d2.1;omega,d2.2⟩ r (Vn.N a9);have h5:ZV h3 (J q 1)=T c3:=(by rw[b7.cell];exact f.1.D);have h7:=λj=>b7.frozen j;have c2:K (Bw L _ q b3 b2 (G+1)/\_):=⟨⟨_,_,_,_,_,_,i.1,by have:=f.2.1;simp;omega,p_ f.2.2⟩,i.2⟩;clear d5 d6 d7 b7 r i f4 f8;go_wp2;go_ret;exact⟨X,c2⟩
def Bw.P{e g f N L R c b d}(a:Bw e g f N L R)(k:N<=c)(j:L<=b)(t:R<=d):Bw e g f c b d:=by obtain⟨m,h,p,q,o,i,a,r,s⟩:=a;exact⟨m,h,p,q,o,i,⟨a.r.P k,a.N,a.D,a.M,a.P,a.G,a.y,a.z,a.w,λn l=>aG (a.x n l) j,a.L,a.t⟩,O,O⟩
structure Jc(h)(a b:ZT)(d)(c g f)(i)(p q)(e)(j)(n)(k:H)(m l)(o):Prop where
 r:Ce h b d c i g f p q e j
 t:e[k]? =T n
 v:ZV b (J (B a.1) 0)=T (I m)
 u:ZV b (J (B a.1) 1)=T (I l)
 w:ZV b (J (B a.1) 9)=T (Q_ o)
 G:d (B a.1)=99
 x:c<B a.1
 A:E_ a b
section
variable {b:ZS} {w a w2:ZT} {o:H->H} {g N L:H} {c:YZ ZY} {v1 v2:ZY} {f:U RP} {d:U H} {r:RP} {i:H} {e k:E} {st:ZC}
def Jc.q(h:Jc b w a o g N L c v1 v2 f d r i e k st)(j:E_ a w2):Jc b w w2 o g N L c v1 v2 f d r i e k st:=
 ⟨h.r.q j,h.t,Ah j h.v,Ah j h.u,Ah j h.w,h.G,h.x,h.A.T (j.m h.A.size)⟩
def Jc.l(h:Jc b w a o g N L c v1 v2 f d r i e k st):ZV a (J r.d 0)=T (P_ r.ib)/\ZV a (J r.d 1)=T (P_ r.c):=
 ⟨M_ 0 _ 210 (0,0) (h.r.w i r h.t).o,M_ 1 _ 210 (0,0) (h.r.w i r h.t).o⟩
def Jc.after{n}(h:Jc b w a o g N L c v1 v2 f d r i e k st)(v:Aa n a w2)(t:∀k,n k->o k≠99/\o k≠16):ZV w2 (J r.d 0)=T (P_ r.ib)/\ZV w2 (J r.d 1)=T (P_ r.c)/\ZV w2 (J (B w.1) 9)=T (Q_ st)/\ZV w2 (J (B w.1) 0)=T (I e):=by have s:=h.r.w i r h.t;have p:=v.g s.o (λl=>(t _ l).2 s.f);have u:∀{j m},D_ a (B w.1) j m->D_ w2 (B w.1) j m:=λ{j m} q=>(cb_ (w:=a) (a:=(J (B w.1) j)) (v.block _ (aJ a _ q) (λl=>(t _ l).1 h.G))).T q;exact⟨M_ 0 _ 210 (0,0) p,M_ 1 _ 210 (0,0) p,u h.w,u h.v⟩
def Zfm(w b:ZT)(o:H->H)(i:H)(r:RP)(c:ZC)(d:ZG):Prop:=∃a,E_ w a/\Ru b (Dd a b o (100+2*i)) (100+2*i) r.ib r.m r.a r.sc r.ct r.k r.size r.b c d/\Aa (λk=>o k=100+2*i) a b
def Zj3 d f e a b c:ZK (az d f e a b c)<=ZK a+ZK b:=by grind [az]
def Jc.h(h:Jc b w a o g N L c v1 v2 f d r i e k st)(v:L+ZK st<=200000000000000) l (p:E_ a l):C_ 32 #[P_ r.ib,Q_ st] l λm j=>m=ZI (Y5 #[ZX ZQ (fdZ r.m r.a r.sc (az r.m r.a r.sc r.T st r.u) r.u).1,ZX ZQ (fdZ r.m r.a r.sc (az r.m r.a r.sc r.T st r.u) r.u).2])/\Zfm a j o i r (az r.m r.a r.sc r.T st r.u) r.u/\ZV j (J r.d 0)=T (P_ r.ib)/\ZV j (J (B w.1) 9)=T (Q_ st):=by have n:=h.q p;have s:=n.r.w i r h.t;have x:=h.r.x r (mem_of_getElem? h.t);apply (Go.Proofs.YtfcgnpchbcmdeaaGreat.feedX s.cf s.x O O).m;rintro m j ⟨rfl,u,t⟩;have q:=n.after t (λk m=>O);exact⟨X,⟨l,p,u,t⟩,q.1,q.2.2.1⟩
def Jc.j{w3}(j:Jc b w a o g N L c v1 v2 f d r i e k st)(Q:L+ZK st<=200000000000000)(x:Zfm a w3 o i r (az r.m r.a r.sc r.T st r.u) r.u) q (n:E_ w3 q):C_ 125 #[P_ r.c,Q_ st] q λh l=>h=ZI (Y5 #[ZX ZQ (fdZ r.m r.a r.sc (az r.m r.a r.sc r.T st r.u) r.u).1,ZX ZQ (fdZ r.m r.a r.sc (az r.m r.a r.sc r.T st r.u) r.u).2])/\(∃p m,Ce b l p g c N (L+ZK st) v1 v2 m d/\F m=F f)/\Dh b w l/\ZV l (J r.d 1)=T (P_ r.c)/\ZV l (J (B w.1) 9)=T (Q_ st):=by
 obtain⟨s,y,A,p⟩:=x;have m:=j.q y;have z:=m.r.w i r j.t;have R:=j.r.x r (mem_of_getElem? j.t);have G:=m.r.h j.t p (λk _ h=>h);have M:=G.z (S:=λ_=>False) (.a n) (λ_ _ h=>h.elim) (Ek.refl _ _) O;apply (Go.Proofs.YtfcgnpchbcmdeaaGreat.feedY z.cf M O O).m;rintro h l ⟨rfl,D,v⟩;have u:=m.r.f j.t A p n D v (L':=L+ZK st) O (p_ (Zj3 r.m r.a r.sc r.T st r.u));have P:Aa (λk=>o k=100+2*i∨(k<B s.1/\o k=100+2*i+1)) s l:=((p.m (λk _ h=>ZM h)).c (Aa.a (S:=λ_=>False) n) (λk h=>h.elim)).c v (λk h=>by grind [Dy]);have t:=m.after P (λk h=>O);exact⟨X,⟨_,_,u.1,s_⟩,(Dh.a m.A).T u.2,t.2.1,t.2.2.1⟩
end
end Go.Proofs.YtfcgnpchbcmdeaaGreat
