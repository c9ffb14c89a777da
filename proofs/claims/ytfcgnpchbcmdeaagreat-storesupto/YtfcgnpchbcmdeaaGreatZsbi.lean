import Derived.Test.YtfcgnpchbcmdeaaGreatZsbf
import Derived.Test.YtfcgnpchbcmdeaaGreatZsbg
import Derived.Test.YtfcgnpchbcmdeaaGreatZsbe
open Array renaming size->B
open Option renaming some->T,none->ZP
open Go.World renaming cell?->ZV,alloc->ZN,ownsRow->ZD
open List renaming length->F,getD->Z,drop->ZF,take->ZU,replicate->Y6
open _root_ renaming rfl->X,Int->E,Nat->H,List->U,List->Z1,Array->YZ,ByteArray->ZC,Bool->ZG,Option->Y0
open Bool renaming true->Z0,false->ZZ
open Go.Value renaming int->ZX,bool->ZR,agg->Y9,pointer->Y7,ownBlock->ZW
open Go.IntKind renaming i64->ZQ
open Go.Ending renaming returned->ZI
open ByteArray renaming size->ZK
open Go renaming Value->ZY,World->ZT
open Or renaming inl->ZM,inr->ZJ
open Decidable renaming decide->ZE
open Int renaming toNat->ZL
namespace Go.Proofs.YtfcgnpchbcmdeaaGreat
set_option linter.all false
set_option maxRecDepth 100000
set_option maxHeartbeats 4000000
open Go.RowKit List Nat Go.World Go.Proofs.Tryz Go.Value Go.IntKind Go.Lib Go.Region
def hdc{a}(b:a):K a:=b
def Jc.a{l g h b e p j i m w x v o a c u d f}(q:Jc l g h e p j i m w x v o a c u d f){k n}(r:Zfm h b e c a k n):ZV b (J a.d 1)=T (P_ a.c)/\ZV b (J (B g.1) 9)=T (Q_ f):=by
 obtain⟨y,s,_,t⟩:=r;have A:=(q.q s).after t (λd z=>O)
 grind
def Zll i h w m q {P Q c7 c8 e5 c9} x f1 {d1 e6 e9 d3 d2 e8 e7 f0 wc g} e (f7:Bw i e h w m q)(g6:q<=10000000)(d5:m+g.size<=200000000000000)(a7:P=6∨P=7):C_ 71 #[P_ h,.agg #[I P,I Q,I c7,V d1 d3 d2,I c8,I e5,I c9,V e6 e8 e7,V e9 f0 wc,Q_ g,I x,I f1]] e λb f=>b=.returned (.bool true)/\Bw i f h w (m+g.size) (q+1)/\Dh i e f:=by
 obtain⟨b6,a4,g8,g4,l,f4,d,b3,b4⟩:=f7;obtain⟨W,e3,rfl,e0⟩:=Gg d.M;rw[length_map] at *;have g0:(P==5)=_:=aO O;have f2:=Y a7;clear a7;refine dl_ ?_;go_enter func71,ntmps71;go_upto_region 12 with fail;generalize a2:e.alloc (O_ #[I P,I Q,I c7,V d1 d3 d2,I c8,I e5,I c9,V e6 e8 e7,V e9 f0 wc,Q_ g,I x,I f1] 93)=A;have a0:E_ e A:=(by rw[<- a2];exact r_);have z:A.cell? (J e.1.size 0)=some (I P):=(by rw[<- a2];simp[go_sem]);have b7:A.cell? (J e.1.size 1)=some (I Q):=(by rw[<- a2];simp[go_sem]);have o:A.cell? (J e.1.size 9)=some (Q_ g):=(by rw[<- a2];simp[go_sem]);clear a2 g0;have y:=d.q a0;have d0:A.cell? (J h 1)=some (V W l.length e3):=(by rw[y.r.v.cell];exact y.D);have c4:K (Dh i e _):=Dh.a a0
 by_cases f6:l.length=0
 ·have u:K (Bw i _ h w (m+g.size) (q+1)):=Bw.P ⟨b6,a4,_,g4,l,f4,y,b3,b4⟩ x_ O O;rw[f6] at d0;clear y d e0 z b7 o a0;go_wp2;go_ret;exact⟨rfl,u,c4⟩
 obtain⟨e4,rfl,_⟩:=e0 O;have⟨s,f9,d9⟩:=Pu Q (n:=l.length) O;obtain⟨a,r⟩:∃a,l[s]? =some a:=⟨l[s],Qd f9⟩;have f3:A.cell? _=some (.pointer _):=Hn (x:=ptR a) (by have:=y.M;rw[length_map] at this;exact this) (by rw[getElem?_map,r];rfl);have b9:K (Jc i e _ b6 h w m a4 _ _ _ _ a s _ _ _):=⟨y,r,z,b7,o,d.N _ x_,d.r.v.lt,a0⟩
 have c5:K (∀G,C_ 74 #[I Q,I l.length] G (V_ (.int .i64 s) G)):=λG=>by rw[<- d9];exact Mu G
 have v:=K_ b3 b4;have g7:=F_ s l.length;have g1:((l.length:Int)==0)=_:=aO O;clear y d d9 r z o a0 b3 b4;go_upto_region 14 with fail;go_cut [11] (λc b=>c=.pointer (some ⟨a.d,0,none⟩)/\K (E_ A b))
 case first=>
  go_region_held3 (λf=>f.cell? (J h 1)=some (L_ e4 l.length e3)/\f.cell? (J e.1.size 1)=some (I Q)/\f.cell? (J e4 s)=some (P_ a.d)) (go_keep) (first|(go_at_call 74;apply (c5 _).m;rintro b f ⟨rfl,n⟩;obtain rfl:=n.s))
  all_goals go_wp2
  all_goals go_meet
  all_goals exact⟨rfl,y_.drew⟩
 obtain⟨rfl,c1⟩:=hcut;have c:=Y (b9.q c1);clear b9 c1 d0 b7 f3 c5 g1 c4;generalize wc=w2 at *;have z:=c.v;have⟨a5,_⟩:=c.l
 rcases f2.out with rfl|rfl
 ·have o:=c.w;have⟨p,k⟩:=Y_ (λG b=>c.h d5 G b) (λw3 N b d=>c.j (w3:=w3) d5 N b d);generalize (fdZ a.m a.a a.sc (az a.m a.a a.sc a.T g a.u) a.u).1=a6 at *;generalize (fdZ a.m a.a a.sc (az a.m a.a a.sc a.T g a.u) a.u).2=N at *;generalize az a.m a.a a.sc a.T g a.u=M at *;go_upto_region 16 with fail;go_cut [12,13] (λW f b=>W=.int .i64 a6/\f=.int .i64 N/\K (Zfm w2 b b6 s a M a.u))
  case first=>
   go_region_held3 (λf=>f.cell? (J a.d 0)=some (P_ a.ib)/\f.cell? (J e.1.size 9)=some (Q_ g)) (first|exact⟨a5,o⟩|exact⟨k0,k9⟩) (first|(go_at_call 32;apply (p _ y_.drew).m;rintro b w3 ⟨rfl,f,k0,k9⟩))
   all_goals go_wp2
   all_goals go_meet
   grind
  obtain⟨rfl,rfl,j⟩:=hcut;clear a5 o z p;have⟨L,o⟩:=c.a j;have D:=Y (λb d=>k _ j b d);clear k j;generalize wc=w3 at *;go_upto_region 17 with fail;go_cut [14,15] (λW f b=>W=.int .i64 a6/\f=.int .i64 N/\K (Bw i b h w (m+g.size) (q+1)/\Dh i e b))
  case first=>
   go_region_held3 (λf=>f.cell? (J a.d 1)=some (P_ a.c)/\f.cell? (J e.1.size 9)=some (Q_ g)) (first|exact⟨L,o⟩|exact⟨k0,k9⟩) (first|(go_at_call 125;apply (D _ y_.drew).m;rintro b t ⟨rfl,f,hK,k0,k9⟩))
   all_goals go_wp2
   all_goals go_meet
   all_goals exact⟨rfl,rfl,Bw.P (R:=q) (by obtain⟨n,t,f,b⟩:=f;exact⟨n,_,_,_,t,_,f,b ▸ v.1,v.2⟩) x_ x_ O,hK⟩
  obtain⟨rfl,rfl,u⟩:=hcut;clear L o D c;go_wp2_with (go_at_call 68;apply (Ee).m;rintro b f ⟨rfl,n⟩;obtain rfl:=n.s)
  go_ret;exact⟨s_,u⟩
 have r:=c.t;have⟨p,a3,b0⟩:=y3_ (c.r.w s a r) r (c.r.x a (mem_of_getElem? r));clear r;go_wp2_with fail
 apply (Zow p.cf p.x O).m;rintro b w3 f8
 rcases f8 with⟨a8,rfl,b5,j⟩|⟨a9,f5,g5,a1,rfl,d6,d4,j⟩
 ·have⟨_,L,_,_⟩:=c.after j (λf b=>O)
  have S:=show K _ from c.r.h a3 j (λ_ _ b=>b)
  have b8:=show K (_/\_/\_) from⟨a8,b5,j⟩
  have b1:=show K _ from λt M k=>c.r.f (w2:=t) a3 b5 j y_ M k (L':=m+g.size) O (p_ b0.out)
  have R:=hdc<|ZjG p.cf S O (p_ b0.out)
  clear a8 b5 j S a5 z;go_wp2_with fail
  apply R.m;rintro b t b2
  rcases b2 with⟨_,rfl,M,k⟩|⟨a9,yd,a1,_⟩
  ·have u:K (Bw i t h w (m+g.size) (q+1)/\Dh i e t):=(by have f:=b1 _ M k;exact⟨⟨_,_,_,_,_,_,f.1,by have:=v.1;simp;omega,p_ v.2⟩,(Dh.a c.A).T f.2⟩);clear M k b8 b1 R p c L;generalize (clZ a.m a.a a.sc a.T a.u).1=a6 at *;generalize (clZ a.m a.a a.sc a.T a.u).2=N at *;go_wp2_with fail
   apply (Wj h).m;rintro b D ⟨rfl,n⟩;obtain rfl:=n.s;go_wp2_with (go_at_call 68;apply (Ee).m;rintro b f ⟨rfl,n⟩;obtain rfl:=n.s)
   go_ret;exact⟨s_,u⟩
  exact absurd a1 (b8.1 a9)
 have d8:=p.x.1;have g2:=p.y.1;have⟨_,L,_,_⟩:=c.after j (λf b=>by subst b;omega)
 have S:=show K _ from c.r.h a3 j (λf _ b=>b ▸ d8)
 have R:=hdc<|ZjG p.cf S O (p_ b0.out)
 have b1:=show K _ from a1
 have c3:=show K _ from λt D yd dp aA N a6 k M=>c.r.v (w2:=t) (w3:=D) (yd:=yd) (dp:=dp) (v2':=aA) a3 a1 d6 d4 j N a6 k M
 have c6:=show K _ from j
 clear a1 d6 d4 j S a5 z;go_wp2_with fail
 apply R.m;rintro b t b2
 rcases b2 with⟨a8,_⟩|⟨g3,yd,e2,rfl,N,a6,k⟩
 exact absurd b1 (a8 a9)
 obtain rfl:a9=g3:=by
  have f:=b1.2.1;rw[e2.2.1] at f
  grind
 have b8:Aa (λf=>_∨_) _ _:=(c6.m (λf _ b=>.inl b)).c k (λf b=>.inl (.inr b));have d:=c.r;have d7:WB _ h a4:=b8.g d.r.v (λb=>gh_ d.r.b);have e1:=b8.M d.y (λf a7 b=>gh_ (d.z f a7))
 have c0:=hdc<|Wk h f5 yd a4 _ _ _ d7 d.G e1 (gh_ v.2)
 have c2:=show K _ from λD dp aA M=>c3 _ D _ dp aA N a6 k M
 clear b8 d d7 e1 N a6 k e2 c3 c6 R p d8 g2 L;go_wp2_with fail
 apply c0.m;rintro b D ⟨rfl,dp,aA,M⟩;have u:K (Bw i D h w (m+g.size) (q+1)/\Dh i e D):=(by have f:=c2 _ _ _ M;exact⟨Bw.P ⟨_,_,_,_,_,_,f.1,by have:=v.1;simp;omega,by have:=v.2;simp;omega⟩ x_ O x_,(Dh.a c.A).T f.2⟩);clear M c2 c0 c b1;go_wp2_with (go_at_call 68;apply (Ee).m;rintro b f ⟨rfl,n⟩;obtain rfl:=n.s)
 go_ret;exact⟨s_,u⟩
def Bw.q{d f w' e b a c}(i:Bw d f e b a c)(m:E_ f w'):Bw d w' e b a c:=by obtain⟨n,g,p,q,o,h,l,j,k⟩:=i;exact⟨n,g,p,q,o,h,l.q m,j,k⟩
def Ed.a{e f b c g d a}(h:Ed e b c g d a)(i:E_ e f):Ed f b c g d a:=h.q i
def Zlj g d h e f {j} N D {r k i} x l {u P S c G R Q W a0 q A y t b}(m:Bw g b d h e f)(w:f<=10000000)(L:e+q.size<=200000000000000)(v:Ed b u c A y t)(M:c<=2097152)(o:j=5∨j=6∨j=7):C_ 71 #[P_ d,.agg #[I j,I N,I D,V u c G,I r,I k,I i,V P R Q,V S W a0,Q_ q,I x,I l]] b λn a=>n=.returned (.bool true)/\Bw g a d h (e+q.size) (f+1)/\Dh g b a:=by
 rcases o with rfl|o
 ·by_cases n:Ih c r k i A y t=true
  have⟨a1,a2,a3,a4,a5,a6,a7,a8,_⟩:=Nb n;obtain⟨p,rfl⟩:∃p,c=p+1:=⟨c-1,O⟩;obtain⟨z,rfl⟩:∃z:Nat,k=z:=⟨k.toNat,O⟩;obtain⟨s,rfl⟩:∃s:Nat,i=s:=⟨i.toNat,O⟩;exact(tb g d p h e f x l b m w v n).m (λ_ _ a=>⟨a.1,a.2.1.P x_ O x_,a.2.2⟩);exact(Zae d x l b v M (by simpa using n)).m (λ_ _ a=>⟨a.1,(m.q a.2).P x_ O O,Dh.a a.2⟩)
 exact Zll g d h e f x l b m w L o
def Zix d f n h i {b l j o s p x m k t w e r v u y z c a0 W P} a (G:Bw d a f n h i)(R:i<=10000000)(Q:h+c.size<=200000000000000)(D:Ed a k e a0 W P)(S:e<=2097152)(L:b=5∨b=6∨b=7):C_ 41 #[P_ f,.agg #[I b,I l,I j,V k e r,I o,I s,I p,V t v u,V w y z,Q_ c,I x,I m]] a λq g=>q=.returned (.bool true)/\Bw d g f n (h+c.size) (i+1)/\Dh d a g:=by
 have A:K (C_ 71 #[P_ f,.agg #[I b,I l,I j,V k e r,I o,I s,I p,V t v u,V w y z,Q_ c,I x,I m]] (a.alloc (O_ #[I b,I l,I j,V k e r,I o,I s,I p,V t v u,V w y z,Q_ c,I x,I m] 93)) λq g=>q=.returned (.bool true)/\Bw d g f n (h+c.size) (i+1)/\Dh d a g):=(by have g:Below _ a (a.alloc (O_ #[I b,I l,I j,V k e r,I o,I s,I p,V t v u,V w y z,Q_ c,I x,I m] 93)):=r_;exact(Zlj d f n h i l j x m (G.q g) R Q (D.a g) S L).m (λ_ _ q=>⟨q.1,q.2.1,(Dh.a g).T q.2.2⟩));clear G D
 rcases L with rfl|rfl|rfl
 all_goals
  refine dl_ ?_;go_enter func41,ntmps41;go_wp2_with fail
  apply A.m;rintro q g ⟨rfl,M⟩
  have N:=show K _ from M
  clear M A;go_wp2;go_ret;exact⟨rfl,N⟩
def ZlC i g n Q R {b h o p z q x m s D M u t L G N P A} d (d0:Bw i d g n Q R)(c9:n<=10000000)(e8:8<=b)(e7:b<=12):C_ 41 #[P_ g,Y9 #[I b,I h,I o,V s u t,I p,I z,I q,V D L G,V M N P,Q_ A,I x,I m]] d λr e=>r=ZI (ZR Z0)/\Bw i e g (n+5) Q R/\Dh i d e:=by
 obtain⟨d3,b9,f0,f1,b6,c,S,a4,a5⟩:=d0;obtain⟨b8,b5,rfl,b4⟩:=Gg S.y;rw[length_map] at *;have c1:(b==1)=_:=aO O;have c4:2<=b:=O;have c5:¬b<=4:=O;have c6:5<=b:=O;have c7:¬b<=7:=O;have c2:(b==13)=_:=aO O;have e4:(b==14)=_:=aO O;have c3:¬15<=b:=O;have e6:¬b<8:=O;have e5:¬14<b:=O;refine dl_ ?_;go_enter func41,ntmps41;go_upto_region 12 with fail;generalize a6:ZN d (O_ #[I b,I h,I o,V s u t,I p,I z,I q,V D L G,V M N P,Q_ A,I x,I m] 93)=l;have W:E_ d l:=by rw[<- a6];exact r_
 have a:l.1[B d.1]? =T (O_ #[I b,I h,I o,V s u t,I p,I z,I q,V D L G,V M N P,Q_ A,I x,I m] 93):=(by rw[<- a6];exact ha_ d _);have a7:=n_ 0 a;have a0:=n_ 1 a;clear a6 c1 c4 c5 c6 c7 c2 c3;have k:=S.q W;have b2:ZV l (J g 2)=T (V b8 (F c) b5):=(by rw[k.r.v.cell];exact k.G);have a1:K (Dh i d _):=Dh.a W
 by_cases c8:F c=0
 ·have e:K (Bw i _ g (n+5) Q R):=Bw.P ⟨d3,b9,_,_,b6,c,k,a4,a5⟩ O x_ x_;rw[c8] at b2;clear k S b4 a0 W;go_wp2;go_ret;exact⟨X,e,a1⟩
 obtain⟨y,rfl,_⟩:=b4 O;have⟨w,d1,v⟩:=Pu h (n:=F c) O;obtain⟨j,a3⟩:∃j,c[w]? =T j:=⟨c[w],Qd d1⟩;have c0:ZV l _=T (Y7 _):=Hn (x:=zw j) (by have:=k.y;rw[length_map] at this;exact this) (by rw[getElem?_map,a3];rfl)
 have b1:K (∀f,C_ 74 #[I h,I (F c)] f (V_ (ZX ZQ w) f)):=λf=>by rw[<- v];exact Mu f
 have a8:K (∀f,E_ l f->f.1[B d.1]? =T (O_ #[I b,I h,I o,V s u t,I p,I z,I q,V D L G,V M N P,Q_ A,I x,I m] 93)/\C_ 77 #[P_ g,P_ j,Y9 #[I b,I h,I o,V s u t,I p,I z,I q,V D L G,V M N P,Q_ A,I x,I m]] f λr e=>r=ZI (ZR Z0)/\Bw i e g (n+5) Q R/\Dh i d e):=λf a2=>by have e:=k.q a2;have⟨d9,d8,f3,d5,e1,d2,e9,e2,e3,f2,e0,d6,d7,d4,b0,b3⟩:=e.L j (mem_of_getElem? a3);refine⟨(a2.block _ (Qb a).1).T a,(tv x m e.r e.N c9 b0.b b3).m (λ_ _ y=>?_)⟩;have⟨⟨b7,r,a9⟩,hK⟩:=e.p y.2;exact⟨y.1,⟨b7,r,_,_,b6,c,a9,a4,a5⟩,(a1.T (Dh.a a2)).T hK⟩
 have e9:=F_ w (F c);have d2:((F c:E)==0)=_:=aO O;clear k S v a3 W a4 a5 a a1;go_upto_region 14 with fail;go_cut [6] (λe r=>e=Y7 (T ⟨j,0,ZP⟩)/\K (E_ l r))
 case first=>
  go_region_held3 (λe=>ZV e (J g 2)=T (L_ y (F c) b5)/\ZV e (J (B d.1) 1)=T (I h)/\ZV e (J y w)=T (P_ j)) (go_keep) (first|(go_at_call 74;apply (b1 _).m;rintro r e ⟨rfl,a9⟩;obtain rfl:=a9.s))
  all_goals go_wp2
  all_goals go_meet
  all_goals exact⟨X,y_.drew⟩
 obtain⟨rfl,a9⟩:=hcut;have⟨a,b3⟩:=a8 wc a9;have b0:=hdc b3;clear a8 a9 b2 a7 a0 c0 b1 d2 b3;generalize wc=f2 at *;have a7:=n_ 0 a;have a0:=n_ 1 a;have d6:=n_ 2 a;have d7:=n_ 3 a;have d8:=n_ 4 a;have d9:=n_ 5 a;have e0:=n_ 6 a;have e1:=n_ 7 a;have e2:=n_ 8 a;have e3:=n_ 9 a;have d4:=n_ 10 a;have d5:=n_ 11 a;clear a;go_wp2_with fail
 apply b0.m;rintro r e ⟨rfl,v⟩
 have b7:=show K _ from v
 clear v b0 a7 a0 d6 d7 d8 d9 e0 e1 e2 e3 d4 d5;go_wp2;go_ret;exact⟨X,b7⟩
def Zpi g h e d f a c (i:Bw g c h e d f)(o:f<=10000000)(m:e<=10000000)(l:d+ZK a.n<=200000000000000)(n:OpR c a)(p:a.A<=2097152)(q:5<=a.a)(k:a.a<=12):C_ 41 #[P_ h,Y9 #[I a.a,I a.l,I a.t,V a.g a.A a.e,I a.k,I a.size,I a.b,V a.i a.vl a.h,V a.c a.d a.j,Q_ a.n,I a.x,I a.y]] c λj b=>j=ZI (ZR Z0)/\Bw g b h (e+5) (d+ZK a.n) (f+1)/\Dh g c b:=by
 by_cases j:a.a<=7
 exact(Zix g h e d f c i o l n.c p O).m (λ_ _ b=>⟨b.1,b.2.1.P O x_ x_,b.2.2⟩);exact(ZlC g h e d f c i m O k).m (λ_ _ b=>⟨b.1,b.2.1.P x_ O O,b.2.2⟩)
structure SP where
 d:H
 a:H
 b:H
 c:H
 s:SS
def ptS(a:SP):ZY:=P_ a.d
structure ZgP(c)(b:H->H)(d)(a:SP):Prop where
 o:H_ c a.d #[P_ a.a,P_ a.c] 221
 f:b a.d=1
 h:H_ c a.a #[P_ a.b] 127
 G:b a.a=1
 y:er c a.c a.s
 g:b a.c=3+d
 x:Oq c (λe=>b e=3+d/\e≠a.c) a.b ⟨#[]⟩ a.s 0
structure rh(e:ZT)(d:H->H)(i j:ZY)(c:U ZY)(f:U (U Cd))(g:U SP):Prop where
 k:ZD e 0 29 1 i (F c) c
 w:∀a,ZW i=T a->d a=2
 p:F c=F f
 q:∀b,b<F f->Ai e 0 (Z c b N_) (Z f b [])/\∀a,ZW (Z c b N_)=T a->d a=1
 o:ZD e 0 219 1 j (F (g.map ptS)) (g.map ptS)
 os:∀a,ZW j=T a->d a=2
 n:∀b h,g[b]? =T h->ZgP e d b h
section
variable {w w':ZT} {a q':H->H} {u v:ZY} {e:Z1 ZY} {Ls:Z1 (Z1 Cd)} {d:Z1 SP} {S f:H->Prop} {i g N L R:H} {p:SP} {U:Z1 E} {o:H->H} {c h:YZ ZY} {v1 v2:ZY} {k:Z1 RP} {j:Z1 H} {b:ZS}
def ZgP.z(b:ZgP w a i p)(o:Aa S w w')(r:∀d,d<B w.1->S d->a d≠1/\a d≠3+i)(l:∀d,d<B w.1->a d≠0->q' d=a d):ZgP w' q' i p:=by
 have h:∀{e c j},H_ w e c j->a e=1∨a e=3+i->H_ w' e c j/\q' e=a e:=λ{e _ _} f s=>by have k:=(Qb f).1;exact⟨o.g f λm=>by have:=r e k m;omega,l e k O⟩
 have k:=h b.o (ZM b.f);have m:=h b.h (ZM b.G);have n:=h b.y.d (ZJ b.g);exact⟨k.1,k.2.T b.f,m.1,m.2.T b.G,⟨n.1,b.y.z⟩,n.2.T b.g,b.x.e (λe c j g f=>(h f (ZJ g.1)).1) λd q g=>⟨(l d q O).T g.1,g.2⟩⟩
def rh.l{l}(f:rh w a u v e Ls d)(x:Aa S w w')(D:∀b,b<B w.1->S b->a b≠1/\a b≠2)(A:∀b,b<B w.1->a b≠0->q' b=a b)(z:l.map ptS=d.map ptS)(G:∀i p,l[i]? =T p->ZgP w' q' i p):rh w' q' u v e Ls l:=by have k:∀{n s r t m} {h:ZY},ZD w n s r h t m->∀{g},(∀b,ZW h=T b->a b=g)->g=1∨g=2->ZD w' n s r h t m/\∀b,ZW h=T b->q' b=g:=(by intro _ _ _ _ _ _ o g j L;have q:=λb c=>(B_ o b c).2;exact⟨x.M o λb c y=>by have:=D b (q b c) y;have:=j b c;omega,λb c=>(A b (q b c) (by have:=j b c;omega)).T (j b c)⟩);have j:=k f.k f.w (ZJ X);have o:=k f.o f.os (ZJ X);exact⟨j.1,j.2,f.p,λi c=>k (f.q i c).1 (f.q i c).2 (ZM X),z ▸ o.1,o.2,G⟩
def rh.z(h:rh w a u v e Ls d)(g:Aa S w w')(k:∀b,b<B w.1->S b->a b=0)(j:∀b,b<B w.1->a b≠0->q' b=a b):rh w' q' u v e Ls d:=
 h.l g (λb f c=>by have:=k b f c;omega) j X λi p l=>(h.n i p l).z g (λb f c=>by have:=k b f c;omega) j
def Fe(f:H->Prop)(w:ZT)(g N L R:H)(U:Z1 E):Prop:=∃a u v e Ls d,Bw ⟨λb=>f b∨a b≠0,u,v⟩ w g N L R/\rh w a u v e Ls d/\F e<=R/\F d<=R/\(∀L∈Ls,Nw U L)/\∀b,f b->a b=0
def Fn(f:H->Prop)(w w':ZT):Prop:=Aa (λa=>¬f a) w w'
def Fe.P{i h j}(m:Fe f w g N L R U)(o:N<=i)(n:L<=h)(p:R<=j):Fe f w g i h j U:=by obtain⟨a,u,v,e,r,d,k,b,c,q,l⟩:=m;exact⟨a,u,v,e,r,d,k.P o n p,b,O,O,l⟩
def Fe.q(k:Fe f w g N L R U)(b:E_ w w'):Fe f w' g N L R U:=by obtain⟨a,u,v,e,l,d,h,i,c⟩:=k;exact⟨a,u,v,e,l,d,h.q b,i.z (S:=λ_=>False) (.a b) (λ_ _ j=>j.elim) λ_ _ _=>X,c⟩
def Fe.l{m i l k j}(p:Fe f w g N L R U)(s:∀b,Bw b w g N L R->C_ m i w λh w'=>h=ZI (ZR Z0)/\Bw b w' g l k j/\Dh b w w')(A:R<=j):C_ m i w λh w'=>h=ZI (ZR Z0)/\Fe f w' g l k j U/\Fn f w w':=by obtain⟨a,u,v,e,D,d,i,o,c,z,h⟩:=p;refine(s _ i).m λh w' ⟨q,r,n⟩=>⟨q,⟨a,u,v,e,D,d,r,o.z n (λt _ h=>?_) λ_ _ _=>X,O,O,a_⟩,n.m λt _ h y=>h (ZM y)⟩;exact Classical.byContradiction λx=>h (ZJ x)
def Ce.n{n}{q:H->H}(e:Ce b w o g c N L v1 v2 k j)(l:Aa (λa=>a=g∨b.p a) w w')(v:WB w' g h)(r:∀i,i≠0->i≠3->h[i]? =c[i]?)(R:B h=13)(m:Ek w o q)(A:∀a,B w'.1<=a->q a=99)(z:∀a,n.p a->a<B w'.1/\q a=98)(t:h[0]? =T n.u)(u:h[3]? =T n.v):Ce n w' q g h N L v1 v2 k j:=by
 have p:∀a,a<B w.1->(a=g∨b.p a)->o a=0∨o a=98:=λa _ d=>d.imp (λd=>by rw[d];exact e.r.b) λd=>(e.t.1 a d).2;have⟨D,G⟩:=Ho e.M e.P l (λa f d=>p_ (p a f d)) m C;have⟨M,P⟩:=Ho e.y e.z l (λa f d=>p_ (p a f d)) m C;exact⟨e.r.put l (λa f d=>d.imp id λd=>p_ (e.t.1 a d).2) v m (λi f=>r i O O) R,A,(r 1 C C).T e.D,D,G,(r 2 C C).T e.G,M,P,λi Q y=>(e.w i Q y).z l (λa f d=>p_ (p a f d)) m O,e.x,λs x=>(e.L s x).z l (λa f d=>p_ (p a f d)) m,z,t,u⟩
def Ce.W{a}(e:Ce b w o g c N L v1 v2 k j)(h:B w.1<=B w'.1)(f:b.p a∨B w.1<=a/\a<B w'.1):a<B w'.1/\Dd w w' o 98 a=98:=by
 rcases f with d|d
 have:=e.t.1 a d;exact⟨O,(Dy this.1).T this.2⟩;exact⟨d.2,Kk d.1 d.2⟩
end
structure Kv(b:U E)(a:Cu)(c:U E):Prop where
 z:a.z=ZZ
 k:a.k<=F b
 t:ZF a.k b=c
def Kv.take{b A d:U E}{c:Cu}(a:Kv b c (A++d)){n:H}(e:F A=n):(Lj b n c).2=A/\Kv b (Lj b n c).1 d:=by have f:=congrArg F a.t;rw[length_drop,Qe] at f;have g:=a.k;unfold Lj;rw[aD ⟨a.z,O⟩];refine⟨?_,X,by simp only;omega,?_⟩;simp only;rw[a.t,<- e,take_left'];rfl;simp only;rw[<- drop_drop,a.t,<- e,drop_left'];rfl
def Kv.num{a c:U E}{b:Cu}{x:H}{most:E}(d:Kv a b (((x:H):E)%256::c))(h:x<256)(g:(x:E)<=most):(Cx a most b).2=x/\Kv a (Cx a most b).1 c:=by
 have⟨e,f⟩:=Kv.take (A:=[((x:H):E)%256]) d (n:=1) X
 grind [Cx,aa]
def Kv.a{h k:Type}{e d:U E}{f:Cu×h->Cu×h}{g:k->U E}{c:U k}{A:H->h}{b:Cu}(i:Kv e b (c.flatMap g++d))(m:∀a (n:a<F c) b d,Kv e b (g c[a]++d)->(f (b,A a)).2=A (a+1)/\Kv e (f (b,A a)).1 d):∀a,a<=F c->(Hr f (b,A 0) a).2=A a/\Kv e (Hr f (b,A 0) a).1 ((ZF a c).flatMap g++d)
 |0,_=>⟨X,i⟩
 | a+1,n=>by
  have⟨l,j⟩:=Kv.a i m a O;rw[Ld j.z];have o:Hr f (b,A 0) a=((Hr f (b,A 0) a).1,A a):=(by rw[<- l]);rw[aN (show a<F c by omega),flatMap_cons,append_assoc] at j
  grind
def ZnC{a:E}(b: -2147483648<=a)(c:a<=2147483647):sgR (aa (Ba a 4))=a:=by simp only[Ba,Tu,nil_append,cons_append,aa,sgR];split<;>omega
def Zol{c a e:U E}{d:Cu}(i:Kv c d (Lr a++e))(l:∀h∈a,-2147483648<=h/\h<=2147483647)(o:∀b,0<b->b<F a->Z a (b-1) 0<Z a b 0):(Hr (ftS c) (d,⟨ZZ,[],[]⟩) (F a)).2=⟨ZZ,a,[]⟩/\Kv c (Hr (ftS c) (d,⟨ZZ,[],[]⟩) (F a)).1 e:=by
 have n:=Kv.a (f:=ftS c) (A:=λb=>(⟨ZZ,ZU b a,[]⟩:ES)) i (λb f d e k=>by
  have g:=l _ (Qf f);have⟨j,m⟩:=k.take (Dr _ 4);simp only[ftS,ftN];rw[aC C,j,ZnC g.1 g.2];refine⟨by rw[Qi f],?_⟩
  grind) (F a) x_
 grind
def Zpq{b e:U E}{a:U ZC}{c:Cu}(l:Kv b c (Lw a++e))(f:Di a=Z0):(Hr (ftS b) (c,⟨Z0,[],[]⟩) (F a)).2=⟨Z0,[],a⟩/\Kv b (Hr (ftS b) (c,⟨Z0,[],[]⟩) (F a)).1 e:=by
 have o:=qx f;unfold Di Is at f;rw[all_eq_true] at f
 have t:=Kv.a (f:=ftS b) (A:=λd=>(⟨Z0,[],ZU d a⟩:ES)) l (λd g c e p=>by
  have u:=o _ (Qf g);have h:=f d (mem_range.2 g);have k:Z a d ⟨#[]⟩=a[d]:=w_;rw[k,Bool.and_eq_true,Bool.not_eq_true'] at h;have⟨q,m⟩:=Kv.num (most:=8) p O O;have⟨r,s⟩:=m.take (Ci a[d])
  have i:wdT b c=(⟨(wdT b c).1,Ab a[d]⟩:Cu×U E):=by
   unfold wdT
   grind
  have n:Kv b (wdT b c).1 e:=by
   unfold wdT
   grind
  have j:(wdT b c).2=Ab a[d]:=(by rw[i]);simp only[ftS,ftW];rw[aD trivial,j,Zr,aD h]
  exact⟨by rw[Qi g],n⟩) _ x_
 grind
def Znz{b:U E}(c:Sa b=Z0):∀a,0<a->a<F b->Z b (a-1) 0<Z b a 0:=λa d e=>by grind [Sa,Sb]
def Zp5{g a:U E}{K:KS}{i:Cu}(hK:KRt K)(e:Kv g i (Ll K++a)):(jp g i).2=K/\Kv g (jp g i).1 a:=by
 have o:=hK.ok.a;have m:=hK.ok.g;have f:=hK.ok.b;have p:=hK.ok.w;have t:=hK.num;obtain⟨⟨z,c,h⟩,d⟩:=K;unfold Xl at p;unfold ci at f;simp only[Bool.and_eq_true] at p o m t f
 rcases p with⟨k,l,_⟩|⟨k,l,_⟩
 ·subst k l;have b:(⟨ZZ,_,[]⟩:ES).b=F c:=rfl;rw[b] at m o;have j:Ll ⟨⟨ZZ,c,[]⟩,d⟩++a=[110]++(((d:H):E)%256::((F c:H):E)%256::(Lr c++a)):=(by unfold Ll knB;simp[b]);rw[j] at e;have⟨u,q⟩:=e.take (n:=1) X;have⟨v,r⟩:=q.num (most:=255) O O;have⟨w,s⟩:=r.num (most:=16) O O;have⟨x,y⟩:=Zol s t (Znz f.1.2);unfold jp;simp only;rw[u,v,w,show ZE (([110]:U E)=[119])=ZZ by decide,x,aD w_]
  grind
 subst k l;have b:(⟨Z0,[],_⟩:ES).b=F h:=rfl;rw[b] at m o;have j:Ll ⟨⟨Z0,[],h⟩,d⟩++a=[119]++(((d:H):E)%256::((F h:H):E)%256::(Lw h++a)):=(by unfold Ll ng;simp[b]);rw[j] at e;have⟨u,q⟩:=e.take (n:=1) X;have⟨v,r⟩:=q.num (most:=255) O O;have⟨w,s⟩:=r.num (most:=16) O O;have⟨x,y⟩:=Zpq s f.2;unfold jp
 grind
def Zp1{g i:U E}{d:U H}{c a:H}{h:Cu}(k:Kv g h (Bg (Cf d (Lib.bitLen a)) ((c*Lib.bitLen a+7)/8) (c*Lib.bitLen a)++i))(m:F d=c)(s:∀x∈d,x<=a)(n:a<64):(dnC g c a h).2=An d/\Kv g (dnC g c a h).1 i:=by
 have⟨l,q⟩:=k.take (Dj _ _ _);have r:=Ml n
 have o:∀b,b<c->dnV (Bg (Cf d (Lib.bitLen a)) ((c*Lib.bitLen a+7)/8) (c*Lib.bitLen a)) (Lib.bitLen a) b=Z d b 0:=λb f=>by
  have j:Z d b 0<=a:=by grind [Qf]
  unfold dnV;generalize Lib.bitLen a=e at *;have t:b*e+e<=c*e:=by rw[<- succ_mul];exact aK _ f
  rw[Ni (Z d b 0) (b*e) e (λu p=>by grind [Wm,Kj,Ug,Jf,Mz])];exact mod_eq_of_lt O
 have j:∀b,b<c->Z d b 0<=a:=λb f=>by grind [Qf]
 unfold dnC;simp only;rw[l];constructor
 ·refine Te (by simp[Ak,m]) (λb f=>?_)
  have e:b<c:=by simpa using f
  rw[Bq,Qc,Qd f,Option.getD_some,getElem_map,getElem_range,o b e,aC (p_ (j b e))]
 have e:((range c).any λp=>ZE (a<dnV (Bg (Cf d (Lib.bitLen a)) ((c*Lib.bitLen a+7)/8) (c*Lib.bitLen a)) (Lib.bitLen a) p))=ZZ:=w_;rw[e,Bool.or_false];omega
def ZcE{a:U (H×H)}:∀b,Sd a b=(range b).flatMap λc=>[((((Z a c (0,0)).1:H):E)-Bh a c)%256,(((Z a c (0,0)).2:H):E)%256]
 |0=>X
 |b+1=>by rw[range_succ,flatMap_append,<- ZcE b];simp[Sd]
def Zqi{f d:U E}{b:U H}{a e:H}{g:Cu}(y:Kv f g (Sd (Bu b a) (F (Bu b a))++d))(n:a<=200)(k:F b=a)(W:∀x∈b,x<=e)(R:e<64):(Hr (spC f a e) (g,-1,Y6 a 0) (F (Bu b a))).2.2=An b/\Kv f (Hr (spC f a e) (g,-1,Y6 a 0) (F (Bu b a))).1 d:=by
 have m:∀x∈b,x<=255:=w_;have h:=(dj n k m e d).1;have v:Sj (Bu b a)++d=115::((F (Bu b a):H):E)%256::(Sd (Bu b a) (F (Bu b a))++d):=(by unfold Sj;simp);have S:=Mi b a;have w:ZL ((((F (Bu b a):H):E)%256))=F (Bu b a):=O;rw[v] at h;unfold Hl at h;rw[aD (by rfl)] at h;have L:(Pz (Y6 a 0) (Sd (Bu b a) (F (Bu b a))++d) (ZL (((F (Bu b a):H):E)%256))).2=An b:=h;rw[w] at L;have j:=y;rw[ZcE] at j
 have l:=Kv.a (f:=spC f a e) (A:=λc=>(Bh (Bu b a) c,(Pz (Y6 a 0) (Sd (Bu b a) (F (Bu b a))++d) c).2)) j (λc A g N i=>by
  rw[length_range] at A;rw[getElem_range] at i;have⟨M,_⟩:=Zak n k m d c O;have⟨p,q⟩:=ZeY (Bu b a) (F (Bu b a)) d c O;have⟨a1,a2⟩:=Zlx (N:=b) (n:=a) (k:=c) O;have Q:=ZaN (N:=b) (n:=a) (k:=c) O;have P:=ZaL (Bu b a) c
  have z:Bh (Bu b a) (c+1)=(((Z (Bu b a) c (0,0)).1:H):E):=by
   unfold Bh
   grind
  have a0:Z b (Z (Bu b a) c (0,0)).1 0<=e:=(by grind [Qf]);obtain⟨x,o⟩:∃x:H,(((Z (Bu b a) c (0,0)).1:H):E)-Bh (Bu b a) c=x:=⟨ZL ((((Z (Bu b a) c (0,0)).1:H):E)-Bh (Bu b a) c),O⟩;rw[o] at i;have⟨r,s⟩:=Kv.num (most:=255) i O O;have⟨t,u⟩:=Kv.num (most:=e) s O O;have D:Bh (Bu b a) c+(x:E)=(((Z (Bu b a) c (0,0)).1:H):E):=O;have G:Bh (Bu b a) c+(x:E)%256=(((Z (Bu b a) c (0,0)).1:H):E):=O;unfold spC;simp only;rw[r,D,aC O,t];refine⟨?_,u⟩;simp only[Pz];rw[M,p,q,o,G,z,aD ⟨O,w_⟩]
  rw[show((((Z (Bu b a) c (0,0)).2:H):E))%256=((Z (Bu b a) c (0,0)).2:H) by omega]) (F (Bu b a)) (length_range ▸ x_)
 have o:(λc=>(Bh (Bu b a) c,(Pz (Y6 a 0) (Sd (Bu b a) (F (Bu b a))++d) c).2)) 0=((-1:E),Y6 a (0:E)):=rfl;simp only[o] at l;obtain⟨q,p⟩:=l;rw[drop_eq_nil_of_le (length_range ▸ x_),flatMap_nil,nil_append] at p
 grind
def Zqn{e d:U E}{a:U H}{n c:H}{f:Cu}(b:Kv e f (Ia a c++d))(m:n<=200)(g:F a=n)(k:∀x∈a,x<=c)(j:c<64):(vaC e n c f).2=An a/\Kv e (vaC e n c f).1 d:=by have q:=Mi a n;unfold Ia at b;rw[g] at b;unfold vaC;simp only;split at b;have l:Sj (Bu a n)++d=[115]++(((F (Bu a n):H):E)%256::(Sd (Bu a n) (F (Bu a n))++d)):=(by unfold Sj;simp);rw[l] at b;have⟨i,h⟩:=b.take (n:=1) X;have⟨p,o⟩:=h.num (most:=255) O O;rw[i,aD X,p];exact Zqi o m g k j;have⟨i,h⟩:=Kv.take (A:=[100]) (n:=1) b X;rw[i,aC C];exact Zp1 h g k j
def ff(d:U ZG)(c:U H):U ZG:=c.foldl (λa b=>a.set b Z0) d
def Zbk(c:U ZG)(b:U H)(a:H):ff c (b++[a])=(ff c b).set a Z0:=by simp[ff]
theorem yx(b:U ZG):∀a:U H,F (ff b a)=F b:=λa=>by
 unfold ff
 induction a generalizing b with
 |nil=>rfl
 |cons c a d=>grind
theorem Uk{b:H}:∀{a:U H} {inn:U ZG},b ∉ a->Z (ff inn a) b ZZ=Z inn b ZZ
 |[],inn,_=>X
 |d::a,inn,e=>by have c:ff inn (d::a)=ff (inn.set d _) a:=rfl;rw[c,Uk (λf=>e (mem_cons_of_mem _ f)),Qc,Qc,getElem?_set_ne (show d≠b from λc=>e (c ▸ (mem_cons_self ..)))]
def Zp2{c g:U E}{a:U H}{K:H}{e:U ZG}{d:Cu}(r:Kv c d (Sr a++g))(hK:K<=256)(n:∀b∈a,b<K)(u:a.Nodup)(o:∀b∈a,Z e b ZZ=ZZ):(Hr (buS c K) (d,e,[]) (F a)).2=(ff e a,a)/\Kv c (Hr (buS c K) (d,e,[]) (F a)).1 g:=by
 have l:Kv c d (a.flatMap (λb=>[((b:H):E)%256])++g):=by
  have f:Sr a=a.flatMap (λb=>[((b:H):E)%256]):=by unfold Sr;rw[map_eq_flatMap]
  grind
 have i:=Kv.a (f:=buS c K) (A:=λf=>(ff _ _,ZU f a)) l (λf h d q m=>by
  have s:=n _ (Qf h);have⟨j,k⟩:=Kv.num (most:=(K:E)-1) m O O
  have p:a[f] ∉ ZU f a:=λt=>by grind [getElem_of_mem,getElem_inj]
  unfold buS;simp only;rw[j,Uk p,o _ (Qf h),aC C,Qi h,Zbk]
  exact⟨X,k⟩) _ x_
 simp only[take_length,drop_length,flatMap_nil,nil_append,take_zero] at i;exact i
theorem Zbe{c:U KS}:∀(b:U H) (d:H),Ii c (An b) (d:E)=Z0->dfB c (Zu c b d)=ZZ
 |[],d,a=>by simp[An,Ii] at a
 | e ::b,d,a=>by
  have f:An (e::b)=(e:E)::An b:=rfl;rw[f] at a;simp only[Ii,Int.toNat_natCast,Oy,decide_eq_true_eq] at a;have g:(Z c e Aj).g=_+2:=rfl;simp only[Zu];split at a
  ·rw[aD O];unfold Wx at a;simp only[dfB]
   grind
  rw[aC O];apply Zbe _ _
  grind
def ZpX{f e:U E}{d:H}{b:U KS}{a:BS}{inn:U ZG}{Fs Cs:U (U H)}{h:Cu}(k:Kv f h (Dq a++e))(c:BRt b d a)(r:d<=200)(hK:F b<=4)(z:F a.fs<=F b)(s:a.fs.Nodup)(q:∀n∈a.fs,Z inn n ZZ=ZZ):(gy f d b (h,inn,Fs,Cs)).2=(ff inn a.fs,Fs++[a.fs],Cs++[a.N])/\Kv f (gy f d b (h,inn,Fs,Cs)).1 e:=by
 have m:Dq a++e=((F a.fs:H):E)%256::(Sr a.fs++(Ia a.N a.g++e)):=(by unfold Dq;simp);rw[m] at k;have A:=c.h;have y:=c.o;have⟨v,u⟩:=k.num (most:=(F b:E)) O O;have⟨w,l⟩:=Zp2 u O c.n s q;have⟨x,j⟩:=Zqn l r c.y c.k O
 have p:((range d).any λg=>dfB b (Nv b a.fs (Z a.N g 0)))=ZZ:=by
  rw[any_eq_false];intro g t;have G:=mem_range.1 t;have D:=c.y;have i:=c.j;unfold Dx at i;simp only[all_eq_true,Bool.or_eq_true,decide_eq_true_eq] at i;have L:=i (Z a.N g 0) w_;unfold Nv
  by_cases o:Z a.N g 0=0
  rw[aD o];exact Bool.false_ne_true
  grind [Zbe]
 unfold gy;simp only;rw[v,w];simp only;rw[<- c.sum,aC (show ¬(F a.fs=0∨40<a.g) by omega),aC (by rw[l.z];decide),x,Ga,p,Bool.or_false];exact⟨X,j.z,j.k,j.t⟩
def ZmR{a:H}(b:a<65536):aa (Ba (a:H) 2)=a:=by simp only[Ba,Tu,nil_append,cons_append,aa];omega
def Zqq{d i:U E}{f:H}{c:U KS}{h g:U (U H)}{a:U XS}{e:Cu}(v:Kv d e (Ba (F a:H) 2++(a.flatMap xB++i)))(L:F a<=800)(z:Gu a)(y:∀x∈a,x.M<f/\x.f<F c/\x.i<256/\goR c h g x.M x.f=Z0/\x.i<F (Z c x.f Aj).e.f+F (Z c x.f Aj).e.c+2/\x.i≠(Z c x.f Aj).d)(M:f<=200)(hK:F c<=4):(xcC d f c h g e).2=a/\Kv d (xcC d f c h g e).1 i:=by
 have⟨D,A⟩:=v.take (Dr _ 2)
 have k:=Kv.a (f:=xcS d f c h g) (A:=λb=>ZU b a) A (λb l e m w=>by
  have⟨P,Q,R,S,W,a0⟩:=y _ (Qf l);have⟨o,n⟩:=Kv.num (most:=255) w O O;have⟨q,p⟩:=Kv.num (most:=255) n O O;have⟨s,r⟩:=Kv.num (most:=255) p O O;have u:(xcR d e).2=a[b]:=(by unfold xcR;simp only;rw[o,q,s]);have j:Kv d (xcR d e).1 m:=r
  have N:riB (ZU b a) a[b]=Z0:=by
   unfold riB;rw[decide_eq_true_eq]
   by_cases G:b=0
   ·grind
   right;have t:Z (ZU b a) (F (ZU b a)-1) Dm=a[b-1]:=w_;rw[t];exact pairwise_iff_getElem.1 z _ b O _ O
  unfold xcS;simp only;rw[u,j.z,aC t_,aD (by unfold xcB;grind)]
  exact⟨by rw[Qi l],j⟩) (F a) x_
 simp only[take_length,drop_length,flatMap_nil,nil_append,take_zero] at k;unfold xcC;rw[D,ZmR O];exact k
def ZlG{b:U KS}{e:U H}:∀(a:U H) (d:H),(a++e).Nodup->(a.any λc=>ZE ((c:E)=(re (Zu b (a++e) d)).1))=ZE (d<Bk b a)
 |[],d,_=>by simp[Bk]
 | c ::a,d,g=>by
  have f:Bk b (c::a)=(Z b c Aj).g+Bk b a:=(by simp[Bk]);rw[cons_append,nodup_cons] at g;rw[f,any_cons];simp only[cons_append,Zu]
  by_cases j:d<(Z b c Aj).g
  ·grind [re]
  have h:ZE ((c:E)=(re (Zu b (a++e) (d-(Z b c Aj).g))).1)=ZZ:=by
   cases i:Zu b (a++e) (d-(Z b c Aj).g) with
   |none=>simp[re]
   | some l=>
    have k:=Zan _ i;exact aE λf=>g.1 (by simp only[re] at f;grind)
  rw[aC j,h,ZlG a _ g.2,Bool.false_or]
  grind
def Zbr{g:E}{c:H}:∀{b:U H} {e:ZG},c ∉ b->goF g c b e=ZP
 |[],_,_=>X
 |f::b,e,d=>by simp only[goF];rw[aC (show ¬f=c from λa=>d (a ▸ (mem_cons_self ..)))];exact Zbr λa=>d (mem_cons_of_mem _ a)
def Zf0{f:E}{c:H}{h:U H}:∀{a:U H} {b:ZG},c ∉ a->goF f c (a++c::h) b=T (b||a.any λe=>ZE ((e:E)=f))
 |[],b,_=>by simp[goF]
 |e::a,b,g=>by simp only[cons_append,goF];rw[aC (show ¬e=c from λd=>g (d ▸ (mem_cons_self ..))),Zf0 (λd=>g (mem_cons_of_mem _ d)),any_cons,Bool.or_assoc]
def Zkl{d:H->Y0 ZG}{f:H}{h:ZG}:∀(a b:U H),(∀c∈a,d c=ZP)->d f=T h->goL d (a++f::b)=h
 |[],b,_,e=>by simp[goL,e]
 |c::a,b,g,e=>by simp only[cons_append,goL];rw[g c (mem_cons_self ..),Option.getD_none];exact Zkl a b (λi j=>g i (mem_cons_of_mem _ j)) e
def ZoI{Ks:U KS}{a Cs:U (U H)}{b xr e:H}{c g:U H}(o:b<F a)(i:Z a b []=c++e::g)(n:∀d,d<b->e ∉ Z a d [])(j:(c++e::g).Nodup):goR Ks a Cs xr e=(ZE (0<Z (Z Cs b []) xr 0)&&ZE (Z (Z Cs b []) xr 0<=Bk Ks c)):=by
 unfold goR;have k:range (F a)=range b++b::(range' (b+1) (F a-b-1)):=(by rw[range_eq_range',range_eq_range',<- range'_succ,<- show b+(F a-b-1+1)=F a by omega,<- range'_append_1];congr 2<;>omega);have m:_ ∉ c:=λl=>(nodup_append.1 j).2.2 _ l _ (mem_cons_self ..) X;rw[k];apply Zkl _ _ (λd f=>Zbr (n d (mem_range.1 f)));rw[i,Zf0 m,Bool.false_or];congr 1;unfold Gw Nv;rw[i];generalize (Z (Z Cs b [])) xr 0=h
 by_cases f:h=0
 rw[aD f,f];simp[re];rw[aC f,ZlG _ _ j,aF (show 0<h by omega),Bool.true_and]
 grind
def Zgv{D:Ft}(h:(D.f.flatMap (·.fs)).Perm (range (F D.g))){b:H}(k:b<F D.g):∃a,∃f:a<F D.f,∃e g,D.f[a].fs=e++b::g/\(e++b::g).Nodup/\De D b=a/\Lv D a (Iy D b)=1+Bk D.g e/\∀d (l:d<F D.f),d≠a->b ∉ D.f[d].fs:=by
 obtain⟨c,q,r⟩:∃c∈D.f,b∈c.fs:=by
  have:b∈D.f.flatMap (·.fs):=h.mem_iff.2 (mem_range.2 k)
  simpa using this
 obtain⟨a,f⟩:∃a,D.f.findIdx (λc=>ZE (b∈c.fs))=a:=⟨_,X⟩;have m:a<F D.f:=w_
 have n:b∈D.f[a].fs:=w_;have i:Z D.f a Df=D.f[a]:=w_;have u:=idxOf_lt_length_of_mem n;have j:D.f[a].fs=ZU (D.f[a].fs.idxOf b) D.f[a].fs++b::ZF (D.f[a].fs.idxOf b+1) D.f[a].fs:=(by grind [take_append_drop,drop_eq_getElem_cons]);have⟨o,p⟩:=pairwise_flatMap.1 (h.nodup_iff.2 nodup_range);refine⟨a,m,_,_,j,w_,f,?_,λd l t s=>?_⟩;have:De D b=a:=f;unfold Iy Lv;rw[this,i]
 grind [pairwise_iff_getElem]
def ch{d:Type}{a:U BS}{c:BS->U d}{b:H}(e:b<F a):Z (a.map c) b []=c a[b]:=w_
def vf{d:H}{a:U KS}{b:U BS}(m:∀g∈b,BRt a d g)(o:(b.flatMap (·.fs)).Perm (range (F a))){x:XS}(p:x.f<F a):Fi ⟨a,b,[]⟩ d x=(ZE (x.M<d)&&(ZE (x.f<F a)&&(Wx (Z a x.f Aj).e (Z a x.f Aj).d (x.i:H)&&goR a (b.map (·.fs)) (b.map (·.N)) x.M x.f))):=by
 have⟨c,f,q,r,i,j,k,l,s⟩:=Zgv (D:=⟨a,b,[]⟩) o p;have e:=m _ (Qf f);have n:=ZoI (Ks:=a) (Cs:=b.map (·.N)) (xr:=x.M) (b:=c) w_ ((ch _).T i) (λh t=>w_) j;rw[n,ch f];unfold Fi ZhL;rw[k,l];have h:Z (⟨a,b,[]⟩:Ft).f c Df=b[c]:=w_;rw[h,Zdn e.k (p_ e.h)]
 grind
def Qw{h:Type}{f:Cu×h->Cu×h}{s:Cu×h}(d:H->Cu×h->Prop)(i:s.1.z=ZZ->d 0 s):∀a,(∀e c,e<a->c.1.z=ZZ->d e c->(f c).1.z=ZZ->d (e+1) (f c))->(Hr f s a).1.z=ZZ->d a (Hr f s a)/\s.1.z=ZZ
 |0,_,b=>⟨i b,b⟩
 | a +1,j,b=>by
  cases g:(Hr f s a).1.z with
  |true=>rw[Yr g (le_succ a),g] at b;cases b
  | false=>
   have l:=Qw d i a (λe c k=>j e c O) g;rw[Ld g] at b ⊢
   grind
theorem ZlL{l:U E}{n:H}{c:Cu}(a:(Lj l n c).1.z=ZZ):c.z=ZZ:=by
 unfold Lj at a
 grind
def Vw{l:U E}{m:E}{c:Cu}(a:(Cx l m c).1.z=ZZ):c.z=ZZ/\((Cx l m c).2:E)<=m:=by grind [Cx,ZlL]
theorem Zff{a:U ZC}{b:ZC}(c:Di a=Z0)(e:En b=Z0)(f:containsS a b=ZZ):Di (a++[b])=Z0:=by
 unfold Di at c ⊢;rw[Qe,length_singleton,gn];have d:Is (a++[b]) (F a)=Is a (F a):=by grind [Is]
 grind
def Zik{a:U E}{d:E}(b:Sa a=Z0)(g:¬(a≠[]/\d<=Z a (F a-1) 0)):Sa (a++[d])=Z0:=by
 unfold Sa Sb at b ⊢;simp only[all_eq_true,decide_eq_true_eq,mem_range] at b ⊢;intro c e;rw[Qe,length_singleton] at e
 by_cases f:c+1<F a
 ·have:=b c O
  grind
 grind
def ZoG{a:U E}{d:Cu}(A:∀t∈a,0<=t/\t<256)(i:(jp a d).1.z=ZZ):KRt (jp a d).2/\d.z=ZZ:=by
 unfold jp at i ⊢;simp only at i ⊢;have G:=ZlL (l:=a) (n:=1) (c:=d);have S:ZE ((Lj a 1 d).2=[119])=Z0->(Lj a 1 d).2≠[110]:=w_;generalize Lj a 1 d=r at *;have L:=Vw (l:=a) (m:=255) (c:=r.1);generalize Cx a 255 r.1=v at *;have M:=Vw (l:=a) (m:=16) (c:=v.1);generalize Cx a 16 v.1=m at *;generalize ZE (r.2=[119])=h at *;split at i
 ·rename_i D
  have⟨o,x⟩:=Qw (f:=ftS a) (s:=(m.1,⟨h,[],[]⟩)) (λq b=>b.2.a=h/\(h=Z0->b.2.f=[]/\F b.2.c=q/\Di b.2.c=Z0)/\(h=ZZ->b.2.c=[]/\F b.2.f=q/\Sa b.2.f=Z0/\∀e∈b.2.f,-2147483648<=e/\e<=2147483647)) (λ_=>⟨X,λ_=>⟨X,X,X⟩,λ_=>⟨X,X,X,s_⟩⟩) m.2 (λq b R c o g=>by
   obtain⟨k,s,l⟩:=o;unfold ftS at g ⊢
   cases h with
   | true=>
    grind [ftW,Zff]
   | false=>
    rw[k,aC C] at g ⊢;have⟨p,u,f,j⟩:=l X;unfold ftN at g ⊢;simp only at g ⊢;split at g
    ·cases g
    rename_i w;refine⟨trivial,λn=>(by cases n),λ_=>⟨p,w_,Zik f w,λe c=>?_⟩⟩
    rcases mem_append.1 c with c|c
    exact j e c;have:=bp _ (Np A 4 b.1)
    grind [Ij,sgR]) i
  have y:=M x;have z:=L y.1;refine⟨?_,G z.1⟩;generalize Hr (ftS a) (m.1,⟨h,[],[]⟩) m.2=N at *;obtain⟨Q,n,w,P⟩:=N;obtain⟨k,s,l⟩:=o;simp only at k s l D ⊢;subst k
  cases n with
  | true=>
   obtain⟨rfl,u,f⟩:=s X;have p:(⟨Z0,[],_⟩:ES).b=F P:=rfl;refine⟨⟨ZJ ⟨X,X,w_,qx f⟩,w_,?_,?_⟩,λe c=>by cases c⟩;unfold ci;rw[p,aF O,f];rfl
   grind
  | false=>
   obtain⟨rfl,u,f,j⟩:=l X;have p:(⟨ZZ,_,[]⟩:ES).b=F w:=rfl;refine⟨⟨ZM ⟨X,X,w_,λe c=>p_ (j e c)⟩,w_,?_,?_⟩,j⟩;unfold ci;rw[p,aF O,f];rfl
   grind
 cases i
def fsC(b:U E)(a:Cu×U KS):Cu×U KS:=((jp b a.1).1,a.2++[(jp b a.1).2])
def ZoE{b:U E}{a:Cu}(j:∀f∈b,0<=f/\f<256){c:H}(i:(Hr (fsC b) (a,[]) c).1.z=ZZ):(F (Hr (fsC b) (a,[]) c).2=c/\∀K∈(Hr (fsC b) (a,[]) c).2,KRt K)/\a.z=ZZ:=
 Qw (f:=fsC b) (s:=(a,[])) (λh e=>F e.2=h/\∀K∈e.2,KRt K) (λ_=>⟨X,s_⟩) c (λh e _ _ g k=>⟨by simp[fsC,g.1],λK hK=>by
  rcases mem_append.1 hK with d|d
  exact g.2 K d
  rw[mem_singleton.1 d];exact(ZoG j k).1⟩) i
def yw{b:H}:∀{a:U H} {inn:U ZG},b∈a->b<F inn->Z (ff inn a) b ZZ=Z0
 | c::a,inn,g,f=>by
  have e:ff inn (c::a)=ff (inn.set c _) a:=rfl;rw[e]
  by_cases d:b∈a
  exact yw d (by simpa using f);rw[Uk d]
  grind
theorem Zcx{b:U KS}:∀(a:U H) (d:H),d<Bk b a->dfB b (Zu b a d)=ZZ->Ii b (An a) (d:E)=Z0
 |[],d,f,_=>by simp[Bk] at f
 | c ::a,d,f,e=>by
  have g:An (c::a)=(c:E)::An a:=rfl;have h:Bk b (c::a)=(Z b c Aj).g+Bk b a:=(by simp[Bk]);have i:(Z b c Aj).g=_+2:=rfl;rw[g];simp only[Ii,Int.toNat_natCast,Oy,decide_eq_true_eq];simp only[Zu] at e;split at e
  ·rw[aD O];simp only[dfB] at e;unfold Wx Oy
   grind
  rw[aC O];have:=Zcx a _ O e
  grind
def Zon{l:U E}{K m:H}{a:U ZG}{c:Cu}(n:F a=K)(i:(Hr (buS l K) (c,a,[]) m).1.z=ZZ):(F (Hr (buS l K) (c,a,[]) m).2.2=m/\(Hr (buS l K) (c,a,[]) m).2.1=ff a (Hr (buS l K) (c,a,[]) m).2.2/\(Hr (buS l K) (c,a,[]) m).2.2.Nodup/\∀d∈(Hr (buS l K) (c,a,[]) m).2.2,d<K/\Z a d ZZ=ZZ)/\c.z=ZZ:=
 Qw (f:=buS l K) (s:=(c,a,[])) (λg b=>F b.2.2=g/\b.2.1=ff a b.2.2/\b.2.2.Nodup/\∀d∈b.2.2,d<K/\Z a d ZZ=ZZ) (λ_=>⟨X,X,s_,s_⟩) m (λg b _ _ j e=>by
  obtain⟨o,h,s,p⟩:=j;unfold buS at e ⊢;simp only at e ⊢;split at e
  ·cases e
  rename_i k;have r:=Vw e;generalize Cx l ((K:E)-1) b.1=t at *;have q:_ ∉ _:=λf=>k (by rw[h];exact yw f (n ▸ (p _ f).1));refine⟨by simp[o],by rw[Zbk,h],?_,λd e=>?_⟩
  ·grind
  grind [Uk]) i
def Zom{d:U E}{h:H}{a:U KS}{b:Cu×U ZG×U (U H)×U (U H)}(t:∀c∈d,0<=c/\c<256)(v:F b.2.1=F a)(hK:F a<=4)(f:(gy d h a b).1.z=ZZ):∃c:BS,BRt a h c/\(gy d h a b).2=(ff b.2.1 c.fs,b.2.2.1++[c.fs],b.2.2.2++[c.N])/\c.fs.Nodup/\∀g∈c.fs,Z b.2.1 g ZZ=ZZ:=by
 unfold gy at f ⊢;simp only at f ⊢;have L:=Vw (l:=d) (m:=F a) (c:=b.1);generalize Cx d (F a:E) b.1=i at *;have x:=Zon (l:=d) (m:=i.2) (c:=i.1) v;generalize Hr (buS d (F a)) (i.1,b.2.1,[]) i.2=e at *
 by_cases u:i.2=0∨40<Bk a e.2.2
 ·grind
 simp only[aC u] at f ⊢
 cases o:e.1.z with
 |true=>grind
 | false=>
  simp only[o,Bool.false_eq_true,if_false] at f ⊢;have⟨⟨M,z,A,p⟩,N⟩:=x o;have⟨D,P⟩:=ZlO t h (Bk a e.2.2) e.1;generalize vaC d h (Bk a e.2.2) e.1=q at *;rw[Bool.or_eq_false_iff,any_eq_false] at f;have m:∀j∈q.2.map ZL,j<=Bk a e.2.2:=w_;refine⟨⟨e.2.2,q.2.map _,Bk _ _⟩,⟨by simpa using D,m,w_,w_,w_,λg k=>(p g k).1,X,?_⟩,by rw[z],A,λg k=>(p g k).2⟩;unfold Dx;rw[all_eq_true];intro j n;have⟨y,w,r⟩:=aM n;have l:=f.2 y (mem_range.2 w_);rw[Qc,Qd w,Option.getD_some,r] at l;have G:=m j n;unfold Nv at l
  by_cases s:j=0
  simp[s]
  grind [Zcx]
def Zmv{f:U E}{d g:H}{b:U KS}{e:Cu}(v:∀c∈f,0<=c/\c<256)(hK:F b<=4)(r:(Hr (gy f d b) (e,Y6 (F b) ZZ,[],[]) g).1.z=ZZ):(∃a:U BS,F a=g/\(Hr (gy f d b) (e,Y6 (F b) ZZ,[],[]) g).2=(ff (Y6 (F b) ZZ) (a.flatMap (·.fs)),a.map (·.fs),a.map (·.N))/\(∀c∈a,BRt b d c)/\(a.flatMap (·.fs)).Nodup)/\e.z=ZZ:=
 Qw (f:=gy f d b) (s:=(e,Y6 (F b) ZZ,[],[])) (λm o=>∃a:U BS,F a=m/\o.2=(ff (Y6 (F b) ZZ) (a.flatMap (·.fs)),a.map (·.fs),a.map (·.N))/\(∀c∈a,BRt b d c)/\(a.flatMap (·.fs)).Nodup) (λ_=>⟨[],X,X,s_,s_⟩) g (λm o _ _ t w=>by
  obtain⟨a,z,n,A,D⟩:=t;have⟨c,L,i,s,j⟩:=Zom v (by rw[n];simp[yx]) hK w;rw[n] at i j;refine⟨a++[c],by simp[z],by rw[i];simp[ff],λp l=>?_,?_⟩
  ·grind
  rw[flatMap_append,flatMap_singleton,nodup_append];refine⟨D,s,λh k p l q=>?_⟩;have x:h<F b:=(by have⟨G,y,u⟩:=mem_flatMap.1 k;exact(A G y).n h u);have:=j p l;rw[<- q,yw k (by simpa using x)] at this
  cases this) r
def Znl{K:H}{a:U H}(e:a.Nodup)(d:∀b∈a,b<K)(f:(ff (Y6 K ZZ) a).all id=Z0):a.Perm (range K):=by
 rw[perm_ext_iff_of_nodup e nodup_range];intro b;rw[mem_range];refine⟨d b,λh=>?_⟩
 by_cases c:b∈a
 exact c;have g:=Uk (inn:=Y6 K ZZ) c
 grind [yx,Qf]
def Ze3{a:U XS}{n:H}(g:Gu a)(b:∀x∈a,x.M<n/\x.f<4):F a<=4*n:=by
 have i:∀(a:U XS) (c:H),Gu a->(∀x∈a,x.M<n/\x.f<4/\c<=4*x.M+x.f)->F a<=4*n-c:=λa=>by
  induction a with
  |nil=>simp
  | cons f a h=>
   intro c e b;have j:=b f (mem_cons_self ..);unfold Gu at e;rw[pairwise_cons] at e;have:=h (4*f.M+f.f+1) e.2 (λx d=>w_)
   grind
 have:=i a 0 g (λx d=>⟨(b x d).1,(b x d).2,v_⟩);omega
def Zpt{g:U E}{e:H}{b:U KS}{d c:U (U H)}{f:Cu}(i:(xcC g e b d c f).1.z=ZZ):(Gu (xcC g e b d c f).2/\∀a∈(xcC g e b d c f).2,a.M<e/\a.f<F b/\goR b d c a.M a.f=Z0/\a.i<F (Z b a.f Aj).e.f+F (Z b a.f Aj).e.c+2/\a.i≠(Z b a.f Aj).d)/\f.z=ZZ:=by have⟨j,k⟩:=Qw (f:=xcS g e b d c) (s:=((Lj g 2 f).1,[])) (λ_ h=>Gu h.2/\∀a∈h.2,a.M<e/\a.f<F b/\goR b d c a.M a.f=Z0/\a.i<F (Z b a.f Aj).e.f+F (Z b a.f Aj).e.c+2/\a.i≠(Z b a.f Aj).d) (λ_=>⟨Pairwise.nil,s_⟩) _ (λm h _ _ a l=>by grind [xcS,xcB,riB,gc]) i;exact⟨j,ZlL k⟩
section
variable (a:U E)
def opM:Cu×U E:=Lj a 2 ⟨0,ZZ⟩
def zs:Cu×H:=Cx a 200 (opM a).1
def opK:Cu×H:=Cx a 4 (zs a).1
def Si:Cu×U KS:=Hr (fsC a) ((opK a).1,[]) (opK a).2
def opB:Cu×H:=Cx a 255 (Si a).1
def opG:Cu×U ZG×U (U H)×U (U H):=Hr (gy a (zs a).2 (Si a).2) ((opB a).1,Y6 (opK a).2 ZZ,[],[]) (opB a).2
def opC:Cu:=if(opG a).2.1.all id=Z0 then(opG a).1 else⟨(opG a).1.k,Z0⟩
def opX:Cu×U XS:=xcC a (zs a).2 (Si a).2 (opG a).2.2.1 (opG a).2.2.2 (opC a)
end
def ju{a:U E}(h:∀b∈a,0<=b/\b<256)(d:(Si a).1.z=ZZ):(zs a).2<=200/\F (Si a).2=(opK a).2/\(opK a).2<=4/\∀K∈(Si a).2,KRt K:=by have⟨⟨e,f⟩,g⟩:=ZoE h d;have c:=Vw g;have:((opK a).2:E)<=4:=c.2;have:((zs a).2:E)<=200:=(Vw c.1).2;exact⟨O,e,O,f⟩
def Zk0{a:U E}(e:∀c∈a,0<=c/\c<256){m:H}(f:(Si a).1.z=ZZ)(d:(Hr (gy a (zs a).2 (Si a).2) ((opB a).1,Y6 (opK a).2 ZZ,[],[]) m).1.z=ZZ):∃b:U BS,F b=m/\(Hr (gy a (zs a).2 (Si a).2) ((opB a).1,Y6 (opK a).2 ZZ,[],[]) m).2=(ff (Y6 (F (Si a).2) ZZ) (b.flatMap (·.fs)),b.map (·.fs),b.map (·.N))/\(∀c∈b,BRt (Si a).2 (zs a).2 c)/\(b.flatMap (·.fs)).Nodup:=by have g:=ju e f;rw[<- g.2.1] at d ⊢;exact(Zmv e O d).1
def Zn9{a:U E}(e:∀d∈a,0<=d/\d<256)(v:(opK a).2≠0)(g:(opC a).z=ZZ):∃c:U BS,(opG a).2.2=(c.map (·.fs),c.map (·.N))/\(∀f,Gu f->(∀b∈f,Fi ⟨(Si a).2,c,[]⟩ (zs a).2 b=Z0)->DRt (zs a).2 ⟨(Si a).2,c,f⟩ f)/\∀b:XS,b.f<F (Si a).2->Fi ⟨(Si a).2,c,[]⟩ (zs a).2 b=(ZE (b.M<(zs a).2)&&(ZE (b.f<F (Si a).2)&&(Wx (Z (Si a).2 b.f Aj).e (Z (Si a).2 b.f Aj).d (b.i:H)&&goR (Si a).2 (opG a).2.2.1 (opG a).2.2.2 b.M b.f))):=by
 unfold opC at g;split at g
 ·rename_i x;have l:(Si a).1.z=ZZ:=(by have:=(Qw (f:=gy a (zs a).2 (Si a).2) (λ_ _=>True) (λ_=>trivial) _ (λ_ _ _ _ _ _=>trivial) g).2;exact(Vw this).1);have⟨c,w,o,h,p⟩:=Zk0 e l g;have k:(opG a).2=_:=o;have⟨u,z,y,r⟩:=ju e l
  have i:=Znl (K:=F (Si a).2) p (λf j=>by
   have⟨d,e,m⟩:=mem_flatMap.1 j
   exact(h d e).n f m) w_
  have s:=ZfT λd e=>(h d e).o;rw[i.length_eq,length_range] at s
  have q:0<F c:=by
   have:0∈c.flatMap (·.fs):=i.mem_iff.2 (mem_range.2 O)
   grind
  refine⟨c,by rw[k],λf m n=>⟨u,w_,w_,q,w_,r,h,i,m,n,?_⟩,λb j=>by rw[vf h i j,k]⟩
  have:=Ze3 (n:=200) m (λb t=>by
   have:=Ms (n b t)
   grind)
  omega
 cases g
def KRt.sum{K:KS}(b:KRt K):F K.e.f+F K.e.c=K.e.b:=by
 unfold ES.b Kz
 rcases b.ok.w with a|a
 ·grind
 grind
def Zo5{a:U E}(h:∀f∈a,0<=f/\f<256)(k:(opK a).2≠0)(g:(opX a).1.z=ZZ):∃b:U BS,(opG a).2.2=(b.map (·.fs),b.map (·.N))/\DRt (zs a).2 ⟨(Si a).2,b,(opX a).2⟩ (opX a).2:=by
 unfold opX at g ⊢;have⟨⟨q,r⟩,c⟩:=Zpt g;have⟨b,l,m,n⟩:=Zn9 h k c;refine⟨b,l,m _ q λd p=>?_⟩;have⟨s,e,t,i,u⟩:=r d p
 have o:(Si a).1.z=ZZ:=by
  unfold opC at c;split at c;have j:=c;exact(Vw (Qw (f:=gy a (zs a).2 (Si a).2) (λ_ _=>True) (λ_=>trivial) _ (λ_ _ _ _ _ _=>trivial) j).2).1
  cases c
 have j:Z (Si a).2 d.f Aj=(Si a).2[d.f]:=w_;rw[n d e,t,aF s,aF e];rw[j] at i u ⊢;unfold Wx Oy;rw[((ju h o).2.2.2 _ (Qf e)).sum] at i;simp;omega
def ZmS{a:E}(b:0<=a)(c:a<4294967296):(aa (Ba a 4):E)=a:=by simp only[Ba,Tu,nil_append,cons_append,aa];omega
def Znn{a:U E}{D:Ft}(j:Sm a)(a3:oe a=T D):4<=F a/\(aa (ZF (F a-4) a):E)=Gy (ZU (F a-4) a)/\(opM (ZU (F a-4) a)).2=[71,82]/\(opK (ZU (F a-4) a)).2≠0/\(opC (ZU (F a-4) a)).z=ZZ/\(opX (ZU (F a-4) a)).1.z=ZZ/\(opX (ZU (F a-4) a)).1.k=F a-4/\(Si (ZU (F a-4) a)).2=D.g/\(opG (ZU (F a-4) a)).2.2=(D.f.map (·.fs),D.f.map (·.N))/\(opX (ZU (F a-4) a)).2=D.r/\Br D D.r=a/\∀h∈D.f,h.g=Bk D.g h.fs:=by
 have b:=Zo3 j a3;generalize (ZL (Z a 2 0))=n at b;have v:Br D D.r=a:=(by grind [oe]);have a4:F (Z D.f 0 Df).N=n:=(by have:=b.f _ (Hu Df b.k);exact this.y);have y:a=_++_:=v.s;have b6:F a=F (Hv D D.r)+4:=(by rw[y,Qe,(Dr _ 4)]);have G:ZU (F a-4) a=Hv D D.r:=w_;have w:ZF (F a-4) a=Ba (Gy (Hv D D.r)) 4:=w_;rw[G,w];have f:=Qp .xor 4294967295 (Zg5 (Hv D D.r));refine⟨O,ZmS f.1 f.2,?_⟩;clear f
 have l:Hv D D.r=[71,82]++((n:E)%256::((F D.g:E)%256::(D.g.flatMap Ll++((F D.f:E)%256::(D.f.flatMap Dq++(Ba (F D.r:H) 2++(D.r.flatMap xB++[]))))))):=by
  unfold Hv
  grind
 have⟨r,u⟩:=Z_ (Ba (F D.r:H) 2++(D.r.flatMap xB++([]:U E)));have⟨P,t⟩:=Z_ ((F D.f:E)%256::(D.f.flatMap Dq++r));rw[u,t] at l;have⟨c,p⟩:=Z_ (Hv D D.r);rw[p] at l ⊢;have z:=b.w;have x:=b.i;have b4:=b.l;have b5:=b.y;have Q:Kv c ⟨0,_⟩ _:=⟨X,v_,l⟩;have b3:F c=F a-4:=(by rw[<- p];omega);clear p l w G y a4;have⟨b0,a9⟩:=Q.take (n:=2) X;have⟨b2,b1⟩:=a9.num (most:=200) O O;have⟨a8,a7⟩:=b1.num (most:=4) O O;have M:(zs c).2=n:=b2;have L:(opK c).2=_:=a8
 have i:(Si c).2=D.g/\Kv c (Si c).1 P:=by
  have e:=Kv.a (f:=fsC c) (A:=λd=>ZU d D.g) a7 (λd k a0 N f=>by
   have⟨g,m⟩:=Zp5 (b.g _ (Qf k)) f
   exact⟨by simp only[fsC];rw[g,Qi k],m⟩) (F D.g) x_
  simp only[take_length,drop_length,flatMap_nil,nil_append,take_zero] at e;unfold Si;rw[L];exact e
 rw[<- t] at i;have⟨S,R⟩:=i.2.num (most:=255) O O;have W:(opB c).2=_:=S;have A:=b.h.nodup_iff.2 nodup_range;have q:=b.h.length_eq;rw[length_range] at q
 have g:(opG c).2=(ff (Y6 (F D.g) ZZ) (D.f.flatMap (·.fs)),D.f.map (·.fs),D.f.map (·.N))/\Kv c (opG c).1 r:=by
  have e:=Kv.a (f:=gy c n D.g) (A:=λd=>(ff (Y6 (F D.g) ZZ) ((ZU d D.f).flatMap (·.fs)),(ZU d D.f).map (·.fs),(ZU d D.f).map (·.N))) R (λd k a0 N f=>by
   have a6:D.f.flatMap (·.fs)=(ZU d D.f).flatMap (·.fs)++(D.f[d].fs++(ZF (d+1) D.f).flatMap (·.fs)):=(by grind [take_append_drop,drop_eq_getElem_cons]);rw[a6] at A q;have⟨_,m,o⟩:=nodup_append.1 A;simp only[Qe] at q
   have⟨a1,a2⟩:=ZpX (inn:=ff (Y6 (F D.g) ZZ) ((ZU d D.f).flatMap (·.fs))) (Fs:=(ZU d D.f).map (·.fs)) (Cs:=(ZU d D.f).map (·.N)) f (b.f _ (Qf k)) z x O (nodup_append.1 m).1 (λe a5=>by
    rw[Uk (λs=>o e s e (mem_append_left _ a5) X)]
    grind)
   refine⟨?_,a2⟩;rw[a1,Qi k]
   simp only[flatMap_append,map_append,flatMap_singleton,map_cons,map_nil,ff,foldl_append]) (F D.f) x_
  simp only[take_length,drop_length,flatMap_nil,nil_append,take_zero] at e;unfold opG;rw[M,i.1,L,W];exact e
 have m:opC c=(opG c).1:=by
  unfold opC;rw[if_pos];rw[g.1,all_eq_true];intro h j;have⟨k,d,s⟩:=aM j
  have e:k<F D.g:=by rw[yx] at d;simpa using d
  have:=yw (inn:=Y6 (F D.g) ZZ) (b.h.mem_iff.2 (mem_range.2 e)) (by simpa using e)
  grind
 rw[<- u] at g
 have e:(opX c).2=D.r/\Kv c (opX c).1 []:=by
  unfold opX;rw[m,M,i.1,g.1];refine Zqq g.2 b.u b.r (λN s=>?_) z x;have k:=b.j N s;have d:=Ms k;simp only at d;rw[vf b.f b.h d.2.1] at k;simp only[Bool.and_eq_true,decide_eq_true_eq] at k;obtain⟨_,_,o,a0⟩:=k;have hK:=b.g _ (Hu Aj d.2.1);have f:=hK.ok.g;rw[hK.sum];unfold Wx at o
  grind
 have d:=congrArg F e.2.t;rw[length_drop,length_nil] at d;have k:=e.2.k;exact⟨b0,O,m ▸ g.2.z,e.2.z,O,i.1,by rw[g.1],e.1,v,λh j=>(b.f h j).sum⟩
theorem ZgA{a:U KS}{d:H}{f:U H}:∀(b:U H) (c:H),(b++d::f).Nodup->Lu d (Zu a (b++d::f) c)=if Bk a b<=c/\c<Bk a b+(Z a d Aj).g then T (c-Bk a b) else ZP
 | [],c,h=>by
  simp only[nil_append,Zu,Bk,map_nil,sum_nil]
  by_cases e:c<(Z a d Aj).g
  rw[aD e,aD O];simp[Lu];rw[aC e,aC O]
  cases g:Zu a f (c-(Z a d Aj).g) with
  |none=>rfl
  | some i=>
   grind [Zan,Lu]
 | g::b,c,h=>by
  have i:Bk a (g::b)=(Z a g Aj).g+Bk a b:=(by simp[Bk]);rw[cons_append,nodup_cons] at h;simp only[cons_append,Zu]
  by_cases e:c<(Z a g Aj).g
  ·grind [Lu]
  rw[aC e,ZgA b _ h.2,i]
  grind
def ZhE{x:H}{a:Ft}{h:U XS}(i:DRt x a h){b c:H}(u:b<F a.g):Tk a h b (De a b) (Iy a b) c=xbF h b c (Iz a.g (a.f.map BS.fs) (a.f.map BS.N) c b):=by
 have⟨d,k,f,y,t,z,o,p,A⟩:=Zgv i.h u;have n:Z a.f d Df=a.f[d]:=w_
 have L:∀e,e<F a.f->e≠d->Lu b (Gw a.g (a.f.map BS.fs) (a.f.map BS.N) e c)=ZP:=λe j G=>by
  unfold Gw;rw[ch j,ch j]
  cases g:Nv a.g a.f[e].fs (Z a.f[e].N c 0) with
  |none=>rfl
  | some l=>
   grind [Zcv,Lu]
 have D:Lu b (Gw a.g (a.f.map BS.fs) (a.f.map BS.N) d c)=if 1+Bk a.g f<=Z a.f[d].N c 0/\Z a.f[d].N c 0<1+Bk a.g f+(Z a.g b Aj).g then T (Z a.f[d].N c 0-(1+Bk a.g f)) else ZP:=by
  unfold Gw Nv;rw[ch k,ch k,t]
  by_cases g:Z a.f[d].N c 0=0
  rw[aD g,aC O];rfl
  grind [ZgA]
 have w:Iz a.g (a.f.map BS.fs) (a.f.map BS.N) c b=if 1+Bk a.g f<=Z a.f[d].N c 0/\Z a.f[d].N c 0<1+Bk a.g f+(Z a.g b Aj).g then Z a.f[d].N c 0-(1+Bk a.g f) else(Z a.g b Aj).d:=by
  unfold Iz;rw[length_map]
  cases g:(range (F a.f)).findSome? (λe=>Lu b (Gw a.g (a.f.map BS.fs) (a.f.map BS.N) e c)) with
  | none=>
   grind
  | some l=>
   obtain⟨e,j,s⟩:=exists_of_findSome?_eq_some g
   grind
 unfold Tk;rw[o,p,n,w];split
 ·rename_i s;unfold xbF
  cases r:h.find? (λm=>ZE (rt c b m)) with
  |none=>rfl
  | some m=>
   have g:=find?_some r;have g:=of_decide_eq_true g;have l:=i.j m (mem_of_find?_eq_some r);unfold Fi ZhL at l;simp only[Bool.and_eq_true,decide_eq_true_eq] at l;have q:=i.f _ (Qf k);have v:=l.2.2.2.2;rw[g.1,g.2,show De ⟨a.g,a.f,[]⟩ b=d from o,show Iy ⟨a.g,a.f,[]⟩ b=Iy a b from X,show Lv ⟨a.g,a.f,[]⟩ d (Iy a b)=_ from p,n,Zdn q.k (p_ q.h)] at v;omega
 rfl
def DRt.a{i:H}{f:Ft}{g:U XS}(a:DRt i f g)(k:g=f.r):Kw i f:=by
 subst k;have m:=a.h.length_eq;rw[length_range] at m;have hK:∀d,d<F f.g->KRt (Z f.g d Aj):=λd e=>a.g _ (Hu _ e);have p:=a.i;refine⟨a.w,a.y,a.i,a.k,a.l,λc b=>⟨(a.f c b).y,(a.f c b).k,(a.f c b).sum⟩,λc b=>(a.f c b).h,λc b=>(a.f c b).o,λc b=>?_,λc b=>(a.f c b).n,λo l=>?_,λd e=>?_,λd e=>(hK d e).ok.a,λd e=>?_,?_,a.u,λj n=>?_⟩
 ·have⟨q,r,h⟩:=append_of_mem b
  grind
 ·simpa using a.h.mem_iff.2 (mem_range.2 l)
 have:=(hK d e).ok.g;show _+2<=18;omega;have:=(hK d e).sum;have:=(hK d e).ok.g;omega
 ·exact a.r.imp λa=>O
 have h:=Ms (a.j j n);simp only at h;have:=(hK j.f h.2.1).ok.g;omega
end Go.Proofs.YtfcgnpchbcmdeaaGreat
