import Derived.Test.YtfcgnpchbcmdeaaGreatZsbe
open List renaming length->F,getD->Z,take->ZU,drop->ZF
open _root_ renaming Nat->H,Int->E,List->U,ByteArray->ZC,rfl->X,Array->YZ,List->Z1,Bool->ZG,Nat->Z8
open Array renaming size->B,toList->Y4
open Option renaming some->T,none->ZP
open Bool renaming false->ZZ,true->Z0
open Go.Value renaming int->ZX,bool->ZR,string->YW,agg->Y9,pointer->Y7,slice->ZH
open Go.World renaming cell?->ZV,frozen?->YT,setCell->ZO,drew->YY,alloc->ZN
open Go renaming World->ZT,strOfNums->ZB,Value->ZY,maxLen->Y2
open ByteArray renaming size->ZK
open Go.Proofs.Tryz renaming prog->Y8
open Int renaming toNat->ZL
open Go.Ending renaming returned->ZI
open Decidable renaming decide->ZE
open Go.IntKind renaming i64->ZQ
open Or renaming inl->ZM,inr->ZJ
open Go.Proofs renaming intOf->ZA
namespace Go.Proofs.YtfcgnpchbcmdeaaGreat
set_option linter.all false
set_option maxRecDepth 100000
set_option maxHeartbeats 8000000
open Go.RowKit List Nat Go.World Go.Proofs.Tryz Go.Value Go.IntKind Go.Lib Go.Region
structure af(b:ZT)(a:H)(c:U E):Prop where
 lt:a<B b.1
 g:∀j,j<F c->ZV b (J a j)=T (ZX .u8 (Z c j 0))/\YT b ⟨a,j,ZP⟩=ZZ
def af.put{e:ZT}{a k:H}{b:U E}(c:af e a b){f:E}:af (ZO e ⟨a,k,ZP⟩ (ZX .u8 f)) a (b.set k f):=by
 refine⟨by have:=c.lt;simpa [ZO] using this,λg d=>?_⟩;rw[length_set] at d;have⟨h,i⟩:=c.g g d
 grind [frozen?_setCell,cell?_setCell_same,cell?_setCell_other]
def af.drew{d:ZT}{c:H}{a:U E}(b:af d c a):af (YY d) c a:=⟨b.lt,b.g⟩
def af.a(c:ZT)(a:ZC)(b:H):af (ZN c (O_ (bytesRow a b) 5 (B (bytesRow a b),B (bytesRow a b)+1))) (B c.1) (Ab a):=by have f:ZK a<=B (bytesRow a b):=(by unfold bytesRow;rw[Array.size_append,Array.size_map];exact le_add_right _ _);refine⟨by show B c.1<B (c.1.push _);simp,λe d=>?_⟩;rw[Ci] at d;constructor;rw[cell?_alloc_mark c (bytesRow a b) 5 _ e,bytesRow_at a b e d,Qc];unfold Ab;rw[getElem?_map,Qd (by simpa using d)];simp;rw[frozen?_alloc_mark c (bytesRow a b) 5 _ _ e,aE O];rfl
def af.b{b:ZT}{c:H}{a:U E}(e:af b c a)(d:H):(convert 66 9 (L_ c (F a) d)).run Y8 b=.ok (Q_ (ZB a)) b:=by refine run_convert_bytes_arg b 66 5 underlying66 underlying5 c 0 (F a) d a X (λg f=>?_) 9 underlying9;rw[Nat.zero_add];exact(e.g g f).1
def Zfe(e:ZC)(f a0:E) d (a2:4<=ZK e)(a3:ZK e<=1000000):C_ 75 #[Q_ e,I f,I a0] d λh g=>∃a,h=ZI (YW a)/\ZK a<=2000000/\E_ d g:=by
 obtain⟨b,a4⟩:∃b,ZK e=b+4:=⟨ZK e-4,O⟩;have⟨c,L⟩:=Z_ (e.extract 0 b);have M:Ab c=ZU b (Ab e):=(by rw[<- L,Ff,drop_zero]);have s:ZK c=b:=(by rw[<- Ci c,M,length_take,Ci];omega);have W:i64.wrap ((ZK e:E)-4)=b:=(by rw[Au O O];omega);have R:b<=(ZK e:E):=O;have A:=λ(j:ZT)=>run_bytes_of_string (P:=Y8) j 9 66 5 c underlying9 underlying66 underlying5;rw[s] at A
 have v:K (∀(a:U E) (j:ZT),(∀g∈a,0<=g/\g<256)->F a=b->C_ 134 #[Q_ (ZB a)] j λh g=>h=ZI (YW (ZB (a++Ba (Gy a) 4)))/\E_ j g/\ZK (ZB (a++Ba (Gy a) 4))<=2000000):=λa j p r=>(fx a j p O).m (λ_ _ g=>⟨g.1,g.2,by rw[Bi,Qe,Dr];omega⟩);have o:=K_ s (Qq c);clear M s;refine dl_ ?_;go_enter func75,ntmps75;go_upto_region 2 with fail;generalize grownCap d b 0 5=k;have⟨u,t⟩:=Z_ (YY (ZN d (O_ (bytesRow c k) 5 (B (bytesRow c k),B (bytesRow c k)+1))));have i:K (af u (B d.1) (Ab c)/\E_ d u):=(by rw[<- t];exact⟨(af.a d c k).drew,r_.drew⟩);rw[t];clear t A;have r:F (Ab c)=b:=(by rw[Ci];exact o.1);have⟨n,l⟩:=Y_ o.2 r;generalize Ab c=a at *;clear r L o W R
 go_cut [21] (λm h=>m=ZR (ZE (0<=f/\f<b))/\K (h=u))
 case first=>
  by_cases h:0<=f
  ·by_cases g:f<b
   all_goals
    go_wp2;go_meet
    exact⟨by simp[h,g],X⟩
  go_wp2;go_meet
  exact⟨t_,X⟩
 obtain⟨rfl,N⟩:=hcut;have S:=N.out.s;subst S;clear N;go_upto_if 21 with fail
 go_cut [21] (λm h=>K (∃a,af h (B d.1) a/\E_ d h/\(∀g∈a,0<=g/\g<256)/\F a=b))
 case first=>
  by_cases q:0<=f/\f<b
  ·rw[aF q];obtain⟨m,rfl⟩:∃m:H,f=m:=⟨ZL f,O⟩;have⟨w,x⟩:=i.1.g m (p_ l.out);have y:=F_ m b;clear q;go_wp2;go_meet
   refine⟨_,i.1.put,i.2.setCell x_ _,λg p=>?_,by rw[length_set];exact l⟩
   rcases mem_or_eq_of_mem_set p with h|h
   exact n g h;omega
  rw[aE q];go_wp2;go_meet
  exact⟨a,i.1,i.2,n,l⟩
 have⟨Q,g,w,x,m⟩:=hcut.out;have G:=g.b k;rw[m] at G;have y:=v Q wc x m;have q:=Y w;clear g w x m hcut i n l v;go_wp2_with fail
 apply y.m;rintro h a1 ⟨rfl,z,D⟩;have P:K (_/\E_ d a1):=⟨D,q.T (z.m q.size)⟩;clear y z D G;go_wp2;go_ret;exact⟨_,X,P⟩
def Ziw b d g f c {y l m z n x P p A L r q G D M N h} a (R:Bw b a d g f c)(S:c<=10000000)(W:h.size<=2000000):C_ 41 #[P_ d,.agg #[I 13,I y,I l,V p r q,I m,I z,I n,V A G D,V L M N,Q_ h,I x,I P]] a λo e=>o=.returned (.bool true)/\Bw b e d g f (c+1)/\Dh b a e:=by
 obtain⟨a2,a0,a4,a5,a3,a1,u,v,w⟩:=R;have i:Below _ a (a.alloc (O_ #[I 13,I y,I l,V p r q,I m,I z,I n,V A G D,V L M N,Q_ h,I x,I P] 93)):=r_
 have j:=hdc<|oh d g f c h _ (u.q i) v w S W
 have k:K (Dh b a _):=Dh.a i;clear u i v w;refine q_ ?_;go_wp2_with fail
 apply j.m;rintro o e ⟨rfl,s,t,_⟩;have Q:K (Bw b e d g f (c+1)/\Dh b a e):=⟨s,k.T t⟩;clear s t j k;go_wp2;go_ret;exact⟨rfl,Q⟩
def Ziy k h q p l {m M N b1 P x t R b3 b8 W S b5 b4 b9 c0 b2} a (f1:Bw k a h q p l)(f2:l<=10000000):C_ 41 #[P_ h,Y9 #[I 14,I m,I M,V R W S,I N,I b1,I P,V b3 b5 b4,V b8 b9 c0,Q_ b2,I x,I t]] a λb c=>b=ZI (ZR Z0)/\Bw k c h q p (l+1)/\Dh k a c:=by
 obtain⟨g0,e6,h3,h4,g1,e,z,a5,a6⟩:=f1;obtain⟨e3,d8,rfl,d6⟩:=Gg z.y;rw[length_map] at *;refine q_ ?_;go_upto_region 12 with fail;generalize a7:ZN a (O_ #[I 14,I m,I M,V R W S,I N,I b1,I P,V b3 b5 b4,V b8 b9 c0,Q_ b2,I x,I t] 93)=f;have A:E_ a f:=(by rw[<- a7];exact r_);have y:f.1[B a.1]? =T (O_ #[I 14,I m,I M,V R W S,I N,I b1,I P,V b3 b5 b4,V b8 b9 c0,Q_ b2,I x,I t] 93):=(by rw[<- a7];exact ha_ a _);have e0:=n_ 0 y;have e1:=n_ 1 y;clear a7;have i:=z.q A;have c9:ZV f (J h 2)=T (V e3 (F e) d8):=(by rw[i.r.v.cell];exact i.G);have c4:K (Dh k a _):=Dh.a A
 by_cases e9:F e=0
 ·have L:K (Bw k _ h q p (l+1)):=Bw.P ⟨g0,e6,_,_,g1,e,i,a5,a6⟩ x_ x_ O;rw[e9] at c9;clear i z d6 e1 A;go_wp2;go_ret;exact⟨X,L,c4⟩
 obtain⟨d9,rfl,_⟩:=d6 O;have⟨s,f6,r⟩:=Pu m (n:=F e) O;obtain⟨g,a1⟩:∃g,e[s]? =T g:=⟨e[s],Qd f6⟩;have e8:ZV f _=T (Y7 _):=Hn (x:=zw g) (by have:=i.y;rw[length_map] at this;exact this) (by rw[getElem?_map,a1];rfl)
 have c6:K (∀d,C_ 74 #[I m,I (F e)] d (V_ (ZX ZQ s) d)):=λd=>by rw[<- r];exact Mu d
 have⟨g9,g8,c1,e4,h2,u,g6,g4,g5,g7,f9,e5,e7,w,d1,j⟩:=i.L g (mem_of_getElem? a1);have a8:=d1.b;have e2:K (∀d,E_ f d->C_ 76 #[P_ c1] d (U_ (YW (ZB (Br u w))) d)):=λd f3=>Oi j.ok j.w j.h j.g c1 e4 g6 g4 g5 g7 f9 e5 e7 d (a8.q f3).y;have c7:K (4<=ZK (ZB (Br u w))/\ZK (ZB (Br u w))<=1000000):=(by have:=oj j.ok j.w j.g;show _/\_;rw[Bi];unfold Br;rw[Qe,Dr];omega);have c3:K (f.1[g]? =_):=a8.dp;have c5:K (f.1[B a.1]? =_):=y;have v:=x3_ i a5 a6;have h1:=F_ s (F e);have f7:((F e:E)==0)=_:=aO O;clear i z r a1 A a5 a6 y d1 a8 j;generalize ZB (Br u w)=g2 at *;go_upto_region 14 with fail;go_cut [6] (λb c=>b=Y7 (T ⟨g,0,ZP⟩)/\K (E_ f c))
 case first=>
  go_region_held3 (λc=>ZV c (J h 2)=T (L_ d9 (F e) d8)/\ZV c (J (B a.1) 1)=T (I m)/\ZV c (J d9 s)=T (P_ g)) (go_keep) (first|(go_at_call 74;apply (c6 _).m;rintro b c ⟨rfl,n⟩;obtain rfl:=n.s))
  all_goals go_wp2
  all_goals go_meet
  all_goals exact⟨X,y_.drew⟩
 obtain⟨rfl,n⟩:=hcut;clear c9 e0 e1 e8 c6 f7;have a3:=(Aa.a (S:=λ_=>False) n.out).g c5 id;have f5:=(Aa.a (S:=λ_=>False) n.out).g c3 id;have e0:=n_ 0 a3;have a9:=n_ 10 a3;have b0:=n_ 11 a3;have Q:=n_ 1 f5;go_upto_region 16 with fail;refine Af (λc=>ZV c (J g 1)=T (P_ c1)/\ZV c (J (B a.1) 10)=T (I x)/\ZV c (J (B a.1) 11)=T (I t)) 12 k_ ⟨Q,a9,b0⟩ (λhHeld=>?_);refine G_ ?_;refine on_ 5 λKK hK=>?_;go_simp;apply (e2 _ n.out.drew).m;rintro b b6 ⟨rfl,f4⟩;have c:E_ wc b6:=y_.drew.T f4;have c2:K (E_ f b6):=n.out.T (c.m n.out.size);go_simp;refine hK _ _ ⟨Ah c Q,Ah c a9,Ah c b0⟩ (λhHeld=>?_);clear hK KK;try simp only[Act.put,sA,sB,sC]
 refine on_ 10 λKK hK=>?_;go_simp;apply (Zfe g2 x t b6 c7.1 c7.2).m;rintro b G ⟨g3,rfl,f8,d2⟩;have a0:E_ wc G:=c.T (d2.m c.size);have o:K (E_ f G):=c2.T (d2.m c2.size);go_simp;refine hK _ _ ⟨Ah a0 Q,Ah a0 a9,Ah a0 b0⟩ (λhHeld=>?_);clear hK KK;try simp only[Act.put,sA,sB,sC]
 refine on_ 11 λKK hK=>?_;go_simp;apply (oh h q p l g3 G (v.1.q o) v.2.1 v.2.2 f2 f8).m;rintro b b7 ⟨rfl,r,d5,d7⟩
 have a2:∀{c8 D:H} {d0:YZ ZY},G.1[c8]? =T (O_ d0 D)->D≠90->D≠96->b7.1[c8]? =T (O_ d0 D):=λd4 h0 f0=>d7.g d4 (λb=>by
  have L:=v.1.q o
  rcases b with b|b
  ·have:=L.r.v;unfold WB at this
   grind
  exact Ag L.y b d4 (λb=>f0 b.s) X)
 have a4:=a2 ((Aa.a (S:=λ_=>False) o.out).g c5 id) C C;have d3:=a2 ((Aa.a (S:=λ_=>False) o.out).g c3 id) C C;have L:K (Bw k b7 h q p (l+1)/\Dh k a b7):=⟨r,(c4.T (Dh.a o)).T d5⟩;go_simp;refine hK _ _ ⟨n_ 1 d3,n_ 10 a4,n_ 11 a4⟩ (λhHeld=>?_);clear hK KK a2 a4 d3 r d5 d7;try simp only[Act.put,sA,sB,sC]
 refine le_ ?_;go_wp2;go_ret;exact⟨X,L⟩
def ka{g:H}{a w k d e l f x t h n q j i p o r s m A}{v:ZT->Prop}(G:g=70/\(a=2∨a=3∨a=4)∨g=73/\(a=15∨a=16∨a=17∨a=18∨a=19))(y:C_ g #[P_ w,Y9 #[I a,I k,I d,V h j i,I e,I l,I f,V n p o,V q r s,Q_ m,I x,I t]] (ZN A (O_ #[I a,I k,I d,V h j i,I e,I l,I f,V n p o,V q r s,Q_ m,I x,I t] 93)) λb c=>b=ZI (ZR Z0)/\v c):C_ 41 #[P_ w,Y9 #[I a,I k,I d,V h j i,I e,I l,I f,V n p o,V q r s,Q_ m,I x,I t]] A λb c=>b=ZI (ZR Z0)/\v c:=by
 have u:=hdc y;clear y
 rcases G with⟨rfl,rfl|rfl|rfl⟩|⟨rfl,rfl|rfl|rfl|rfl|rfl⟩
 all_goals
  refine q_ ?_;go_wp2_with fail
  apply u.m;rintro b c ⟨rfl,z⟩;have D:=hdc z;clear z u;go_wp2;go_ret;exact⟨X,D⟩
def ZcG{l d c g o h}{a:OpD}{e}(m:Fe l e h d c g o)(i:g<=10000000)(q:d<=10000000)(A:c+ZK a.n<=200000000000000)(t:F o<=2097152)(f:OpR e a)(D:a.A<=2097152)(G:ZK a.n<=2000000)(L:a.x<=9223372036854775807)(M:a.a<=4->a.vl<=2097152/\a.d<=2097152/\∀N∈a.f,Ey N∈o)(P:1<=a.a)(R:a.a<=19):C_ 41 #[P_ h,Y9 #[I a.a,I a.l,I a.t,V a.g a.A a.e,I a.k,I a.size,I a.b,V a.i a.vl a.h,V a.c a.d a.j,Q_ a.n,I a.x,I a.y]] e λp k=>p=ZI (ZR Z0)/\Fe l k h (d+5) (c+ZK a.n) (g+1) o/\Fn l e k:=by
 have j:E_ e (ZN e (O_ #[I a.a,I a.l,I a.t,V a.g a.A a.e,I a.k,I a.size,I a.b,V a.i a.vl a.h,V a.c a.d a.j,Q_ a.n,I a.x,I a.y] 93)):=r_;have r:∀{p:Ending} {k N' L'},N'<=d+5->L'<=c+ZK a.n->p=ZI (ZR Z0)/\Fe l k h N' L' (g+1) o/\Fn l (ZN e (O_ #[I a.a,I a.l,I a.t,V a.g a.A a.e,I a.k,I a.size,I a.b,V a.i a.vl a.h,V a.c a.d a.j,Q_ a.n,I a.x,I a.y] 93)) k->p=ZI (ZR Z0)/\Fe l k h (d+5) (c+ZK a.n) (g+1) o/\Fn l e k:=λv w b=>⟨b.1,b.2.1.P v w x_,(Aa.a j).T b.2.2⟩
 by_cases z:a.a<=4
 ·obtain⟨u,x,y⟩:=M z
  rcases(show a.a=1∨a.a=2∨a.a=3∨a.a=4 by omega) with b|b|b|b
  rw[b];apply (Ze2 f.A f.c).m;rintro p k ⟨s,n⟩;exact⟨s,(m.q n).P O O O,.a n⟩;refine ka (ZM ⟨X,O⟩) (Calls.m ?_ λ_ _=>r (N':=d+1) (L':=c) O O);rw[b];exact Zpk (by rw[<- b];exact m.q j) q i t (by rw[<- b];exact Fa f.f j (Up f.f)) (by rw[<- b];exact Fa f.o j (Up f.o)) f.e f.g u x y;refine ka (ZM ⟨X,O⟩) (Calls.m ?_ λ_ _=>r (N':=d+1) (L':=c) O O);rw[b];exact Zpl (by rw[<- b];exact m.q j) q i t;refine ka (ZM ⟨X,O⟩) (Calls.m ?_ λ_ _=>r (N':=d+1) (L':=c) O O);rw[b];exact Zpm (by rw[<- b];exact m.q j) q i t
 by_cases Q:a.a<=14
 ·refine m.l (λs u=>?_) (le_succ _)
  by_cases x:a.a<=12
  exact Zpi s h d c g a e u i q A f D O x
  by_cases y:a.a=13
  rw[y];exact(Ziw s h d c g e u i G).m (λ_ _ n=>⟨n.1,n.2.1.P O O x_,n.2.2⟩);rw[show a.a=14 by omega];exact(Ziy s h d c g e u i).m (λ_ _ n=>⟨n.1,n.2.1.P O O x_,n.2.2⟩)
 refine ka (ZJ ⟨X,O⟩) (Calls.m ?_ λ_ _=>r (N':=d) (L':=c) O O)
 by_cases n:a.a=15
 rw[n];exact Zhx (by rw[<- n];exact m.q j) i;exact Zkx (m.q j) i L O
section
variable {w w':ZT} {c d:H->Prop} {g N L R G k:H} {U:Z1 E} {a:YZ ZY}
def ZoJ{g a c}(d:a[c]? =T N_)(e:a[c+1]? =T N_):Grp w g a c N:=
 ⟨N_,N_,[],[],d,e,rn_,λk b=>(by cases b),rn_,λk b=>(by cases b),X,v_,λh f=>by cases f⟩
def Zml(w:ZT) U:Fe (λk=>k<B w.1) (ZN w (O_ #[N_,N_,N_,N_,N_,N_,N_,N_,N_,N_,N_,N_,I 0] 90)) (B w.1) 0 0 0 U:=by
 refine⟨λ_=>0,N_,N_,[],[],[],⟨λk=>if k<B w.1 then 98 else if k=B w.1 then 0 else 99,_,N_,N_,[],[],⟨⟨ha_ w _,w_,X,⟨0,X,C,C⟩,λd b=>by rcases b with rfl|rfl|rfl|rfl<;>exact ZoJ X X⟩,λk a=>?_,X,rn_,λk a=>(by cases a),X,rn_,λk a=>(by cases a),λd h c=>(by simp at c),λh c=>(by cases c),λj f=>(by cases f),λk a=>?_,X,X⟩,x_,x_⟩,⟨rn_,λk a=>(by cases a),X,λd b=>(by cases b),rn_,λk a=>(by cases a),λd l g=>(by simp at g)⟩,x_,x_,λi e=>(by cases e),λ_ _=>X⟩;simp at a;exact(aC O).T (aC O)
 have a:k<B w.1:=a.elim id (absurd X);exact⟨t_,aD a⟩
def Fe.grow(a:Fe c w g N L R U)(i:E_ w w')(j:∀k,d k->c k∨B w.1<=k/\k<B w'.1):Fe d w' g N L R U:=by
 obtain⟨q,s,u,t,l,r,h,b,m,n,e,o⟩:=a;refine⟨q,s,u,t,l,r,h.n (.a i) (λk f=>?_) X X,b.z (S:=λ_=>False) (.a i) (λ_ _ e=>e.elim) λ_ _ _=>X,m,n,e,λk f=>?_⟩;exact f.elim (λa=>(j k a).imp ZM id) λa=>ZM (ZJ a)
 rcases j k f with a|a
 exact o k a
 exact Classical.byContradiction λp=>by have:=h.lt (k:=k) (ZJ p);omega
def Fn.A(b:Fn c w w')(e:∀k,k<g->c k)(d:g<=B w.1):Below g w w':=Aa.b b d λk a=>Nat.le_of_not_lt λf=>a (e k f)
def opL(a:OpD):Z1 ZY:=[I a.a,I a.l,I a.t,V a.g a.A a.e,I a.k,I a.size,I a.b,V a.i a.vl a.h,V a.c a.d a.j,Q_ a.n,I a.x,I a.y]
def Zo4{c f d}(i:H_ w c a 93)(h:ZU 12 (ZF f (Y4 a))=opL d):OpC w c f d:=by
 have b:∀e g,(opL d)[e]? =T g->D_ w c (f+e) g:=λe g j=>by grind [cell_of_row]
 exact⟨b 0 _ X,b 1 _ X,b 2 _ X,b 3 _ X,b 4 _ X,b 5 _ X,b 6 _ X,b 7 _ X,b 8 _ X,b 9 _ X,b _ _ X,b _ _ X⟩
def opZ:OpD:=⟨0,0,0,ZP,0,0,0,0,0,ZP,0,0,ZP,0,0,⟨#[]⟩,0,0,λ_=>ZZ,λ_=>0,λ_=>0,[],[]⟩
def bm(G:H):H->OpD
 |0=>{opZ with a:=2,i:=T (J G 0),vl:=3,h:=3,c:=T (J (G+1) 0),d:=3,j:=3,f:=[5,3,5],o:=[1,2,4]}
 |1=>{opZ with a:=5,g:=T (J (G+2) 0),A:=2,e:=2,k:=2,size:=2,b:=1,p:=λa=>a==1,fs:=λa=>if a=0 then 1 else 0,u:=λa=>if a=1 then 1 else 0}
 |2=>{opZ with a:=6,n:=⟨#[49,44,50,46,53,44,97,10,50,44,45,49,44,10,57,44,44,98,10,49,44,48,44,97,10]⟩}
 |3=>{opZ with a:=7}
 |4=>{opZ with a:=5,g:=T (J (G+3) 0),A:=1,e:=1,k:=3,size:=4}
 |_=>{opZ with a:=15,x:=500}
structure GvB(w:ZT)(G)(a):Prop where
 n:H_ w G #[I 5,I 3,I 5] 3
 o:H_ w (G+1) #[I 1,I 2,I 4] 3
 b:H_ w (G+2) #[ZR ZZ,I 1,I 0,ZR Z0,I 0,I 1] 51
 c:H_ w (G+3) #[ZR ZZ,I 0,I 0] 51
 op:H_ w (G+4) a 93
 g:∀k,k<=5->ZU 12 (ZF (k*12) (Y4 a))=opL (bm G k)
def gvZ(g G:H)(k:H):Prop:=k<g∨G<=k/\k<=G+4
def GvB.kept(b:GvB w G a)(j:Fn (gvZ g G) w w'):GvB w' G a:=by have c:∀{k d e},H_ w k d e->G<=k/\k<=G+4->H_ w' k d e:=λh i=>j.g h λf=>f (ZJ i);exact⟨c b.n O,c b.o O,c b.b O,c b.c O,c b.op O,b.g⟩
def ZnZ{b c d:E}{G}(a:H_ w G #[I b,I c,I d] 3)(f:∀g∈[b,c,d],(Lit.int ZQ g).wf=Z0):Ck w (T (J G 0)) 3 [b,c,d]:=by
 refine⟨X,f,ZJ ⟨G,0,X,lt_ (n_ 0 a),λe h=>?_⟩⟩
 rcases(show e=0∨e=1∨e=2 by omega) with rfl|rfl|rfl
 exact n_ 0 a;exact n_ 1 a;exact n_ 2 a
def ZmP(a:k<=5):(bm G k).A<=2/\ZK (bm G k).n<=25/\1<=(bm G k).a/\(bm G k).a<=19/\(bm G k).x<=500:=by rcases(show k=0∨k=1∨k=2∨k=3∨k=4∨k=5 by omega) with rfl|rfl|rfl|rfl|rfl|rfl<;>simp[bm,opZ,ZK]
def ZmQ(d:k<=5)(a:5∈U)(b:3∈U):(bm G k).a<=4->(bm G k).vl<=2097152/\(bm G k).d<=2097152/\∀c∈(bm G k).f,Ey c∈U:=by
 rcases(show k=0∨k=1∨k=2∨k=3∨k=4∨k=5 by omega) with rfl|rfl|rfl|rfl|rfl|rfl<;>simp[bm]
 exact⟨a,b,a⟩
def GvB.e(b:GvB w G a)(i:k<=5):OpR w (bm G k):=by
 have e:Ck w ZP 0 []:=⟨X,s_,ZM X⟩;have g:∀{f:OpD},f={opZ with a:=f.a,n:=f.n,x:=f.x}->OpR w f:=λh=>h ▸ ⟨by simp[opZ,Y2],by simp[opZ,Y2],by simp[opZ,Y2],ZM X,e,e,λ_=>⟨X,X⟩,λ_=>⟨X,X⟩⟩
 rcases(show k=0∨k=1∨k=2∨k=3∨k=4∨k=5 by omega) with rfl|rfl|rfl|rfl|rfl|rfl
 exact⟨by simp[bm,opZ,Y2],by simp[bm,Y2],by simp[bm,Y2],ZM X,ZnZ b.n C,ZnZ b.o C,(λb=>by cases b),λb=>by cases b⟩
 ·refine⟨by simp[bm,Y2],by simp[bm,opZ,Y2],by simp[bm,opZ,Y2],ZJ ⟨G+2,0,X,by simp[bm,Y2],λ_=>lt_ (n_ 0 b.b),λd c=>?_,λd c=>?_,λd c=>?_⟩,e,e,λ_=>⟨X,X⟩,λ_=>⟨X,X⟩⟩
  all_goals
   have c:d=0∨d=1:=by simp[bm] at c;omega
   rcases c with rfl|rfl
  exact n_ 0 b.b;exact n_ 3 b.b;exact n_ 1 b.b;exact n_ 4 b.b;exact n_ 2 b.b;exact n_ 5 b.b
 exact g X;exact g X
 ·refine⟨by simp[bm,Y2],by simp[bm,opZ,Y2],by simp[bm,opZ,Y2],ZJ ⟨G+3,0,X,by simp[bm,Y2],λ_=>lt_ (n_ 0 b.c),λd c=>?_,λd c=>?_,λd c=>?_⟩,e,e,λ_=>⟨X,X⟩,λ_=>⟨X,X⟩⟩
  all_goals
   have c:d=0:=(by simp[bm] at c;omega);subst c
  exact n_ 0 b.c;exact n_ 1 b.c;exact n_ 2 b.c
 exact g X
end
def GvI(c:ZT)(a:H)(e:YZ ZY)(d:U E)(b:H)(wr:ZT):Prop:=Fe (gvZ a (B c.1)) wr a (5*b) (25*b) b d/\Below a c wr/\GvB wr (B c.1) e
def Zht{b d a}(p:Fe (λk=>k<b) a b 0 0 0 d)(R:b<B a.1)(Q:F d<=2097152)(t:5∈d)(s:3∈d):C_ 40 #[P_ b,I 19] a λm c=>m=ZI (ZR Z0)/\Fe (λk=>k<b) c b 30 150 6 d/\Below b a c:=by
 have g:=x3_ p t s;clear p t s;refine q_ ?_;go_upto_region 1 with fail;go_cut [5] (λf c=>f=ZH (T ⟨B a.1+4,0,ZP⟩) 6 6/\K (E_ a c/\B c.1=B a.1+5/\∃e,GvB c (B a.1) e))
 case first=>
  go_wp2;go_meet
  refine⟨X,(((r_.alloc u_ _).alloc u_ _).alloc u_ _).alloc u_ _,s_,_,?_,?_,?_,?_,Pl s_,λk c=>?_⟩;exact(hc_ t_).T ((hc_ t_).T ((hc_ t_).T ((hc_ s_).T (Pl X))));exact(hc_ s_).T ((hc_ s_).T ((hc_ s_).T (Pl s_)));exact(hc_ s_).T ((hc_ s_).T (Pl s_));exact(hc_ s_).T (Pl s_)
  rcases(show k=0∨k=1∨k=2∨k=3∨k=4∨k=5 by omega) with rfl|rfl|rfl|rfl|rfl|rfl<;>rfl
 obtain⟨rfl,h,S,e,n⟩:=hcut;have j:K (GvI a b e d 0 wc):=⟨g.1.grow h λk f=>by unfold gvZ at f;omega,h.m O,n⟩;clear h S n;go_wp2_with fail
 go_loopw [6] (λc i=>∃k:H,c=I k/\k<=6/\K (GvI a b e d k i)) (λc _=>6-ZL (ZA c))
 exact⟨0,X,O,j⟩;obtain⟨k,rfl,a6,c⟩:=hrel;clear j
 by_cases a4:k<6
 ·have⟨v,w,z,A,D,G,L,M,N,P,x,y⟩:=Zo4 c.2.2.op (c.2.2.g k O);have⟨W,q,r,a0,a1⟩:=ZmP (G:=B a.1) (k:=k) O;have i:=Y (ZcG c.1 O O O Q (c.2.2.e (k:=k) O) O O O (ZmQ O g.2.1 g.2.2) r a0);have a5:=F_ k 6;have l:=Y q;clear W q r a1;generalize bm (B a.1) k=a3 at *;go_wp2_with fail
  apply i.m;rintro m a2 ⟨rfl,o,hK⟩;have u:K (GvI a b e d (k+1) a2):=⟨o.P O (p_ l.out) x_,c.2.1.T (hK.A (λ_ f=>ZM f) (aG (Nat.le_of_lt R) c.2.1.size)),c.2.2.kept hK⟩;clear o hK v w z A D G L M N P x y i c l;go_wp2;go_roundw;exact⟨k+1,g_,O,u⟩;exact z_
 obtain rfl:k=6:=O;have i:K (Fe (λk=>k<b) wr b 30 150 6 d/\_):=⟨c.1.grow y_ λk f=>ZM (ZM f),c.2.1⟩;clear c;go_wp2;go_ret;exact⟨X,i⟩
structure ag(e:E)(c:U E)(d)(b:H->OpD):Prop where
 g:d<=1048576
 i:F c<=2097152
 j:5∈c
 h:3∈c
 A:∀a,a<d->(b a).A<=1048576/\ZK (b a).n<=1048576/\(b a).x<=9223372036854775807
 k:∀a,a<d->e<=(b a).a->(b a).a<=4->(b a).vl<=2097152/\(b a).d<=2097152/\∀f∈(b a).f,Ey f∈c
def PlA(b a:H)(d:U E)(e c:ZT):Prop:=Fe (λa=>a<b) c b (30+5*a) (150+1048576*a) (6+a) d/\Below b e c
def TeA(f:ZS)(a d c i:H)(e b:ZT)(l m:ZY)(k:U RP)(h:U H):Prop:=(∃j g,Ce f b j a g (d+6000*i) c l m k h)/\Below a e b
def TeA.ab{e b d j a f k i o p n g}(r:TeA e b d j a k i o p n g)(s:d+6000*a<=9000000)(w:g[a]? =T f)(x:b<=B i.1)(u:∀a,a<b->e.p a):C_ 42 #[P_ b,P_ f] i λh c=>h=ZI (ZR Z0)/\TeA e b d j (a+1) k c o p n g:=by obtain⟨⟨W,M,c⟩,v⟩:=r;have⟨Q,P,a4,G,l,A,a2,a0,a1,a3,S,L,N,D,t,y⟩:=c.L f (mem_of_getElem? w);refine(Zmk (Hc.a c.r y_ c.N x_) s t C C y).m (λ_ _ m=>⟨m.1,?_⟩);have⟨⟨z,q,R⟩,hK⟩:=c.p m.2;exact⟨⟨z,q,w_⟩,v.T (Aa.b hK x λa h=>Nat.le_of_not_lt λl=>h (u a l))⟩
def vn{r l M m a4 o b}(b7:1<=r)(q:Ub b M m o)(v:ag r l m o):C_ 15 #[V M m a4,I r,I 19] b (U_ (ZR Z0) b):=by
 obtain⟨_,q⟩:=q;have b6:=v.g;have⟨k,L⟩:=Y_ v q;clear q v;have G:=Y (Zml b l);have D:K (Below _ b (ZN b (O_ #[N_,N_,N_,N_,N_,N_,N_,N_,N_,N_,N_,N_,I 0] 90))):=r_;refine q_ ?_;go_wp2_with fail
 refine(Zht G s_ k.i k.j k.h).m ?_;rintro u a8 ⟨rfl,W,f⟩;have s:K (PlA (B b.1) 0 l b a8):=⟨W,D.T f⟩;clear G D W f;go_wp2_with fail
 go_loopw [9] (λj c=>∃a:H,a<=m/\j=ZX ZQ a/\K (PlA (B b.1) a l b c)) (λj _=>m-ZL (ZA j))
 grind
 obtain⟨a,b5,rfl,g⟩:=hrel;clear s
 by_cases x:a<m
 ·rcases L.out with a9|⟨a7,b0,rfl,f,P⟩
  omega;have⟨R,S⟩:=P a x;have⟨a1,c,h,n,p,t,w,y,z,N,d,e⟩:=R.q g.2 f;have a0:=Y (S.q g.2);have⟨b1,b2,a6⟩:=k.A a x;clear R S P
  by_cases a5:r<=(o a).a/\(o a).a<=19
  ·obtain⟨a2,a3⟩:=a5;have j:=Y (ZcG g.1 O O O k.i a0 O O a6 (k.k a x a2) O a3);go_wp2_with fail
   refine j.m ?_;rintro u A ⟨rfl,Q,hK⟩;have s:K (PlA (B b.1) (a+1) l b A):=⟨Q.P O O O,g.2.T (hK.A (λ_ i=>i) g.2.size)⟩;clear a1 c h n p t w y z N d e Q hK g j;go_wp2;go_roundw
   grind
   exact z_
  have s:K (PlA (B b.1) (a+1) l b wr):=⟨g.1.P O O O,g.2⟩;clear c h n p t w y z N d e;go_wp2
  all_goals
   grind [ZA]
 obtain⟨⟨n,S,a0,c1,a9,c0,⟨Q,N,a1,c2,R,e,d,b8,b9⟩,_⟩,f⟩:=g;obtain⟨p,z,rfl,y⟩:=Gg d.y;rw[length_map] at y;have h:K (TeA ⟨λa=>a<B b.1∨n a≠0,S,a0⟩ (B b.1) (30+5*a) (150+1048576*a) 0 b wr a1 (ZH p (F (e.map zw)) z) R e):=⟨⟨Q,N,d⟩,f⟩;rw[length_map] at h;have a2:K (0<F e->∃n,p=T ⟨n,0,ZP⟩):=λi=>(y i).imp λ_ i=>i.1;clear d f y L;go_wp2_with fail
 go_loopw [10] (λj t=>∃c:H,c<=12/\c<=F e/\j=ZX ZQ c/\K (TeA ⟨λa=>a<B b.1∨n a≠0,S,a0⟩ (B b.1) (30+5*a) (150+1048576*a) c b t a1 (ZH p (F e) z) R e)) (λj _=>12-ZL (ZA j))
 grind
 clear h;obtain⟨c,b3,b4,rfl,h⟩:=hrel;have⟨⟨Q,N,d⟩,f⟩:=h.out;have a6:ZV wr (J (B b.1) 2)=T (V p (F e) z):=by rw[d.r.v.cell];exact d.G
 by_cases a7:c<F e/\c<12
 ·obtain⟨n,rfl⟩:=a2 O;obtain⟨t,w⟩:∃t,e[c]? =T t:=⟨e[c],Qd a7.1⟩;have a5:ZV wr _=T (Y7 _):=Hn (x:=zw t) (by have:=d.y;rw[length_map] at this;exact this) (by rw[getElem?_map,w];rfl)
  have j:=hdc<|h.ab O w (Nat.le_of_lt d.r.v.lt) λ_ i=>ZM i
  have b0:c<(F e:E):=O;have b1:(c:E)<12:=O;have b2:0<=(c:E):=O;clear d f w h;go_wp2_with fail
  refine j.m ?_;rintro u A ⟨rfl,P⟩
  have a3:=show K _ from P
  clear P j a6 a5;go_wp2;go_roundw;exact⟨c+1,O,O,g_,a3⟩;exact z_
 have P:=hdc<|d.r.d O
 have t:=Y f;have a3:=d.r.v.lt;clear d f h;go_upto_region 18 with fail
 all_goals
  go_wp2_with fail
  refine P.m ?_;rintro u A ⟨rfl,j⟩;have w:=Y (t.T (j.m O));clear j;go_wp2;go_ret;exact⟨X,w⟩
def ZcI e {d a f} c b (g:Ub b d a c)(h:ag 5 e a c):C_ 10 #[V d a f] b (U_ (ZR Z0) b):=by
 refine q_ ?_;go_wp2_with fail
 refine(vn C g h).m ?_;rintro j k ⟨rfl,i⟩;go_wp2;go_ret;exact⟨X,i⟩
def Zjj e {d a f} c b (g:Ub b d a c)(h:ag 1 e a c):C_ 14 #[V d a f] b (U_ (ZR Z0) b):=by
 refine q_ ?_;go_wp2_with fail
 refine(vn C g h).m ?_;rintro j k ⟨rfl,i⟩;go_wp2;go_ret;exact⟨X,i⟩
end Go.Proofs.YtfcgnpchbcmdeaaGreat
namespace Go.Proofs.YtfcgnpchbcmdeaaGreat
set_option linter.all false
set_option maxRecDepth 100000
set_option maxHeartbeats 8000000
open Go.ChangeShapes Go.WideShapes Go.ChangeAt Go.RowKit List Nat Go.World Go.Proofs.Tryz Go.Value Go.IntKind Go.Lib Go.Region
open Go.Deep
section
variable {H:Type} {enc:TypeId×ZY->H} {w:ZT} {a:ZG}
def ZoD{k d x}(i:DataW.trod enc Y8 w 0 (λ_=>Z0) a k 35 d=T x){f c g}(h:d=[V f c g]):c<=Rows.uptoBulk x.1:=by
 rcases open_slice underlying35 i with⟨b,_⟩|⟨m,t,n,u,s,e,l,b,_,o,p,q,j,r⟩
 ·grind
 rw[h] at b;simp at b;obtain⟨_,rfl,_⟩:=b;rw[j];simp only[Rows.uptoBulk];have:=Xy ((range c).map e)
 grind
def OpB(b:Z8)(a:OpD):Prop:=a.A<=b/\ZK a.n<=b/\a.vl<=b/\a.d<=b/\a.x<=9223372036854775807
def Zno{z i x}(l:DataW.trod enc Y8 w 0 (λ_=>Z0) a z 93 i=T x):∃b:OpD,i=opL b/\OpR w b/\OpB (Rows.uptoBulk x.1) b:=by
 have⟨b,m,u⟩:=Zo6 l;refine⟨b,m,u,?_⟩;have⟨b0,a0,_,v,S,s,c⟩:=DataW.trod_struct underlying93 l;obtain⟨a3,a4,a5,A,a6,a7,D,a8,a9,rfl⟩:=Zn1 s;have d:=c 3 ⟨ "C",37,3,ZZ, "", "",24⟩ X;have e:=c 4 ⟨ "V",25,7,ZZ, "", "",72⟩ X;have f:=c 5 ⟨ "W",25,8,ZZ, "", "",96⟩ X;have g:=c 6 ⟨ "S",9,9,ZZ, "", "",120⟩ X;have h:=c 7 ⟨ "X",3,10,ZZ, "", "",136⟩ X;rw[m] at d e f g h;simp only[au,ZfB,ZfD,ZjD,drop_zero,drop_succ_cons,take_succ_cons,take_zero,getElem?_cons_zero,getElem?_cons_succ] at d e f g h;have⟨_,_,_,_,p,_,_,_,N⟩:=vk e;have⟨_,_,_,_,q,_,_,_,P⟩:=vk f;have⟨a2,j,o,_⟩:=DataW.trod_string underlying9 g;have⟨b5,k,_,y⟩:=DataW.trod_int underlying3 h
 have⟨b4,a1,_,W,_,t,r⟩:=DataW.trod_struct underlying37 d;obtain⟨G,b1,b2,b3,rfl⟩:=Zn0 t;have n:=r 0 ⟨ "Features",35,0,ZZ, "", "",0⟩ X;simp only[ZfC,drop_zero,take_succ_cons,take_zero,getElem?_cons_zero] at n;have L:=ZoD n X;simp at j p q k;subst j;have M:Rows.uptoBulk G.1<=Rows.uptoBulk A.1:=(by grind [Rows.uptoBulk,Rows.uptoBulkAll]);have Q:ZK b.n<=Rows.uptoBulk D.1:=by rw[o];simp only[Rows.uptoBulk];show B b.n.data<=F (Y4 b.n.data)+1;grind
 have R:b.x<=9223372036854775807:=(by rw[k];simp[Lit.wf,IntKind.max,IntKind.bits,signed] at y;omega);unfold OpB;rw[v];simp only[Rows.uptoBulk,Rows.uptoBulkAll,map_cons,map_nil];omega
def fv{G n x}(t:DataW.trod enc Y8 w 0 (λ_=>Z0) a G 22 n=T x)(S:Rows.uptoBulk x.1<=1048576):∃h e m f b,n=[V h e m]/\Ub w h e f/\∀k,ag k b e f:=by
 have inh:Inhabited OpD:=⟨opZ⟩
 rcases open_slice underlying22 t with⟨rfl,_⟩|⟨h,e,m,r,a0,f,N,rfl,_,Q,R,p,W,q⟩
 exact⟨ZP,0,0,λ_=>default,[5,3],X,⟨O,ZM X⟩,λk=>⟨O,s_,s_,s_,λb c=>O,λb c=>O⟩⟩;simp only[if_true] at p;subst p;rw[ZfF] at q;have D:∀b,b<r->∃i:OpD,((∀d,d<12->ZV w (h.add (b*12+d))=(opL i)[d]?)/\OpR w i)/\OpB (Rows.uptoBulk (f b)) i:=(by intro b c;have⟨u,k,l⟩:=q b c;obtain⟨i,rfl,o,g⟩:=Zno l;obtain⟨_,_,j⟩:=cells?_some k;exact⟨i,⟨λd s=>by have:=j d s;rwa [add_add] at this,o⟩,g⟩);have⟨j,g⟩:=choose_lt D;have v:Rows.uptoBulkAll ((range e).map f)<=1048576:=(by grind [Rows.uptoBulk]);have z:=Xy ((range e).map f);simp at z;have y:=λb c=>aG (ZaY _ _ (mem_map.2 ⟨b,by simpa using c,X⟩)) v
 have o:∀b,b<e->OpB 1048576 (j b):=λb c=>by have:=y b c;have:=(g b O).2;unfold OpB at *;omega
 have P:=tz f (λb=>(j b).f) (range _) (λb c=>by
  have d:b<e:=by simpa using c
  have k:=(g b O).1.2.f.1;have l:=(g b O).2.2.2.1
  omega)
 refine⟨T h,e,r,j,[5,3]++((range e).flatMap (λb=>(j b).f)).map Ey,X,⟨O,?_⟩,λk=>⟨O,w_,s_,s_,λb c=>?_,λb c _ _=>?_⟩⟩
 ·by_cases u:e=0
  exact ZM u;right;obtain⟨s,L,M⟩:=h;have l:ZV w _=T _:=(g 0 O).1.1 0 O
  have A:M=ZP:=by simpa [Addr.add] using cell?_spot l
  subst A;simp only[add_plain] at g;refine⟨s,L,X,ji l,λb c=>⟨?_,(g b O).1.2⟩⟩;have d:=(g b O).1.1;exact⟨d 0 O,d 1 O,d 2 O,d 3 O,d 4 O,d 5 O,d 6 O,d 7 O,d 8 O,d 9 O,d 10 O,d 11 O⟩
 have:=o b c;exact⟨this.1,this.2.1,this.2.2.2.2⟩;have:=o b c;refine⟨aG this.2.2.1 C,aG this.2.2.2.1 C,?_⟩
 grind
end
end Go.Proofs.YtfcgnpchbcmdeaaGreat
