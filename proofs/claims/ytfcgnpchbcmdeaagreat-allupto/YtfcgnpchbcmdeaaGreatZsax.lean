import Derived.Test.YtfcgnpchbcmdeaaGreatZsau
import Derived.Test.YtfcgnpchbcmdeaaGreatZsat
open _root_ renaming Nat->H,rfl->X,List->U,Int->E,ByteArray->ZC,Array->YZ,Bool->ZG,Int->Z5
open Go renaming World->ZT,Value->ZY,maxLen->Y2
open Array renaming size->B,toList->Y4,setIfInBounds->YS
open Or renaming inr->ZJ,inl->ZM
open Option renaming some->T,none->ZP
open Go.Value renaming ownBlock->ZW,bool->ZR,agg->Y9,slice->ZH,int->ZX,tuple->Y5,string->YW,pointer->Y7
open Go.World renaming ownsRow->ZD,grownBy->Y3,setCell->ZO,cell?->ZV,alloc->ZN,drew->YY,drewN->Y1
open List renaming length->F,getD->Z,replicate->Y6
open Bool renaming false->ZZ,true->Z0
open Go.IntKind renaming i64->ZQ
open Int renaming toNat->ZL
open ByteArray renaming size->ZK
open Go.Ending renaming returned->ZI
open Go.Proofs renaming intOf->ZA
namespace Go.Proofs.YtfcgnpchbcmdeaaGreat
set_option linter.all false
set_option maxRecDepth 100000
set_option maxHeartbeats 16000000
open Go.RowKit List Nat Go.World Go.Proofs.Tryz Go.Value Go.IntKind Go.Lib Go.Region
def Kc(f:ZT)(d:H->H)(e:H)(b:ZT->Prop):Prop:=∀a,Aa (λc=>d c≠e) f a->b a
def Ek(d:ZT)(b c:H->H):Prop:=∀a,a<B d.1->b a=99∨c a=b a
section
variable {w w':ZT} {o a:H->H} {t:H} {Q:ZT->Prop} {S:H->Prop}
def Ek.refl w o:Ek w o o:=λ_ _=>ZJ X
def Ek.T{d}(g:Ek w o a)(i:B w.1<=B w'.1)(f:Ek w' a d):Ek w o d:=λc h=>by
 rcases g c h with b|b
 exact ZM b
 rcases f c O with e|e
 omega;omega
def Kc.b(a:Kc w o t Q):Q w:=a w (Aa.refl _ _)
def Kc.i(g:Kc w o t Q)(c:Aa S w w')(k:∀b,b<B w.1->S b->o b≠t)(j:Ek w o a)(m:t≠99:=by decide):Kc w' a t Q:=λl d=>
 g l ⟨d.os.T c.os,d.tape.T c.tape,d.output.T c.output,aG c.size d.size,λb e n=>by
  have i:o b=t:=O
  have h:¬a b≠t:=by
   rcases j b e with f|f
   omega;omega
  exact(d.block b (Qh e c.size) h).T (c.block b e (λf=>k b e f i))⟩
def Kc.m{a}(c:Kc w o t Q)(d:∀b,Q b->a b):Kc w o t a:=λw' e=>d _ (c w' e)
def Kc.and{a}(c:Kc w o t Q)(d:Kc w o t a):Kc w o t (λb=>Q b/\a b):=λw' b=>⟨c w' b,d w' b⟩
def Kc.block{a b}(d:w.1[a]? =T b)(e:o a=t):Kc w o t (λc=>c.1[a]? =T b):=λ_ f=>f.g d (λc=>c e)
def Kc.all{c d b}(f:Eb w c d b)(g:∀a,ZW b=T a->o a=t):Kc w o t (λe=>Eb e c d b):=λ_ i=>f.p i (λa _ h _ e=>e (g a h))
end
def xq.a{e d L w v y A}(o:xq e d L w v)(a7:∀a,e<=a->a<B d.1->y a=A):Kc d y A (λb=>Pi b L w v):=λD M=>by
 have W:∀a,(λa=>y a≠A) a->a<B d.1->a<e:=w_
 have r:∀{G t s q:H} {m u},ZD d G t s m q u->(∀a,ZW m=T a->e<=a)->ZD D G t s m q u:=λj c=>M.M j (λa i f=>by
  have p:=W a f (B_ j a i).2
  grind)
 have l:∀{t s q:H} {m:_} {u:_},ZD d _ t s m q u->_:=λj=>r j (λa i=>(B_ j a i).1);have n:∀{a N},d.1[a]? =T N->e<=a->D.1[a]? =T N:=λi c=>M.g i (λf=>w_);have⟨a4,a3,a5,a0,Q,P,b⟩:=o.g
 have S:Lp e D w v:=by
  refine⟨a4,a3,a5,a0,Q,P,⟨n b.v.r o.r,⟨r b.v.v.M b.x,b.v.v.y,λk h=>⟨l (b.v.v.j k h).1,?_⟩⟩,r b.v.j b.p⟩,⟨r b.w.M b.o,b.w.y,λk h=>⟨l (b.w.j k h).1,l (b.w.j k h).2⟩⟩,b.n,b.l,b.o,b.x,b.p⟩
  rcases(b.v.v.j k h).2 with⟨p,z,f,a2,a6,x,c,g⟩|⟨p,z,f,R,a1,x,c,g⟩
  exact ZM ⟨p,z,f,a2,a6,x,c,n g.r c,l g.M⟩;exact ZJ ⟨p,z,f,R,a1,x,c,n g.r c,l g.M⟩
 exact⟨n o.f o.h,S.zero⟩
def rj(d:ZT)(b:H)(c:ZY)(a:U VS):Prop:=ZD d b 335 3 c (F a) (Lb a)
def rj.P{c a b L x}(d:ZD c a 335 3 b (F L+1) (Lb L++Jg x)):rj c a b (L++[x]):=by grind [rj,Yh,Lb]
def ZmV:(prog.info? 335).map (λa=>(a.zero,a.size,a.bytes))=T (T (Y9 #[ZR ZZ,I 0,Q_ ⟨#[]⟩]),3,32):=k_
def ZmW:(prog.info? 338).map (λa=>(a.zero,a.size,a.bytes))=T (T (Y9 #[I 0,N_]),2,32):=k_
structure Mc where
 g:E
 fs:U VS
 v:ZY
def Mc.o(a:Mc):E×U VS:=(a.g,a.fs)
def Sv(a:Mc):U ZY:=[I a.g,a.v]
def Rw:U Mc->U ZY
 |[]=>[]
 |b::a=>Sv b++Rw a
theorem yz a b:Rw (a++b)=Rw a++Rw b:=by
 induction a with
 |nil=>rfl
 |cons d a c=>simp[Rw,c]
structure Hd(d:ZT)(b)(e)(a):Prop where
 M:ZD d b 338 2 e (F a) (Rw a)
 j:∀c∈a,rj d b c.v c.fs
def Hd.nil{b a}:Hd b a (N_) []:=⟨rn_,s_⟩
def Hd.p{i w' e d c K}(f:Hd i e d c)(h:Aa K i w')(j:∀a,ZW d=T a->¬K a)(k:∀b∈c,∀a,ZW b.v=T a->¬K a):Hd w' e d c:=
 ⟨h.M f.M j,λb g=>h.M (f.j b g) (k b g)⟩
def Hd.d{g d b a}(f:Hd g d b a):∃c e,b=ZH c (F a) e:=by
 rcases f.M.2 with⟨rfl,k⟩|⟨j,h,i,rfl,_⟩
 ·grind
 grind
def Hd.q{c w' base b a}(d:Hd c base b a)(e:E_ c w'):Hd w' base b a:=d.p (.a (S:=λ_=>False) e) (λ_ _=>id) (λ_ _ _ _=>id)
def Hd.P{b f a i v' L p}(g:Hd b a i L)(q:rj b a p.v p.fs)(j:Y3 b f (ZW i))(r:ZD f a 338 2 v' (F L+1) (Rw L++Sv p)):Hd f a v' (L++[p]):=by
 have n:=(Aa.refl _ b).grown j (λm d _=>d);refine⟨?_,λe l=>?_⟩
 ·grind [yz,Rw]
 have h:rj b a e.v e.fs:=by
  rcases mem_append.1 l with c|c
  exact g.j e c
  grind
 refine n.M h (λm d c=>?_);have⟨o,k⟩:=Ac h d;exact Ag g.M c k C X
structure RwI(o a)(b i g d:H)(k)(l)(q)(e)(f)(n)(p)(h)(j):Prop where
 r:Fl a i k l q e
 u:Hd a b e f
 cf:a.1[g]? =T (O_ n 37)
 x:a.1[d]? =T (O_ #[I p,h] 338)
 A:rj a d h j
 t:Below b o a
 y:b<=i
 w:b<=g
 z:b<=d
 G:∀m∈f,∀c,ZW m.v=T c->c<d
 D:∀c,ZW e=T c->c<d
section
variable {w W f:ZT} {base a cb rb:H} {S:ZC} {k g:H} {z h:E} {d:ZY} {L:U Mc} {e:YZ ZY} {wt:E} {c:ZY} {b:U VS}
def RwI.i(i:RwI w W base a cb rb S k z d L e wt c b)(p:Fl f a S g h d)(n:Aa (λm=>m=a) W f):RwI w f base a cb rb S g h d L e wt c b:=
 ⟨p,i.u.p n (λm l j=>Ag i.u.M l i.r C j) (λq o m l j=>Ag (i.u.j q o) l i.r C j),
  n.g i.cf (λj=>by have o:=i.cf;have l:=i.r;unfold Fl at l;grind),
  n.g i.x (λj=>by have o:=i.x;have l:=i.r;unfold Fl at l;grind),
  n.M i.A (λm l j=>Ag i.A l i.r C j),i.t.T (n.b (by have:=i.t.size;have:=i.r.lt;have:=i.y;omega) (λm l=>p_ i.y)),i.y,i.w,i.z,i.G,i.D⟩
def RwI.q(g:RwI w W base a cb rb S k z d L e wt c b)(h:E_ W f):RwI w f base a cb rb S k z d L e wt c b:=by have i:=Aa.a (S:=λ_=>False) h;exact⟨g.r.q h,g.u.q h,i.g g.cf id,i.g g.x id,i.M g.A (λ_ _=>id),g.t.T (h.m (oj_ g.r.lt g.y)),g.y,g.w,g.z,g.G,g.D⟩
def RwI.o(f:RwI w W base a cb rb S k z d L e wt c b):a≠rb/\cb≠rb:=
 ⟨λh=>by have i:=f.x;have g:=f.r;unfold Fl at g;grind,λh=>by have i:=f.x;have g:=f.cf;grind⟩
def RwI.P{j m x}(f:RwI w W base a cb rb S k z d L e wt c b)(r:Y3 W j (ZW c))(u:ZD j rb 335 3 m (F b+1) (Lb b++Jg x)):RwI w (ZO j (J rb 1) m) base a cb rb S k z d L e wt m (b++[x])/\j.1[rb]? =T (O_ #[I wt,c] 338):=by
 have q:=(Aa.refl _ W).grown r (λk g _=>g);have n:=q.g f.x (λg=>Ag f.A g f.x C X);have l:Aa (λh=>_∨h=rb) W (ZO j _ m):=(q.m (λ_ _=>.inl)).setCell (p:=(J rb 1)) (λ_=>.inr X) _;have⟨s,t⟩:=f.o;refine⟨⟨f.r.p l ?_,f.u.p l (λh i g=>?_) (λp o h i g=>?_),l.g f.cf ?_,ht_ 1 _ _ _ n,Am (rj.P u) n C,f.t.T (l.b (oj_ f.r.lt f.y) (λh i=>?_)),f.y,f.w,f.z,f.G,f.D⟩,n⟩;rintro(g|g);exact Ag f.A g f.r C X;exact s g
 ·rcases g with g|g
  have:=f.D h i;have:=(B_ f.A h g).1;omega;have:=f.D h i;omega
 ·rcases g with g|g
  have:=f.G p o h i;have:=(B_ f.A h g).1;omega;have:=f.G p o h i;omega
 rintro(g|g);exact Ag f.A g f.cf C X;exact t g;have:=f.z
 rcases i with g|g
 have:=(B_ f.A h g).1;omega;omega
end
def RwP(i:ZT)(e h:H)(g:ZC)(c:U Mc)(a:E×U VS×H×E)(b:ZT):Prop:=
 ∃f d,Fl b h g a.2.2.1 a.2.2.2 f/\Hd b e f d/\d.map Mc.o=(if a.2.2.2=0 then c.map Mc.o++[(a.1,a.2.1)] else c.map Mc.o)/\Below e i b
def ZlJ{q} v {M} b r a4 c W t b4 b5 b6 {g f} d7 l (G:Fl l v c M 0 W)(g5:Hd l q W t)(g6:q<=v)(j2:M<=ZK c)(c2:Du l r 0 b g f d7)(e2:r<q)(k1:b<=4)(h5:∀a,a<b->0<=f a/\(g a=ZZ->f a<=3))(j8:F t<=1000)(a8:ZK c<=1000000000000000):C_ 236 #[P_ v,Y9 #[L_ r b a4,I b4,I b5,I b6]] l λd i=>d=ZI (Y5 #[])/\RwP l q v c t (iq c b g f M) i:=by
 have⟨u,d3⟩:=ez_ (iq c b g f M);rw[d3];have⟨f6,c4⟩:=W_ (ZN l (O_ #[L_ r b a4,I b4,I b5,I b6] 37));have g4:q<=B l.1:=p_ G.lt;have a2:E_ l f6:=c4 ▸ r_;have g8:H_ f6 (B l.1) #[L_ r b a4,I b4,I b5,I b6] 37:=c4 ▸ hn_;have⟨d6,e1⟩:=W_ (B l.1);have a0:=gh M 2 c 0 ZZ (G.q a2) O a8;have e5:=ZkX (S:=c) 0 2 ZZ j2;have⟨i3,c9⟩:=ez_ (Oh c M 0 2 ZZ);rw[c9] at a0 e5;obtain⟨m,f1,h7,f8⟩:=i3;simp only at a0 e5;have y:=K_ (G.q a2) (g5.q a2)
 have i4:K (∀a1,Below q l a1->∀a,a<b->D_ a1 r (a*3) (ZR (g a))/\D_ a1 r (a*3+1) (I (ZL (f a)))/\D_ a1 r (a*3+2) (I (d7 a))):=λa1 e0 a a7=>by have d:=c2.t a a7;have e:=c2.D a a7;have c0:=c2.G a a7;rw[Nat.zero_add] at d e c0;refine⟨(e0.cell (p:=(J r (a*3))) e2).T d,?_,(e0.cell (p:=(J r (a*3+2))) e2).T c0⟩;rw[Int.toNat_of_nonneg (h5 a a7).1];exact(e0.cell (p:=(J r (a*3+1))) e2).T e
 have g1:=Y c4;have b8:K (_/\_[d6]? =T _):=⟨a2,e1 ▸ g8⟩;have d0:=Y e1;clear c4 a2 g8 G g5 c2 e1;refine q_ ?_;go_wp2_with fail
 rw[<- g1,<- d0];apply a0.m;rintro d k3 ⟨rfl,a6,h9⟩;have d5:=K_ a6 h9;clear a6 h9 a0 g1;have d1:=ed _ _ c _ 44 _ _ d5.1 C a8;have h3:=Zgh (S:=c) (z:=f8) (b:=44) C e5.2;have⟨S,e4⟩:=Z_ (Pa c h7 f8 44);have⟨b7,h6⟩:=Z_ (Pt c h7 f8 44);rw[e4,h6] at d1;rw[e4] at h3
 have d2:K (u=if b7=0 then(m,(Vv c b g f b 0 [] S).1,(Vv c b g f b 0 [] S).2.1,(Vv c b g f b 0 [] S).2.2) else(m,[],S,b7)):=by
  show _=_;rw[<- d3];unfold iq;simp only;rw[c9]
  grind
 clear e4 h6 d3 c9;go_wp2_with fail
 apply d1.m;rintro d f7 ⟨rfl,g3,i0⟩;have⟨i2,c5⟩:=W_ (ZN f7 (O_ #[I m,N_] 338));have⟨c7,b0⟩:=W_ (B f7.1)
 have f9:K (RwI l i2 q v d6 c7 c S b7 W t #[L_ r b a4,I b4,I b5,I b6] m (N_) []):=by have e:=d5.2.T i0;have h:E_ f7 i2:=c5 ▸ r_;have i:=y.2.p e (λs j d=>Ag y.2.M j y.1 C d) (λp a9 s j d=>Ag (y.2.j p a9) j y.1 C d);have n:q<=B f6.1:=p_ y.1.lt;have k:=e.g b8.2 (λd=>by have j:=b8.2;have a6:=y.1;unfold Fl at a6;grind);refine⟨g3.q h,i.q h,(h.block _ (Qb k).1).T k,by rw[c5,b0];exact hn_,rn_,?_,g6,d0 ▸ g4,?_,λp a9 s j=>?_,λs j=>?_⟩;exact((b8.1.m g4).T (e.b n (λs j=>O))).T (h.m (p_ e.size));have:=e.size;omega;rw[b0];exact(B_ (i.j p a9) s j).2;rw[b0];exact(B_ i.M s j).2
 have d4:=K_ c5 b0;clear g3 i0 d1 c5 b0 y d5 b8 d0;go_upto_region 5 with fail;rw[<- d4.1,<- d4.2];clear d4;go_loopw [7] (λw h=>∃(a k:H) (D:E) (a5:ZY) (e:U VS),w=ZX ZQ a/\a<=b/\k<=ZK c/\K ((D=0/\F e=a/\u=(m,(Vv c b g f (b-a) a e k).1,(Vv c b g f (b-a) a e k).2.1,(Vv c b g f (b-a) a e k).2.2))∨(D≠0/\u.2.2.1=k/\u.2.2.2=D))/\K (RwI l h q v d6 c7 c k D W t #[ZH (T ⟨r,0,ZP⟩) b a4,ZX ZQ b4,ZX ZQ b5,ZX ZQ b6] m a5 e)) (λw _=>b-ZL (ZA w))
 case atStart=>
  refine⟨0,S,b7,_,[],X,v_,h3.2,?_,f9⟩
  by_cases n:b7=0
  ·grind
  exact ZJ ⟨n,by rw[d2,aC n],by rw[d2,aC n]⟩
 clear f9 d2;obtain⟨a,k,D,a5,e,rfl,a7,h1,b9,h⟩:=hrel;have⟨_,_,c0,_⟩:=h.r.cells;have g2:=M_ 0 _ _ _ h.out.cf;simp only[getElem?_toArray,getElem?_cons_zero] at g2
 by_cases L:a<b/\D=0
 ·obtain⟨L,rfl⟩:=L;have o:K (F e=a/\u=(m,(Vv c b g f (b-a) a e k).1,(Vv c b g f (b-a) a e k).2.1,(Vv c b g f (b-a) a e k).2.2)):=w_;clear b9;have d9:=F_ a b;go_upto_if 38 with fail
  go_cut [8] (λi j=>i=ZX .u8 (El a b)/\j=wr)
  case first=>
   by_cases j:a+1=b
   ·have i:K (El a b=_):=aD j;go_wp2;go_meet
    exact⟨by rw[i],X⟩
   have i:K (El a b=_):=aC j;have n:((a:_)==(b:E)-1)=_:=aO O;go_wp2;go_meet
   exact⟨by rw[i],X⟩
  obtain⟨rfl,g0⟩:=hcut;obtain rfl:=g0.s;clear g0;have⟨g9,h2,h4⟩:=i4 wr h.t a L;have R:=Ze5 (ZL (f a)) c (d7 a) h.r h1 (λd=>p_ ((h5 a L).2 d)) (dv a b) a8;have i5:=ZnW (S:=c) (g a) (ZL (f a)) (dv a b) h1;have⟨j,b1⟩:=ez_ (jn c k (g a) (ZL (f a)) (El a b));rw[b1] at R i5
  have a0:K ((j.2.2=0/\F (e++[j.1])=a+1/\u=(m,(Vv c b g f (b-(a+1)) (a+1) (e++[j.1]) j.2.1).1,(Vv c b g f (b-(a+1)) (a+1) (e++[j.1]) j.2.1).2.1,(Vv c b g f (b-(a+1)) (a+1) (e++[j.1]) j.2.1).2.2))∨(j.2.2≠0/\u.2.2.1=j.2.1/\u.2.2.2=j.2.2)):=by
   have d:Vv c b g f (b-a) a e k=if j.2.2=0 then Vv c b g f (b-(a+1)) (a+1) (e++[j.1]) j.2.1 else(e++[j.1],j.2.1,j.2.2):=by rw[show b-a=(b-(a+1))+1 by omega,Vv];rw[b1]
   by_cases n:j.2.2=0
   exact ZM ⟨n,by rw[Qe,o.1];rfl,by rw[o.2,d,aD n]⟩;exact ZJ ⟨n,by rw[o.2,d,aC n],by rw[o.2,d,aC n]⟩
  have e6:=Y o.1;clear o b1;generalize g a=j4,ZL (f a)=j3 at *;go_wp2_with fail
  apply R.m;rintro d N ⟨rfl,f4,g7⟩;have f3:=Y (h.i f4 g7);clear f4 g7 h R c0 g2 g9 h2 h4;have P:=f3.out;have j1:=(Qb P.x).1;obtain⟨⟨n,s,w⟩,i6,i7⟩:=j;have⟨A,z⟩:=W_ (ZN (ZN N (O_ #[ZR n,I s,Q_ w] 335)) (O_ #[ZR n,I s,Q_ w] 335));have a3:E_ N A:=z ▸ (r_.alloc s_ _);have i:K (RwI l _ _ _ _ _ c i6 i7 _ t _ _ _ e):=P.q a3;have a9:=Y z;have i1:_=T a5:=M_ 1 _ _ _ P.x;have h0:=e6.out;have⟨f0,e3,e8,e9,c6⟩:=info_parts ZmV;clear P z a3 f3;go_wp2_with (at_builtin;rw[<- a9];refine Dl X (.tmp 48) (.tmp 50) 336 X c7 335 f0 _ 3 32 underlying336 e3 e8 e9 c6 X C a5 (F e) (Lb e) X i.A _ 1 1 [ZR n,I s,Q_ w] X X ?_ ?_ ?_ ?_ ?_ ?_ ?_)
  have d:=one_new (ZN N (O_ #[ZR n,I s,Q_ w] 335)) #[ZR n,I s,Q_ w] 335;rw[show B (ZN N (O_ #[ZR n,I s,Q_ w] 335)).1=B N.1+1 by simp] at d;rw[a9];exact d
  ·intro c8 Q;simp at Q;rcases Q with rfl|rfl|rfl<;>rfl
  decide;unfold Y2;omega;omega;have:=(Qb i.out.x).1;omega;intro j7 b3 c3;have⟨b2,Q,d8,_,f5,f2,e7⟩:=c3.out;subst e7;have⟨c8,c1⟩:=i.out.P (x:=⟨n,s,w⟩) Q (e6.out ▸ b2);have i9:=Y c8;have h8:=M_ 1 _ _ _ c1;have j0:=R_ 1 _ _ c1;simp at h8;clear c8 c1 b2 Q d8 c3 i i1 a9;go_wp2;go_roundw
  grind
  exact z_
 by_cases n:D=0
 ·subst n;have h4:a=b:=O
  have o:K (u=(m,e,k,0)):=by
   rcases b9.out with G|G
   show _=_;rw[G.2.2,h4,Nat.sub_self,Vv];omega
  have d9:¬a<(b:E):=O;clear b9 L h4;have⟨j5,j6,j4⟩:=h.u.d
  obtain⟨N,c1,j1⟩:∃i6 i7,a5=ZH i6 (F e) i7:=by
   rcases h.out.A.2 with⟨d,i⟩|⟨R,s,w,d,_⟩
   ·grind
   grind
  subst j4 j1;have f3:=h.r.cells.2.2.2;have h8:=n_ 0 h.x;have f4:=n_ 1 h.x;obtain⟨f0,e3,e8,e9,c6⟩:=info_parts ZmW;generalize h0:F e=P at h f4;generalize h2:F t=b1 at h f3;have k0:b1<=1000:=O;have g0:=Y h2;clear h0 h2;go_upto_region 13 with fail;refine Af (λi=>ZV i _=T _/\ZV i _=T _/\ZV i _=T _) 10 k_ ⟨f3,h8,f4⟩ (λhHeld=>?_);refine G_ ?_;refine on_ 6 λKK hK=>?_;go_simp;have⟨A,z⟩:=W_ (YY (ZN wr (O_ #[I m,V N P c1] 338)));have a3:E_ wr A:=z ▸ r_.drew;have i:=Y (h.q a3);have j3:∀f1 c8,(Y4 (#[I m,V N P c1]))[f1]? =T c8->ZV A (((J (B wr.1) 0):Addr).add f1)=T c8:=z ▸ (one_new _ _ _);rw[<- z]
  have i9:_/\ZV A _=T (ZX _ m)/\ZV A _=T (V N P _):=⟨i.r.cells.2.2.2,M_ 0 _ _ _ i.x,M_ 1 _ _ _ i.x⟩;have g7:q<=B A.1:=p_ i.r.lt;clear z a3 f3 h8 f4 h;refine hK _ _ i9 (λhHeld=>?_);clear hK KK;try simp only[Act.put,setIfInBounds_toArray,set_cons_succ,set_cons_zero]
  refine on_ 7 λKK hK=>?_;refine Kn X (.tmp 62) (.tmp 64) 281 X q 338 f0 _ 2 32 underlying281 e3 e8 e9 c6 X C (V j5 b1 j6) b1 (Rw t) j_ (by have:=i.u.M;rw[g0] at this;exact this) (J (B wr.1) 0) 1 1 [I m,V N P c1] j_ X ?_ ?_ C (by unfold Y2;omega) O g7 ?_;exact j3
  ·intro c8 Q;simp at Q;rcases Q with rfl|rfl<;>rfl
  rintro j7 b3 ⟨b2,Q,d8,_,f5,f2,e7⟩;subst e7;have g9:rj A q (V N P c1) e:=(by have j:=i.A;have a6:=i.z;exact⟨j.1,j.2.imp id (λ⟨R,s,w,d,g6,a9⟩=>⟨R,s,w,d,O,a9⟩)⟩);have c3:Hd _ _ _ (t++[⟨_,e,_⟩]):=i.u.P g9 Q (by rw[g0];exact b2);have w:=(Aa.refl _ _).grown Q (λM a8 _=>a8);have R:=i.r.p w (λd=>Ag i.u.M d i.r C X);have e6:=w.g i.x (λd=>by have:=i.D c7 d;omega);have j0:_/\ZV b3 _=T (ZX _ m)/\ZV b3 _=T (V N P _):=⟨R.cells.2.2.2,M_ 0 _ _ _ e6,M_ 1 _ _ _ e6⟩;have j9:=R_ 3 _ _ R
  have i5:K (RwP l q v c t (m,e,k,0) (ZO b3 (J v 3) (L_ f5 (b1+1) f2))):=(by have i1:Aa _ _ (ZO b3 _ (L_ f5 (b1+1) f2)):=(Aa.refl (λs=>s=v) _).setCell (p:=(J v 3)) (λ_=>X) _;have k2:=w.size;refine⟨_,_,ht_ 3 _ _ _ R,c3.p i1 (λs j d=>Ag c3.M j R C d) (λp a9 s j d=>Ag (c3.j p a9) j R C d),by rw[aD X,map_append];rfl,?_⟩;exact(i.t.T (w.b g7 (λs j=>(B_ i.u.M s j).1))).T (i1.b O (λs j=>O)));clear g9 c3 w R e6 b2 Q d8 i;refine hK _ _ j0 (λhHeld=>?_);clear hK KK;refine G_ ?_;refine le_ ?_;go_wp2;go_end0;rw[o];exact⟨X,i5⟩
 have o:K (u.2.2.1=k/\u.2.2.2=D):=w_;have c6:=aO n;have i:=Y n;clear b9 L n
 by_cases L:a<b
 ·have d9:a<(b:E):=O;go_wp2;go_end0;refine⟨X,?_⟩;unfold RwP;rw[o.1,o.2];exact⟨W,t,h.r,h.u,by rw[aC i],h.t⟩
 have d9:¬a<(b:E):=O;go_wp2;go_end0;refine⟨X,?_⟩;unfold RwP;rw[o.1,o.2];exact⟨W,t,h.r,h.u,by rw[aC i],h.t⟩
def RdP(d:ZT)(g:ZC)(b:U (E×U VS)×H×E)(h:Ending)(e:ZT):Prop:=
 ∃c f a,h=ZI (P_ c)/\B d.1<=c/\Fl e c g b.2.1 b.2.2 f/\Hd e (B d.1) f a/\a.map Mc.o=b.1/\F a<=200/\E_ d e
def wk f {l} q a v w x {n i b0} d (b3:Du d l 0 f n i b0)(d7:l<d.1.size)(d0:f<=4)(d1:∀P,P<f->0<=i P/\(n P=false->i P<=3))(c9:a.size<=1000000000000000):C_ 178 #[.agg #[L_ l f q,I v,I w,I x],Q_ a] d λe b=>RdP d a (Kr a f n i (a.size+1) [] 0) e b:=by
 have⟨z,a0⟩:=ez_ (Kr a f n i (a.size+1) [] 0);rw[a0];have⟨R,N⟩:=W_ ((d.alloc (O_ #[L_ l f q,I v,I w,I x] 37)).alloc (O_ #[Q_ a,I 0,I 0,N_] 283));have⟨j,a5⟩:=W_ (d.1.size+1);have b8:Fl R j a 0 0 (N_):=(by have e:=ha_ (d.alloc (O_ #[L_ l f q,I v,I w,I x] 37)) (O_ #[Q_ a,I 0,I 0,N_] 283);rw[show(d.alloc (O_ #[L_ l f q,I v,I w,I x] 37)).1.size=d.1.size+1 by simp,<- N,<- a5] at e;exact e);have b6:H_ R d.1.size #[L_ l f q,I v,I w,I x] 37:=by grind [Below.heap_alloc,heap_alloc_new]
 have b5:E_ d R:=N ▸ (r_.alloc s_ _);have a8:K (_/\Hd R (d.1.size+1) _ _/\_/\_):=⟨b8,Hd.nil,b6,b5⟩;have y:=K_ N a5;have c0:K (∀a9,Below _ d a9->_):=λa9 c8=>b3.q c8;clear N a5 b8 b6 b5 b3;refine dl_ ?_;go_enter func178,ntmps178;go_upto_region 2 with fail;rw[<- y.1,<- y.2];go_loopw [13] (λ_ b=>∃(g h:Nat) (k:Int) (Q:Value) (c:List Mc),g<=a.size/\c.length<=200/\(k=0->a.size+1<=h+g)/\K ((k=0/\z=Kr a f n i h (c.map Mc.o) g)∨(k≠0/\z=(c.map Mc.o,g,k)))/\K (Fl b j a g k Q/\Hd b (d.1.size+1) Q c/\H_ b d.1.size #[L_ l f q,I v,I w,I x] 37/\E_ d b)) (λ_ b=>match b.cell? (J j 1),b.cell? (J j 2) with|some (.int _ c),some (.int _ e)=>if e=0 then a.size+1-c.toNat else 0|_,_=>0)
 case atStart=>exact⟨0,a.size+1,0,_,[],v_,s_,λ_=>O,.inl ⟨rfl,a0.s⟩,a8⟩
 clear a8 a0;obtain⟨g,h,k,Q,c,b7,b4,a3,D,b⟩:=hrel;have b9:=b.1.cells;obtain⟨_,c6,c7,d4⟩:=b9;have a7:=K_ c6 c7;have⟨e0,e1,a6⟩:=b.2.1.d
 by_cases a4:g<a.size/\k=0
 ·obtain⟨a4,rfl⟩:=a4;have a3:=a3 rfl;obtain⟨h,rfl⟩:∃a1,h=a1+1:=⟨h-1,O⟩;have W:K (z=Kr a f n i (h+1) (c.map Mc.o) g):=w_;have b1:g<(a.size:Int):=O
  by_cases b2:c.length=200
  ·have G:K (z=(c.map Mc.o,g,3)):=(by grind [Kr]);have c1:=R_ 2 _ _ b.1;rw[b2] at a6;subst a6;have L:K (RdP d a (c.map Mc.o,g,3) (.returned (P_ j)) (wr.setCell (J j 2) (I 3))):=(by have⟨A,S⟩:=b.1.put 3;have c2:=b.1.lt;have M:=y.2;have m:=b.2.1.p S (λp o e=>Ag b.2.1.M o b.1 C e) (λt s p o e=>Ag (b.2.1.j t s) o b.1 C e);exact⟨j,_,c,rfl,O,A,⟨⟨m.M.1,m.M.2.imp id (λ⟨r,o,p,e,a2,u⟩=>⟨r,o,p,e,O,u⟩)⟩,λt s=>⟨(m.j t s).1,(m.j t s).2.imp id (λ⟨r,o,p,e,a2,u⟩=>⟨r,o,p,e,O,u⟩)⟩⟩,rfl,b4,b.2.2.2.T (S.b O (λp o=>O))⟩);clear D W b;go_wp2;go_ret;rw[G];exact L
  have u:c.length<200:=O;have d5:((c.length:Int)==200)=_:=aO O;have o:=b.2.2.1;have c2:=n_ 0 o;have c3:=n_ 1 o;have c4:=n_ 2 o;have c5:=M_ 3 _ _ _ o;simp at c2 c3 c4 c5;have p:=ZlJ j f l q a Q c v w x b0 wr b.1 b.2.1 (p_ y.2) b7 (c0 wr b.2.2.2) O d0 d1 O c9;have G:=Zoa f n i b7;have⟨m,r⟩:=ez_ (iq a f n i g);rw[r] at p G;have d3:K (z=if m.2.2.2=0 then Kr a f n i h (c.map Mc.o++[(m.1,m.2.1)]) m.2.2.1 else(c.map Mc.o,m.2.2.1,m.2.2.2)):=(by show _=_;rw[W,Kr,aD a4,aC w_];simp only;rw[r]);subst a6;have c1:=Y u;clear D W r o b2 u;go_wp2_with fail
  apply p.m;rintro e e2 ⟨rfl,M⟩;have s:=Y M;clear M p;go_wp2;go_roundw
  case rel=>
   have⟨L,t,A,S,d2,a2⟩:=s.out;have d9:=y.2;have d6:=c1.out;have d8:=congrArg length d2;refine⟨m.2.2.1,h,m.2.2.2,L,t,G.1.2,?_,?_,?_,A,S,?_,?_⟩
   ·grind
   omega
   ·grind
   exact(a2.block _ O).T b.2.2.1;exact b.2.2.2.T (a2.m O)
  case measure=>
   obtain⟨L,t,A,_⟩:=s;rw[A.cells.2.1,A.cells.2.2.1,a7.1,a7.2]
   grind
 have G:K (z=(c.map Mc.o,g,k)):=by
  rcases D.out with e|e
  ·show _=_;have:=a3 e.1;obtain⟨h,rfl⟩:∃a1,h=a1+1:=⟨h-1,O⟩
   grind [Kr]
  exact e.2
 have L:K (RdP d a (c.map Mc.o,g,k) (.returned (P_ j)) wr):=(by have M:=y.2;have m:=b.2.1;exact⟨j,_,c,rfl,O,b.1,⟨⟨m.M.1,m.M.2.imp id (λ⟨r,o,p,e,a2,u⟩=>⟨r,o,p,e,O,u⟩)⟩,λt s=>⟨(m.j t s).1,(m.j t s).2.imp id (λ⟨r,o,p,e,a2,u⟩=>⟨r,o,p,e,O,u⟩)⟩⟩,rfl,b4,b.2.2.2⟩);clear D b
 by_cases e:k=0
 ·subst e;have b1:¬g<(a.size:Int):=O;go_wp2;go_ret;rw[G];exact L
 have b1:=aO e;go_wp2;go_ret;rw[G];exact L
def ra(h:ZT)(e d f c:H)(i j k:E)(a:ZC)(l g:E)(b:ZG):Prop:=h.1[e]? =T (O_ #[L_ d f c,I i,I j,I k,Q_ a,I l,I g,ZR b] 278)
def ra.cells{b a g h f j k l d m i e}(c:ra b a g h f j k l d m i e):(ZV b (J a 0)=T (L_ g h f)/\ZV b (J a 1)=T (I j)/\ZV b (J a 2)=T (I k)/\ZV b (J a 3)=T (I l)/\ZV b (J a 4)=T (Q_ d))/\ZV b (J a 5)=T (I m)/\ZV b (J a 6)=T (I i)/\ZV b (J a 7)=T (ZR e):=
 ⟨⟨M_ 0 _ 278 (0,0) c,M_ 1 _ 278 (0,0) c,M_ 2 _ 278 (0,0) c,M_ 3 _ 278 (0,0) c,M_ 4 _ 278 (0,0) c⟩,M_ 5 _ 278 (0,0) c,M_ 6 _ 278 (0,0) c,M_ 7 _ 278 (0,0) c⟩
def Zab{b f h e j k l m i c d a}(g:ra a b f h e j k l c m i Z0):C_ 125 #[P_ b,Q_ d] a (V_ (Y5 #[ZX ZQ 1,ZX ZQ 0]) a):=by
 have n:=g.cells.2.2.2;refine q_ ?_;go_wp2;go_ret2
 exact⟨X,X⟩
def Zca{c i m h o p q} b d {e} f a (j:ra a c i m h o p q e b d ZZ)(k:b≠0):C_ 125 #[P_ c,Q_ f] a λg n=>g=ZI (Y5 #[ZX ZQ b,ZX ZQ d])/\∃l,n=Y1 a l:=by
 have⟨_,g,l,n⟩:=j.cells;have r:=bne_iff_ne.2 k;refine q_ ?_;go_upto_region 4 with fail;go_quiet (fail);go_wp2;go_ret2
 exact⟨X,_,X⟩
def fdA(b:ZC)(a:U (E×U VS)×H×E):E×E:=if a.2.2≠0/\a.2.1<ZK b then(a.2.2,a.2.1) else(0,0)
def RfP(i:ZT)(b f g e:H)(j k l:E)(d:ZC)(a:E×E)(c:ZT):Prop:=ra c b f g e j k l d a.1 a.2 ZZ/\Aa (λh=>h=b) i c
def Zh3{a h b y L M N d e p m c5 k}(l:ra k a h b y L M N d 0 0 ZZ)(u:Du k h 0 b p m c5)(a6:h≠a)(S:h<B k.1)(d1:b<=4)(d2:∀i,i<b->0<=m i/\(p i=ZZ->m i<=3))(a5:ZK (d++e)<=1000000000000000):C_ 125 #[P_ a,Q_ e] k λQ f=>Q=ZI (Y5 #[ZX ZQ (fdA (d++e) (Kr (d++e) b p m (ZK (d++e)+1) [] 0)).1,ZX ZQ (fdA (d++e) (Kr (d++e) b p m (ZK (d++e)+1) [] 0)).2])/\RfP k a h b y L M N (d++e) (fdA (d++e) (Kr (d++e) b p m (ZK (d++e)+1) [] 0)) f:=by
 have⟨⟨_,_,_,_,a1⟩,q,n,c4⟩:=l.cells;have c6:=R_ 4 _ _ l;have e0:ZK d+(ZK e:E)<=1000000000000000:=w_;have⟨g,a3⟩:=W_ (d++e);rw[<- a3] at a5 ⊢;have⟨a8,W⟩:=W_ (ZO k (J a 4) (Q_ g));have o:Aa (λj=>j=a) k a8:=W ▸ ((Aa.refl (λj=>j=a) k).setCell (p:=(J a 4)) (λ_=>X) _);have s:ra a8 a h b y L M N g 0 0 ZZ:=W ▸ (ht_ 4 _ _ _ l);have b2:Du _ _ 0 b p m _:=⟨u.k,λc8=>Qh (u.lt c8) o.size,λi z=>by rw[<- u.t i z];simp[ZV,o.block h S a6],λi z=>by rw[<- u.D i z];simp[ZV,o.block h S a6],λi z=>by rw[<- u.G i z];simp[ZV,o.block h S a6]⟩;have d0:=Qh S o.size;have c3:=Y (λf c=>wk b y g L M N f (b2.q c) (Qh d0 c.size) d1 d2 a5)
 generalize Kr g b p m (ZK g+1) [] 0=c at *;have a0:=K_ W a3;have w:=K_ s o;clear l u b2 W a3 s o a5;refine q_ ?_;go_upto_region 6 with fail;rw[<- a0.2,<- a0.1];clear a0 a1 q n c4 c6;have b4:=w.1.cells.1;refine Af (λf=>ZV f _=T _/\ZV f _=T _/\ZV f _=T _/\ZV f _=T _/\ZV f _=T _) 9 k_ b4 (λhHeld=>?_);refine G_ ?_;refine on_ 8 λKK hK=>?_;go_simp;apply (c3 _ y_.drew).m;rintro Q d6 ⟨c0,d5,d7,rfl,d9,b6,_,_,_,b3⟩;have a4:Below (B a8.1) _ _:=y_.drew.T b3;have t:ra _ _ _ b _ _ _ _ g 0 0 _:=(a4.block _ (Qb w.1).1).T w.1;have b7:=w.2.q a4;have f:=x3_ b6 t b7;have c9:=t.cells.1;clear b6 t b7 b3 a4 w b4;go_simp;refine hK _ _ c9 (λhHeld=>?_);clear hK KK
 try simp only[Act.put,setIfInBounds_toArray,set_cons_succ,set_cons_zero]
 refine le_ ?_;have⟨_,x,r,_⟩:=f.1.cells;have⟨⟨_,_,_,_,a1⟩,q,n,_⟩:=f.2.1.cells;have a2:=R_ 5 _ _ f.2.1
 by_cases D:c.2.2=0
 ·have v:K (fdA g c=_):=aC (λl=>l.1 D);have d4:(c.2.2 !=0)=ZZ:=(by rw[D];rfl);rw[D] at r;go_upto_region 7 with fail;go_quiet (fail);go_upto_region 10 with fail;go_quiet (fail);go_wp2;go_ret2
  rw[v];exact⟨X,f.2.1,(f.2.2.drewN _).drewN _⟩
 have d4:=bne_iff_ne.2 D
 by_cases b5:c.2.1<ZK g
 ·have v:K (fdA g c=_):=aD ⟨D,b5⟩
  have d3:c0≠_:=λQ=>by have s:=f.1;have t:=f.2.1;unfold Fl at s;unfold ra at t;rw[Q,t] at s;simp at s
  go_upto_region 7 with fail;go_quiet (fail);have⟨G,A⟩:=W_ (Y1 d6 nq);have R:ra G a h b y L M N g 0 0 ZZ:=A ▸ f.2.1;have a9:Fl G c0 g c.2.1 c.2.2 d5:=A ▸ (f.1.drew _);have b8:Aa (λj=>j=a) k G:=A ▸ (f.2.2.drewN _);rw[<- A];clear x r a1 q n a2 f A;have⟨_,x,r,_⟩:=a9.cells;have⟨_,q,n,_⟩:=R.cells;have a2:=R_ 5 _ _ R;have P:=ht_ 5 _ _ (I c.2.2) R;have a7:Aa _ _ (ZO G _ (I c.2.2)):=(Aa.refl (λj=>j=a) _).setCell (p:=(J a 5)) (λ_=>X) _;have c2:=a9.p a7 d3;go_upto_region 9 with fail;generalize (ZO G) (J a 5) (I c.2.2)=c1 at *;clear x r q n a2;have⟨_,x,r,_⟩:=c2.cells;have n:=n_ 6 P;have c7:=R_ 6 _ _ P;have b1:=ht_ 6 _ _ (I ((c.2.1:H):E)) P
  have b9:Aa _ _ (ZO c1 _ (I ((c.2.1:_):_))):=(Aa.refl (λj=>j=a) _).setCell (p:=(J a 6)) (λ_=>X) _;go_upto_region 10 with fail;generalize (ZO c1) (J a 6) (I ((c.2.1:H):E))=e1 at *;have j:ra _ _ _ b _ _ _ _ g _ _ _:=b1;have⟨_,q,d8,_⟩:=j.cells;have b0:=K_ j ((b8.T a7).T b9);clear x r n c7 P b1 b8 a7 b9 a9 c2 R j;go_quiet (fail);go_wp2;go_ret2
  rw[v];exact⟨X,b0.1,b0.2.drewN _⟩
 have v:K (fdA g c=_):=aC (λl=>b5 l.2);go_upto_region 7 with fail;go_quiet (fail);go_upto_region 10 with fail;go_quiet (fail);go_wp2;go_ret2
 rw[v];exact⟨X,f.2.1,(f.2.2.drewN _).drewN _⟩
def ZdU{a d f e}(i:1<=d):fdA a (Kr a d f e (ZK a+1) [] 0)=Qs (Bt d f e RS.h (Ab a) 0):=by
 rcases Zco (S:=a) (wd:=f) (sc:=e) i with⟨j,b,_,c,_,_⟩|⟨j,b,_,c,k⟩|⟨b,h,c⟩
 rw[b];exact aC (λg=>g.1 c);rw[b];exact aC (λg=>O);rw[b];exact aD ⟨h,c⟩
def Ir:ZY:=N_
structure Vb(i:ZT)(f:H->H)(j:YZ ZY)(c n o:H)(k:ZT->ZY->ZY->Prop)(l)(h g)(a d):Prop where
 t:j[c]? =T h
 D:j[c+1]? =T g
 x:ZD i 0 n 1 h (F a) a
 on:∀b,ZW h=T b->f b=c
 w:ZD i 0 o 1 g (F d) d
 q:∀b,ZW g=T b->f b=c+1
 y:F d=F a
 p:F a<=4*l
 all:∀e,e<F a->Kc i f 13 (λm=>k m (Z a e Ir) (Z d e Ir))
def fE(b:ZT)(x c:ZY):Prop:=∃a:E,c=I a/\Hx b a x
def fN(b:ZT)(x a:ZY):Prop:=(∃c:E,a=I c)/\Eb b 3 a x
def fS(b:ZT)(x a:ZY):Prop:=(∃c:ZC,a=YW c)/\Eb b 9 a x
def fL(a:ZT)(x b:ZY):Prop:=∃d c,b=I d/\Eb a 25 (L_ c 1 1) x/\a.1[c]? =T (O_ #[b] 3)
def tlB:H->H|4=>29|6=>25|8=>47|_=>84
def tmB:H->H|8=>9|_=>3
def fB:H->ZT->ZY->ZY->Prop|4=>fE|6=>fN|8=>fS|_=>fL
def Grp(i:ZT)(e:H->H)(c:YZ ZY)(a b:H):Prop:=∃g f h d,Vb i e c a (tlB a) (tmB a) (fB a) b g f h d
def Gs(e:ZT)(d:H->H)(c:YZ ZY)(b:H):Prop:=∀a,a=4∨a=6∨a=8∨a=10->Grp e d c a b
section
variable {w w':ZT} {o d:H->H} {c j:YZ ZY} {g i l m N:H} {nx:Z5} {p:ZT->ZY->ZY->Prop} {A:ZT->ZY->Prop} {v n b a h f:ZY} {vs e k:U ZY} {S E:H->Prop}
def Ek.at(b:Ek w o d){k a}(c:k<B w.1)(e:o k=a)(f:a≠99):d k=a:=by have:=b k c;omega
def Vb.z(g:Vb w o c i l m p N b a vs e)(s:Aa S w w')(r:∀f,f<B w.1->S f->o f≠i/\o f≠i+1/\o f≠13)(q:Ek w o d)(P:i<20)(u:j[i]? =c[i]?)(x:j[i+1]? =c[i+1]?){t}(M:N<=t):Vb w' d j i l m p t b a vs e:=
 have n {G D:H} {v L} (z:ZD w 0 G 1 v D L) f h:=(B_ z f h).2
 ⟨u.T g.t,x.T g.D,s.M g.x (λf h k=>(r f (n g.x f h) k).1 (g.on f h)),λf h=>q.at (n g.x f h) (g.on f h) O,s.M g.w (λf h k=>(r f (n g.w f h) k).2.1 (g.q f h)),λf h=>q.at (n g.w f h) (g.q f h) O,g.y,p_ g.p,λA y=>(g.all A y).i s (λf h k=>(r f h k).2.2) q⟩
def Vb.G(h:Vb w o c i l m p N b a vs e)(j:∀d,ZW v=T d->o d=99)(k:i<20):ZW a=ZP∨ZW a≠ZW v:=by
 cases f:ZW a with
 |none=>exact ZM X
 |some d=>exact ZJ (λg=>oj_ (h.q d f) (j d g.s))
def Gs.z(h:Gs w o c N)(s:Aa S w w')(r:∀f,f<B w.1->S f->o f=0∨13<o f)(q:Ek w o d)(g:∀k,4<=k->j[k]? =c[k]?){l}(m:N<=l):Gs w' d j l:=λi n=>by have⟨b,a,vs,e,h⟩:=h i n;exact⟨b,a,vs,e,h.z s (λf p g=>p_ (r f p g)) q O (g _ O) (g _ O) m⟩
structure Gz(w)(o:H->H)(g)(c)(N:H):Prop where
 v:WB w g c
 b:o g=0
 x:B c=13
 p:∃a:Z5,c[12]? =T (I a)/\0<=a/\a<=N
 h:Gs w o c N
def Gz.put(b:Gz w o g c N)(s:Aa S w w')(p:∀k,k<B w.1->S k->k=g∨13<o k)(q:WB w' g j)(h:Ek w o d)(a:∀e,4<=e->j[e]? =c[e]?)(r:B j=13){f}(m:N<=f:=by exact x_):Gz w' d g j f:=by have⟨t,i,l,u⟩:=b.p;exact⟨q,h.at b.v.lt b.b C,r,⟨t,(a _ C).T i,l,O⟩,b.h.z s (λk n a=>by rcases p k n a with rfl|a;exact ZM b.b;exact ZJ a) h a m⟩
def Gz.z(a:Gz w o g c N)(h:Aa S w w')(f:∀b,b<B w.1->S b->13<o b)(j:Ek w o d):Gz w' d g c N:=
 a.put h (λb i e=>ZJ (f b i e)) (h.g a.v λe=>oj_ (f g a.v.lt e) a.b) j (λ_ _=>X) a.x
def Wz(w:ZT)(o:H->H)(E:H->Prop)[DecidablePred E](i:H)(b a:ZY)(c:H):H:=
 if c<B w.1/\o c≠99 then o c else if E c then 13 else if ZW b=T c then i else if ZW a=T c then i+1 else 99
variable [DecidablePred E]
def Mt w o E [DecidablePred E] i b a:Ek w o (Wz w o E i b a):=λd c=>by grind [Wz]
def cx{c}(d:E c)(e:c<B w.1->o c=99):Wz w o E i b a c=13:=by grind [Wz]
theorem ZeE(q:Vb w o c i l m p N b a vs e)(s:ae w w' g i c l m A n v b a vs e nx h f k)(r:o g=0){d}(j:d=g∨ZW v=T d∨ZW b=T d∨ZW a=T d):o d=0∨ZW v=T d∨o d=i∨o d=i+1:=by
 rcases j with rfl|j|j|j
 exact ZM r
 ·grind
 exact ZJ (ZJ (ZM (q.on d j)));exact ZJ (ZJ (ZJ (q.q d j)))
def Vb.grow(r:Vb w o c i l m p N b a vs e)(s:ae w w' g i c l m A n v b a vs e nx h f k)(W:i=4∨i=6∨i=8∨i=10)(a1:o g=0)(a2:∀d,ZW v=T d->o d=99)(a3:B c=13)(a0:l≠m)(S:∀d,E d->ZW h≠T d)(D:∀d,E d->ZW f≠T d)(G:∀x∈k,Kc w' (Wz w o E i h f) 13 (λz=>p z x n)):Vb w' (Wz w o E i h f) (YS (YS (YS c 12 (I nx)) i h) (i+1) f) i l m p (N+1) h f (vs++k) (e++Y6 4 n):=by
 have y:=s.y;refine⟨w_,w_,?_,λd t=>?_,?_,λd t=>?_,by simp[r.y,y],gh_ r.p,λj L=>?_⟩;rw[Qe,y];exact s.x
 ·rcases s.D d t with q|q
  exact(Mt w o E i _ _).at (B_ r.x d q).2 (r.on d q) O
  grind [Wz]
 rw[Qe,length_replicate];exact s.w
 ·rcases s.z d t with q|q
  exact(Mt w o E i _ _).at (B_ r.w d q).2 (r.q d q) O;unfold Wz;rw[aC O,aC (λu=>D d u t),aC (λu=>?_),aD t];have⟨M,Q⟩:=Ac s.x u;have⟨P,R⟩:=Ac s.w t
  grind
 rw[Qe,y] at L;have M:=r.y
 by_cases u:j<F vs
 ·rw[show Z (vs++k) j Ir=Z vs j Ir by grind,show Z (e++Y6 4 n) j Ir=Z e j Ir by grind];refine(r.all j u).i s.u (λd t q=>?_) (Mt w o E i _ _)
  grind [ZeE]
 rw[show Z (vs++k) j Ir=k[j-F vs] by grind,show Z (e++Y6 4 n) j Ir=n by grind];exact G _ (Qf _)
def Zah{c:YZ ZY}{i a x b d}(e:a≠12/\a≠i/\a≠i+1):(YS (YS (YS c 12 x) i b) (i+1) d)[a]? =c[a]?:=w_
abbrev oa(k:U ZY)(a:H):Prop:=∃b∈k,ZW b=T a
def Gs.D(m:Gs w o c N)(s:i=4∨i=6∨i=8∨i=10)(r:Vb w o c i (tlB i) (tmB i) (fB i) N b a vs e)(l:ae w w' g i c (tlB i) (tmB i) A n v b a vs e nx h f k)(p:o g=0)(u:B c=13)(z:g<B w.1)(S:∀d,ZW v=T d->o d=99)(P:0<=nx/\nx<=N+1)(G:∀d,E d->ZW h≠T d)(D:∀d,E d->ZW f≠T d)(L:∀x∈k,Kc w' (Wz w o E i h f) 13 (λy=>fB i y x n)):Gz w' (Wz w o E i h f) g (YS (YS (YS c 12 (I nx)) i h) (i+1) f) (N+1):=by
 have q:=Mt w o E i h f;refine⟨l.v,q.at z p C,by simp[u],⟨nx,w_,P.1,O⟩,λt M=>?_⟩
 by_cases j:t=i
 subst j;exact⟨h,f,_,_,r.grow l s p S u (by rcases s with rfl|rfl|rfl|rfl<;>decide) G D L⟩;have⟨W,a0,Q,R,m⟩:=m t M;refine⟨W,a0,Q,R,m.z l.u (λd a1 j=>?_) q O (Zah O) (Zah O) (le_succ _)⟩
 rcases ZeE r l p j with j|j|j|j
 omega
 ·grind
 omega;omega
def rl(w w':ZT)(o:H->H)(g:H)(N:H)(v:ZY)(c:YZ ZY):Prop:=∃d j,Gz w' d g j (N+1)/\Ek w o d/\Aa (λa=>o a<=13∨ZW v=T a) w w'/\(∀b,b<4->j[b]? =c[b]?)/\(∀a,B w.1<=a->d a<=13∨d a=99)/\(∀a,a<B w.1->o a=99->ZW v≠T a->d a=99)/\∀a,a<B w.1->o a=99->d a<=13∨d a=99
def ZbZ(r:Vb w o c i l m p N b a vs e)(j:ae w w' g i c l m A n v b a vs e nx h f k)(t:o g=0)(s:i<=10):Aa (λd=>o d<=13∨ZW v=T d) w w':=
 j.u.m (λd _ q=>by grind [ZeE])
def jy(e:i<=10){c}(d:B w.1<=c∨o c=99):Wz w o E i b a c<=13∨Wz w o E i b a c=99:=by grind [Wz]
def ZcA(c:YZ ZY) i (e:4<=i){x b d} a (f:a<4):(YS (YS (YS c 12 x) i b) (i+1) d)[a]? =c[a]?:=Zah O
end
def Gz.D{m M l o j f r i w G D R Q L y z s}{q:Z5}(h:Gz m l o f j)(S:i=4∨i=6∨i=8)(k:Vb m l f i (tlB i) (tmB i) (fB i) j G D L y)(e:ae m M o i f (tlB i) (tmB i) s w r G D L y q R Q z)(A:∀a,ZW r=T a->l a=99)(c:0<=q/\q<=j+1)(N:∀{t n u x},s n x->Aa t n u->(∀a,ZW x=T a->¬t a)->fB i u x w):rl m M l o j r f:=by
 have v:∀a,oa _ a->_:=λa ⟨x,c,b⟩=>(e.all x c).2 a b;refine⟨_,_,h.h.D (E:=oa z) O k e h.b h.x h.v.lt A c (λa ⟨x,c,b⟩=>e.G x c a b) (λa ⟨x,c,b⟩=>e.A x c a b) λx c=>?_,Mt _ _ _ _ _ _,ZbZ k e h.b O,ZcA f i O,λa b=>jy O (ZM b),λa b p P=>?_,λa _ p=>jy O (ZJ p)⟩;exact λn g=>N (e.all x c).1 g λa b d=>d (cx ⟨x,c,b⟩ λW=>(v a ⟨x,c,b⟩).elim (A a) O);unfold Wz;rw[aC (λd=>d.2 p),aC (λd=>(v a d).elim P O),aC (λd=>?_),aC (λd=>?_)]
 ·rcases e.z a d with g|g
  have:=k.q a g;omega;omega
 rcases e.D a d with g|g
 have:=k.on a g;omega;omega
def Gz.c{d k e h j c g}(b:Gz d k e j h)(p:Ad d 0 c g)(m:∀f,ZW c=T f->k f=99)(r:F g<=4194304)(x:h<=20000000):C_ 142 #[Y7 (T (J e 4)),c] d λl n=>l=ZI (Y5 #[])/\rl d n k e h c j:=by have⟨N,L,Q,D,a⟩:=b.h 6 C;have⟨w,u,v,A⟩:=b.p;have y:=a.p;have z:=a.y;apply (oo e j c g w d b.v a.t a.D u p a.x a.w (a.G m C) r O O ⟨v,O⟩).m;rintro l n ⟨rfl,P,M,G,s⟩;exact⟨X,b.D (i:=6) C a s m O λb o t=>⟨⟨_,X⟩,b.p o λf _ q _=>t f q⟩⟩
def Gz.g{d k e h j c g}(b:Gz d k e j h)(p:Bj d 0 c g)(m:∀f,ZW c=T f->k f=99)(r:F g<=4194304)(x:h<=20000000):C_ 143 #[Y7 (T (J e 4)),c] d λl n=>l=ZI (Y5 #[])/\rl d n k e h c j:=by have⟨N,L,Q,D,a⟩:=b.h 8 C;have⟨w,u,v,A⟩:=b.p;have y:=a.p;have z:=a.y;apply (zu e j c g w d b.v a.t a.D u p a.x a.w (a.G m C) r O O ⟨v,O⟩).m;rintro l n ⟨rfl,P,M,G,s⟩;exact⟨X,b.D (i:=8) C a s m O λb o t=>⟨⟨_,X⟩,b.p o λf _ q _=>t f q⟩⟩
def Gz.e{d k e h j c g}(b:Gz d k e j h)(o:Ai d 0 c g)(w:∀f,ZW c=T f->k f=99)(q:F g<=4194304)(x:h<=20000000):C_ 174 #[Y7 (T (J e 4)),c] d λl m=>l=ZI (Y5 #[])/\rl d m k e h c j:=by have⟨N,L,Q,D,a⟩:=b.h 4 C;have⟨v,t,u,A⟩:=b.p;have y:=a.p;have z:=a.y;apply (zt e j c g v d b.v a.t a.D t o a.x a.w q O O ⟨u,O⟩).m;rintro l m ⟨rfl,P,M,G,r⟩;exact⟨X,b.D (i:=4) C a r w O λb n s=>⟨_,X,b.p n λf _ p _=>s f p⟩⟩
def Nz(d g:ZT)(c:H->H)(j h:H)(i:YZ ZY):Prop:=∃b f,Gz g b j f h/\Ek d c b/\Aa (λa=>c a<=13∨c a=99) d g/\(∀e,e<4->f[e]? =i[e]?)/\(∀a,B d.1<=a->b a<=13∨b a=99)/\∀a,a<B d.1->c a=99->b a<=13∨b a=99
structure Zi5(e wr)(f c)(m k h)(l g:YZ ZY)(i)(d)(j:H->U E):Prop where
 r:Gz wr c m g (k+h)
 p:Ek e f c
 q:Aa (λa=>f a<=13∨f a=99) e wr
 v:∀b,b<4->g[b]? =l[b]?
 z:∀a,B e.1<=a->c a<=13∨c a=99
 o:ZD wr 0 25 1 i (F d) d
 u:∀a,ZW i=T a->c a=99
 n:∀b,h<=b->b<F d->Ad wr 0 (Z d b Ir) (j b)/\∀a,ZW (Z d b Ir)=T a->c a=99
 t:∀b,b<F d->∀a,ZW (Z d b Ir)=T a->a<B e.1
 N:∀a,a<B e.1->f a=99->c a<=13∨c a=99
def Zi5.ab{x wr y v w n j f s t i g q}(c:Zi5 x wr v w n j f s t i g q)(L:f<F g)(G:∀f d,f<d->d<F g->∀a,ZW (Z g f Ir)=T a->ZW (Z g d Ir)≠T a)(S:rl wr y w n (j+f) (Z g f Ir) t):∃p m,Zi5 x y v p n j (f+1) s m i g q:=by
 obtain⟨p,m,z,k,l,A,a1,r,a2⟩:=S;have P:=c.q.size;have Q:=(c.n f x_ L)
 have M:∀a,ZW i=T a->ZW (Z g f Ir)≠T a:=λa b e=>by
  have⟨h,u⟩:=Ac c.o b;have⟨o,D⟩:=Ac Q.1 e
  grind
 have u:∀{W R:H} {i a0},ZD wr 0 W 1 i R a0->_:=λN a b=>(B_ N a b).2;refine⟨p,m,z,c.p.T P k,c.q.c l (λa b=>?_),λd o=>(A d o).T (c.v d o),λa b=>?_,l.M c.o (λa b e=>?_),λa b=>r a (u c.o a b) (c.u a b) (M a b),λd o h=>⟨l.M (c.n d O h).1 (λa b e=>?_),λa b=>r a (u (c.n d O h).1 a b) ((c.n d O h).2 a b) (λe=>G f d O h a e b)⟩,c.t,λa b D=>?_⟩
 ·have:=c.p a
  grind
 ·have:=c.z a b;have:=k a
  grind
 ·rcases e with e|e
  have:=c.u a b;omega
  grind
 ·rcases e with e|e
  have:=(c.n d O h).2 a b;omega
  grind
 have:=c.N a b D;have:=k a
 grind
def Gz.f{t y f o P a6 j}{Ls:H->U E}(c5:Gz t y f P o)(S:ZD t 0 25 1 a6 (F j) j)(a4:∀a,ZW a6=T a->y a=99)(b6:∀i,i<F j->Ad t 0 (Z j i Ir) (Ls i)/\∀a,ZW (Z j i Ir)=T a->y a=99)(c8:∀i,F (Ls i)<=4194304)(c7:∀c i,c<i->i<F j->∀a,ZW (Z j c Ir)=T a->ZW (Z j i Ir)≠T a)(f4:F j<=1000)(g6:o<=10000000)(d2:∀a,B t.1<=a->y a=99):C_ 144 #[Y7 (T (J f 4)),a6] t λe z=>e=ZI (Y5 #[])/\Nz t z y f (o+F j+1) P:=by
 have e0:K (Zi5 t t y y f o 0 P P a6 _ _):=⟨c5,Ek.refl _ _,Aa.refl _ _,λ_ _=>X,λa b=>ZJ (d2 a b),S,a4,λi _ R=>b6 i R,λi R a b=>(B_ (b6 i R).1 a b).2,λa _ b5=>ZJ b5⟩;have⟨d8,e1⟩:=Y_ c7 c8;have⟨x,b9⟩:=W_ (F j);have a2:=Y b9
 obtain⟨v,A,rfl⟩:∃v A,a6=ZH v x A:=by
  rcases S.2 with⟨rfl,n⟩|⟨h,k,l,rfl,_⟩
  ·grind
  grind
 rw[<- b9] at f4 ⊢;clear c5 S a4 b6 c8 c7 d2 b9;refine dl_ ?_;go_enter func144,ntmps144;go_upto_region 1 with fail;go_loopw [4] (λh d=>∃(c:H) (s:H->H) (G:YZ ZY),c<=x/\h=ZX ZQ c/\K (Zi5 t d y s f o c P G (ZH v x A) j Ls)) (λh _=>x-ZL (ZA h))
 case atStart=>grind
 clear e0;obtain⟨c,s,G,g8,rfl,d⟩:=hrel
 by_cases f1:c<x
 ·have M:=F_ c x;have g:c<F j:=by rw[<- a2];exact f1
  obtain⟨h,rfl⟩:∃h,v=T ⟨h,0,ZP⟩:=by
   rcases d.out.o.2 with⟨_,n⟩|⟨p,k,l,e,_⟩
   omega
   grind
  have u:ZV wr (J h c)=T (Z j c Ir):=by
   have e:=d.o;rw[<- a2] at e
   grind [World.ownsRow.cellAt]
  have n:=d.r.c (d.n c x_ g).1 (d.n c x_ g).2 (e1 c) O;have p:K (∀a5,rl _ a5 _ f _ _ _->_):=λa5 k=>d.ab g d8 k
  obtain⟨q,l,r,z⟩:∃q l r,Z j c Ir=ZH q l r:=by
   have⟨q,r,e⟩:=(d.n c x_ g).1.d
   grind
  rw[z] at u n p;clear z d;go_wp2_with fail
  apply n.m;rintro e a5 ⟨rfl,k⟩;have⟨N,L,w⟩:=p a5 k;have D:=Y w;clear k w n p u;go_wp2;go_roundw;case rel=>grind
  case measure=>exact z_
 have f2:c=x:=O;subst f2;have h1:¬c<(c:E):=O;generalize wr=k at *;have⟨d6,c2,d7,d3,q⟩:=d.r.h 10 C;have⟨l,r,h2,h3⟩:=d.r.p;have g7:=q.p;have h0:F d3<=400000000:=p_ q.y;have Q:=d.r.v;have f0:=Q.lt;have⟨p,c1⟩:=W_ (-(l+1));have h6:i64.wrap (-(l+1))=p:=(by rw[Au O O,c1]);have h7:=c1.s;have h4: -1000000000000<=p:=O;have e4:ZV k (J f 12)=T (I l):=(by rw[Q.cell];exact r);have e5:=Q.frozen;have b7:=Q.set 12 (I (l+1))
 have e6:ZV (ZO k (J f 12) (I (l+1))) (J f 12)=T (I (l+1)):=by
  rw[b7.cell]
  grind
 have⟨n,W⟩:=W_ (ZN (ZO k (J f 12) (I (l+1))) (O_ #[I p] 3));have d1:B (ZO k (J f 12) (I (l+1))).1=B k.1:=(by simp[ZO]);have N:Aa (λa=>a=f) k n:=W ▸ (((Aa.refl (λa=>a=f) _).setCell (p:=(J f 12)) (λ_=>X) _).alloc _);have b8:WB n f (YS G 12 (I (l+1))):=W ▸ (b7.alloc _);have c6:H_ n (B k.1) #[I p] 3:=by rw[W,<- d1];exact hn_
 have f7:B n.1=B k.1+1:=(by rw[W];simp[ZO]);have a9:∀{e2 d4 x:H} {d5:_} {g5:_},_->d4≠90->ZD n e2 d4 1 d5 x g5:=λS f5=>N.M S (λa b e=>by subst e;exact Q.apart S f5 b.s);have c0:=a9 d.o C;have u:=Y (OwC.N (i:=10) b8 c0 (a9 q.x C) (a9 q.w C) (Ap d.o q.w C) (by rw[aH C];exact q.t) (by rw[aH C];exact q.D));have⟨g,a7⟩:=W_ (B k.1);have b0:K (H_ n g #[I p] 3):=a7 ▸ c6
 have M:K (¬(g=f∨ZW (ZH v c A)=T g∨ZW d6=T g∨ZW c2=T g)):=λe=>by
  rcases e with e|e|e|e
  omega;have:=(B_ d.o _ e).2;omega;have:=(B_ q.x _ e).2;omega;have:=(B_ q.w _ e).2;omega
 have d9:K (∀z a1 L a0,ae n z f 10 G 84 3 (λa5=>Eb a5 25 (L_ g 1 1)) (I p) (V v c A) d6 c2 d7 d3 (l+1) a1 L a0->Nz t z y f (o+c+1) P):=λz a1 L a0 w=>by
  have f3:=w.u.g b0 M;have a8:Ek k s (λa=>if a<B k.1 then s a else 99):=λa b=>ZJ (by simp[b]);have a3:∀a,a<B k.1->(λa=>if a<B k.1 then s a else 99) a=s a:=w_;have b2:(λa=>if a<B k.1 then s a else 99) g=99:=(by simp[a7]);obtain⟨D,c9⟩:∃D:H->H,D=λa=>if a<B k.1 then s a else 99:=⟨_,X⟩;rw[<- c9] at a8 a3 b2;have e3:∀a,B k.1<=a->D a=99:=w_;clear c9;have f6:=d.r.b;have b4:∀a,a<B k.1->a=f->s a=0∨13<s a:=w_;have c4:=q.z N (λa b e=>p_ (b4 a b e)) a8 C X X x_;have d0:=(a3 f f0).T f6;have a4:=λa b=>(a3 a (B_ d.o a b).2).T (d.u a b)
  have b3:∀a,(oa a0 a∨a=g)->a<B n.1->D a=99:=λa b f8=>by
   rcases b with⟨h,r,a5⟩|rfl
   exact((w.all h r).2 a a5).elim (a4 a) O;exact b2
  have e8:∀a,(oa a0 a∨a=g)->ZW a1≠T a:=λa b e=>by
   rcases b with⟨h,r,a5⟩|rfl
   exact w.G h r a a5 e;exact(w.D _ e).elim (λb1=>M (ZJ (ZJ (ZM b1)))) O
  have e7:∀a,(oa a0 a∨a=g)->ZW L≠T a:=λa b e=>by
   rcases b with⟨h,r,a5⟩|rfl
   exact w.A h r a a5 e;exact(w.z _ e).elim (λb1=>M (ZJ (ZJ (ZJ b1)))) O
  have b1:=Mt n D (λa=>oa a0 a∨a=g) 10 a1 L
  have e9:∀h∈_,Kc z (Wz n D (λa=>oa _ a∨a=g) 10 a1 L) _ (λa5=>fL a5 h _):=λh r=>
   ((Kc.all (w.all h r).1 (λa b=>cx (ZM ⟨h,r,b⟩) (b3 a (ZM ⟨h,r,b⟩)))).and (Kc.block f3 (cx (ZJ X) (b3 _ (ZJ X))))).m (λa5 c3=>⟨p,g,X,c3.1,c3.2⟩)
  have c3:=d.q.size;refine⟨_,_,(d.r.h.z N b4 a8 (λ_ _=>X) x_).D C c4 w d0 d.r.x O a4 O e8 e7 e9,(d.p.T c3 a8).T (aG c3 N.size) b1,?_,λi R=>(ZcA G 10 C i R).T (d.v i R),λa b=>?_,λa b b5=>?_⟩
  ·refine(d.q.c N (λa b=>?_)).c (ZbZ c4 w d0 C) (λa b=>?_);subst b;have:=d.p a;omega;have:=d.p a
   grind
  ·have:=d.z a b;have:=e3 a;have:=a3 a;have:=b1 a
   by_cases a5:B n.1<=a∨D a=99
   exact jy C a5;omega
  have:=d.N a b b5;have:=a3 a;have:=b1 a
  by_cases a5:D a=99
  exact jy C (ZJ a5);omega
 have D:K (tp n n f (YS G 12 (I (l+1))) 25 1 (V v c A) c (Ta j (L_ g 1 1)) 0):=⟨by rw[bc];have:=c0;rw[<- a2] at this;exact this,Aa.refl _ _,b8⟩;clear q d c0 c6 b7 b8 a9 N Q c1;go_upto_region 7 with fail;rw[<- W,<- a7];clear a7 f7 d1 e6 e4 e5 W;go_loopw [6] (λh a3=>∃a:H,a<=c/\h=ZX ZQ a/\K (tp n a3 f (YS G 12 (I (l+1))) 25 1 (ZH v c A) c (Ta j (ZH (T ⟨g,0,ZP⟩) 1 1)) a)) (λh _=>c-ZL (ZA h))
 case atStart=>grind
 clear D;obtain⟨a,g9,rfl,D⟩:=hrel
 by_cases b:a<c
 ·obtain⟨h,rfl⟩:=D.ptr b;have⟨⟨d5,a5⟩,a8,a3⟩:=D.ab a2 b u.l;clear D;refine J_ ?_
  grind
 obtain rfl:a=c:=O;have a8:=Y (D.N Eb.b (by rw[a2,ba]) (by unfold Y2;omega));clear D;go_wp2_with (at_builtin;refine ap_ [L_ g 1 1] (a8.n.M.alloc _) ?_)
 intro i2 h9 h;have b1:=a8.P Eb.b (m:=1) u.l h;obtain⟨f9,e9,rfl⟩:=h.2.2.2.2;clear h a8;go_wp2_with (at_builtin;refine ap_ [L_ g 1 1,L_ g 1 1] (b1.n.M.alloc _) ?_)
 intro i3 a5 h;have b2:=b1.P Eb.b (m:=2) u.l h;obtain⟨g0,f3,rfl⟩:=h.2.2.2.2;clear h b1;go_wp2_with (at_builtin;refine ap_ [L_ g 1 1,L_ g 1 1,L_ g 1 1] (b2.n.M.alloc _) ?_)
 intro i4 i0 h;have a3:=b2.P Eb.b (m:=3) u.l h;obtain⟨g1,f6,rfl⟩:=h.2.2.2.2;clear h b2;have c9:=(a3.v.cell 10).T u.t;have d0:=a3.v.frozen;go_wp2_with (at_builtin;refine ap_ [V v a A,L_ f9 (a+1) e9,L_ g0 (a+2) f3,L_ g1 (a+3) f6] ((u.M a3).1.alloc _) ?_)
 intro a1 g3 h;have⟨e3,c4,o⟩:=a3.M Eb.b u h;obtain⟨g2,f8,rfl⟩:=h.2.2.2.2;clear h a3 c9 d0;go_upto_region 14 with fail;generalize (ZO g3) (J f 10) (L_ g2 (F d7+4) f8)=i1 at *;have b3:=o.cell u;have b4:=n_ 0 (o.u.g b0 M);clear e3 c4;refine Af (λz=>ZV z _=T c2/\ZV z _=T (I p)) 21 k_ ⟨b3,b4⟩ (λhHeld=>?_);refine G_ ?_;refine on_ 17 λKK hK=>?_;go_simp;refine hK _ _ ⟨X_ b3,X_ b4⟩ (λhHeld=>?_);clear hK KK;try simp only[Act.put,tA_,tB_,tC_]
 refine on_ 18 λKK hK=>?_;refine aq_ [I p,I p,I p,I p] ((World.ownsRow.drew o.w).alloc _) ?_;intro L g4 h;obtain⟨e7,c4,c3⟩:=o.M Eb.b u (y_.drew.alloc x_ _) X h;have e8:=n_ 0 ((Below.heap_setCell g4 (J f 11) L g λe=>M (ZM e)).s.T (c3.u.g b0 M));obtain⟨h8,h5,rfl⟩:=h.2.2.2.2;clear h o b3 b4;refine hK _ _ ⟨e7,e8⟩ (λhHeld=>?_);clear hK KK;refine G_ ?_;refine le_ ?_;go_wp2;go_end0;exact⟨X,d9 _ _ _ _ c3⟩
def Grp.a{m l j b i}(a:Grp m l j b i):∃d g e h c f,Vb m l j b (tlB b) (tmB b) (fB b) i (V d (F c) g) (V e (F c) h) c f:=by obtain⟨o,n,c,f,a⟩:=a;obtain⟨d,g,rfl,_⟩:=Gg a.x;have⟨e,h,k,_⟩:=Gg a.w;rw[a.y] at k;subst k;exact⟨d,g,e,h,c,f,a⟩
def Vb.at{k A u i G L t n z g D p d q j o}(f:Vb k A u i G L p t (V d n g) (V q z D) j o){a}(m:a<F j):∃b h,d=T ⟨b,0,ZP⟩/\q=T ⟨h,0,ZP⟩/\∀c,E_ k c->ZV c (J b a)=T (Z j a Ir)/\ZV c (J h a)=T (Z o a Ir)/\p c (Z j a Ir) (Z o a Ir):=by
 have r:∀{s:H} {d n g e},ZD k 0 s 1 (V d n g) (F e) e->a<F e->∃b,d=T ⟨b,0,ZP⟩/\D_ k b a (Z e a Ir):=λ{s d n g e} N M=>by grind [Gg,Hn]
 have⟨b,x,v⟩:=r f.x m;have⟨h,y,w⟩:=r f.w (f.y ▸ m);exact⟨b,h,x,y,λc l=>⟨T_ l v,T_ l w,f.all a m c (.a l)⟩⟩
def Eb.cells{f j d h e a}(i:Eb f j e (V a d h)){c}(r:c<d):∃b,a=T ⟨b,0,ZP⟩/\ZV f (J b c)=T e:=by
 obtain⟨k,s,l,n,_,o|⟨g,m,rfl,q,p⟩⟩:=i
 ·grind
 grind [cell_of_row]
def Hx.cells{c e h f d}(i:Hx c f (V d e h)){b}(q:b<e):∃a,d=T ⟨a,0,ZP⟩/\ZV c (J a (b*4))=T (I f)/\ZV c (J a (b*4+1))=T (I 0)/\ZV c (J a (b*4+2))=T (I 0)/\ZV c (J a (b*4+3))=T (I 0):=by
 obtain⟨j,r,k,m,_,n|⟨g,l,rfl,p,o⟩⟩:=i
 ·grind
 grind [cell_of_row]
def Eb.d{h f g d}(e:Eb h f g d):∃b a c,d=ZH b a c/\a<=Y2:=by
 obtain⟨b,a,c,i,j,_⟩:=e
 grind
def Hx.d{f g d}(e:Hx f g d):∃b a c,d=ZH b a c/\a<=Y2:=by
 obtain⟨b,a,c,h,i,_⟩:=e
 grind
def Gz.d{f b0 a7 a6 a8}(i:Gz f b0 a7 a8 a6)(v:a6<=100000000):C_ 43 #[Y7 (T (J a7 4))] f (U_ (ZR Z0) f):=by
 have⟨b3,b6,b4,b7,u,b5,z⟩:=(i.h 4 C).a;have⟨c9,d2,d0,nq,x,d1,v⟩:=(i.h 6 C).a;have⟨d3,d6,d4,d7,y,d5,D⟩:=(i.h 8 C).a;have⟨c2,c5,c3,c6,w,c4,A⟩:=(i.h 10 C).a;have a2:K (∀j,E_ f j->_/\_):=λj m=>⟨T_ m ((i.v.cell 4).T z.t),T_ m ((i.v.cell 5).T z.D)⟩;have b8:=z.p;have a4:K (∀j,E_ f j->_/\_):=λj m=>⟨T_ m ((i.v.cell 6).T v.t),T_ m ((i.v.cell 7).T v.D)⟩;have c0:=v.p;have a5:K (∀j,E_ f j->_/\_):=λj m=>⟨T_ m ((i.v.cell 8).T D.t),T_ m ((i.v.cell 9).T D.D)⟩;have c1:=D.p;have a3:K (∀j,E_ f j->_/\_):=λj m=>⟨T_ m ((i.v.cell 10).T A.t),T_ m ((i.v.cell 11).T A.D)⟩;have b9:=A.p;have a:K (E_ f f):=y_;refine q_ ?_;go_upto_region 2 with fail
 go_loopw [3] (λb d=>∃c:H,c<=F u/\b=ZX ZQ c/\K (E_ f d)) (λb _=>F u-ZL (ZA b))
 exact⟨0,v_,X,a⟩;obtain⟨c,Q,rfl,a⟩:=hrel;have⟨q,r⟩:=a2 wr a
 by_cases s:c<F u
 ·have M:=F_ c (F u);obtain⟨S,W,rfl,rfl,b⟩:=z.at s;have⟨k,l,a1,n,g⟩:=b wr a;have⟨G,e,P,o,t⟩:=g.d;rw[o] at k b;rw[n] at l b;have p:=Y b;unfold Y2 at t;clear b g n o;go_upto_region 5 with fail;go_loopw [4] (λh L=>∃d:H,d<=e/\h=ZX ZQ d/\K (E_ f L)) (λh _=>e-ZL (ZA h))
  exact⟨0,v_,X,a⟩;obtain⟨d,R,rfl,a⟩:=hrel;have⟨q,r⟩:=a2 wr a;have⟨k,l,b⟩:=p wr a
  by_cases h:d<e
  ·obtain⟨b2,aA,g⟩:=b;injection aA with _ aA;subst aA;obtain⟨L,rfl,a0,b1,a9,c7⟩:=g.cells h;have N:=F_ d e;go_upto_region 7 with fail;go_quiet (fail);refine J_ ?_;exact⟨d+1,O,g_,below_drewN a _⟩
  clear b;have:¬d<(e:E):=O;refine J_ ?_;exact⟨c+1,O,g_,a⟩
 have:¬c<(F u:E):=O;go_upto_region 10 with fail;go_loopw [5] (λb d=>∃c:H,c<=F x/\b=ZX ZQ c/\K (E_ f d)) (λb _=>F x-ZL (ZA b))
 exact⟨0,v_,X,a⟩;obtain⟨c,Q,rfl,a⟩:=hrel;have⟨q,r⟩:=a4 wr a
 by_cases s:c<F x
 ·have M:=F_ c (F x);obtain⟨S,W,rfl,rfl,b⟩:=v.at s;have⟨k,l,⟨a1,n⟩,g⟩:=b wr a;have⟨G,e,P,o,t⟩:=g.d;rw[o] at k b;rw[n] at l b;have p:=Y b;unfold Y2 at t;clear b g n o;go_upto_region 13 with fail;go_loopw [6] (λh L=>∃d:H,d<=e/\h=ZX ZQ d/\K (E_ f L)) (λh _=>e-ZL (ZA h))
  exact⟨0,v_,X,a⟩;obtain⟨d,R,rfl,a⟩:=hrel;have⟨q,r⟩:=a4 wr a;have⟨k,l,b⟩:=p wr a
  by_cases h:d<e
  ·obtain⟨L,rfl,a0⟩:=b.2.cells h;clear b;have N:=F_ d e;go_upto_region 15 with fail;go_quiet (fail);refine J_ ?_;exact⟨d+1,O,g_,below_drewN a _⟩
  clear b;have:¬d<(e:E):=O;refine J_ ?_;exact⟨c+1,O,g_,a⟩
 have:¬c<(F x:E):=O;go_upto_region 18 with fail;go_loopw [7] (λb d=>∃c:H,c<=F y/\b=ZX ZQ c/\K (E_ f d)) (λb _=>F y-ZL (ZA b))
 exact⟨0,v_,X,a⟩;obtain⟨c,Q,rfl,a⟩:=hrel;have⟨q,r⟩:=a5 wr a
 by_cases s:c<F y
 ·have M:=F_ c (F y);obtain⟨S,W,rfl,rfl,b⟩:=D.at s;have⟨k,l,⟨a1,n⟩,g⟩:=b wr a;have⟨G,e,P,o,t⟩:=g.d;rw[o] at k b;rw[n] at l b;have p:=Y b;unfold Y2 at t;clear b g n o;go_upto_region 21 with fail;go_loopw [8] (λh L=>∃d:H,d<=e/\h=ZX ZQ d/\K (E_ f L)) (λh _=>e-ZL (ZA h))
  exact⟨0,v_,X,a⟩;obtain⟨d,R,rfl,a⟩:=hrel;have⟨q,r⟩:=a5 wr a;have⟨k,l,b⟩:=p wr a
  by_cases h:d<e
  ·obtain⟨L,rfl,a0⟩:=b.2.cells h;clear b;have N:=F_ d e;go_upto_region 23 with fail;go_quiet (fail);refine J_ ?_;exact⟨d+1,O,g_,below_drewN a _⟩
  clear b;have:¬d<(e:E):=O;refine J_ ?_;exact⟨c+1,O,g_,a⟩
 have:¬c<(F y:E):=O;go_upto_region 26 with fail;go_loopw [9] (λb d=>∃c:H,c<=F w/\b=ZX ZQ c/\K (E_ f d)) (λb _=>F w-ZL (ZA b))
 exact⟨0,v_,X,a⟩;obtain⟨c,Q,rfl,a⟩:=hrel;have⟨q,r⟩:=a3 wr a
 by_cases s:c<F w
 ·have M:=F_ c (F w);obtain⟨S,W,rfl,rfl,b⟩:=A.at s;have⟨k,l,a1,c7,n,g,_⟩:=b wr a;have⟨G,e,P,o,t⟩:=g.d;rw[o] at k b;rw[n] at l b;have p:=Y b;unfold Y2 at t;clear b g n o;go_upto_region 29 with fail;go_loopw [10] (λh L=>∃d:H,d<=e/\h=ZX ZQ d/\K (E_ f L)) (λh _=>e-ZL (ZA h))
  exact⟨0,v_,X,a⟩;obtain⟨d,R,rfl,a⟩:=hrel;have⟨q,r⟩:=a3 wr a;have⟨k,l,b⟩:=p wr a
  by_cases h:d<e
  ·obtain⟨b2,c8,_,g,a9⟩:=b;obtain⟨L,rfl,a0⟩:=g.cells h;have b1:=n_ 0 a9;have N:=F_ d e;go_upto_region 31 with fail;go_quiet (fail);refine J_ ?_;exact⟨d+1,O,g_,below_drewN a _⟩
  clear b;have:¬d<(e:E):=O;refine J_ ?_;exact⟨c+1,O,g_,a⟩
 have:¬c<(F w:E):=O;go_wp2;go_ret;exact⟨X,a⟩
end Go.Proofs.YtfcgnpchbcmdeaaGreat
