import Derived.Test.YtfcgnpchbcmdeaaGreatZsan
import Derived.Test.YtfcgnpchbcmdeaaGreatZsap
open _root_ renaming Nat->H,Int->E,List->U,rfl->X,Option->Y0,Bool->ZG,ByteArray->ZC,Array->YZ
open List renaming getD->Z,length->F,take->ZU,drop->ZF
open Array renaming size->B,toList->Y4
open Option renaming some->T,none->ZP
open Go.World renaming cell?->ZV,ownsRow->ZD,alloc->ZN,drew->YY,setCell->ZO,grownBy->Y3
open Go.Value renaming int->ZX,slice->ZH,ownBlock->ZW,agg->Y9,pointer->Y7,bool->ZR,string->YW,tuple->Y5
open Go.IntKind renaming i64->ZQ
open Int renaming toNat->ZL
open Go.Proofs renaming intOf->ZA
open Go renaming World->ZT,Value->ZY,strOfNums->ZB
open Go.Ending renaming returned->ZI
open Or renaming inl->ZM,inr->ZJ
open Go.Proofs.Tryz renaming prog->Y8
open Bool renaming false->ZZ,true->Z0
open Go.Obj renaming cells->YU
open ByteArray renaming size->ZK
open Decidable renaming decide->ZE
namespace Go.Proofs.YtfcgnpchbcmdeaaGreat
set_option linter.all false
set_option maxRecDepth 100000
set_option maxHeartbeats 8000000
open Go.RowKit List Nat Go.World Go.Proofs.Tryz Go.Value Go.IntKind Go.Lib Go.Region
def Bh(b:U (H×H))(a:H):E:=if a=0 then -1 else(Z b (a-1) (0,0)).1
def Sd(a:U (H×H)):H->U E
 |0=>[]
 |b+1=>Sd a b++[((Z a b (0,0)).1-Bh a b)%256,(Z a b (0,0)).2%256]
theorem Om{b}:∀a,F (Sd b a)=a*2
 |0=>X
 |a+1=>by simp[Sd,Om a];omega
def Sj(a:U (H×H)):U E:=[115,(F a:E)%256]++Sd a (F a)
def uj:∀(c:U (H×H)) (b:H),b<F c->∀a,a<2->(Td c)[b*2+a]? =(Su (Z c b (0,0)))[a]?
  |[],b,d=>by simp at d
  |f::c,0,_=>λa e=>by grind [Td,Su]
  |f::c,b+1,d=>λa e=>by simp only[Td];rw[getElem?_append_right (by simp[Su];omega),show(b+1)*2+a-F (Su f)=b*2+a by simp[Su];omega];exact uj c b (by simpa using d) a e
def Xp.b{c l f m a}(i:Xp c l (V f (F a) m) a){k}(p:k<F a):∃d,f=T ⟨d,0,ZP⟩/\d<B c.1/\ZV c (J d (k*2))=T (I (Z a k (0,0)).1)/\ZV c (J d (k*2+1))=T (I (Z a k (0,0)).2):=by
 have n:=i
 rcases n.2 with⟨g,v⟩|⟨h,t,u,g,_,o,w,_⟩
 omega;injection g with e1 e2 e3;subst e1;have r:ZD c _ _ 2 _ _ _:=i
 have j:∀b e,b<2->(Su (Z a k (0,0)))[b]? =T e->ZV c (J h (k*2+b))=T e:=λb e q s=>by rw[World.ownsRow.cellAt r (k*2+b) O];exact(uj a k p b q).T s
 exact⟨h,X,(Qb o).1,j 0 _ O X,j 1 _ O X⟩
def dx D {b7 R d5 b} h j c f (m:ku f 0 D b7 R d5 b)(z:Az f 0 (V h (F c) j) c)(e3:F b<=1000)(b3:∀x∈b,x.1<=1000/\x.2<=1000)(e7:F c<=1000000):C_ 370 #[P_ D,V h (F c) j] f λl a=>ZaD f (V h (F c) j) c (Sj b) l a:=by
 have⟨d9,q,L⟩:=y3_ z m b3;have⟨P,Q,d3⟩:=m.M.d;subst d3;have c7:=n_ 2 m.r;have s:K _:=z;have c4:K (Sj b=_++_):=rfl;clear z m b3;generalize a5:F c=e,b2:F b=d at *;have p:=K_ a5 b2;clear a5 b2;refine q_ ?_;go_wp2_with (at_builtin;refine ap_ [ZX .u8 115,ZX .u8 ((d:E)%256)] (s.alloc _) ?_)
 rintro f5 d6 ⟨b8,a0,W,_,f3,f1,d1⟩;have A:=Ei.b r_ (Ei.a a0 W s_);have a1:Az _ 0 _ (_++[_,_]):=Az.P (n:=2) (p.1 ▸ b8) X;subst d1
 have M:K (∀v c0,Ei f (V h e j) v c0->ku v 0 D b7 R (V P d Q) b):=λv c0 a2=>by refine⟨a2.1.g q.r (λl=>Ag s l q.r C X),a2.1.M q.M (λa b0 l=>?_)⟩;have⟨i,g⟩:=Ac q.M b0;exact Ag s l g C X
 have r:=K_ A a1;have c6:ZV d6 _=T (V _ _ _):=M_ 2 _ _ _ (M _ _ A).r;clear b8 a0 W A a1 c7;go_wp2_with fail
 go_loopw [1,5,22] (λo n g l=>∃(a:H) (i:Y0 Addr) (k:H),o=ZH i (e+2+a*2) k/\n=ZX ZQ (Bh b a)/\g=ZX ZQ a/\a<=d/\K (Az l 0 (ZH i (e+2+a*2) k) (c++[115,(d:E)%256]++Sd b a)/\Ei f (ZH h e j) l (ZH i (e+2+a*2) k))) (λ_ _ g _=>d-ZL (ZA g))
 exact⟨0,_,_,X,X,X,v_,by show Az _ _ _ (_++[])/\_;rw[append_nil];exact⟨r.2,r.1⟩⟩;clear r c6;obtain⟨a,i,k,rfl,rfl,rfl,b0,g⟩:=hrel
 by_cases c9:a<d
 ·have m:=M _ _ g.2;have b1:a<F b:=p.2 ▸ c9;have b5:=m.M;have b6:Xp wr 0 (V P (F b) Q) b:=p.2 ▸ b5;have⟨f2,d0,e8,d7,d8⟩:=b6.b b1;subst d0;have a9:Z b a (0,0)=b[a]:=w_;have b4:=L _ (Qf b1);rw[<- a9] at b4;have u:K (c++[115,(d:E)%256]++Sd b (a+1)=(c++[115,(d:E)%256]++Sd b a)++[((Z b a (0,0)).1-Bh b a)%256,(Z b a (0,0)).2%256]/\Bh b (a+1)=(Z b a (0,0)).1):=⟨by simp[Sd],by simp[Bh]⟩
  have c8: -1<=Bh b a/\Bh b a<=1000:=by
   unfold Bh;split;omega;have n:a-1<F b:=O;have l:Z b (a-1) (0,0)=b[a-1]:=w_;have o:=(L _ (Qf n)).1
   grind
  have G:K (F (c++[115,(d:E)%256]++Sd b a)=e+2+a*2):=(by show _=_;rw[Qe,Qe,Om,p.1];rfl);have t:K (ZD wr 0 5 1 (V i (e+2+a*2) k) (e+2+a*2) ((c++[115,(d:E)%256]++Sd b a).map (ZX .u8))):=(by have l:=g.1;unfold Az at l;rw[G] at l;exact l);generalize c++[115,(d:E)%256]++Sd b a=e0,Bh b a=w at *;obtain⟨e9,f0⟩:=b4;obtain⟨e4,e5⟩:=c8;clear a9 b5 b6 m;generalize (Z b a (0,0)).1=n,(Z b a (0,0)).2=o,a6:e+2+a*2=N at *;have c3:=Y a6;have e6:N<=1002002:=O;clear a6;have e1:=F_ a d;go_wp2_with (at_builtin;refine ap_ [ZX .u8 (((n:E)-w)%256),ZX .u8 ((o:E)%256)] ((t.alloc _).alloc _) ?_)
  rintro c1 c2 ⟨b9,y,S,_,f4,d4,d2⟩;have a8:Below _ wr (ZN (ZN wr (O_ #[I (n:H),I (o:H)] 405)) (O_ #[ZX .u8 (((n:E)-w)%256),ZX .u8 ((o:E)%256)] 5)):=r_.alloc s_ _;have a4:(ZN (ZN wr (O_ #[I (n:H),I (o:H)] 405)) (O_ #[ZX .u8 (((n:E)-w)%256),ZX .u8 ((o:E)%256)] 5)).1[B wr.1]? =_:=(hc_ s_).T hn_
  have a3:=(y.block _ t_ (λl=>by
   have:=(B_ t _ l.s).2
   omega)).T a4
  have e2:=n_ 0 a3;have l:K (Az c2 0 c1 (c++[115,(d:E)%256]++Sd b (a+1))/\Ei f (V h e j) c2 c1):=(by refine⟨?_,g.2.T (Ei.b a8 (Ei.a y S s_))⟩;rw[u.1];refine Az.P (n:=2) ?_ X;rw[G];exact b9);subst d2;have c5:=Y u.2;clear b9 y S t g a8 a4 a3 u d7 d8;have a7:N+2=e+2+(a+1)*2:=p_ c3.out;rw[a7] at l ⊢;clear a7;refine J_ ?_;exact⟨a+1,T _,d4,X,by rw[c5],g_,O,l⟩
 have t:¬a<(d:E):=O;have o:a=d:=O
 have n:K (Az wr 0 (V i (e+2+a*2) k) (c++Sj b)/\Ei f (V h e j) wr (V i (e+2+a*2) k)):=by
  refine⟨?_,g.2⟩;rw[c4,<- append_assoc];have l:=g.1
  grind
 clear o g;go_wp2;go_ret;exact⟨_,X,n⟩
def ay{j m a3 z e f g a b}(r:Oo b 0 j m a3 z e)(M:Az b 0 (V f (F a) g) a)(S:ZW (ZH f (F a) g)≠T m)(W:F e=0)(a7:F a<=1000000):C_ 374 #[P_ j,V f (F a) g] b λc k=>ZaD b (V f (F a) g) a (100::e) c k:=by
 have⟨v,i,y⟩:=y3_ M r S;have q:=n_ 2 r.r;generalize R:F a=d,a1:F e=t at *;have h:=K_ R a1;refine q_ ?_;go_upto_region 1 with fail;refine Af (λk=>ZV k _=T _) 8 k_ q (λhHeld=>?_);refine G_ ?_;refine G_ ?_;refine G_ ?_;refine G_ ?_;refine G_ ?_;refine on_ 1 λKK hK=>?_;go_simp;refine hK _ _ (X_ q) (λhHeld=>?_);try simp only[Act.put,sA,sB,sC]
 refine on_ 2 λKK hK=>?_;have s:ZD b 0 5 1 (V f d g) d (a.map (ZX .u8)):=(by have c:=v.out;unfold Az at c;rw[h.1] at c;exact c);refine aq_ [ZX .u8 100] (ra_ (w:=YY b) s _) ?_;rintro a9 n ⟨a4,L,A,_,u,l,a2⟩;have Q:E_ b (ZN (YY b) (O_ #[ZX .u8 100] 5)):=((br_ _ b).drew).alloc x_ _;have k:=Ei.b Q (Ei.a L A x_);have N:=k.1.g i.r (λc=>Ag s c i.r C X);have P:Az _ 0 _ _:=k.1.M i.M (λp o c=>y (by simp[ZW] at o;rw[o];exact c));have p:D_ n j 2 (L_ m t t):=(by have c:=n_ 2 N;rw[h.2] at c;exact c);have⟨w,a5,o⟩:=y3_ k P a4;subst a2;refine hK _ _ p (λhHeld=>?_);try simp only[Act.put,sA,sB,sC]
 refine on_ 7 λKK hK=>?_;have a0:=W;subst a0
 have a6:d+1<=l:=by
  rcases o.out.2 with⟨c,_⟩|⟨G,x,D,c,_,_,a8,_⟩
  ·cases c
  grind
 go_simp;have x:K (Az n 0 (L_ u (d+1) l) (a++100::e)/\Ei b (V f d g) n (L_ u (d+1) l)):=(by refine⟨?_,w⟩;unfold Az;have c:=length_eq_zero_iff.1 h.2;have D:F (a++100::e)=d+1:=(by rw[c,Qe,h.1];rfl);have G:(a++100::e).map (ZX .u8)=a.map (ZX .u8)++[ZX .u8 100]:=(by rw[c];simp);rw[D,G];exact o);refine hK _ _ p (λhHeld=>?_);try simp only[Act.put,sA,sB,sC]
 refine la1_ λKK hK=>?_;go_simp;apply hK _ _;try simp only[Act.put,sA,sB,sC]
 refine Fr k_ ?_ _;go_wp2;go_ret;exact⟨_,X,x⟩
structure Ie(a d)(c)(e):Prop where
 o:E_ a d
 x:Az d 0 c e
 z:∀b,ZW c=T b->B a.1<=b
def kq(d:ZT)(a:U E)(e:Ending)(f:ZT):Prop:=∃b c,e=ZI (ZH b (F a) c)/\Ie d f (V b (F a) c) a
def Ie.n{f j d i c k e}(a:Ie f j i k)(m:Az d 0 c e)(g:Ei j i d c):Ie f d c e:=by
 refine⟨a.o.T (g.1.b a.o.size (λh b=>a.z h b)),m,λh l=>?_⟩
 rcases g.2 h l with b|b
 exact a.z h b;exact aG a.o.size b
def Ie.q{b f w' e c}(a:Ie b f e c)(d:E_ f w'):Ie b w' e c:=⟨a.o.T (d.m a.o.size),(Aa.a (S:=λ_=>False) d).M a.x (λ_ _=>id),a.z⟩
def ZaD.out{b g h f a e c}(k:Ie b g f a)(l:ZaD g f a e c h):kq b (a++e) c h:=by obtain⟨n,rfl,d,m⟩:=l;obtain⟨i,j,rfl⟩:=d.a;exact⟨i,j,X,k.n d m⟩
def ax f {k o l d} b c a e (h:Oo e 0 f k o l d)(g:Az e 0 (V b (F a) c) a)(j:ZW (ZH b (F a) c)≠T k)(n:F d<=1000)(i:F a<=1000000):C_ 374 #[P_ f,V b (F a) c] e λm p=>ZaD e (V b (F a) c) a (100::d) m p:=by
 by_cases m:F d=0
 exact ay h g j m i;exact hh h g j O n i
def Ia(a:U H)(b:H):U E:=if 4*nzN a<F a then Sj (Bu a (F a)) else 100::Bg (Cf a (Lib.bitLen b)) ((F a*Lib.bitLen b+7)/8) (F a*Lib.bitLen b)
def Sr(b:U H):U E:=b.map (λa=>(a:H)%256)
def Dq(a:BS):U E:=[(F a.fs:E)%256]++Sr a.fs++Ia a.N a.g
def ZjC{a:U H}{b}(c:b<F a):Sr (ZU (b+1) a)=Sr (ZU b a)++[((Z a b 0:H):E)%256]:=by
 unfold Sr;rw[Qi c,map_append]
 grind
def Zjs{p:Prop}(h:p:=by
 clear D;go_wp2_with fail
 apply y.m;rintro c c3 ⟨P,Q,rfl,f⟩;rw[<- a6] at f ⊢;have⟨b8,o⟩:=W_ (F (e++Dq a));rw[<- o] at f ⊢;have⟨A,L⟩:=Y_ o f;clear f y o;go_wp2;go_ret
 exact⟨P,Q,by rw[<- A];rfl,by rw[<- A];exact L⟩):p:=h
def ao h {G w a c4} k l e r (b5:Ad h 0 (V G (F a.fs) w) (An a.fs))(a0:Id h 0 c4 a.N a.g)(a1:Ie h r (V k (F e) l) e)(e2:F a.fs<=1000)(b6:∀R∈a.fs,R<=1000)(e6:F e<=900000)(a2:F (Bu a.N (F a.N))<=1000/\∀x∈Bu a.N (F a.N),x.1<=1000/\x.2<=1000)(c1:F (Bg (Cf a.N (Lib.bitLen a.g)) ((F a.N*Lib.bitLen a.g+7)/8) (F a.N*Lib.bitLen a.g))<=1000):C_ 101 #[Y9 #[V G (F a.fs) w,c4],V k (F e) l] r λc i=>kq h (e++Dq a) c i:=by
 have⟨a4,c9⟩:=Y_ a1 b5;have⟨q,g,a3⟩:=a0.iface
 have M:K (∀p k l j,Ie h p (V k (F j) l) j->F j<=1000000->(q=380/\Calls Y8 370 #[P_ g,V k (F j) l] p λc i=>kq h (j++Ia a.N a.g) c i)∨(q=382/\Calls Y8 374 #[P_ g,V k (F j) l] p λc i=>kq h (j++Ia a.N a.g) c i)):=λp k l j s b1=>by
  rcases a0 with⟨o,y,c,v,z,m,_,b⟩|⟨o,y,c,u,t,m,_,b⟩
  left;rw[a3,m] at c;injection c with e3 e4;injection e4 with e4;injection e4 with e4;injection e4 with e4 _;subst e4;refine⟨e3,?_⟩;have d:=s.o;have n:ku p 0 g _ _ _ _:=⟨(d.block _ (Qb b.r).1).T b.r,(Aa.a (S:=λ_=>False) d).M b.M (λ_ _=>id)⟩;apply (dx g k l j p n s.x a2.1 a2.2 b1).m;intro c i f;unfold Ia;rw[aD o];exact f.out s;right;rw[a3,m] at c;injection c with e3 e4;injection e4 with e4;injection e4 with e4;injection e4 with e4 _;subst e4;refine⟨e3,?_⟩;have d:=s.o;have n:Oo p 0 g _ _ _ _:=⟨(d.block _ (Qb b.r).1).T b.r,(Aa.a (S:=λ_=>False) d).M b.M (λ_ _=>id)⟩;refine(ax g k l j p n s.x (λc=>?_) c1 b1).m ?_;have i:=s.z _ c;have f:=(B_ b.M t X).2;omega
  intro c i f;unfold Ia;rw[aC o];exact f.out s
 subst a3;have d0:=Y b6;have a7:K _:=a1.x;have c7:K (Dq a=_++_):=rfl
 have d4:q=380∨q=382:=by
  rcases M.out r k l e a4 O with f|f
  exact ZM f.1;exact ZJ f.1
 clear b5 a0 a1 b6 a2 c1;generalize b3:F e=n,c0:F a.fs=d at *;have t:=K_ b3 c0;clear b3 c0;refine q_ ?_;go_wp2_with (at_builtin;refine ap_ [ZX .u8 ((d:E)%256)] ((a7.alloc _).alloc _) ?_)
 rintro f1 d9 ⟨c2,S,a8,_,e9,e8,d5⟩;have b4:Below _ r (ZN (ZN r (O_ #[V G d w,.iface q (P_ g)] 163)) (O_ #[ZX .u8 ((d:E)%256)] 5)):=r_.alloc s_ _;have b0:=Ei.b b4 (Ei.a S a8 s_);have b2:Az _ 0 _ (_++[_]):=Az.P (n:=1) (t.1 ▸ c2) X
 have W:H_ d9 (B r.1) #[V G d w,.iface q (P_ g)] 163:=(S.block _ t_ (λc=>by
  have:=(B_ a7 _ c.s).2
  omega)).T ((hc_ s_).T hn_)
 have a9:=a4.out;have a5:=K_ (a9.n b2 b0) W;have d1:=n_ 0 W;subst d5;clear c2 S a8 b0 b2 W b4 a9;go_wp2_with fail
 go_loopw [1,17] (λi c f=>∃(b:H) (u:Y0 Addr) (v:H),i=ZH u (n+1+b) v/\c=ZX ZQ b/\b<=d/\K (Ie h f (ZH u (n+1+b) v) (e++[(d:E)%256]++Sr (ZU b a.fs))/\H_ f (B r.1) #[ZH G d w,.iface q (Y7 (T ⟨g,0,ZP⟩))] 163)) (λ_ c _=>d-ZL (ZA c))
 exact⟨0,_,_,X,X,v_,by rw[take_zero];show Ie _ _ _ (_++[])/\_;rw[append_nil];exact a5⟩;clear a5 d1;obtain⟨b,u,v,rfl,rfl,e5,m⟩:=hrel;have z:K (F (e++[(d:E)%256]++Sr (ZU b a.fs))=n+1+b):=by show _=_;rw[Qe,Qe,t.1];have o:F (Sr (ZU b a.fs))=b:=(by unfold Sr;rw[length_map,length_take,t.2];omega);rw[o];rfl
 by_cases b9:b<d
 ·have b8:b<F a.fs:=t.2 ▸ b9;have a6:=c9.q m.1.o;obtain⟨y,d2,e7,_,c6,_⟩:=a6.b (by rw[Ak];exact t.2) b9;rw[Bq] at c6;subst d2;have b7:Z a.fs b 0=a.fs[b]:=w_;have d3:=d0 _ (Qf b8);rw[<- b7] at d3;have A:K (e++[(d:E)%256]++Sr (ZU (b+1) a.fs)=(e++[(d:E)%256]++Sr (ZU b a.fs))++[((Z a.fs b 0:H):E)%256]):=(by show _=_;rw[ZjC b8,append_assoc (e++[(d:E)%256])]);have f:K (ZD wr 0 5 1 (V u (n+1+b) v) (n+1+b) ((e++[(d:E)%256]++Sr (ZU b a.fs)).map (ZX .u8))):=by have o:=m.1.x;unfold Az at o;rw[z] at o;exact o
  generalize e++[(d:E)%256]++Sr (ZU b a.fs)=N at *;clear b7 a6;generalize (Z a.fs) b 0=R,Q:n+1+b=o at *;have c8:=Y Q;have e1:o<=902002:=O;clear Q;have e0:=F_ b d;go_wp2_with (at_builtin;refine ap_ [ZX .u8 ((R:E)%256)] (f.alloc _) ?_)
  rintro d8 c5 ⟨c3,L,D,_,f0,d7,d6⟩;have i:K (Ie h c5 d8 (e++[(d:E)%256]++Sr (ZU (b+1) a.fs))/\H_ c5 (B r.1) #[L_ y d w,.iface q (P_ g)] 163):=(by have P:=Ei.b (v:=V _ _ _) r_ (Ei.a L D s_);refine⟨m.1.n ?_ P,P.1.g m.2 (λc=>Ag f c m.2 C X)⟩;rw[A];refine Az.P (n:=1) ?_ X;rw[z];exact c3);subst d6;clear c3 L D f m A c6;have c:o+1=n+1+(b+1):=p_ c8.out;rw[c] at i ⊢;clear c;refine J_ ?_;exact⟨b+1,T _,d7,X,g_,O,i⟩
 have c6:¬b<(d:E):=O;have b7:ZU b a.fs=_:=aI (p_ t.2);have a6:K (e++Dq a=(e++[(d:E)%256]++Sr (ZU b a.fs))++Ia a.N a.g):=(by show _=_;rw[c7,b7,append_assoc,append_assoc,append_assoc]);have c5:=n_ 1 m.2;have D:=Y (M _ _ _ _ (by rw[z];exact m.1) (by rw[z];omega));rw[z] at D;generalize e++[(d:E)%256]++Sr (ZU b a.fs)=N at *;clear m b7 M
 rcases d4 with rfl|rfl
 ·have y:C_ 370 #[P_ g,V u (n+1+b) v] wr λc i=>kq h (N++Ia a.N a.g) c i:=by
   rcases D.out with f|f
   exact f.2;exact absurd f.1 C
  exact Zjs
 have y:C_ 374 #[P_ g,V u (n+1+b) v] wr λc i=>kq h (N++Ia a.N a.g) c i:=by
  rcases D.out with f|f
  exact absurd f.1 C;exact f.2
 exact Zjs
def Lr(a:U E):U E:=a.flatMap (λb=>Ba b 4)
def ZgU{a:U E}{b}(c:b<F a):Lr (ZU (b+1) a)=Lr (ZU b a)++Ba (Z a b 0) 4:=by
 unfold Lr;rw[Qi c,flatMap_append]
 grind
def ZaS a:F (Lr a)=F a*4:=by
 induction a with
 |nil=>rfl
 | cons c a b=>
  grind [Lr,Dr]
def knB(a:KS):U E:=[110,(a.d:E)%256,a.e.b%256]++Lr a.e.f
def hw s {o} t {p} u {a} b5 b6 d m (R:a.e.a=ZZ)(c1:Ad s 0 (V o (F a.e.f) p) a.e.f)(N:Ie s m (V b5 (F d) b6) d)(f2:F a.e.f<=1000)(d2:∀x∈a.e.f,-1000000000000<=x/\x<=1000000000000)(f3:F d<=900000):C_ 100 #[Y9 #[ZR a.e.a,V o (F a.e.f) p,V t 0 u,I a.d],V b5 (F d) b6] m λf i=>kq s (d++knB a) f i:=by
 rw[R];have⟨d7,d9,e2⟩:=y3_ N c1 d2;have c7:a.e.b=F a.e.f:=by unfold ES.b Kz;rw[R];rfl
 have e0:K (knB a=[110,(a.d:E)%256,F a.e.f%256]++Lr a.e.f):=by show _=_;unfold knB;rw[c7]
 have d8:K (∀G:_,Calls _ 169 _ G λf i=>f=ZI (ZX _ ((F a.e.f:H):E))/\_):=λG=>Uj ZZ o t _ p 0 u G;have b2:K _:=N.x;clear c1 N d2 R c7;generalize a.d=h,c6:F d=g,d1:F a.e.f=c at *;have n:=K_ c6 d1;clear c6 d1;refine q_ ?_;go_upto_region 4 with fail;generalize M:ZN m (O_ #[ZR ZZ,V o c p,V t 0 u,I (h:H)] 172)=W;have c0:E_ m W:=(by rw[<- M];exact r_);have l:W.1[B m.1]? =T (O_ #[ZR ZZ,V o c p,V t 0 u,I h] 172):=(by rw[<- M];exact hn_);have S:=(Qb l).1;have a0:=n_ 0 l;have a1:=n_ 1 l;have a2:=n_ 2 l;have a3:=n_ 3 l;have b4:=K_ l c0;clear M c0 l;refine Af (λi=>ZV i _=T _/\ZV i _=T _/\ZV i _=T _/\ZV i _=T _) 11 k_ ⟨a0,a1,a2,a3⟩ (λhHeld=>?_);refine G_ ?_
 refine on_ 7 λKK hK=>?_;go_simp;apply (d8 _).m;rintro f d6 ⟨rfl,c4⟩;have y:=(br_ (B W.1) _).drew.T c4;have⟨w,a4,a5,a6⟩:=k4_ y a0 a1 a2 a3;have f0:=Qh S y.size;go_simp;refine hK _ _ ⟨w,a4,a5,a6⟩ (λhHeld=>?_);clear hK KK c4;refine G_ ?_;refine on_ 9 λKK hK=>?_;go_simp;refine hK _ _ ⟨X_ w,X_ a4,X_ a5,X_ a6⟩ (λhHeld=>?_);clear hK KK;try simp only[Act.put,sA,sB,sC]
 refine on_ 10 λKK hK=>?_;have z:=b4.2.T (y.m (Nat.le_of_lt S));refine aq_ [ZX .u8 110,ZX .u8 ((h:E)%256),ZX .u8 ((c:E)%256)] (ra_ (w:=d6) ((Aa.a (S:=λ_=>False) z).M b2 (λ_ _=>id)) _) ?_;rintro g0 g2 ⟨d5,L,b7,_,f8,f6,e9⟩;have c5:Below _ m (ZN d6 (O_ #[ZX .u8 110,ZX .u8 ((h:E)%256),ZX .u8 ((c:E)%256)] 5)):=z.alloc z.size _;have b9:=Ei.b c5 (Ei.a L b7 x_);have c3:Az _ 0 _ (_++[_,_,_]):=Az.P (n:=3) (n.1 ▸ d5) X
 have q:=(L.block _ t_ (λf=>by
  have:=(B_ b2 _ f.s).2
  omega)).T ((hc_ f0).T ((y.block _ S).T b4.1))
 have b8:=d7.out;have D:=K_ (b8.n c3 b9) q;have a7:=n_ 0 q;have a8:=n_ 1 q;have a9:=n_ 2 q;have b0:=n_ 3 q;subst e9;clear d5 L b7 c5 b9 c3 q b8 w a4 a5 a6 z;refine hK _ _ ⟨a7,a8,a9,b0⟩ (λhHeld=>?_);clear hK KK;try simp only[Act.put,sA,sB,sC]
 refine le_ ?_;clear a0 a1 a2 a3 hHeld;have e6:=n_ 1 D.2;go_wp2_with fail
 go_loopw [1,28] (λv i e=>∃(b:H) (j:Y0 Addr) (k:H),v=ZH j (g+3+b*4) k/\i=ZX ZQ b/\b<=c/\K (Ie s e (ZH j (g+3+b*4) k) (d++[110,(h:E)%256,(c:E)%256]++Lr (ZU b a.e.f))/\e.1[B m.1]? =T (YU #[ZR ZZ,ZH o c p,ZH t 0 u,ZX ZQ (h:H)] 172 (0,0)))) (λ_ i _=>c-ZL (ZA i))
 exact⟨0,_,_,X,X,v_,by rw[take_zero];show Ie _ _ _ (_++[])/\_;rw[append_nil];exact D⟩;clear D e6;obtain⟨b,j,k,rfl,rfl,e7,e⟩:=hrel;have f5:=(Qb e.2).1;have r:K (F (d++[110,(h:E)%256,c%256]++Lr (ZU b a.e.f))=g+3+b*4):=by show _=_;rw[Qe,Qe,ZaS,length_take,n.1,n.2,Nat.min_eq_left e7];rfl
 by_cases d0:b<c
 ·have c9:b<F a.e.f:=n.2 ▸ d0;have c2:=d9.q e.1.o;have⟨f7,e8,f4,_,w,_⟩:=c2.b n.2 d0;subst e8;have c8:Z a.e.f b 0=a.e.f[b]:=w_;have A:=e2 _ (Qf c9);rw[<- c8] at A;have b3:K (d++[110,(h:E)%256,c%256]++Lr (ZU (b+1) a.e.f)=(d++[110,(h:E)%256,c%256]++Lr (ZU b a.e.f))++Ba (Z a.e.f b 0) 4):=(by show _=_;rw[ZgU c9,append_assoc (d++_)]);generalize d++[110,(h:E)%256,(c:E)%256]++Lr (ZU b a.e.f)=e3 at *;clear c8 c2;generalize (Z a.e.f) b 0=x at *;have b1:C_ 102 #[V j (g+3+b*4) k,I x,I 4] wr λf i=>ZaD wr (V j (g+3+b*4) k) e3 (Ba x 4) f i:=(by have v:=e.1;rw[<- r] at v ⊢;exact Ou _ _ 4 x v.x O (by rw[r];omega) A.1 A.2);have f1:=F_ b c;clear A hHeld a7 a8 a9 b0;go_wp2_with fail
  apply b1.m;rintro f g1 ⟨f9,rfl,P,Q⟩;have v:=e.1.n P Q;have d4:=Q.1.g e.2 (λf=>Ag e.1.x f e.2 C X);have⟨e4,e5,d3⟩:=P.a;rw[Qe,Dr,r,show g+3+b*4+4=g+3+(b+1)*4 by omega] at d3;subst d3;rw[<- b3] at v;have e1:=K_ v d4;clear b1 P Q v d4 e b3 w;refine J_ ?_;exact⟨b+1,e4,e5,X,g_,O,e1⟩
 have c8:¬b<(c:E):=O;have Q:ZU b a.e.f=_:=aI (p_ n.2);have A:K (Ie s wr (V j (g+3+b*4) k) (d++knB a)/\F (d++knB a)=g+3+b*4):=(by have v:=e.1;have i:=r.out;rw[Q,append_assoc,<- e0] at v i;exact⟨v,i⟩);have c2:=n_ 2 e.2;clear Q e r hHeld a7 a8 a9 b0;obtain⟨P,b1⟩:∃P,P=wr:=⟨wr,X⟩;subst b1;go_wp2_with fail
 go_loopw [1,40] (λv i b3=>v=ZH j (g+3+b*4) k/\i=ZX ZQ 0/\K (P=b3)) (λ_ _ _=>0)
 exact⟨X,X,X⟩;obtain⟨rfl,rfl,i⟩:=hrel;have v:=i.out;subst v;clear i;go_wp2;go_ret;exact⟨j,k,by rw[A.2];rfl,A.2 ▸ A.1⟩
def Lw(b:List ByteArray):List Int:=b.flatMap (λa=>a.size%256::Ab a)
def ZiL{a:List ByteArray}{b}(d:b<a.length) c:Lw (a.take (b+1))=Lw (a.take b)++((a.getD b c).size:Int)%256::Ab (a.getD b c):=by
 unfold Lw;rw[Qi d,flatMap_append]
 grind
def ng(a:KS):U E:=[119,(a.d:E)%256,a.e.b%256]++Lw a.e.c
def Ie.D{b g f c}(a:Ie b g f c):Az g (B b.1) f c:=by
 refine⟨a.x.1,?_⟩
 rcases a.x.2 with j|⟨e,h,i,d,_,k⟩
 exact ZM j;exact ZJ ⟨e,h,i,d,a.z e (by rw[d];rfl),k⟩
def Ie.a{a c e d}(f:E_ a c)(b:Az c (B a.1) e d):Ie a c e d:=by
 refine⟨f,⟨b.1,?_⟩,λi g=>(B_ b i g).1⟩
 rcases b.2 with h|⟨m,j,k,l,_,n⟩
 exact ZM h
 grind
def Bj.d{f i g d j b}(h:Bj f i (V g d j) b)(o:F b=d){a}(s:a<d) k:∃e,g=T ⟨e,0,ZP⟩/\e<B f.1/\ZV f (J e a)=T (Q_ (Z b a k)):=by
 have m:=h;subst o
 rcases h.2 with⟨c,r⟩|⟨l,p,q,c,_,n,_⟩
 omega;simp only[slice.injEq,true_and] at c;obtain⟨rfl,rfl⟩:=c;refine⟨l,X,(Qb n).1,?_⟩;rw[World.ownsRow.cellAt m a O]
 grind
theorem Ss a:F (Ab a)=ZK a:=by unfold Ab;rw[length_map];rfl
def qd a:Go.Lib.strCells a=(Ab a).map (ZX .u8):=by unfold Go.Lib.strCells Ab;rw[map_map];rfl
def bw i s {n} u {o a} c1 c2 e l (a7:a.e.a=true)(d1:Bj i 0 (V n a.e.c.length o) a.e.c)(a6:Ie i l (V c1 e.length c2) e)(j3:a.e.c.length<=1000)(e3:∀x∈a.e.c,x.size<=8)(j5:e.length<=900000):C_ 100 #[.agg #[.bool a.e.a,V s 0 u,V n a.e.c.length o,I a.d],V c1 e.length c2] l λf b=>kq i (e++ng a) f b:=by
 rw[a7];have⟨f7,f9,g3⟩:=y3_ a6 d1 e3;have e0:a.e.b=a.e.c.length:=by unfold ES.b Kz;rw[a7];rfl
 have g0:K (ng a=[119,(a.d:Int)%256,a.e.c.length%256]++Lw a.e.c):=by show _=_;unfold ng;rw[e0]
 have f8:K (∀W:_,Calls _ 169 _ W λf b=>f=.returned (.int _ ((a.e.c.length:Nat):Int))/\_):=λW=>Uj true s n 0 u _ o W;have⟨i2,h1,h9,i0,i1⟩:=info_parts Zf3;have b8:K _:=a6.x;clear d1 a6 e3 a7 e0;generalize a.d=h,d9:e.length=D,e2:a.e.c.length=c at *;have r:=K_ d9 e2;clear d9 e2;refine q_ ?_;go_upto_region 4 with fail;generalize a4:l.alloc (O_ #[.bool true,V s 0 u,V n c o,I (h:Nat)] 172)=a9;have c9:E_ l a9:=(by rw[<- a4];exact r_);have k:a9.1[l.1.size]? =some (O_ #[.bool true,V s 0 u,V n c o,I h] 172):=(by rw[<- a4];exact hn_);have a8:=(Qb k).1;have b0:=n_ 0 k;have b1:=n_ 1 k;have b2:=n_ 2 k;have b3:=n_ 3 k;have c0:=K_ k c9;clear a4 c9 k
 refine Af (λb=>b.cell? _=some _/\b.cell? _=some _/\b.cell? _=some _/\b.cell? _=some _) 11 k_ ⟨b0,b1,b2,b3⟩ (λhHeld=>?_);refine G_ ?_;refine on_ 7 λKK hK=>?_;go_simp;apply (f8 _).m;rintro f f2 ⟨rfl,d7⟩;have G:=(br_ a9.1.size _).drew.T d7;have⟨w,b4,b5,b6⟩:=k4_ G b0 b1 b2 b3;have h8:=Qh a8 G.size;go_simp;refine hK _ _ ⟨w,b4,b5,b6⟩ (λhHeld=>?_);clear hK KK d7;refine G_ ?_;refine on_ 9 λKK hK=>?_;go_simp;refine hK _ _ ⟨X_ w,X_ b4,X_ b5,X_ b6⟩ (λhHeld=>?_);clear hK KK;try simp only[Act.put,sA,sB,sC]
 refine on_ 10 λKK hK=>?_;have L:=c0.2.T (G.m (Nat.le_of_lt a8));refine aq_ [.int .u8 119,.int .u8 ((h:Int)%256),.int .u8 ((c:Int)%256)] (ra_ (w:=f2) ((Aa.a (S:=λ_=>False) L).M b8 (λ_ _=>id)) _) ?_;rintro k0 j0 ⟨f1,a0,c4,_,i5,e8,h6⟩;have d8:Below _ l (f2.alloc (O_ #[.int .u8 119,.int .u8 ((h:Int)%256),.int .u8 ((c:Int)%256)] 5)):=L.alloc L.size _;have c8:=Ei.b d8 (Ei.a a0 c4 x_);have d4:Az _ 0 _ (_++[_,_,_]):=Az.P (n:=3) (r.1 ▸ f1) rfl
 have p:=(a0.block _ t_ (λf=>by
  have:=(B_ b8 _ f.s).2
  omega)).T ((hc_ h8).T ((G.block _ a8).T c0.1))
 have c7:=f7.out;have N:=K_ (c7.n d4 c8) p;have f3:=n_ 0 p;have f4:=n_ 1 p;have f5:=n_ 2 p;have f6:=n_ 3 p;subst h6;clear f1 a0 c4 d8 c8 d4 p c7 w b4 b5 b6 L;refine hK _ _ ⟨f3,f4,f5,f6⟩ (λhHeld=>?_);clear hK KK;try simp only[Act.put,sA,sB,sC]
 refine le_ ?_;clear b0 b1 b2 b3 hHeld;have g8:=n_ 1 N.2;clear f3 f4 f5 f6 hHeld;go_wp2_with fail
 go_loopw [1,28] (λj g b=>j=.slice (some ⟨i5,0,none⟩) (D+3) e8/\g=.int .i64 0/\K (j0=b)) (λ_ _ _=>0)
 exact⟨rfl,rfl,rfl⟩;obtain⟨rfl,rfl,e7⟩:=hrel;have h7:=e7.out;subst h7;clear e7;have g9:=n_ 2 N.2;go_wp2_with fail
 go_loopw [1,40] (λj g m=>∃(b:Nat) (t:Option Addr) (v:Nat) (d:List Int),j=.slice t d.length v/\g=.int .i64 b/\b<=c/\K (d=e++[119,(h:Int)%256,(c:Int)%256]++Lw (a.e.c.take b))/\d.length<=D+3+9*b/\K (Ie i m (.slice t d.length v) d/\m.1[l.1.size]? =some (.cells #[.bool true,.slice s 0 u,.slice n c o,.int .i64 (h:Nat)] 172 (0,0)))) (λ_ g _=>c-(intOf g).toNat)
 case atStart=>
  have b:(e++[119,(h:Int)%256,c%256]).length=D+3:=(by rw[Qe,r.1];rfl);refine⟨0,some _,e8,e++[119,(h:Int)%256,(c:Int)%256],by rw[b],rfl,v_,?_,O,?_⟩;show _=_;rw[take_zero];simp[Lw]
  grind
 clear N g9 g8;obtain⟨b,t,v,d,rfl,rfl,j4,P,h3,g⟩:=hrel
 by_cases e1:b<c
 ·have h2:b<a.e.c.length:=r.2 ▸ e1;have d2:=f9.q g.1.o;have⟨j7,h4,j6,w⟩:=d2.d r.2 e1 ⟨#[]⟩;subst h4;have e4:(a.e.c.getD b ⟨#[]⟩).size<=8:=g3 _ w_;have b9:K (e++[119,(h:Int)%256,c%256]++Lw (a.e.c.take (b+1))=(d++[((a.e.c.getD b ⟨#[]⟩).size:Int)%256])++Ab (a.e.c.getD b ⟨#[]⟩)):=(by show _=_;rw[ZiL h2 ⟨#[]⟩,P];simp);clear d2;generalize a.e.c.getD b ⟨#[]⟩=x at *;have⟨q,a5⟩:=W_ d.length;have y:=Y a5;rw[<- a5] at g h3 ⊢;clear a5;have Q:K (wr.ownsRow 0 5 1 (V t q v) q (d.map (int .u8))):=(by have j:=g.1.x;unfold Az at j;rw[<- y] at j;exact j);have j2:=F_ b c;have R:=Y e4;clear e4;have⟨j8,e6⟩:=W_ x.size;have j1:=Y e6;clear e6;go_wp2_with (at_builtin;refine ap_ [.int .u8 _] (Q.alloc _) ?_)
  rintro j9 i7 ⟨e9,c5,c3,_,i4,i3,h5⟩;have d3:Az _ 0 _ (_++[_]):=Az.P (n:=1) (by rw[<- y];exact e9) rfl;have a1:=Ei.b r_ (Ei.a c5 c3 s_);have d5:=a1.1.g g.2 (λf=>Ag Q f g.2 C rfl);have M:=g.1.n d3 a1;subst h5;have m:=K_ M d5;have z:K (i7.ownsRow i.1.size 5 1 (L_ i4 (q+1) i3) (q+1) ((d++[(x.size:Int)%256]).map (int .u8))):=by have j:=M.D;unfold Az at j;rw[Qe,<- y] at j;exact j
  have e5:=M.o.size;have h0:x.size<=8->_:=λ_=>trivial;clear e9 c5 c3 d3 a1 d5 M Q g w h0;have⟨A,a2⟩:=W_ (d++[(x.size:Int)%256]);rw[<- a2] at m z b9;have b7:K (A.length=q+1):=(by show _=_;rw[a2,Qe,y];rfl);clear a2;go_wp2_with (at_builtin;refine Go.Lib.wpList_append_own_string _ rfl (.tmp 50) (.tmp 51) 66 9 rfl i.1.size 5 i2 underlying66 underlying9 h1 h9 i0 i1 _ (q+1) _ rfl z x rfl (by have:=R.out;unfold maxLen;omega) (p_ R.out) e5 ?_)
  intro i6 i9 f0 c6 g7;have a3:Az i9 i.1.size i6 (A++Ab x):=(by unfold Az;rw[Qe,b7,Ss,map_append,<- qd];exact f0);obtain⟨g5,g6,rfl⟩:=a3.a;have S:=(Aa.refl _ _).grown c6 (λa d0 _=>d0);have d6:=S.g m.2 (λf=>Ag z f m.2 C rfl);have d0:=m.1.o.T (S.b e5 (λg2 g1=>m.1.z g2 g1));have g2:=K_ (Ie.a d0 a3) d6;have g1:K ((A++Ab x).length<=D+3+9*(b+1)):=(by show _<=_;rw[Qe,b7,Ss];have:=R.out;omega);clear f0 c6 g7 a3 S d6 d0 m z;generalize A++Ab x=g4 at *;refine J_ ?_;exact⟨b+1,g5,g6,g4,rfl,g_,O,b9.s,g1,g2⟩
 have y:¬b<(c:Int):=O;have q:a.e.c.take b=_:=aI (p_ r.2);have m:d=e++ng a:=(by rw[P,q,g0,append_assoc]);have j:=K_ g.1 m;clear q m P g;go_wp2;go_ret;refine⟨t,v,?_,?_⟩;rw[<- j.2];rfl;rw[<- j.2];exact j.1
def Wa a c b:C_ 299 #[Y9 #[I a,I c]] b (U_ (ZX ZQ a) b):=by refine dl_ ?_;go_enter func299,ntmps299;go_wp2;go_ret;exact⟨X,r_⟩
theorem Zlp:((prog.info? 380).bind (λc=>(c.methods.find? (λa=>a.name== "Rows")).map (λa=>((Y4 a.path).map (λb=>(b.struct,b.index,b.deref)),a.func))))=T ([(403,0,Z0)],T (299,ZZ)):=k_
theorem Zlq:((prog.info? 382).bind (λc=>(c.methods.find? (λa=>a.name== "Rows")).map (λa=>((Y4 a.path).map (λb=>(b.struct,b.index,b.deref)),a.func))))=T ([(396,0,Z0)],T (299,ZZ)):=k_
def ky{g h:Type}{c a}{b:g}{d:h}(e:c.bind a=T d)(f:c=T b):a b=T d:=by subst f;exact e
def vy{e c h f}(o:D_ c e 0 (I h))(p:D_ c e 1 (I f)):(method 535 380 (P_ e) "Rows").run Y8 c=.ok (299,Y9 #[I h,I f]) c:=by
 obtain⟨b,g⟩:∃b,prog.info? 380=T b:=by
  cases a:prog.info? 380 with
  |none=>grind [Zlp]
  |some b=>exact⟨b,X⟩
 have i:=ky Zlp g;have⟨d,k,j⟩:=Option.map_eq_some_iff.1 i;injection j with hp hf
 obtain⟨a,m⟩:∃a,Y4 d.path=[a]/\(a.struct,a.index,a.deref)=(403,0,Z0):=by
  cases n:Y4 d.path with
  |nil=>grind
  | cons l q=>
   grind [map_eq_nil_iff]
 obtain⟨q,n⟩:=m;injection n with e1 e2;injection e2 with e2 e3;unfold method;have l:d.path=#[a]:=w_;simp[go_sem,typeInfo,g,k,l,hf,follow,e1,e2,e3,Place.get,receiverAt,o,p]
def we{e c h f}(o:D_ c e 0 (I h))(p:D_ c e 1 (I f)):(method 535 382 (P_ e) "Rows").run Y8 c=.ok (299,Y9 #[I h,I f]) c:=by
 obtain⟨b,g⟩:∃b,prog.info? 382=T b:=by
  cases a:prog.info? 382 with
  |none=>grind [Zlq]
  |some b=>exact⟨b,X⟩
 have i:=ky Zlq g;have⟨d,k,j⟩:=Option.map_eq_some_iff.1 i;injection j with hp hf
 obtain⟨a,m⟩:∃a,Y4 d.path=[a]/\(a.struct,a.index,a.deref)=(396,0,Z0):=by
  cases n:Y4 d.path with
  |nil=>grind
  | cons l q=>
   grind [map_eq_nil_iff]
 obtain⟨q,n⟩:=m;injection n with e1 e2;injection e2 with e2 e3;unfold method;have l:d.path=#[a]:=w_;simp[go_sem,typeInfo,g,k,l,hf,follow,e1,e2,e3,Place.get,receiverAt,o,p]
def me:∀(c:U (ZY×ZY)) (a:H),a<F c->∀b,b<2->(Ov c)[a*2+b]? =[(Z c a Lm).1,(Z c a Lm).2][b]?
  |[],a,d=>by simp at d
  |e::f,0,_=>λb g=>by grind [Ov]
  |e::f,a+1,d=>λb g=>by simp only[Ov];rw[getElem?_append_right t_,show(a+1)*2+b-F [e.1,e.2]=a*2+b by simp;omega];exact me f a (by simpa using d) b g
def Pe.at{c k b e}(f:ZpF c k b e){i}(p:i<F e):∃d a,k=L_ d (F e) a/\d<B c.1/\ZV c (J d (i*2))=T (Z b i Lm).1/\ZV c (J d (i*2+1))=T (Z b i Lm).2:=by
 have q:=f.M
 rcases f.M.2 with⟨_,t⟩|⟨h,l,s,m,u,o,v,_⟩
 omega;subst m
 have j:∀a g,a<2->[(Z b i Lm).1,(Z b i Lm).2][a]? =T g->ZV c (J h (i*2+a))=T g:=λa g n r=>by rw[World.ownsRow.cellAt q (i*2+a) O];exact(me _ i (f.y ▸ p) a n).T r
 exact⟨h,l,X,(Qb o).1,j 0 _ O X,j 1 _ O X⟩
def Pe.a{g b f a}(e:ZpF g b f a):∃c d,b=ZH c (F a) d:=by
 rcases e.M.2 with⟨rfl,i⟩|⟨k,j,h,rfl,_⟩
 ·grind
 grind
def Nd n {z y A r a} q k (e:DsX k n z y A r a q)(o:0<F a):C_ 51 #[P_ n] k (U_ (ZX ZQ (F (Z a 0 Df).N)) k):=by
 have⟨R,M,v,Q,p,l⟩:=e.v.at o;subst v;have L:=n_ 1 e.r;have P:0<(F a:E):=O;have m:=Y Wa;have t:=(e.v.j 0 o).2;generalize (F a)=G at *;rw[show 0*2+1=1 from X] at l
 rcases t with⟨h,x,b,W,a0,d,_,c⟩|⟨h,x,b,N,S,d,_,c⟩
 ·rw[b,d] at l;have i:=n_ 0 c.r;have j:=n_ 1 c.r;clear c b d h;generalize (F (Z a 0 Df).N)=w,Lib.bitLen (Z a 0 Df).g=s at *;have u:=vy i j;clear e p;refine dl_ ?_;go_enter func51,ntmps51;go_wp2_with fail
  apply (m _ _ _).m;rintro b D ⟨rfl,f⟩;have g:=Y f;clear f;go_wp2;go_ret;exact⟨X,g⟩
 rw[b,d] at l;have i:=n_ 0 c.r;have j:=n_ 1 c.r;clear c b d h;generalize (F (Z a 0 Df).N)=w,Lib.bitLen (Z a 0 Df).g=s at *;have u:=we i j;clear e p;go_enter func51,ntmps51;go_wp2_with fail
 apply (m _ _ _).m;rintro b D ⟨rfl,f⟩;have g:=Y f;clear f;go_wp2;go_ret;exact⟨X,g⟩
def Jq.a{g b f a}(e:ZgN g b f a):∃c d,b=ZH c (F a) d:=by
 rcases e.M.2 with⟨rfl,i⟩|⟨k,j,h,rfl,_⟩
 ·grind
 grind
def yu{d i h j g f e c b}(a:Ph b d i h j g f e c):C_ 93 #[P_ d] b (V_ (ZX ZQ (F c.g)) b):=by obtain⟨k,l,rfl⟩:=a.w.a;have m:=n_ 0 a.v.r;clear a;refine er_ ?_;exact⟨X,X⟩
def Jk e h a b d (c:Pi d e h a)(n:F a.g<=1000):C_ 52 #[P_ e,I b] d (V_ (ZR (ZE (0<=b/\b<=F a.g-1))) d):=by
 have m:=n_ 0 c.f;have⟨r,q,s,o,k,j,f⟩:=c.g;have g:=yu f;clear f c;generalize (F a.g)=p at *;refine q_ ?_;go_wp2_with fail
 apply g.m;rintro l t ⟨rfl,i⟩;obtain rfl:=i.s;go_wp2
 all_goals go_ret
 all_goals (refine⟨?_,X⟩;simp<;>omega)
def Zhr{d k a b}(c:Pi b d k a)(e:0<F a.f):C_ 26 #[P_ d] b (U_ (ZX ZQ (F (Z a.f 0 Df).N)) b):=by
 have n:=n_ 0 c.f;have⟨r,q,s,o,l,j,f⟩:=c.g;have i:=Nd _ j b f.v e;clear f c e;generalize (F (Z a.f 0 Df).N)=p at *;refine q_ ?_;go_wp2_with fail
 apply i.m;rintro m t ⟨rfl,g⟩;have h:=Y g;clear g;go_wp2;go_ret;exact⟨X,h⟩
def Zbn(a:ZT) c d:B (a.freeze (J c d) 1).1=B a.1/\(∀b,b≠c->(a.freeze (J c d) 1).1[b]? =a.1[b]?):=by
 unfold World.freeze
 grind
def Yn a c d:Aa (λb=>b=c) a (a.freeze (J c d) 1):=by
 have⟨g,e⟩:=Zbn a c d;refine⟨?_,?_,?_,O,λb _ f=>e b f⟩
 all_goals (unfold World.freeze;grind)
def zb(d:ZT) b {c}(e:H) a (f:H_ d b c e):(d.freeze (J b a) 1).1[b]? =T (O_ c e (a,a+1)):=by
 unfold World.freeze
 grind
def Zg4 b a e d {c}(f:H_ b a c 5):(convert 66 66 (L_ a e d)).run Y8 b=.ok (L_ a e d) (b.freeze (J a (B c)) 1):=by have h:b.shape? a=T (5,B c):=(by unfold shape?;rw[f]);have i:prog.underlying 66=T (.slice 5):=underlying66;have g:prog.underlying 5=T (.int .u8):=k_;simp[convert,run_underlying i,run_underlying g,markStringish,h]
def dy{r c d a K z y}(N:c.guard=ZP) s x (S:c.op=.call {callee:=.builtin .append,args:=#[s,x],argTypes:=#[66,66]}) l m t u v w a5 a6 (a0:d.eval s=L_ l 2 2)(a2:d.eval x=L_ m 2 2)(L:a.1[l]? =T (O_ #[ZX .u8 t,ZX .u8 u] 5 a5))(M:a.1[m]? =T (O_ #[ZX .u8 v,ZX .u8 w] 5 a6))(G:∀f k,Hid (Az k 0 f [t,u,v,w]/\ZW f=T (B a.1)/\E_ a k/\∃D A,f=L_ D 4 A)->K (d.put c.dst f) k):if wanted c (yielded r d.tmps)=Z0 then Oper.wp Y8 c d a K z else y:=by
 have a1:wanted c (yielded r d.tmps)=Z0:=(by simp[wanted,N]);rw[aD a1];have⟨a7,Q,a3,p,a4⟩:=info_parts Zf3
 have o:∀g i j q,a.1[g]? =T (O_ #[i,j] 5 q)->∀e h,([i,j]:U ZY)[e]? =T h->ZV a (((J g 0):Addr).add e)=T h:=λg i j q n e h b=>by
  match e,b with
  |0,b=>simp at b;subst b;simp[Addr.add,ZV,n]
  |1,b=>simp at b;subst b;simp[Addr.add,ZV,n]
  |e+2,b=>simp at b
 have W:=run_append_grow (P:=Y8) (w:=a) 66 c.type 5 _ _ underlying66 Q a3 _ 2 2 _ (by rw[p];rfl) (o _ _ _ _ L) _ 2 2 _ (by rw[p];rfl) (o _ _ _ _ M) C C (by rw[a4];decide);have P:=grownCap_ge a 4 2 5;have R:=grownCap_le_maxLen a 4 2 5 C;unfold Oper.wp;simp only[execOp,S,resolve,invoke,builtin,Sem.run_bind,Sem.run_pure,Result.andThen_ok,map_toArray,map_cons,map_nil,a0,a2,W];refine G _ _ ⟨⟨X,ZJ ⟨B a.1,grownCap a _ 2 5,_,X,v_,hn_,?_⟩⟩,X,(br_ _ a).drew.alloc x_ _,_,_,X⟩;refine⟨P,R,?_,?_⟩
 ·rw[Array.size_append,Array.size_append,size_zeroCells];show 2+2+_=_;simp only[Value.cells]
  grind
 simp
def xB(x:XS):U E:=[x.M%256,x.f%256,x.i%256]
def Ll(a:KS):U E:=if a.e.a=Z0 then ng a else knB a
def Hv(a:Ft)(b:U XS):U E:=[71,82,(F (Z a.f 0 Df).N:E)%256,F a.g%256]++a.g.flatMap Ll++[(F a.f:E)%256]++a.f.flatMap Dq++Ba (F b) 2++b.flatMap xB
def Br(a:Ft)(b:U XS):U E:=Hv a b++Ba (Gy (Hv a b)) 4
def ZaF(a:BS):Prop:=F a.fs<=1000/\(∀c∈a.fs,c<=1000)/\(F (Bu a.N (F a.N))<=1000/\∀b∈Bu a.N (F a.N),b.1<=1000/\b.2<=1000)/\F (Bg (Cf a.N (Lib.bitLen a.g)) ((F a.N*Lib.bitLen a.g+7)/8) (F a.N*Lib.bitLen a.g))<=1000/\F (Dq a)<=5000
def Xl(a:KS):Prop:=(a.e.a=ZZ/\a.e.c=[]/\F a.e.f<=1000/\∀b∈a.e.f,-1000000000000<=b/\b<=1000000000000)∨(a.e.a=Z0/\a.e.f=[]/\F a.e.c<=1000/\∀b∈a.e.c,ZK b<=8)
def bf{d:Type}(c:d->U E)(a:U d) e {b}(f:b<F a):(ZU (b+1) a).flatMap c=(ZU b a).flatMap c++c (Z a b e):=by
 rw[Qi f,flatMap_append]
 grind
def Dm:XS:=⟨0,0,0⟩
def um:∀(c:U XS) (b:H),b<F c->∀a,a<3->(Jw c)[b*3+a]? =(Cw (Z c b Dm))[a]?
 |[],b,d=>by simp at d
 |f::c,0,_=>λa e=>by grind [Jw,Cw]
 |f::c,b+1,d=>λa e=>by simp only[Jw];rw[getElem?_append_right (by simp[Cw];omega),show(b+1)*3+a-F (Cw f)=b*3+a by simp[Cw];omega];exact um c b (by simpa using d) a e
def Nu.b{c h f m a}(l:Nu c 0 (V h f m) a)(q:F a=f){k}(p:k<f):∃d,h=T ⟨d,0,ZP⟩/\d<B c.1/\ZV c (J d (k*3))=T (I (Z a k Dm).M)/\ZV c (J d (k*3+1))=T (I (Z a k Dm).f)/\ZV c (J d (k*3+2))=T (I (Z a k Dm).i):=by
 subst q;have n:=l
 rcases n.2 with⟨i,v⟩|⟨j,t,u,i,_,o,w,_⟩
 omega;injection i with e1 e2 e3;subst e1
 have e:∀b g,b<3->(Cw (Z a k Dm))[b]? =T g->ZV c (J j (k*3+b))=T g:=λb g r s=>by rw[World.ownsRow.cellAt l (k*3+b) O];exact(um a k p b r).T s
 exact⟨j,X,(Qb o).1,e 0 _ O X,e 1 _ O X,e 2 _ O X⟩
theorem ZlX{a}(b:∀x∈a,x.size<=8):(Lw a).length<=9*a.length:=by
 induction a with
 |nil=>simp[Lw]
 | cons x a c=>
  grind [Lw,Ss]
def Zf8{b}(c:Xl b):F (Ll b)<=9003:=by
 unfold Ll
 rcases c with⟨a,_,d,_⟩|⟨a,_,d,e⟩
 rw[a,aC C];unfold knB;rw[Qe,ZaS];simp;omega
 grind [ng,ZlX]
def uc c2 h3 h2 h4 g7 e5 c a k (v:Ph k c2 h3 h2 h4 g7 e5 c a)(e9:0<F a.f)(c8:∀K∈a.g,Xl K)(i1:F a.g<=4)(c6:∀a4∈a.f,ZaF a4)(c5:F a.f<=4)(i6:F c<=4000)(c7:∀a4∈Hv a c,0<=a4/\a4<256):C_ 60 #[P_ c2] k (U_ (YW (ZB (Br a c))) k):=by
 obtain⟨g6,i9,rfl⟩:=v.w.a;have G:=n_ 0 v.v.r;have f2:=(Qb v.v.r).1;have t:=Y v;have⟨i7,_⟩:=info_parts Zf3;have e2:=Y (λu o=>Nd _ c u (t.v.q o) e9);have a7:=x3_ c8 c6 c7;clear v c8 c6 c7;generalize d0:F (Z a.f 0 Df).N=n at *;generalize b3:F a.g=l at *;have a2:=K_ d0 b3;clear d0 b3;refine dl_ ?_;go_enter func60,ntmps60;go_upto_region 1 with fail;go_cut [3] (λb d=>∃f g,b=ZH f 4 g/\Hid (Ie k d (ZH f 4 g) [71,82,(n:E)%256,(l:E)%256]))
 case first=>
  refine Af (λo=>ZV o _=T _) 13 k_ G λhHeld=>?_;refine G_ ?_;refine G_ ?_;refine G_ ?_;refine G_ ?_;refine G_ ?_;refine G_ ?_;refine G_ ?_;have b:E_ k _:=(br_ _ k).drew;generalize (YY k)=d at *
  repeat' first
   |(replace f:=f;replace g:=g;refine on_ 12 λKK hK=>?_)
   |(replace f:=f;replace h:=h;refine on_ 1 λKK hK=>?_)
   |(replace f:=f;refine on_ 0 λKK hK=>?_)
   |(replace i:=i;replace g:=g;refine on_ 11 λKK hK=>?_)
   |(replace i:=i;replace h:=h;refine Ro (i:=1) (j:=11) k_ X X (λKK hK=>?_) (λKK hK=>?_))
   |(replace i:=i;refine Ro (i:=0) (j:=11) k_ X X (λKK hK=>?_) (λKK hK=>?_))
   |(replace g:=g;refine on_ 3 λKK hK=>?_)
   |(replace h:=h;refine Ro (i:=1) (j:=3) k_ X X (λKK hK=>?_) (λKK hK=>?_))
   |refine Ro (i:=0) (j:=3) k_ X X (λKK hK=>?_) (λKK hK=>?_)
   |(apply dy X _ (.tmp 21) X _ _ 71 82 _ _ (2,3) (0,0) j_ j_ h f;intro A D r;obtain⟨q,p,o,z,x,w⟩:=r;have s:Hid (Ie k _ _ [_,_,_%256,_%256]):=⟨b.T (o.m b.size),q,λe hk=>by rw[p] at hk;injection hk with hk;rw[<- hk];exact b.size⟩;subst w;clear q p o;refine hK _ _ (T_ s.o G) (λhHeld=>?_);clear hK KK;(try simp only[Act.put]);(try simp only[setIfInBounds_toArray,set_cons_succ,set_cons_zero]);refine Ew (i:=13) k_ X k_ (λKK hK=>?_);go_simp;apply hK _ _;clear hK KK;(try simp only[Act.put]);(try simp only[setIfInBounds_toArray,set_cons_succ,set_cons_zero]);refine Fr k_ ?_ _;go_wp2;go_meet;grind)
   |(go_simp;apply (e2 _ b).m;rintro m d ⟨rfl,j⟩;(try have h:=(j.block _ (Qb h).1).T h);have b:=b.T (j.m b.size);have i:Hid True:=trivial;clear j;go_simp;refine hK _ _ (T_ b G) (λhHeld=>?_);clear hK KK;(try simp only[Act.put]);(try simp only[setIfInBounds_toArray,set_cons_succ,set_cons_zero]);refine tkP 4 ?_)
   |(have y:=Zg4 d lb 2 2 h;have h:=zb d lb 5 2 h;(try have f:=(Yn d lb 2).g f O);have b:=b.T ((Yn d lb 2).b b.size (λa1 a6=>a6 ▸ hl));have g:Hid True:=trivial;go_simp;generalize World.freeze d (J lb 2) 1=d at *;clear y;refine hK _ _ (T_ b G) (λhHeld=>?_);clear hK KK;(try simp only[Act.put]);(try simp only[setIfInBounds_toArray,set_cons_succ,set_cons_zero]))
   |(have h:=ha_ d (YU #[ZX .u8 71,ZX .u8 82] 5);have hl:=b.size;(try(have u:=ne_of_lt (Qb f).1;have f:=(hb_ d (YU #[ZX .u8 71,ZX .u8 82] 5) rb (Qb f).1).T f));have b:=b.alloc b.size (YU #[ZX .u8 71,ZX .u8 82] 5);go_simp;generalize (B d.1)=lb at *;generalize ZN d (YU #[ZX .u8 71,ZX .u8 82] 5)=d at *;refine hK _ _ (T_ b G) (λhHeld=>?_);clear hK KK;(try simp only[Act.put]);(try simp only[setIfInBounds_toArray,set_cons_succ,set_cons_zero]))
   |(have f:=ha_ d (YU #[ZX .u8 (IntKind.u8.wrap (n:E)),ZX .u8 (IntKind.u8.wrap (l:E))] 5);(try(have u:=ne_of_lt (Qb h).1;have h:=(hb_ d (YU #[ZX .u8 (IntKind.u8.wrap (n:E)),ZX .u8 (IntKind.u8.wrap (l:E))] 5) lb (Qb h).1).T h));have b:=b.alloc b.size (YU #[ZX .u8 (IntKind.u8.wrap (n:E)),ZX .u8 (IntKind.u8.wrap (l:E))] 5);go_simp;generalize (B d.1)=rb at *;generalize ZN d (YU #[ZX .u8 (IntKind.u8.wrap (n:E)),ZX .u8 (IntKind.u8.wrap (l:E))] 5)=d at *;refine hK _ _ (T_ b G) (λhHeld=>?_);clear hK KK;(try simp only[Act.put]);(try simp only[setIfInBounds_toArray,set_cons_succ,set_cons_zero]))
 obtain⟨e3,e6,rfl,a9⟩:=hcut;have g9:=T_ a9.o G;go_wp2_with fail
 go_loopw [3,28] (λr i b=>∃(e:H) (f:Y0 Addr) (g d:H),r=ZH f d g/\i=ZX ZQ e/\e<=l/\d<=4+e*9003/\Hid (Ie k b (ZH f d g) ([71,82,(n:E)%256,(l:E)%256]++(ZU e a.g).flatMap Ll)/\F ([71,82,(n:E)%256,(l:E)%256]++(ZU e a.g).flatMap Ll)=d)) (λ_ i _=>l-ZL (ZA i))
 case atStart=>exact⟨0,e3,e6,4,X,X,v_,O,by rw[take_zero];exact⟨a9,X⟩⟩
 clear a9 g9;obtain⟨e,f,g,d,rfl,rfl,hk,N,b⟩:=hrel
 by_cases f5:e<l
 ·have b1:e<F a.g:=a2.2 ▸ f5;have⟨a1,d3,D,a3,R,a5,W,d1,x,y,a0,b6,M,b5⟩:=t.w.at b1;have b2:g6=T ⟨a1,0,ZP⟩:=(by injection W);subst b2;have j:Xl (Z a.g e Aj):=(by have:Z a.g e Aj=a.g[e]:=(by simp[Z,b1]);rw[this];exact a7.1 _ (Qf _));have c3:=Y j;have z:=b.1.o;have⟨S,p,P,b9⟩:=k4_ z x y a0 b6;have r:Hid ([71,82,(n:E)%256,l%256]++(ZU (e+1) a.g).flatMap Ll=([71,82,(n:E)%256,l%256]++(ZU e a.g).flatMap Ll)++Ll (Z a.g e Aj)):=(by show _=_;rw[bf Ll a.g Aj b1,append_assoc]);have a6:=Y (Zf8 j)
  have Q:Hid (∀u s,Ie k u (V f (F s) g) s->F s<=900000->C_ 100 #[Y9 #[ZR (Z a.g e Aj).e.a,V D (F (Z a.g e Aj).e.f) a3,V R (F (Z a.g e Aj).e.c) a5,I (Z a.g e Aj).d],V f (F s) g] u λm o=>kq k (s++Ll (Z a.g e Aj)) m o):=λu s o h=>by
   rcases j with j|j
   have i:=hw k R a5 f g s u j.1 M o j.2.2.1 j.2.2.2 h;have p:Ll (Z a.g e Aj)=knB (Z a.g e Aj):=(by unfold Ll;rw[j.1];rfl);rw[p,j.2.1];exact i;have i:=bw k D a3 f g s u j.1 b5 o j.2.2.1 j.2.2.2 h;have p:Ll (Z a.g e Aj)=ng (Z a.g e Aj):=(by unfold Ll;rw[j.1];rfl);rw[p,j.2.1];exact i
  clear j x y a0 b6 M b5 W z;generalize (Z a.g) e Aj=A at *;generalize [71,82,(n:E)%256,(l:E)%256]++(ZU e a.g).flatMap Ll=b0 at *;have b8:=F_ e l;generalize A.e.a=c1 at *;generalize (F A.e.c)=c0 at *;generalize (F A.e.f)=q at *;generalize A.d=b7 at *;go_wp2_with fail
  have o:=b.1.q (y_.alloc x_ (O_ #[ZR c1,V D q a3,V R c0 a5,I (b7:H)] 172));have L:=Q _ _ (b.2 ▸ o) (p_ b.2);rw[b.2] at L;apply L.m;rintro m e8 ⟨c4,d2,rfl,i⟩;rw[<- r] at i ⊢;have⟨b4,w⟩:=W_ (F ([71,82,(n:E)%256,l%256]++(ZU (e+1) a.g).flatMap Ll));have e1:b4<=4+(e+1)*9003:=by rw[w,r,Qe,b.2];have:=a6.out;omega
  rw[<- w] at i ⊢;have a8:=K_ i w.s;clear i w L o Q r b S p P b9;go_wp2;go_roundw;case rel=>grind
  case measure=>exact z_
 have b3:¬e<(l:E):=O;have A:ZU e a.g=_:=aI (p_ a2.2);rw[A] at b;have⟨e4,h8,g2⟩:=t.v.v.a;subst g2;have b7:Hid (Hv a c=([71,82,(n:E)%256,l%256]++a.g.flatMap Ll)++[(F a.f:E)%256]++a.f.flatMap Dq++Ba (F c) 2++c.flatMap xB):=(by show _=_;unfold Hv;rw[a2.1,a2.2]);generalize c9:F a.f=q at *;have⟨b5,d8⟩:=Y_ c9 c5;clear c9 A c5;have b9:=n_ 1 t.v.r;have p:=T_ b.1.o b9;have i5:=Qh f2 b.1.o.size;generalize [71,82,(n:E)%256,(l:E)%256]++a.g.flatMap Ll=a3 at *;have R:Hid (ZD wr 0 5 1 (V f d g) d (a3.map (ZX .u8))):=(by have i:=b.1.x;unfold Az at i;rw[b.2] at i;exact i);have f6:d<=36016:=O;go_wp2_with (at_builtin;refine ap_ [ZX .u8 ((q:E)%256)] (R.alloc _) ?_)
 rintro h0 h5 ⟨d4,c3,c1,_,j1,j0,g0⟩;have b6:Hid (Ie k h5 h0 (a3++[(q:E)%256])/\F (a3++[(q:E)%256])=d+1):=(by refine⟨b.1.n ?_ (Ei.b ((br_ _ wr).alloc x_ _) (Ei.a c3 c1 s_)),by rw[Qe,b.2];rfl⟩;refine Az.P (n:=1) ?_ X;rw[b.2];exact d4);have e7:=T_ b6.1.o b9;subst g0;clear d4 c3 c1 R b p N;generalize a3++[(q:E)%256]=D at *;obtain⟨d6,g4⟩:∃d6,d6=wr:=⟨wr,X⟩;subst g4;go_wp2_with fail
 go_loopw [3,50] (λr i h=>∃(j:H) (f:Y0 Addr) (g d:H),r=ZH f d g/\i=ZX ZQ j/\j<=q/\d<=36017+j*5000/\Hid (Ie k h (ZH f d g) (D++(ZU j a.f).flatMap Dq)/\F (D++(ZU j a.f).flatMap Dq)=d)) (λ_ i _=>q-ZL (ZA i))
 case atStart=>exact⟨0,_,_,d+1,X,X,v_,O,w_⟩
 clear b6 e7;obtain⟨j,f,g,d,rfl,rfl,f3,N,b⟩:=hrel;have i0:=aG f3 d8
 by_cases f4:j<q
 ·have a5:j<F a.f:=b5 ▸ f4;have⟨a1,d3,W,d1,x,y⟩:=t.v.v.at a5;have b2:e4=T ⟨a1,0,ZP⟩:=(by injection W);subst b2;have P:ZaF (Z a.f j Df):=(by have:Z a.f j Df=a.f[j]:=(by simp[Z,a5]);rw[this];exact a7.2.1 _ (Qf _));have⟨M,a0⟩:=t.v.v.j j a5;have⟨d9,e0,b1⟩:=M.d;have⟨d7,d5,c0⟩:=a0.iface;rw[Ak] at b1;rw[b1] at x M;rw[c0] at y a0;have z:=b.1.o;have⟨S,p⟩:=k2_ z x y;have r:Hid (D++(ZU (j+1) a.f).flatMap Dq=(D++(ZU j a.f).flatMap Dq)++Dq (Z a.f j Df)):=(by show _=_;rw[bf Dq a.f Df a5,append_assoc]);have a6:=Y P.2.2.2.2
  have Q:=Y (λu s o h=>
   ao k f g s u M a0 o P.1 P.2.1 h P.2.2.1 P.2.2.2.1)
  clear P x y M a0 W z b1 c0;generalize (Z a.f) j Df=h at *;generalize D++(ZU j a.f).flatMap Dq=b0 at *;generalize (F h.fs)=s at *;have b8:=F_ j q;go_wp2_with fail
  have o:=b.1.q (y_.alloc x_ (O_ #[V d9 s e0,.iface d7 (P_ d5)] 163));have L:=Q _ _ (b.2 ▸ o) (p_ b.2);rw[b.2] at L;apply L.m;rintro m e8 ⟨c4,d2,rfl,i⟩;rw[<- r] at i ⊢;have⟨b4,w⟩:=W_ (F (D++(ZU (j+1) a.f).flatMap Dq));have e1:b4<=36017+(j+1)*5000:=by rw[w,r,Qe,b.2];have:=a6.out;omega
  rw[<- w] at i ⊢;have a8:=K_ i w.s;clear i w L o Q r b S p;go_wp2;go_roundw;case rel=>grind
  case measure=>exact z_
 have i3:¬j<(q:E):=O;have A:ZU j a.f=_:=aI (p_ b5.out);rw[A] at b;have⟨j4,j5,g3⟩:=t.v.j.d;subst g3;have c0:=n_ 2 t.v.r;have P:=T_ b.1.o c0;have f6:d<=56017:=O;have e1:=Y b7;generalize f0:D++a.f.flatMap Dq=a5 at *;have w:C_ 102 #[V f d g,I (F c),I 2] wr λm o=>kq k (a5++Ba (F c) 2) m o:=(by have i:=b.1;rw[<- b.2] at i ⊢;exact(Ou f g 2 _ i.x O (p_ b.2) O O).m (λm o v=>v.out i));clear A f0 b7;generalize d3:F c=u at *;have W:=Y d3;clear d3;go_wp2_with fail
 apply w.m;rintro m j3 ⟨h7,h9,rfl,L⟩;have⟨Q,M⟩:=W_ (F (a5++Ba u 2));have f7:Q=d+2:=(by rw[M,Qe,Dr,b.2]);have i2:Q<=56019:=O;rw[<- M] at L ⊢;have e0:=K_ L M.s;have e8:=T_ L.o c0;clear L M f7 w b P N;generalize a5++Ba (u:H) 2=s at *;obtain⟨d7,g5⟩:∃d7,d7=wr:=⟨wr,X⟩;subst g5;go_wp2_with fail
 go_loopw [3,70] (λr i x=>∃(h:H) (f:Y0 Addr) (g d:H),r=ZH f d g/\i=ZX ZQ h/\h<=u/\d=Q+h*3/\Hid (Ie k x (ZH f d g) (s++(ZU h c).flatMap xB)/\F (s++(ZU h c).flatMap xB)=d)) (λ_ i _=>u-ZL (ZA i))
 case atStart=>exact⟨0,_,_,Q,X,X,v_,X,w_⟩
 clear e0 e8;obtain⟨h,f,g,d,rfl,rfl,i4,N,b⟩:=hrel
 by_cases d2:h<u
 ·have f9:h<F c:=W ▸ d2;have⟨a1,a6,d1,x,y,a0⟩:=Nu.b t.v.j W d2;subst a6;have z:=b.1.o;have⟨S,p,P⟩:=k3_ z x y a0;have r:Hid (s++(ZU (h+1) c).flatMap xB=(s++(ZU h c).flatMap xB)++[((Z c h Dm).M:E)%256,(Z c h Dm).f%256,(Z c h Dm).i%256]):=(by show _=_;rw[bf xB c Dm f9,append_assoc];rfl);clear x y a0 z;generalize s++(ZU h c).flatMap xB=b0 at *;generalize (Z c h Dm).M=b1 at *;generalize (Z c h Dm).f=b2 at *;generalize (Z c h Dm).i=b4 at *;have R:Hid (ZD wr 0 5 1 (V f d g) d (b0.map (ZX .u8))):=by have i:=b.1.x;unfold Az at i;rw[b.2] at i;exact i
  have d9:=Y N;have f8:d<=70000:=O;clear N;have b8:=F_ h u;go_wp2_with (at_builtin;refine ap_ [ZX .u8 ((b1:E)%256),ZX .u8 ((b2:E)%256),ZX .u8 ((b4:E)%256)] ((R.alloc _).alloc _) ?_)
  rintro h1 h6 ⟨d5,c4,i,_,j2,g8,g1⟩;have a8:Hid (Ie k h6 h1 (s++(ZU (h+1) c).flatMap xB)/\F (s++(ZU (h+1) c).flatMap xB)=d+3):=by have f1:E_ wr (ZN (ZN wr (O_ #[I b1,I b2,I b4] 184)) (O_ #[ZX .u8 (b1%256),ZX .u8 (b2%256),ZX .u8 (b4%256)] 5)):=r_.alloc s_ _;rw[r];refine⟨b.1.n ?_ (Ei.b f1 (Ei.a c4 i s_)),by rw[Qe,b.2];rfl⟩;refine Az.P (n:=3) ?_ X;rw[b.2];exact d5
  subst g1;clear d5 c4 i R b r S p P;go_wp2;go_roundw;case rel=>exact⟨h+1,T _,g8,d+3,X,g_,O,p_ d9.out,a8⟩
  case measure=>exact z_
 have b0:¬h<(u:E):=O;have A:ZU h c=c:=aI (p_ W.out);rw[A,<- e1] at b;have f8:d<=70000:=O
 have x:C_ 103 #[V f d g] wr (V_ (ZX .u32 (Gy (Hv a c))) wr):=(by have i:=b.1.x;rw[<- b.2] at i ⊢;exact yf f g i (p_ b.2) a7.2.2);have z:=Qp .xor 4294967295 (Zg5 (Hv a c));have a1:0<=Gy _/\Gy _<_:=z;have r:Hid (Br a c=_++_):=rfl;have w:C_ 102 #[V f d g,I (Gy (Hv a c)),I 4] wr λm o=>kq k (Hv a c++Ba (Gy (Hv a c)) 4) m o:=(by have i:=b.1;rw[<- b.2] at i ⊢;exact(Ou f g 4 _ i.x O (p_ b.2) O O).m (λm o v=>v.out i));rw[<- r] at w;clear A z N r;generalize Gy (Hv a c)=d1 at *;obtain⟨b1,b2⟩:=a1;go_wp2_with fail
 apply x.m;rintro m b8 ⟨rfl,a0⟩;obtain rfl:=a0.s;clear x;go_wp2_with fail
 apply w.m;rintro m c4 ⟨a6,a8,rfl,i⟩;have y:=Pn _ 0 i.x;have S:=Y i.o;generalize (F (Br a c))=b4 at *;clear i w b;go_wp2;go_ret;exact⟨X,S⟩
def Zd6{f e v u w t s b a c}(m:H_ c f #[P_ e] 110)(g:Ph c e v u w t s b a)(h:0<F a.f)(o:∀K∈a.g,Xl K)(n:F a.g<=4)(k:∀d∈a.f,ZaF d)(j:F a.f<=4)(p:F b<=4000)(l:∀d∈Hv a b,0<=d/\d<256):C_ 34 #[P_ f] c (U_ (YW (ZB (Br a b))) c):=by
 have y:=n_ 0 m;have r:=uc _ _ _ _ _ _ b a c g h o n k j p l;clear m g h o n k j p l;generalize ZB (Br a b)=z at *;refine dl_ ?_;go_enter func34,ntmps34;go_wp2_with fail
 apply r.m;rintro x A ⟨rfl,i⟩;have q:=Y i;clear i;go_wp2;go_ret;exact⟨X,q⟩
def px c a b:C_ 330 #[Y9 #[I c,I a]] b (U_ (ZX ZQ a) b):=by refine dl_ ?_;go_enter func330,ntmps330;go_wp2;go_ret;exact⟨X,r_⟩
theorem ZbE{d}(e:∀i,d i<=1) c:∀b a,a<b->Hk d c b/2^a%2=d (c+a)
 |0,a,g=>O
 | b +1,a,g=>by
  simp only[Hk]
  by_cases f:a=b
  ·subst f;have h:=Qz e c a
   grind [add_mul_div_right,div_eq_of_lt]
  have h:a<b:=O;have k:=ZbE e c b a h
  have j:d (c+b)*2^b=d (c+b)*2^(b-a-1)*2*2^a:=by
   have:(2:H)^b=2^(b-a-1)*2*2^a:=by rw[Nat.mul_assoc,<- pow_succ',<- Nat.pow_add];congr 1;omega
   grind
  grind [add_mul_div_right]
theorem Ug{b}(e:∀a,b a<=1){c a}(d:a<c):Hf b c (a/8)/2^(a%8)%2=b a:=by grind [Hf,ZbE]
def Ni{e} d c:∀a,(∀b,b<a->e (c+b)=d/2^b%2)->Hk e c a=d%2^a
 |0,_=>by simp[Hk,mod_one]
 |a+1,f=>by simp only[Hk];rw[Ni d c a (λb g=>f b O),f a O,mod_pow_succ,Nat.mul_comm (2^a)]
def ZgT{c a b}(d:Z c b 0<2^a):Hk (Cf c a) (b*a) a=Z c b 0:=by
 rw[Ni _ _ a (λf e=>?_),mod_eq_of_lt d];unfold Cf;have g:(b*a+f)/a=b:=by rw[Nat.mul_comm,mul_add_div O,div_eq_of_lt e,Nat.add_zero]
 grind [Nat.mul_comm,mul_add_mod,mod_eq_of_lt]
def ZiK a (b:0<=a)(c:a<2^8):i64.wrap a=a:=Au O O
def Zmt(a b:H)(c:a<256)(d:b<256):bits .or ZQ a b=(a|||b:H):=(bits_nat ZQ 8 C ZiK a b O O).2
def Oe y L c5 b i {f} q {c} t (m:Oo t 0 y L c5 b (Bg c i f))(a1:∀c8,c c8<=1)(d7:b<=6)(c0:q*b+b<=f)(d5:f<=8*i)(d6:f<=2000):C_ 323 #[P_ y,I q] t (U_ (ZX ZQ (Hk c (q*b) b:H)) t):=by
 have⟨a6,w⟩:=Y_ m a1;have a3:=Dj c i f;have a8:=n_ 0 m.r;have a9:=n_ 1 m.r
 have b0:D_ t y 2 (L_ L i i):=by
  have a4:=n_ 2 m.r
  grind
 have b6:=(Qb m.r).1;have N:=Y px;have⟨e,A⟩:=W_ (q*b);have e1:q*b=(e:E):=(by rw[A];simp);rw[<- A] at c0 ⊢;have e2:_=(e:E):=Au O O;have a7:K (Bg c i f=_/\_):=⟨X,a3⟩;clear m a1 A a3;refine q_ ?_;go_wp2_with fail
 apply (N _ _ _).m;rintro z f2 ⟨rfl,n⟩;have⟨b1,b2⟩:=k2_ n a8 a9;have b7:=Qh b6 n.size;have u:=Y n;clear n;go_wp2_with fail
 apply (N _ _ _).m;rintro z d0 ⟨rfl,W⟩;have v:=Y (u.T (W.m u.size));clear W b1 b2 b7 u;have d4:=T_ v b0;go_wp2_with fail
 go_loopw [5,21] (λh g j=>∃(a d:H),h=ZX ZQ (d:H)/\g=ZX ZQ a/\a<=b/\K (d=Hk c e a)/\K (d0=j)) (λ_ g _=>b-ZL (ZA g))
 exact⟨0,0,X,X,v_,X,X⟩;obtain⟨a,d,rfl,rfl,d8,r,a5⟩:=hrel;have c1:=a5.out;subst c1;clear a5
 by_cases d9:a<b
 ·have⟨g,S⟩:=W_ (e+a);have⟨h,P⟩:=W_ (g/8);have⟨l,R⟩:=W_ (g%8);have Q:h<i:=O;have a0:=Kj c f Q;obtain⟨c6,b8,e0,x⟩:=a6.M.b X (k:=h) (by rw[a7.2];exact Q);have b9:c6=L:=w_;subst b9;rw[a0] at x;have b3:=T_ v x;have⟨o,s⟩:=W_ (Hf c f h);have c2:o<256:=s ▸ (li w f h);rw[<- s] at b3;have⟨p,D⟩:=W_ (c g);have b5:o/2^l%2=p:=(by rw[s,P,R,D];exact Ug w O);have n:p<=1:=O;have a2:d<2^a:=r ▸ (Qz w _ _);have b4:_^a<=2^5:=Nat.pow_le_pow_right C O;have⟨j,G⟩:=W_ (p*2^a);have c3:_<=1*2^a:=aK _ n;have c4:j<256:=O
  have M:K (d+j=Hk c e (a+1)):=by show d+j=Hk c e a+c (e+a)*2^a;rw[<- r,G,D,S]
  have e3:e+a=(g:E):=O;have e4:(g:E).tdiv 8=h:=w_;have e5:g/8=(h:E):=O;have e6:(g:E).tmod 8=l:=w_;have e7:g%8=(l:E):=O
  have e8:bits BinOp.and IntKind.u8 (o/2^l) 1=p:=by
   have z:(o/2^l)=((o/2^l:H):E):=s_;rw[z];have a4:=(Zdt (o/2^l) 1 (Nat.lt_of_le_of_lt (div_le_self _ _) c2) C).1
   grind
  have e9:_=(g:E):=Au O O;have f0:_=(h:E):=Au O O;have f1:i64.wrap (p*2^a)=j:=(by grind [Au]);have c7:bits BinOp.or ZQ d j=(d+j:H):=(by rw[Zmt d j O c4,G,Zey a2]);have⟨c9,a4⟩:=W_ (d+j);rw[<- a4] at c7 M;have d1:=F_ a b;have d2:(a:E)<=64:=O;have d3:=F_ h i;clear c3 b5 a2 b4 G a4 s D P R S a0 x r b8;go_wp2;go_roundw;exact⟨a+1,c9,X,g_,O,M,True.intro⟩;exact z_
 have j:¬a<(b:E):=O;have h:a=b:=O;have g:K (d=Hk c e b):=w_;clear h r;go_wp2;go_ret;rw[<- g];exact⟨X,v⟩
structure Wh(b:Ft)(f c e):Prop where
 h:c<F b.f
 i:e<F (Z b.f c Df).fs
 g:Z (Z b.f c Df).fs e 0=f
 j:∀a d,a<=c->d<F (Z b.f a Df).fs->(a<c∨d<e)->Z (Z b.f a Df).fs d 0≠f
 A:∀a,a<=c->F (Z b.f a Df).fs<=100
 n:∀a d,a<=c->d<F (Z b.f a Df).fs->Z (Z b.f a Df).fs d 0<F b.g
 q:∀a,a<F b.g->(Z b.g a Aj).g<=100
def Lv(a:Ft)(b c:H):H:=1+Bk a.g (ZU c ((Z a.f b Df).fs))
def Zal{b}:∀a:U H,(∀c∈a,(Z b c Aj).g<=100)->Bk b a<=100*F a
 |[],_=>by simp[Bk]
 | c::a,d=>by
  have g:=Zal a (λf e=>d f (by simp[e]))
  grind [Bk]
def Zcy b6 t e j f3 f2 f4 e7 s c9 a d (o:Ph d b6 f3 f2 f4 e7 s c9 a)(x:Wh a t e j)(g3:F a.f<=1000):C_ 145 #[P_ b6,I t] d (U_ (Y5 #[Y9 #[(Z s e Lm).1,(Z s e Lm).2],ZX ZQ (Lv a e j:H)]) d):=by
 have⟨S,h⟩:=Y_ o x;have⟨f0,g0,e4,g9,_,_⟩:=o.v.v.at (i:=0) (p_ x.h);subst e4;have d9:0<F a.g:=p_ (x.n e j x_ x.i);have⟨h6,g1,_,_,_,_,e5,_⟩:=o.w.at (i:=0) d9;subst e5;have g2:=n_ 1 o.v.r;have d4:=n_ 0 o.v.r;have g4:=(Qb o.v.r).1;clear o x;generalize c1:F a.f=a7 at *;generalize c3:F a.g=e8 at *;have y:=K_ c1 c3;clear c1 c3;refine q_ ?_;go_wp2_with fail
 go_loopw [13] (λb c=>∃(i:H) (a9 b0:ZY),b=ZX ZQ i/\i<=e/\K (H_ c (B d.1) #[a9,b0] 163/\E_ d c)) (λb _=>a7-ZL (ZA b))
 exact⟨0,V _ 0 0,.nilIface,X,v_,hn_,r_⟩;obtain⟨i,a9,b0,rfl,v,c⟩:=hrel;have d7:i<a7:=oj_ h.h y.1;have b9:i<F a.f:=y.1 ▸ d7;have⟨e9,f9,e3,h1,q,r⟩:=S.v.v.at b9;have e1:e9=f0:=w_;subst e1;have⟨L,b7⟩:=S.v.v.j i b9;have⟨u,k,P⟩:=L.d;have⟨m,l,a6⟩:=b7.iface;rw[Ak] at P;rw[P] at q L;rw[a6] at r;have b5:=K_ P a6;have⟨a1,a2⟩:=k2_ c.2 q r;have Q:_=T a9:=M_ 0 _ _ _ c.1;have R:_=T b0:=M_ 1 _ _ _ c.1;have D:=R_ 0 _ _ c.1;have G:=R_ 1 _ _ c.1;have c7:=Y L;have f5:=h.A i v;have f7:=F_ i a7;clear P a6 L b7 q r e3;generalize c2:F (Z a.f i Df).fs=f at *;have W:=Y c2;clear c2
 have a0:K ((ZO (ZO wr (J (B d.1) 0) (V u f k)) (J (B d.1) 1) _).1[B d.1]? =T (O_ #[V u f k,.iface m (P_ l)] 163)/\E_ d (ZO (ZO wr (J (B d.1) 0) (V u f k)) (J (B d.1) 1) (.iface m (P_ l)))):=
  ⟨ht_ 1 _ _ _ (ht_ 0 _ _ _ c.1),(c.2.setCell x_ _).setCell x_ _⟩
 go_upto_region 4 with fail;generalize (ZO (ZO wr (J (B d.1) 0) (V u f k))) (J (B d.1) 1) (.iface m (P_ l))=h7 at *;clear Q R D G a1 a2 c;have f1:=n_ 0 a0.1;go_wp2_with fail
 obtain⟨c6,e6⟩:∃c6,c6=wr:=⟨wr,X⟩;subst e6;go_loopw [5,20] (λp g n=>∃(b:H),p=ZX ZQ (Lv a i b:H)/\g=ZX ZQ b/\b<=f/\(i=e->b<=j)/\K (H_ n (B d.1) #[ZH u f k,.iface m (Y7 (T ⟨l,0,ZP⟩))] 163/\E_ d n)) (λ_ g _=>f-ZL (ZA g))
 exact⟨0,X,X,v_,λ_=>v_,a0⟩;clear a0 f1;obtain⟨b,rfl,rfl,g5,w,c⟩:=hrel;have Q:=n_ 0 c.1;have R:=n_ 1 c.1;have D:=R_ 0 _ _ c.1;have G:=R_ 1 _ _ c.1;have e2:=c.2.size
 have g8:Lv a i b<=10001:=by
  have A:=Zal (ZU b ((Z a.f i Df).fs)) (λa3 z=>by
   obtain⟨g,N,rfl⟩:=aM z;have M:g<F (Z a.f i Df).fs:=w_;have n:=h.n i g v M;have p:Z (Z a.f i Df).fs g 0=(ZU b ((Z a.f i Df).fs))[g]:=w_;rw[p] at n
   exact h.q _ n)
  have g:F (ZU b ((Z a.f i Df).fs))<=100:=w_;unfold Lv;omega
 by_cases c0:b<f
 ·have N:b<F (Z a.f i Df).fs:=W ▸ c0;have a4:=c7.q c.2;obtain⟨a8,e0,h0,_,b1,_⟩:=a4.b (by rw[Ak];exact W) c0;rw[Bq] at b1;subst e0;have a5:=h.n i b v N;rw[y.2] at a5
  have b4:K (Lv a i (b+1)=Lv a i b+(Z a.g (Z (Z a.f i Df).fs b 0) Aj).g):=by
   show 1+Bk a.g (ZU (b+1) ((Z a.f i Df).fs))=1+Bk a.g (ZU b ((Z a.f i Df).fs))+_
   have p:∀(g:U H),b<F g->ZU (b+1) g=ZU b g++[Z g b 0]:=λg n=>by rw[Qi n];grind
   have this:=p _ N;rw[this,wj];omega
  have f8:=F_ b f
  by_cases p:Z (Z a.f i Df).fs b 0=t
  ·have z:i=e:=by
    by_cases g:i=e
    exact g;exact absurd p (h.j i b v N (ZM O))
   have M:b=j:=by
    have A:=w z
    by_cases g:b=j
    exact g;exact absurd p (h.j i b v N (ZJ O))
   have n:(Z (Z a.f i Df).fs b 0:H)=(t:E):=(by rw[p]);rw[n] at b1;have g:K ((Y9 #[(Z s e Lm).1,(Z s e Lm).2]:ZY)=Y9 #[L_ a8 f k,.iface m (P_ l)]/\Lv a e j=Lv a i b):=(by rw[<- z,<- M];exact⟨by rw[b5.1,b5.2],X⟩);have A:K (Below _ d (ZO (ZO wr (J (B d.1) 0) (L_ a8 f k)) (J (B d.1) 1) (.iface m (P_ l)))):=(c.2.setCell x_ _).setCell x_ _;clear p n z M w a5 b4 a4;generalize Lv a i b=c5 at *;go_wp2;apply bodyPost_ret (v:=Y5 #[Y9 #[L_ a8 f k,.iface m (P_ l)],I (c5:H)]) (by simp[results,results145,go_sem, *]) X;rw[g.1,g.2];exact⟨X,A⟩
  have g7:((Z (Z a.f i Df).fs b 0:H)==(t:E))=ZZ:=aO (λg=>p O);have b8:Z (Z a.f i Df).fs b 0<F a.g:=y.2 ▸ a5;have g6:=h.q _ b8;have⟨d0,d2,d1,d3,_,q,r,c4,_,_,_⟩:=S.w.c (i:=Z (Z a.f i Df).fs b 0) b8
  have d8:i=e->b+1<=j:=λg=>by
   have A:=w g
   by_cases a3:b=j
   subst a3;subst g;exact absurd h.g p;omega
  generalize (Z (Z a.f i Df).fs) b 0=n at *;have⟨a1,a2,a3,d5⟩:=k4_ c.2 q r c4 d4;have b3:=KS.a (Z a.g n Aj)
  have b2:K (∀A:ZT,C_ 146 #[Y9 #[ZR (Z a.g n Aj).e.a,V d0 (F (Z a.g n Aj).e.f) d2,V d1 (F (Z a.g n Aj).e.c) d3]] A (U_ (ZX ZQ (Z a.g n Aj).g) A)):=λA=>by rw[<- b3];exact Fq _ _ _ _ _ _ _ A O
  clear b3 q r c4 a4 p w;generalize (Z a.g) n Aj=z at *;generalize z.e.a=h5 at *;generalize (F z.e.f)=h3 at *;generalize (F z.e.c)=h4 at *;generalize z.g=h2 at *;generalize Lv a i b=c5 at *;have f6:=F_ n e8;go_wp2_with fail
  apply (b2 _).m;rintro g h8 ⟨rfl,M⟩;have d6:=M;have c8:=K_ ((M.block _ (Qb c.1).1).T c.1) (c.2.T (M.m e2));clear M d6 c Q R D G a1 a2 a3 d5 b2 b1;go_wp2;go_roundw;exact⟨b+1,by rw[b4];go_num,g_,O,d8,c8⟩;exact z_
 have p:¬b<(f:E):=O
 have z:i<e:=by
  by_cases g:i=e
  have A:=w g;have n:=h.i;rw[<- g,W] at n;omega;omega
 have g:_:=c;clear Q R D G;go_wp2;go_roundw;exact⟨i+1,_,_,g_,O,g⟩;exact z_
def Pi.q{g w' f e d}(b:Pi g f e d)(c:E_ g w'):Pi w' f e d:=by have⟨l,k,m,j,i,h,a⟩:=b.g;exact⟨(c.block _ (Qb b.f).1).T b.f,l,k,m,j,i,h,a.v.q c,a.w.q c,a.n,a.l⟩
def Zbp{d e} c {f a x} i (h:Pi i d e a)(z:0<F a.f)(q:F a.g<=1000)(Q:f<F (Z a.f 0 Df).N)(R:F (Z a.f 0 Df).N<=1000)(D:c<F a.g)(l:∀b:ZT,Pi b d e a->C_ 78 #[P_ e,I f,I c] b (U_ (ZX ZQ (x:H)) b)):C_ 44 #[P_ d,I f,I c] i (U_ (Y5 #[ZX ZQ x,ZX ZQ 0]) i):=by
 have y:=n_ 0 h.f;have⟨m,t⟩:=Y_ h l
 have s:K (∀b:ZT,Pi b d e a->C_ 52 #[P_ d,I c] b (V_ (ZR Z0) b)):=λb A=>by have g:=Jk d e a (c:E) b A q;have j:ZE (0<=(c:E)/\c<=(F a.g:E)-1)=Z0:=t_;rw[j] at g;exact g
 have⟨a0,W,a1,S,N,u,o⟩:=h.g;have n:=Nd _ u i o.v z;clear h o l q D;generalize (F (Z a.f 0 Df).N)=M at *;have v:0<=(f:E):=O;have w:f<=(M:E)-1:=O;refine dl_ ?_;go_enter func44,ntmps44;go_wp2_with fail
 apply n.m;rintro j a2 ⟨rfl,k⟩;have g:=Y k;have P:=T_ k y;clear k n;go_wp2_with fail
 apply (Xf ⟨v,w⟩).m;rintro j a5 ⟨rfl,L⟩;obtain rfl:=L.s;go_wp2_with fail
 apply (s _ (m.q g)).m;rintro j a3 ⟨rfl,G⟩;obtain rfl:=G.s;go_wp2_with fail
 apply (t _ (m.q g)).m;rintro j a4 ⟨rfl,p⟩;have r:=Y (g.T (p.m g.size));clear p;go_wp2;go_ret2
 exact⟨X,r⟩
def Nm{f i g}:∀k b d {a e},Bt f i g b k d=.error (a,e)->a=2∨a=3
 |[],b,d,a,e,h=>by cases h
 | j::l,b,d,a,e,h=>by
  unfold Bt at h
  cases c:Cv f i g b j with
  |error n=>rw[c] at h;injection h with h;injection h with h1 h2;rw[<- h1];exact wg c
  |ok m=>rw[c] at h;exact Nm l _ _ h
theorem Ci a:F (Ab a)=ZK a:=by unfold Ab;rw[length_map];rfl
def Ff a b c:Ab (a.extract b c)=ZF b (ZU c (Ab a)):=by
 unfold Ab
 grind [ByteArray.data_extract,Array.toList_extract,map_take,map_drop,drop_take]
structure xg(d)(g)(c:H->ZG)(f:H->E)(e)(h)(b:RS):Prop where
 l:(∃a,a<g+1/\c a=Z0)->Zi7 d
 ok:∀a,a<g+1->Rq (Cp d (c a) (f a) e h (b.a a) b.k)/\(Cp d (c a) (f a) e h (b.a a) b.k).a=c a/\(Cp d (c a) (f a) e h (b.a a) b.k).b<=16
 num:∀a,a<g+1->∀i∈b.a a,(-1000000000<=i.num/\i.num<=1000000000)/\ZK i.f<=8
 k:∀j∈b.k,0<=j/\j<=99
section
variable {w wr:ZT} {K:H->Prop} {a b rb fb cb m:H} {wd:H->ZG} {sc ct:H->E} {bins:E} {size budget:H}
end
def rj(d:ZT)(b:H)(c:ZY)(a:U VS):Prop:=ZD d b 335 3 c (F a) (Lb a)
def rj.P{c a b L x}(d:ZD c a 335 3 b (F L+1) (Lb L++Jg x)):rj c a b (L++[x]):=by grind [rj,Yh,Lb]
def ZmV:(prog.info? 335).map (λa=>(a.zero,a.size,a.bytes))=T (T (Y9 #[ZR ZZ,I 0,Q_ ⟨#[]⟩]),3,32):=k_
def ZmW:(prog.info? 338).map (λa=>(a.zero,a.size,a.bytes))=T (T (Y9 #[I 0,N_]),2,32):=k_
structure Mc where
 g:E
 fs:U VS
 v:ZY
def Mc.o(a:Mc):E×U VS:=(a.g,a.fs)
def Sv(a:Mc):U ZY:=[I a.g,a.v]
def Rw:U Mc->U ZY
 |[]=>[]
 |b::a=>Sv b++Rw a
theorem yz a b:Rw (a++b)=Rw a++Rw b:=by
 induction a with
 |nil=>rfl
 |cons d a c=>simp[Rw,c]
structure Hd(d:ZT)(b)(e)(a):Prop where
 M:ZD d b 338 2 e (F a) (Rw a)
 j:∀c∈a,rj d b c.v c.fs
def Hd.nil{b a}:Hd b a (N_) []:=⟨rn_,s_⟩
def Hd.p{i w' e d c K}(f:Hd i e d c)(h:Aa K i w')(j:∀a,ZW d=T a->¬K a)(k:∀b∈c,∀a,ZW b.v=T a->¬K a):Hd w' e d c:=
 ⟨h.M f.M j,λb g=>h.M (f.j b g) (k b g)⟩
def Hd.d{g d b a}(f:Hd g d b a):∃c e,b=ZH c (F a) e:=by
 rcases f.M.2 with⟨rfl,k⟩|⟨j,h,i,rfl,_⟩
 ·grind
 grind
def Hd.q{c w' base b a}(d:Hd c base b a)(e:E_ c w'):Hd w' base b a:=d.p (.a (S:=λ_=>False) e) (λ_ _=>id) (λ_ _ _ _=>id)
def Hd.P{b f a i v' L p}(g:Hd b a i L)(q:rj b a p.v p.fs)(j:Y3 b f (ZW i))(r:ZD f a 338 2 v' (F L+1) (Rw L++Sv p)):Hd f a v' (L++[p]):=by
 have n:=(Aa.refl _ b).grown j (λm d _=>d);refine⟨?_,λe l=>?_⟩
 ·grind [yz,Rw]
 have h:rj b a e.v e.fs:=by
  rcases mem_append.1 l with c|c
  exact g.j e c
  grind
 refine n.M h (λm d c=>?_);have⟨o,k⟩:=Ac h d;exact Ag g.M c k C X
structure RwI(o a)(b i g d:H)(k)(l)(q)(e)(f)(n)(p)(h)(j):Prop where
 r:Fl a i k l q e
 u:Hd a b e f
 cf:a.1[g]? =T (O_ n 37)
 x:a.1[d]? =T (O_ #[I p,h] 338)
 A:rj a d h j
 t:Below b o a
 y:b<=i
 w:b<=g
 z:b<=d
 G:∀m∈f,∀c,ZW m.v=T c->c<d
 D:∀c,ZW e=T c->c<d
section
variable {w W f:ZT} {base a cb rb:H} {S:ZC} {k g:H} {z h:E} {d:ZY} {L:U Mc} {e:YZ ZY} {wt:E} {c:ZY} {b:U VS}
def RwI.i(i:RwI w W base a cb rb S k z d L e wt c b)(p:Fl f a S g h d)(n:Aa (λm=>m=a) W f):RwI w f base a cb rb S g h d L e wt c b:=
 ⟨p,i.u.p n (λm l j=>Ag i.u.M l i.r C j) (λq o m l j=>Ag (i.u.j q o) l i.r C j),
  n.g i.cf (λj=>by have o:=i.cf;have l:=i.r;unfold Fl at l;grind),
  n.g i.x (λj=>by have o:=i.x;have l:=i.r;unfold Fl at l;grind),
  n.M i.A (λm l j=>Ag i.A l i.r C j),i.t.T (n.b (by have:=i.t.size;have:=i.r.lt;have:=i.y;omega) (λm l=>p_ i.y)),i.y,i.w,i.z,i.G,i.D⟩
def RwI.q(g:RwI w W base a cb rb S k z d L e wt c b)(h:E_ W f):RwI w f base a cb rb S k z d L e wt c b:=by have i:=Aa.a (S:=λ_=>False) h;exact⟨g.r.q h,g.u.q h,i.g g.cf id,i.g g.x id,i.M g.A (λ_ _=>id),g.t.T (h.m (oj_ g.r.lt g.y)),g.y,g.w,g.z,g.G,g.D⟩
def RwI.o(f:RwI w W base a cb rb S k z d L e wt c b):a≠rb/\cb≠rb:=
 ⟨λh=>by have i:=f.x;have g:=f.r;unfold Fl at g;grind,λh=>by have i:=f.x;have g:=f.cf;grind⟩
def RwI.P{j m x}(f:RwI w W base a cb rb S k z d L e wt c b)(r:Y3 W j (ZW c))(u:ZD j rb 335 3 m (F b+1) (Lb b++Jg x)):RwI w (ZO j (J rb 1) m) base a cb rb S k z d L e wt m (b++[x])/\j.1[rb]? =T (O_ #[I wt,c] 338):=by
 have q:=(Aa.refl _ W).grown r (λk g _=>g);have n:=q.g f.x (λg=>Ag f.A g f.x C X);have l:Aa (λh=>_∨h=rb) W (ZO j _ m):=(q.m (λ_ _=>.inl)).setCell (p:=(J rb 1)) (λ_=>.inr X) _;have⟨s,t⟩:=f.o;refine⟨⟨f.r.p l ?_,f.u.p l (λh i g=>?_) (λp o h i g=>?_),l.g f.cf ?_,ht_ 1 _ _ _ n,Am (rj.P u) n C,f.t.T (l.b (oj_ f.r.lt f.y) (λh i=>?_)),f.y,f.w,f.z,f.G,f.D⟩,n⟩;rintro(g|g);exact Ag f.A g f.r C X;exact s g
 ·rcases g with g|g
  have:=f.D h i;have:=(B_ f.A h g).1;omega;have:=f.D h i;omega
 ·rcases g with g|g
  have:=f.G p o h i;have:=(B_ f.A h g).1;omega;have:=f.G p o h i;omega
 rintro(g|g);exact Ag f.A g f.cf C X;exact t g;have:=f.z
 rcases i with g|g
 have:=(B_ f.A h g).1;omega;omega
end
end Go.Proofs.YtfcgnpchbcmdeaaGreat
