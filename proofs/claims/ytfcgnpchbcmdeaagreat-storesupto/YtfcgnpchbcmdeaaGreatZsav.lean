import Derived.Test.YtfcgnpchbcmdeaaGreatZsat
import Derived.Test.YtfcgnpchbcmdeaaGreatZsau
open _root_ renaming Int->E,List->U,rfl->X,Nat->H,Option->Y0,Bool->ZG,ByteArray->ZC,Array->YZ
open Array renaming size->B,toList->Y4,setIfInBounds->YS
open Or renaming inl->ZM,inr->ZJ
open List renaming length->F,getD->Z,take->ZU,drop->ZF
open Option renaming some->T,none->ZP
open Go.World renaming cell?->ZV,alloc->ZN,ownsRow->ZD,drew->YY,setCell->ZO,drewN->Y1,frozen?->YT,grownBy->Y3
open ByteArray renaming size->ZK
open Go.Value renaming int->ZX,agg->Y9,slice->ZH,bool->ZR,ownBlock->ZW,string->YW,pointer->Y7,tuple->Y5,func->YX
open Go.IntKind renaming i64->ZQ
open Bool renaming true->Z0,false->ZZ
open Go.Proofs.Tryz renaming prog->Y8
open Go renaming Value->ZY,World->ZT,strOfNums->ZB,madeCells->YV
open Decidable renaming decide->ZE
open Int renaming toNat->ZL
open Go.Proofs renaming intOf->ZA
open Go.Obj renaming cells->YU
open Go.Ending renaming returned->ZI
namespace Go.Proofs.YtfcgnpchbcmdeaaGreat
set_option linter.all false
set_option maxRecDepth 100000
set_option maxHeartbeats 8000000
open Go.RowKit List Nat Go.World Go.Proofs.Tryz Go.Value Go.IntKind Go.Lib Go.Region
def Lw(b:List ByteArray):List Int:=b.flatMap (λa=>a.size%256::Ab a)
def ZiL{a:List ByteArray}{b}(d:b<a.length) c:Lw (a.take (b+1))=Lw (a.take b)++((a.getD b c).size:Int)%256::Ab (a.getD b c):=by
 unfold Lw;rw[Qi d,flatMap_append]
 grind
def ng(a:KS):U E:=[119,(a.d:E)%256,a.e.b%256]++Lw a.e.c
def Ie.D{b g f c}(a:Ie b g f c):Az g (B b.1) f c:=by
 refine⟨a.x.1,?_⟩
 rcases a.x.2 with j|⟨e,h,i,d,_,k⟩
 exact ZM j;exact ZJ ⟨e,h,i,d,a.z e (by rw[d];rfl),k⟩
def Ie.a{a c e d}(f:E_ a c)(b:Az c (B a.1) e d):Ie a c e d:=by
 refine⟨f,⟨b.1,?_⟩,λi g=>(B_ b i g).1⟩
 rcases b.2 with h|⟨m,j,k,l,_,n⟩
 exact ZM h
 grind
def Bj.d{f i g d j b}(h:Bj f i (V g d j) b)(o:F b=d){a}(s:a<d) k:∃e,g=T ⟨e,0,ZP⟩/\e<B f.1/\ZV f (J e a)=T (Q_ (Z b a k)):=by
 have m:=h;subst o
 rcases h.2 with⟨c,r⟩|⟨l,p,q,c,_,n,_⟩
 omega;simp only[slice.injEq,true_and] at c;obtain⟨rfl,rfl⟩:=c;refine⟨l,X,(Qb n).1,?_⟩;rw[World.ownsRow.cellAt m a O]
 grind
theorem Ss a:F (Ab a)=ZK a:=by unfold Ab;rw[length_map];rfl
def qd a:Go.Lib.strCells a=(Ab a).map (ZX .u8):=by unfold Go.Lib.strCells Ab;rw[map_map];rfl
def bw i s {n} u {o a} c1 c2 e l (a7:a.e.a=true)(d1:Bj i 0 (V n a.e.c.length o) a.e.c)(a6:Ie i l (V c1 e.length c2) e)(j3:a.e.c.length<=1000)(e3:∀x∈a.e.c,x.size<=8)(j5:e.length<=900000):C_ 100 #[.agg #[.bool a.e.a,V s 0 u,V n a.e.c.length o,I a.d],V c1 e.length c2] l λf b=>kq i (e++ng a) f b:=by
 rw[a7];have⟨f7,f9,g3⟩:=y3_ a6 d1 e3;have e0:a.e.b=a.e.c.length:=by unfold ES.b Kz;rw[a7];rfl
 have g0:K (ng a=[119,(a.d:Int)%256,a.e.c.length%256]++Lw a.e.c):=by show _=_;unfold ng;rw[e0]
 have f8:K (∀W:_,Calls _ 169 _ W λf b=>f=.returned (.int _ ((a.e.c.length:Nat):Int))/\_):=λW=>Uj true s n 0 u _ o W;have⟨i2,h1,h9,i0,i1⟩:=info_parts Zf3;have b8:K _:=a6.x;clear d1 a6 e3 a7 e0;generalize a.d=h,d9:e.length=D,e2:a.e.c.length=c at *;have r:=K_ d9 e2;clear d9 e2;refine q_ ?_;go_upto_region 4 with fail;generalize a4:l.alloc (O_ #[.bool true,V s 0 u,V n c o,I (h:Nat)] 172)=a9;have c9:E_ l a9:=(by rw[<- a4];exact r_);have k:a9.1[l.1.size]? =some (O_ #[.bool true,V s 0 u,V n c o,I h] 172):=(by rw[<- a4];exact hn_);have a8:=(Qb k).1;have b0:=n_ 0 k;have b1:=n_ 1 k;have b2:=n_ 2 k;have b3:=n_ 3 k;have c0:=K_ k c9;clear a4 c9 k
 refine Af (λb=>b.cell? _=some _/\b.cell? _=some _/\b.cell? _=some _/\b.cell? _=some _) 11 k_ ⟨b0,b1,b2,b3⟩ (λhHeld=>?_);refine G_ ?_;refine on_ 7 λKK hK=>?_;go_simp;apply (f8 _).m;rintro f f2 ⟨rfl,d7⟩;have G:=(br_ a9.1.size _).drew.T d7;have⟨w,b4,b5,b6⟩:=k4_ G b0 b1 b2 b3;have h8:=Qh a8 G.size;go_simp;refine hK _ _ ⟨w,b4,b5,b6⟩ (λhHeld=>?_);clear hK KK d7;refine G_ ?_;refine on_ 9 λKK hK=>?_;go_simp;refine hK _ _ ⟨X_ w,X_ b4,X_ b5,X_ b6⟩ (λhHeld=>?_);clear hK KK;try simp only[Act.put,sA,sB,sC]
 refine on_ 10 λKK hK=>?_;have L:=c0.2.T (G.m (Nat.le_of_lt a8));refine aq_ [.int .u8 119,.int .u8 ((h:Int)%256),.int .u8 ((c:Int)%256)] (ra_ (w:=f2) ((Aa.a (S:=λ_=>False) L).M b8 (λ_ _=>id)) _) ?_;rintro k0 j0 ⟨f1,a0,c4,_,i5,e8,h6⟩;have d8:Below _ l (f2.alloc (O_ #[.int .u8 119,.int .u8 ((h:Int)%256),.int .u8 ((c:Int)%256)] 5)):=L.alloc L.size _;have c8:=Ei.b d8 (Ei.a a0 c4 x_);have d4:Az _ 0 _ (_++[_,_,_]):=Az.P (n:=3) (r.1 ▸ f1) rfl
 have p:=(a0.block _ t_ (λf=>by
  have:=(B_ b8 _ f.s).2
  omega)).T ((hc_ h8).T ((G.block _ a8).T c0.1))
 have c7:=f7.out;have N:=K_ (c7.n d4 c8) p;have f3:=n_ 0 p;have f4:=n_ 1 p;have f5:=n_ 2 p;have f6:=n_ 3 p;subst h6;clear f1 a0 c4 d8 c8 d4 p c7 w b4 b5 b6 L;refine hK _ _ ⟨f3,f4,f5,f6⟩ (λhHeld=>?_);clear hK KK;try simp only[Act.put,sA,sB,sC]
 refine le_ ?_;clear b0 b1 b2 b3 hHeld;have g8:=n_ 1 N.2;clear f3 f4 f5 f6 hHeld;go_wp2_with fail
 go_loopw [1,28] (λj g b=>j=.slice (some ⟨i5,0,none⟩) (D+3) e8/\g=.int .i64 0/\K (j0=b)) (λ_ _ _=>0)
 exact⟨rfl,rfl,rfl⟩;obtain⟨rfl,rfl,e7⟩:=hrel;have h7:=e7.out;subst h7;clear e7;have g9:=n_ 2 N.2;go_wp2_with fail
 go_loopw [1,40] (λj g m=>∃(b:Nat) (t:Option Addr) (v:Nat) (d:List Int),j=.slice t d.length v/\g=.int .i64 b/\b<=c/\K (d=e++[119,(h:Int)%256,(c:Int)%256]++Lw (a.e.c.take b))/\d.length<=D+3+9*b/\K (Ie i m (.slice t d.length v) d/\m.1[l.1.size]? =some (.cells #[.bool true,.slice s 0 u,.slice n c o,.int .i64 (h:Nat)] 172 (0,0)))) (λ_ g _=>c-(intOf g).toNat)
 case atStart=>
  have b:(e++[119,(h:Int)%256,c%256]).length=D+3:=(by rw[Qe,r.1];rfl);refine⟨0,some _,e8,e++[119,(h:Int)%256,(c:Int)%256],by rw[b],rfl,v_,?_,O,?_⟩;show _=_;rw[take_zero];simp[Lw]
  grind
 clear N g9 g8;obtain⟨b,t,v,d,rfl,rfl,j4,P,h3,g⟩:=hrel
 by_cases e1:b<c
 ·have h2:b<a.e.c.length:=r.2 ▸ e1;have d2:=f9.q g.1.o;have⟨j7,h4,j6,w⟩:=d2.d r.2 e1 ⟨#[]⟩;subst h4;have e4:(a.e.c.getD b ⟨#[]⟩).size<=8:=g3 _ w_;have b9:K (e++[119,(h:Int)%256,c%256]++Lw (a.e.c.take (b+1))=(d++[((a.e.c.getD b ⟨#[]⟩).size:Int)%256])++Ab (a.e.c.getD b ⟨#[]⟩)):=(by show _=_;rw[ZiL h2 ⟨#[]⟩,P];simp);clear d2;generalize a.e.c.getD b ⟨#[]⟩=x at *;have⟨q,a5⟩:=W_ d.length;have y:=Y a5;rw[<- a5] at g h3 ⊢;clear a5;have Q:K (wr.ownsRow 0 5 1 (V t q v) q (d.map (int .u8))):=(by have j:=g.1.x;unfold Az at j;rw[<- y] at j;exact j);have j2:=F_ b c;have R:=Y e4;clear e4;have⟨j8,e6⟩:=W_ x.size;have j1:=Y e6;clear e6;go_wp2_with (at_builtin;refine ap_ [.int .u8 _] (Q.alloc _) ?_)
  rintro j9 i7 ⟨e9,c5,c3,_,i4,i3,h5⟩;have d3:Az _ 0 _ (_++[_]):=Az.P (n:=1) (by rw[<- y];exact e9) rfl;have a1:=Ei.b r_ (Ei.a c5 c3 s_);have d5:=a1.1.g g.2 (λf=>Ag Q f g.2 C rfl);have M:=g.1.n d3 a1;subst h5;have m:=K_ M d5;have z:K (i7.ownsRow i.1.size 5 1 (L_ i4 (q+1) i3) (q+1) ((d++[(x.size:Int)%256]).map (int .u8))):=by have j:=M.D;unfold Az at j;rw[Qe,<- y] at j;exact j
  have e5:=M.o.size;have h0:x.size<=8->_:=λ_=>trivial;clear e9 c5 c3 d3 a1 d5 M Q g w h0;have⟨A,a2⟩:=W_ (d++[(x.size:Int)%256]);rw[<- a2] at m z b9;have b7:K (A.length=q+1):=(by show _=_;rw[a2,Qe,y];rfl);clear a2;go_wp2_with (at_builtin;refine Go.Lib.wpList_append_own_string _ rfl (.tmp 50) (.tmp 51) 66 9 rfl i.1.size 5 i2 underlying66 underlying9 h1 h9 i0 i1 _ (q+1) _ rfl z x rfl (by have:=R.out;unfold maxLen;omega) (p_ R.out) e5 ?_)
  intro i6 i9 f0 c6 g7;have a3:Az i9 i.1.size i6 (A++Ab x):=(by unfold Az;rw[Qe,b7,Ss,map_append,<- qd];exact f0);obtain⟨g5,g6,rfl⟩:=a3.a;have S:=(Aa.refl _ _).grown c6 (λa d0 _=>d0);have d6:=S.g m.2 (λf=>Ag z f m.2 C rfl);have d0:=m.1.o.T (S.b e5 (λg2 g1=>m.1.z g2 g1));have g2:=K_ (Ie.a d0 a3) d6;have g1:K ((A++Ab x).length<=D+3+9*(b+1)):=(by show _<=_;rw[Qe,b7,Ss];have:=R.out;omega);clear f0 c6 g7 a3 S d6 d0 m z;generalize A++Ab x=g4 at *;refine J_ ?_;exact⟨b+1,g5,g6,g4,rfl,g_,O,b9.s,g1,g2⟩
 have y:¬b<(c:Int):=O;have q:a.e.c.take b=_:=aI (p_ r.2);have m:d=e++ng a:=(by rw[P,q,g0,append_assoc]);have j:=K_ g.1 m;clear q m P g;go_wp2;go_ret;refine⟨t,v,?_,?_⟩;rw[<- j.2];rfl;rw[<- j.2];exact j.1
def Wa a c b:C_ 299 #[Y9 #[I a,I c]] b (U_ (ZX ZQ a) b):=by refine dl_ ?_;go_enter func299,ntmps299;go_wp2;go_ret;exact⟨X,r_⟩
theorem Zlp:((prog.info? 380).bind (λc=>(c.methods.find? (λa=>a.name== "Rows")).map (λa=>((Y4 a.path).map (λb=>(b.struct,b.index,b.deref)),a.func))))=T ([(403,0,Z0)],T (299,ZZ)):=k_
theorem Zlq:((prog.info? 382).bind (λc=>(c.methods.find? (λa=>a.name== "Rows")).map (λa=>((Y4 a.path).map (λb=>(b.struct,b.index,b.deref)),a.func))))=T ([(396,0,Z0)],T (299,ZZ)):=k_
def ky{g h:Type}{c a}{b:g}{d:h}(e:c.bind a=T d)(f:c=T b):a b=T d:=by subst f;exact e
def vy{e c h f}(o:D_ c e 0 (I h))(p:D_ c e 1 (I f)):(method 535 380 (P_ e) "Rows").run Y8 c=.ok (299,Y9 #[I h,I f]) c:=by
 obtain⟨b,g⟩:∃b,prog.info? 380=T b:=by
  cases a:prog.info? 380 with
  |none=>grind [Zlp]
  |some b=>exact⟨b,X⟩
 have i:=ky Zlp g;have⟨d,k,j⟩:=Option.map_eq_some_iff.1 i;injection j with hp hf
 obtain⟨a,m⟩:∃a,Y4 d.path=[a]/\(a.struct,a.index,a.deref)=(403,0,Z0):=by
  cases n:Y4 d.path with
  |nil=>grind
  | cons l q=>
   grind [map_eq_nil_iff]
 obtain⟨q,n⟩:=m;injection n with e1 e2;injection e2 with e2 e3;unfold method;have l:d.path=#[a]:=w_;simp[go_sem,typeInfo,g,k,l,hf,follow,e1,e2,e3,Place.get,receiverAt,o,p]
def we{e c h f}(o:D_ c e 0 (I h))(p:D_ c e 1 (I f)):(method 535 382 (P_ e) "Rows").run Y8 c=.ok (299,Y9 #[I h,I f]) c:=by
 obtain⟨b,g⟩:∃b,prog.info? 382=T b:=by
  cases a:prog.info? 382 with
  |none=>grind [Zlq]
  |some b=>exact⟨b,X⟩
 have i:=ky Zlq g;have⟨d,k,j⟩:=Option.map_eq_some_iff.1 i;injection j with hp hf
 obtain⟨a,m⟩:∃a,Y4 d.path=[a]/\(a.struct,a.index,a.deref)=(396,0,Z0):=by
  cases n:Y4 d.path with
  |nil=>grind
  | cons l q=>
   grind [map_eq_nil_iff]
 obtain⟨q,n⟩:=m;injection n with e1 e2;injection e2 with e2 e3;unfold method;have l:d.path=#[a]:=w_;simp[go_sem,typeInfo,g,k,l,hf,follow,e1,e2,e3,Place.get,receiverAt,o,p]
def me:∀(c:U (ZY×ZY)) (a:H),a<F c->∀b,b<2->(Ov c)[a*2+b]? =[(Z c a Lm).1,(Z c a Lm).2][b]?
  |[],a,d=>by simp at d
  |e::f,0,_=>λb g=>by grind [Ov]
  |e::f,a+1,d=>λb g=>by simp only[Ov];rw[getElem?_append_right t_,show(a+1)*2+b-F [e.1,e.2]=a*2+b by simp;omega];exact me f a (by simpa using d) b g
def Pe.at{c k b e}(f:ZpF c k b e){i}(p:i<F e):∃d a,k=L_ d (F e) a/\d<B c.1/\ZV c (J d (i*2))=T (Z b i Lm).1/\ZV c (J d (i*2+1))=T (Z b i Lm).2:=by
 have q:=f.M
 rcases f.M.2 with⟨_,t⟩|⟨h,l,s,m,u,o,v,_⟩
 omega;subst m
 have j:∀a g,a<2->[(Z b i Lm).1,(Z b i Lm).2][a]? =T g->ZV c (J h (i*2+a))=T g:=λa g n r=>by rw[World.ownsRow.cellAt q (i*2+a) O];exact(me _ i (f.y ▸ p) a n).T r
 exact⟨h,l,X,(Qb o).1,j 0 _ O X,j 1 _ O X⟩
def Pe.a{g b f a}(e:ZpF g b f a):∃c d,b=ZH c (F a) d:=by
 rcases e.M.2 with⟨rfl,i⟩|⟨k,j,h,rfl,_⟩
 ·grind
 grind
def Nd n {z y A r a} q k (e:DsX k n z y A r a q)(o:0<F a):C_ 51 #[P_ n] k (U_ (ZX ZQ (F (Z a 0 Df).N)) k):=by
 have⟨R,M,v,Q,p,l⟩:=e.v.at o;subst v;have L:=n_ 1 e.r;have P:0<(F a:E):=O;have m:=Y Wa;have t:=(e.v.j 0 o).2;generalize (F a)=G at *;rw[show 0*2+1=1 from X] at l
 rcases t with⟨h,x,b,W,a0,d,_,c⟩|⟨h,x,b,N,S,d,_,c⟩
 ·rw[b,d] at l;have i:=n_ 0 c.r;have j:=n_ 1 c.r;clear c b d h;generalize (F (Z a 0 Df).N)=w,Lib.bitLen (Z a 0 Df).g=s at *;have u:=vy i j;clear e p;refine dl_ ?_;go_enter func51,ntmps51;go_wp2_with fail
  apply (m _ _ _).m;rintro b D ⟨rfl,f⟩;have g:=Y f;clear f;go_wp2;go_ret;exact⟨X,g⟩
 rw[b,d] at l;have i:=n_ 0 c.r;have j:=n_ 1 c.r;clear c b d h;generalize (F (Z a 0 Df).N)=w,Lib.bitLen (Z a 0 Df).g=s at *;have u:=we i j;clear e p;go_enter func51,ntmps51;go_wp2_with fail
 apply (m _ _ _).m;rintro b D ⟨rfl,f⟩;have g:=Y f;clear f;go_wp2;go_ret;exact⟨X,g⟩
def Jq.a{g b f a}(e:ZgN g b f a):∃c d,b=ZH c (F a) d:=by
 rcases e.M.2 with⟨rfl,i⟩|⟨k,j,h,rfl,_⟩
 ·grind
 grind
def yu{d i h j g f e c b}(a:Ph b d i h j g f e c):C_ 93 #[P_ d] b (V_ (ZX ZQ (F c.g)) b):=by obtain⟨k,l,rfl⟩:=a.w.a;have m:=n_ 0 a.v.r;clear a;refine er_ ?_;exact⟨X,X⟩
def Jk e h a b d (c:Pi d e h a)(n:F a.g<=1000):C_ 52 #[P_ e,I b] d (V_ (ZR (ZE (0<=b/\b<=F a.g-1))) d):=by
 have m:=n_ 0 c.f;have⟨r,q,s,o,k,j,f⟩:=c.g;have g:=yu f;clear f c;generalize (F a.g)=p at *;refine q_ ?_;go_wp2_with fail
 apply g.m;rintro l t ⟨rfl,i⟩;obtain rfl:=i.s;go_wp2
 all_goals go_ret
 all_goals (refine⟨?_,X⟩;simp<;>omega)
def Zhr{d k a b}(c:Pi b d k a)(e:0<F a.f):C_ 26 #[P_ d] b (U_ (ZX ZQ (F (Z a.f 0 Df).N)) b):=by
 have n:=n_ 0 c.f;have⟨r,q,s,o,l,j,f⟩:=c.g;have i:=Nd _ j b f.v e;clear f c e;generalize (F (Z a.f 0 Df).N)=p at *;refine q_ ?_;go_wp2_with fail
 apply i.m;rintro m t ⟨rfl,g⟩;have h:=Y g;clear g;go_wp2;go_ret;exact⟨X,h⟩
def Zbn(a:ZT) c d:B (a.freeze (J c d) 1).1=B a.1/\(∀b,b≠c->(a.freeze (J c d) 1).1[b]? =a.1[b]?):=by
 unfold World.freeze
 grind
def Yn a c d:Aa (λb=>b=c) a (a.freeze (J c d) 1):=by
 have⟨g,e⟩:=Zbn a c d;refine⟨?_,?_,?_,O,λb _ f=>e b f⟩
 all_goals (unfold World.freeze;grind)
def zb(d:ZT) b {c}(e:H) a (f:H_ d b c e):(d.freeze (J b a) 1).1[b]? =T (O_ c e (a,a+1)):=by
 unfold World.freeze
 grind
def Zg4 b a e d {c}(f:H_ b a c 5):(convert 66 66 (L_ a e d)).run Y8 b=.ok (L_ a e d) (b.freeze (J a (B c)) 1):=by have h:b.shape? a=T (5,B c):=(by unfold shape?;rw[f]);have i:prog.underlying 66=T (.slice 5):=underlying66;have g:prog.underlying 5=T (.int .u8):=k_;simp[convert,run_underlying i,run_underlying g,markStringish,h]
def dy{r c d a K z y}(N:c.guard=ZP) s x (S:c.op=.call {callee:=.builtin .append,args:=#[s,x],argTypes:=#[66,66]}) l m t u v w a5 a6 (a0:d.eval s=L_ l 2 2)(a2:d.eval x=L_ m 2 2)(L:a.1[l]? =T (O_ #[ZX .u8 t,ZX .u8 u] 5 a5))(M:a.1[m]? =T (O_ #[ZX .u8 v,ZX .u8 w] 5 a6))(G:∀f k,Hid (Az k 0 f [t,u,v,w]/\ZW f=T (B a.1)/\E_ a k/\∃D A,f=L_ D 4 A)->K (d.put c.dst f) k):if wanted c (yielded r d.tmps)=Z0 then Oper.wp Y8 c d a K z else y:=by
 have a1:wanted c (yielded r d.tmps)=Z0:=(by simp[wanted,N]);rw[aD a1];have⟨a7,Q,a3,p,a4⟩:=info_parts Zf3
 have o:∀g i j q,a.1[g]? =T (O_ #[i,j] 5 q)->∀e h,([i,j]:U ZY)[e]? =T h->ZV a (((J g 0):Addr).add e)=T h:=λg i j q n e h b=>by
  match e,b with
  |0,b=>simp at b;subst b;simp[Addr.add,ZV,n]
  |1,b=>simp at b;subst b;simp[Addr.add,ZV,n]
  |e+2,b=>simp at b
 have W:=run_append_grow (P:=Y8) (w:=a) 66 c.type 5 _ _ underlying66 Q a3 _ 2 2 _ (by rw[p];rfl) (o _ _ _ _ L) _ 2 2 _ (by rw[p];rfl) (o _ _ _ _ M) C C (by rw[a4];decide);have P:=grownCap_ge a 4 2 5;have R:=grownCap_le_maxLen a 4 2 5 C;unfold Oper.wp;simp only[execOp,S,resolve,invoke,builtin,Sem.run_bind,Sem.run_pure,Result.andThen_ok,map_toArray,map_cons,map_nil,a0,a2,W];refine G _ _ ⟨⟨X,ZJ ⟨B a.1,grownCap a _ 2 5,_,X,v_,hn_,?_⟩⟩,X,(br_ _ a).drew.alloc x_ _,_,_,X⟩;refine⟨P,R,?_,?_⟩
 ·rw[Array.size_append,Array.size_append,size_zeroCells];show 2+2+_=_;simp only[Value.cells]
  grind
 simp
def xB(x:XS):U E:=[x.M%256,x.f%256,x.i%256]
def Ll(a:KS):U E:=if a.e.a=Z0 then ng a else knB a
def Hv(a:Ft)(b:U XS):U E:=[71,82,(F (Z a.f 0 Df).N:E)%256,F a.g%256]++a.g.flatMap Ll++[(F a.f:E)%256]++a.f.flatMap Dq++Ba (F b) 2++b.flatMap xB
def Br(a:Ft)(b:U XS):U E:=Hv a b++Ba (Gy (Hv a b)) 4
def ZaF(a:BS):Prop:=F a.fs<=1000/\(∀c∈a.fs,c<=1000)/\(F (Bu a.N (F a.N))<=1000/\∀b∈Bu a.N (F a.N),b.1<=1000/\b.2<=1000)/\F (Bg (Cf a.N (Lib.bitLen a.g)) ((F a.N*Lib.bitLen a.g+7)/8) (F a.N*Lib.bitLen a.g))<=1000/\F (Dq a)<=5000
def Xl(a:KS):Prop:=(a.e.a=ZZ/\a.e.c=[]/\F a.e.f<=1000/\∀b∈a.e.f,-1000000000000<=b/\b<=1000000000000)∨(a.e.a=Z0/\a.e.f=[]/\F a.e.c<=1000/\∀b∈a.e.c,ZK b<=8)
def bf{d:Type}(c:d->U E)(a:U d) e {b}(f:b<F a):(ZU (b+1) a).flatMap c=(ZU b a).flatMap c++c (Z a b e):=by
 rw[Qi f,flatMap_append]
 grind
def Dm:XS:=⟨0,0,0⟩
def um:∀(c:U XS) (b:H),b<F c->∀a,a<3->(Jw c)[b*3+a]? =(Cw (Z c b Dm))[a]?
 |[],b,d=>by simp at d
 |f::c,0,_=>λa e=>by grind [Jw,Cw]
 |f::c,b+1,d=>λa e=>by simp only[Jw];rw[getElem?_append_right (by simp[Cw];omega),show(b+1)*3+a-F (Cw f)=b*3+a by simp[Cw];omega];exact um c b (by simpa using d) a e
def Nu.b{c h f m a}(l:Nu c 0 (V h f m) a)(q:F a=f){k}(p:k<f):∃d,h=T ⟨d,0,ZP⟩/\d<B c.1/\ZV c (J d (k*3))=T (I (Z a k Dm).M)/\ZV c (J d (k*3+1))=T (I (Z a k Dm).f)/\ZV c (J d (k*3+2))=T (I (Z a k Dm).i):=by
 subst q;have n:=l
 rcases n.2 with⟨i,v⟩|⟨j,t,u,i,_,o,w,_⟩
 omega;injection i with e1 e2 e3;subst e1
 have e:∀b g,b<3->(Cw (Z a k Dm))[b]? =T g->ZV c (J j (k*3+b))=T g:=λb g r s=>by rw[World.ownsRow.cellAt l (k*3+b) O];exact(um a k p b r).T s
 exact⟨j,X,(Qb o).1,e 0 _ O X,e 1 _ O X,e 2 _ O X⟩
theorem ZlX{a}(b:∀x∈a,x.size<=8):(Lw a).length<=9*a.length:=by
 induction a with
 |nil=>simp[Lw]
 | cons x a c=>
  grind [Lw,Ss]
def Zf8{b}(c:Xl b):F (Ll b)<=9003:=by
 unfold Ll
 rcases c with⟨a,_,d,_⟩|⟨a,_,d,e⟩
 rw[a,aC C];unfold knB;rw[Qe,ZaS];simp;omega
 grind [ng,ZlX]
def uc c2 h3 h2 h4 g7 e5 c a k (v:Ph k c2 h3 h2 h4 g7 e5 c a)(e9:0<F a.f)(c8:∀K∈a.g,Xl K)(i1:F a.g<=4)(c6:∀a4∈a.f,ZaF a4)(c5:F a.f<=4)(i6:F c<=4000)(c7:∀a4∈Hv a c,0<=a4/\a4<256):C_ 60 #[P_ c2] k (U_ (YW (ZB (Br a c))) k):=by
 obtain⟨g6,i9,rfl⟩:=v.w.a;have G:=n_ 0 v.v.r;have f2:=(Qb v.v.r).1;have t:=Y v;have⟨i7,_⟩:=info_parts Zf3;have e2:=Y (λu o=>Nd _ c u (t.v.q o) e9);have a7:=x3_ c8 c6 c7;clear v c8 c6 c7;generalize d0:F (Z a.f 0 Df).N=n at *;generalize b3:F a.g=l at *;have a2:=K_ d0 b3;clear d0 b3;refine dl_ ?_;go_enter func60,ntmps60;go_upto_region 1 with fail;go_cut [3] (λb d=>∃f g,b=ZH f 4 g/\Hid (Ie k d (ZH f 4 g) [71,82,(n:E)%256,(l:E)%256]))
 case first=>
  refine Af (λo=>ZV o _=T _) 13 k_ G λhHeld=>?_;refine G_ ?_;refine G_ ?_;refine G_ ?_;refine G_ ?_;refine G_ ?_;refine G_ ?_;refine G_ ?_;have b:E_ k _:=(br_ _ k).drew;generalize (YY k)=d at *
  repeat' first
   |(replace fW:=fW;replace gW:=gW;refine on_ 12 λKK hK=>?_)
   |(replace fW:=fW;replace hW:=hW;refine on_ 1 λKK hK=>?_)
   |(replace fW:=fW;refine on_ 0 λKK hK=>?_)
   |(replace iW:=iW;replace gW:=gW;refine on_ 11 λKK hK=>?_)
   |(replace iW:=iW;replace hW:=hW;refine Ro (i:=1) (j:=11) k_ X X (λKK hK=>?_) (λKK hK=>?_))
   |(replace iW:=iW;refine Ro (i:=0) (j:=11) k_ X X (λKK hK=>?_) (λKK hK=>?_))
   |(replace gW:=gW;refine on_ 3 λKK hK=>?_)
   |(replace hW:=hW;refine Ro (i:=1) (j:=3) k_ X X (λKK hK=>?_) (λKK hK=>?_))
   |refine Ro (i:=0) (j:=3) k_ X X (λKK hK=>?_) (λKK hK=>?_)
   |(apply dy X _ (.tmp 21) X _ _ 71 82 _ _ (2,3) (0,0) j_ j_ hW fW;intro A D r;obtain⟨q,p,o,z,x,w⟩:=r;have s:Hid (Ie k _ _ [_,_,_%256,_%256]):=⟨b.T (o.m b.size),q,λe hk=>by rw[p] at hk;injection hk with hk;rw[<- hk];exact b.size⟩;subst w;clear q p o;refine hK _ _ (T_ s.o G) (λhHeld=>?_);clear hK KK;(try simp only[Act.put]);(try simp only[setIfInBounds_toArray,set_cons_succ,set_cons_zero]);refine Ew (i:=13) k_ X k_ (λKK hK=>?_);go_simp;apply hK _ _;clear hK KK;(try simp only[Act.put]);(try simp only[setIfInBounds_toArray,set_cons_succ,set_cons_zero]);refine Fr k_ ?_ _;go_wp2;go_meet;grind)
   |(go_simp;apply (e2 _ b).m;rintro m d ⟨rfl,j⟩;(try have hW:=(j.block _ (Qb hW).1).T hW);have b:=b.T (j.m b.size);have iW:Hid True:=trivial;clear j;go_simp;refine hK _ _ (T_ b G) (λhHeld=>?_);clear hK KK;(try simp only[Act.put]);(try simp only[setIfInBounds_toArray,set_cons_succ,set_cons_zero]);refine tkP 4 ?_)
   |(have y:=Zg4 d lb 2 2 hW;have hW:=zb d lb 5 2 hW;(try have fW:=(Yn d lb 2).g fW O);have b:=b.T ((Yn d lb 2).b b.size (λa1 a6=>a6 ▸ hl));have gW:Hid True:=trivial;go_simp;generalize World.freeze d (J lb 2) 1=d at *;clear y;refine hK _ _ (T_ b G) (λhHeld=>?_);clear hK KK;(try simp only[Act.put]);(try simp only[setIfInBounds_toArray,set_cons_succ,set_cons_zero]))
   |(have hW:=ha_ d (YU #[ZX .u8 71,ZX .u8 82] 5);have hl:=b.size;(try(have u:=ne_of_lt (Qb fW).1;have fW:=(hb_ d (YU #[ZX .u8 71,ZX .u8 82] 5) rb (Qb fW).1).T fW));have b:=b.alloc b.size (YU #[ZX .u8 71,ZX .u8 82] 5);go_simp;generalize (B d.1)=lb at *;generalize ZN d (YU #[ZX .u8 71,ZX .u8 82] 5)=d at *;refine hK _ _ (T_ b G) (λhHeld=>?_);clear hK KK;(try simp only[Act.put]);(try simp only[setIfInBounds_toArray,set_cons_succ,set_cons_zero]))
   |(have fW:=ha_ d (YU #[ZX .u8 (IntKind.u8.wrap (n:E)),ZX .u8 (IntKind.u8.wrap (l:E))] 5);(try(have u:=ne_of_lt (Qb hW).1;have hW:=(hb_ d (YU #[ZX .u8 (IntKind.u8.wrap (n:E)),ZX .u8 (IntKind.u8.wrap (l:E))] 5) lb (Qb hW).1).T hW));have b:=b.alloc b.size (YU #[ZX .u8 (IntKind.u8.wrap (n:E)),ZX .u8 (IntKind.u8.wrap (l:E))] 5);go_simp;generalize (B d.1)=rb at *;generalize ZN d (YU #[ZX .u8 (IntKind.u8.wrap (n:E)),ZX .u8 (IntKind.u8.wrap (l:E))] 5)=d at *;refine hK _ _ (T_ b G) (λhHeld=>?_);clear hK KK;(try simp only[Act.put]);(try simp only[setIfInBounds_toArray,set_cons_succ,set_cons_zero]))
 obtain⟨e3,e6,rfl,a9⟩:=hcut;have g9:=T_ a9.o G;go_wp2_with fail
 go_loopw [3,28] (λr i b=>∃(e:H) (f:Y0 Addr) (g d:H),r=ZH f d g/\i=ZX ZQ e/\e<=l/\d<=4+e*9003/\Hid (Ie k b (ZH f d g) ([71,82,(n:E)%256,(l:E)%256]++(ZU e a.g).flatMap Ll)/\F ([71,82,(n:E)%256,(l:E)%256]++(ZU e a.g).flatMap Ll)=d)) (λ_ i _=>l-ZL (ZA i))
 case atStart=>exact⟨0,e3,e6,4,X,X,v_,O,by rw[take_zero];exact⟨a9,X⟩⟩
 clear a9 g9;obtain⟨e,f,g,d,rfl,rfl,hk,N,b⟩:=hrel
 by_cases f5:e<l
 ·have b1:e<F a.g:=a2.2 ▸ f5;have⟨a1,d3,D,a3,R,a5,W,d1,x,y,a0,b6,M,b5⟩:=t.w.at b1;have b2:g6=T ⟨a1,0,ZP⟩:=(by injection W);subst b2;have j:Xl (Z a.g e Aj):=(by have:Z a.g e Aj=a.g[e]:=(by simp[Z,b1]);rw[this];exact a7.1 _ (Qf _));have c3:=Y j;have z:=b.1.o;have⟨S,p,P,b9⟩:=k4_ z x y a0 b6;have r:Hid ([71,82,(n:E)%256,l%256]++(ZU (e+1) a.g).flatMap Ll=([71,82,(n:E)%256,l%256]++(ZU e a.g).flatMap Ll)++Ll (Z a.g e Aj)):=(by show _=_;rw[bf Ll a.g Aj b1,append_assoc]);have a6:=Y (Zf8 j)
  have Q:Hid (∀u s,Ie k u (V f (F s) g) s->F s<=900000->C_ 100 #[Y9 #[ZR (Z a.g e Aj).e.a,V D (F (Z a.g e Aj).e.f) a3,V R (F (Z a.g e Aj).e.c) a5,I (Z a.g e Aj).d],V f (F s) g] u λm o=>kq k (s++Ll (Z a.g e Aj)) m o):=λu s o h=>by
   rcases j with j|j
   have i:=hw k R a5 f g s u j.1 M o j.2.2.1 j.2.2.2 h;have p:Ll (Z a.g e Aj)=knB (Z a.g e Aj):=(by unfold Ll;rw[j.1];rfl);rw[p,j.2.1];exact i;have i:=bw k D a3 f g s u j.1 b5 o j.2.2.1 j.2.2.2 h;have p:Ll (Z a.g e Aj)=ng (Z a.g e Aj):=(by unfold Ll;rw[j.1];rfl);rw[p,j.2.1];exact i
  clear j x y a0 b6 M b5 W z;generalize (Z a.g) e Aj=A at *;generalize [71,82,(n:E)%256,(l:E)%256]++(ZU e a.g).flatMap Ll=b0 at *;have b8:=F_ e l;generalize A.e.a=c1 at *;generalize (F A.e.c)=c0 at *;generalize (F A.e.f)=q at *;generalize A.d=b7 at *;go_wp2_with fail
  have o:=b.1.q (y_.alloc x_ (O_ #[ZR c1,V D q a3,V R c0 a5,I (b7:H)] 172));have L:=Q _ _ (b.2 ▸ o) (p_ b.2);rw[b.2] at L;apply L.m;rintro m e8 ⟨c4,d2,rfl,i⟩;rw[<- r] at i ⊢;have⟨b4,w⟩:=W_ (F ([71,82,(n:E)%256,l%256]++(ZU (e+1) a.g).flatMap Ll));have e1:b4<=4+(e+1)*9003:=by rw[w,r,Qe,b.2];have:=a6.out;omega
  rw[<- w] at i ⊢;have a8:=K_ i w.s;clear i w L o Q r b S p P b9;go_wp2;go_roundw;case rel=>grind
  case measure=>exact z_
 have b3:¬e<(l:E):=O;have A:ZU e a.g=_:=aI (p_ a2.2);rw[A] at b;have⟨e4,h8,g2⟩:=t.v.v.a;subst g2;have b7:Hid (Hv a c=([71,82,(n:E)%256,l%256]++a.g.flatMap Ll)++[(F a.f:E)%256]++a.f.flatMap Dq++Ba (F c) 2++c.flatMap xB):=(by show _=_;unfold Hv;rw[a2.1,a2.2]);generalize c9:F a.f=q at *;have⟨b5,d8⟩:=Y_ c9 c5;clear c9 A c5;have b9:=n_ 1 t.v.r;have p:=T_ b.1.o b9;have i5:=Qh f2 b.1.o.size;generalize [71,82,(n:E)%256,(l:E)%256]++a.g.flatMap Ll=a3 at *;have R:Hid (ZD wr 0 5 1 (V f d g) d (a3.map (ZX .u8))):=(by have i:=b.1.x;unfold Az at i;rw[b.2] at i;exact i);have f6:d<=36016:=O;go_wp2_with (at_builtin;refine ap_ [ZX .u8 ((q:E)%256)] (R.alloc _) ?_)
 rintro h0 h5 ⟨d4,c3,c1,_,j1,j0,g0⟩;have b6:Hid (Ie k h5 h0 (a3++[(q:E)%256])/\F (a3++[(q:E)%256])=d+1):=(by refine⟨b.1.n ?_ (Ei.b ((br_ _ wr).alloc x_ _) (Ei.a c3 c1 s_)),by rw[Qe,b.2];rfl⟩;refine Az.P (n:=1) ?_ X;rw[b.2];exact d4);have e7:=T_ b6.1.o b9;subst g0;clear d4 c3 c1 R b p N;generalize a3++[(q:E)%256]=D at *;obtain⟨d6,g4⟩:∃d6,d6=wr:=⟨wr,X⟩;subst g4;go_wp2_with fail
 go_loopw [3,50] (λr i h=>∃(j:H) (f:Y0 Addr) (g d:H),r=ZH f d g/\i=ZX ZQ j/\j<=q/\d<=36017+j*5000/\Hid (Ie k h (ZH f d g) (D++(ZU j a.f).flatMap Dq)/\F (D++(ZU j a.f).flatMap Dq)=d)) (λ_ i _=>q-ZL (ZA i))
 case atStart=>exact⟨0,_,_,d+1,X,X,v_,O,w_⟩
 clear b6 e7;obtain⟨j,f,g,d,rfl,rfl,f3,N,b⟩:=hrel;have i0:=aG f3 d8
 by_cases f4:j<q
 ·have a5:j<F a.f:=b5 ▸ f4;have⟨a1,d3,W,d1,x,y⟩:=t.v.v.at a5;have b2:e4=T ⟨a1,0,ZP⟩:=(by injection W);subst b2;have P:ZaF (Z a.f j Df):=(by have:Z a.f j Df=a.f[j]:=(by simp[Z,a5]);rw[this];exact a7.2.1 _ (Qf _));have⟨M,a0⟩:=t.v.v.j j a5;have⟨d9,e0,b1⟩:=M.d;have⟨d7,d5,c0⟩:=a0.iface;rw[Ak] at b1;rw[b1] at x M;rw[c0] at y a0;have z:=b.1.o;have⟨S,p⟩:=k2_ z x y;have r:Hid (D++(ZU (j+1) a.f).flatMap Dq=(D++(ZU j a.f).flatMap Dq)++Dq (Z a.f j Df)):=(by show _=_;rw[bf Dq a.f Df a5,append_assoc]);have a6:=Y P.2.2.2.2
  have Q:=Y (λu s o h=>
   ao k f g s u M a0 o P.1 P.2.1 h P.2.2.1 P.2.2.2.1)
  clear P x y M a0 W z b1 c0;generalize (Z a.f) j Df=h at *;generalize D++(ZU j a.f).flatMap Dq=b0 at *;generalize (F h.fs)=s at *;have b8:=F_ j q;go_wp2_with fail
  have o:=b.1.q (y_.alloc x_ (O_ #[V d9 s e0,.iface d7 (P_ d5)] 163));have L:=Q _ _ (b.2 ▸ o) (p_ b.2);rw[b.2] at L;apply L.m;rintro m e8 ⟨c4,d2,rfl,i⟩;rw[<- r] at i ⊢;have⟨b4,w⟩:=W_ (F (D++(ZU (j+1) a.f).flatMap Dq));have e1:b4<=36017+(j+1)*5000:=by rw[w,r,Qe,b.2];have:=a6.out;omega
  rw[<- w] at i ⊢;have a8:=K_ i w.s;clear i w L o Q r b S p;go_wp2;go_roundw;case rel=>grind
  case measure=>exact z_
 have i3:¬j<(q:E):=O;have A:ZU j a.f=_:=aI (p_ b5.out);rw[A] at b;have⟨j4,j5,g3⟩:=t.v.j.d;subst g3;have c0:=n_ 2 t.v.r;have P:=T_ b.1.o c0;have f6:d<=56017:=O;have e1:=Y b7;generalize f0:D++a.f.flatMap Dq=a5 at *;have w:C_ 102 #[V f d g,I (F c),I 2] wr λm o=>kq k (a5++Ba (F c) 2) m o:=(by have i:=b.1;rw[<- b.2] at i ⊢;exact(Ou f g 2 _ i.x O (p_ b.2) O O).m (λm o v=>v.out i));clear A f0 b7;generalize d3:F c=u at *;have W:=Y d3;clear d3;go_wp2_with fail
 apply w.m;rintro m j3 ⟨h7,h9,rfl,L⟩;have⟨Q,M⟩:=W_ (F (a5++Ba u 2));have f7:Q=d+2:=(by rw[M,Qe,Dr,b.2]);have i2:Q<=56019:=O;rw[<- M] at L ⊢;have e0:=K_ L M.s;have e8:=T_ L.o c0;clear L M f7 w b P N;generalize a5++Ba (u:H) 2=s at *;obtain⟨d7,g5⟩:∃d7,d7=wr:=⟨wr,X⟩;subst g5;go_wp2_with fail
 go_loopw [3,70] (λr i x=>∃(h:H) (f:Y0 Addr) (g d:H),r=ZH f d g/\i=ZX ZQ h/\h<=u/\d=Q+h*3/\Hid (Ie k x (ZH f d g) (s++(ZU h c).flatMap xB)/\F (s++(ZU h c).flatMap xB)=d)) (λ_ i _=>u-ZL (ZA i))
 case atStart=>exact⟨0,_,_,Q,X,X,v_,X,w_⟩
 clear e0 e8;obtain⟨h,f,g,d,rfl,rfl,i4,N,b⟩:=hrel
 by_cases d2:h<u
 ·have f9:h<F c:=W ▸ d2;have⟨a1,a6,d1,x,y,a0⟩:=Nu.b t.v.j W d2;subst a6;have z:=b.1.o;have⟨S,p,P⟩:=k3_ z x y a0;have r:Hid (s++(ZU (h+1) c).flatMap xB=(s++(ZU h c).flatMap xB)++[((Z c h Dm).M:E)%256,(Z c h Dm).f%256,(Z c h Dm).i%256]):=(by show _=_;rw[bf xB c Dm f9,append_assoc];rfl);clear x y a0 z;generalize s++(ZU h c).flatMap xB=b0 at *;generalize (Z c h Dm).M=b1 at *;generalize (Z c h Dm).f=b2 at *;generalize (Z c h Dm).i=b4 at *;have R:Hid (ZD wr 0 5 1 (V f d g) d (b0.map (ZX .u8))):=by have i:=b.1.x;unfold Az at i;rw[b.2] at i;exact i
  have d9:=Y N;have f8:d<=70000:=O;clear N;have b8:=F_ h u;go_wp2_with (at_builtin;refine ap_ [ZX .u8 ((b1:E)%256),ZX .u8 ((b2:E)%256),ZX .u8 ((b4:E)%256)] ((R.alloc _).alloc _) ?_)
  rintro h1 h6 ⟨d5,c4,i,_,j2,g8,g1⟩;have a8:Hid (Ie k h6 h1 (s++(ZU (h+1) c).flatMap xB)/\F (s++(ZU (h+1) c).flatMap xB)=d+3):=by have f1:E_ wr (ZN (ZN wr (O_ #[I b1,I b2,I b4] 184)) (O_ #[ZX .u8 (b1%256),ZX .u8 (b2%256),ZX .u8 (b4%256)] 5)):=r_.alloc s_ _;rw[r];refine⟨b.1.n ?_ (Ei.b f1 (Ei.a c4 i s_)),by rw[Qe,b.2];rfl⟩;refine Az.P (n:=3) ?_ X;rw[b.2];exact d5
  subst g1;clear d5 c4 i R b r S p P;go_wp2;go_roundw;case rel=>exact⟨h+1,T _,g8,d+3,X,g_,O,p_ d9.out,a8⟩
  case measure=>exact z_
 have b0:¬h<(u:E):=O;have A:ZU h c=c:=aI (p_ W.out);rw[A,<- e1] at b;have f8:d<=70000:=O
 have x:C_ 103 #[V f d g] wr (V_ (ZX .u32 (Gy (Hv a c))) wr):=(by have i:=b.1.x;rw[<- b.2] at i ⊢;exact yf f g i (p_ b.2) a7.2.2);have z:=Qp .xor 4294967295 (Zg5 (Hv a c));have a1:0<=Gy _/\Gy _<_:=z;have r:Hid (Br a c=_++_):=rfl;have w:C_ 102 #[V f d g,I (Gy (Hv a c)),I 4] wr λm o=>kq k (Hv a c++Ba (Gy (Hv a c)) 4) m o:=(by have i:=b.1;rw[<- b.2] at i ⊢;exact(Ou f g 4 _ i.x O (p_ b.2) O O).m (λm o v=>v.out i));rw[<- r] at w;clear A z N r;generalize Gy (Hv a c)=d1 at *;obtain⟨b1,b2⟩:=a1;go_wp2_with fail
 apply x.m;rintro m b8 ⟨rfl,a0⟩;obtain rfl:=a0.s;clear x;go_wp2_with fail
 apply w.m;rintro m c4 ⟨a6,a8,rfl,i⟩;have y:=Pn _ 0 i.x;have S:=Y i.o;generalize (F (Br a c))=b4 at *;clear i w b;go_wp2;go_ret;exact⟨X,S⟩
def Zd6{f e v u w t s b a c}(m:H_ c f #[P_ e] 110)(g:Ph c e v u w t s b a)(h:0<F a.f)(o:∀K∈a.g,Xl K)(n:F a.g<=4)(k:∀d∈a.f,ZaF d)(j:F a.f<=4)(p:F b<=4000)(l:∀d∈Hv a b,0<=d/\d<256):C_ 34 #[P_ f] c (U_ (YW (ZB (Br a b))) c):=by
 have y:=n_ 0 m;have r:=uc _ _ _ _ _ _ b a c g h o n k j p l;clear m g h o n k j p l;generalize ZB (Br a b)=z at *;refine dl_ ?_;go_enter func34,ntmps34;go_wp2_with fail
 apply r.m;rintro x A ⟨rfl,i⟩;have q:=Y i;clear i;go_wp2;go_ret;exact⟨X,q⟩
def px c a b:C_ 330 #[Y9 #[I c,I a]] b (U_ (ZX ZQ a) b):=by refine dl_ ?_;go_enter func330,ntmps330;go_wp2;go_ret;exact⟨X,r_⟩
theorem ZbE{d}(e:∀i,d i<=1) c:∀b a,a<b->Hk d c b/2^a%2=d (c+a)
 |0,a,g=>O
 | b +1,a,g=>by
  simp only[Hk]
  by_cases f:a=b
  ·subst f;have h:=Qz e c a
   grind [add_mul_div_right,div_eq_of_lt]
  have h:a<b:=O;have k:=ZbE e c b a h
  have j:d (c+b)*2^b=d (c+b)*2^(b-a-1)*2*2^a:=by
   have:(2:H)^b=2^(b-a-1)*2*2^a:=by rw[Nat.mul_assoc,<- pow_succ',<- Nat.pow_add];congr 1;omega
   grind
  grind [add_mul_div_right]
theorem Ug{b}(e:∀a,b a<=1){c a}(d:a<c):Hf b c (a/8)/2^(a%8)%2=b a:=by grind [Hf,ZbE]
def Ni{e} d c:∀a,(∀b,b<a->e (c+b)=d/2^b%2)->Hk e c a=d%2^a
 |0,_=>by simp[Hk,mod_one]
 |a+1,f=>by simp only[Hk];rw[Ni d c a (λb g=>f b O),f a O,mod_pow_succ,Nat.mul_comm (2^a)]
def ZgT{c a b}(d:Z c b 0<2^a):Hk (Cf c a) (b*a) a=Z c b 0:=by
 rw[Ni _ _ a (λf e=>?_),mod_eq_of_lt d];unfold Cf;have g:(b*a+f)/a=b:=by rw[Nat.mul_comm,mul_add_div O,div_eq_of_lt e,Nat.add_zero]
 grind [Nat.mul_comm,mul_add_mod,mod_eq_of_lt]
def ZiK a (b:0<=a)(c:a<2^8):i64.wrap a=a:=Au O O
def Zmt(a b:H)(c:a<256)(d:b<256):bits .or ZQ a b=(a|||b:H):=(bits_nat ZQ 8 C ZiK a b O O).2
def Oe y L c5 b i {f} q {c} t (m:Oo t 0 y L c5 b (Bg c i f))(a1:∀c8,c c8<=1)(d7:b<=6)(c0:q*b+b<=f)(d5:f<=8*i)(d6:f<=2000):C_ 323 #[P_ y,I q] t (U_ (ZX ZQ (Hk c (q*b) b:H)) t):=by
 have⟨a6,w⟩:=Y_ m a1;have a3:=Dj c i f;have a8:=n_ 0 m.r;have a9:=n_ 1 m.r
 have b0:D_ t y 2 (L_ L i i):=by
  have a4:=n_ 2 m.r
  grind
 have b6:=(Qb m.r).1;have N:=Y px;have⟨e,A⟩:=W_ (q*b);have e1:q*b=(e:E):=(by rw[A];simp);rw[<- A] at c0 ⊢;have e2:_=(e:E):=Au O O;have a7:K (Bg c i f=_/\_):=⟨X,a3⟩;clear m a1 A a3;refine q_ ?_;go_wp2_with fail
 apply (N _ _ _).m;rintro z f2 ⟨rfl,n⟩;have⟨b1,b2⟩:=k2_ n a8 a9;have b7:=Qh b6 n.size;have u:=Y n;clear n;go_wp2_with fail
 apply (N _ _ _).m;rintro z d0 ⟨rfl,W⟩;have v:=Y (u.T (W.m u.size));clear W b1 b2 b7 u;have d4:=T_ v b0;go_wp2_with fail
 go_loopw [5,21] (λh g j=>∃(a d:H),h=ZX ZQ (d:H)/\g=ZX ZQ a/\a<=b/\K (d=Hk c e a)/\K (d0=j)) (λ_ g _=>b-ZL (ZA g))
 exact⟨0,0,X,X,v_,X,X⟩;obtain⟨a,d,rfl,rfl,d8,r,a5⟩:=hrel;have c1:=a5.out;subst c1;clear a5
 by_cases d9:a<b
 ·have⟨g,S⟩:=W_ (e+a);have⟨h,P⟩:=W_ (g/8);have⟨l,R⟩:=W_ (g%8);have Q:h<i:=O;have a0:=Kj c f Q;obtain⟨c6,b8,e0,x⟩:=a6.M.b X (k:=h) (by rw[a7.2];exact Q);have b9:c6=L:=w_;subst b9;rw[a0] at x;have b3:=T_ v x;have⟨o,s⟩:=W_ (Hf c f h);have c2:o<256:=s ▸ (li w f h);rw[<- s] at b3;have⟨p,D⟩:=W_ (c g);have b5:o/2^l%2=p:=(by rw[s,P,R,D];exact Ug w O);have n:p<=1:=O;have a2:d<2^a:=r ▸ (Qz w _ _);have b4:_^a<=2^5:=Nat.pow_le_pow_right C O;have⟨j,G⟩:=W_ (p*2^a);have c3:_<=1*2^a:=aK _ n;have c4:j<256:=O
  have M:K (d+j=Hk c e (a+1)):=by show d+j=Hk c e a+c (e+a)*2^a;rw[<- r,G,D,S]
  have e3:e+a=(g:E):=O;have e4:(g:E).tdiv 8=h:=w_;have e5:g/8=(h:E):=O;have e6:(g:E).tmod 8=l:=w_;have e7:g%8=(l:E):=O
  have e8:bits BinOp.and IntKind.u8 (o/2^l) 1=p:=by
   have z:(o/2^l)=((o/2^l:H):E):=s_;rw[z];have a4:=(Zdt (o/2^l) 1 (Nat.lt_of_le_of_lt (div_le_self _ _) c2) C).1
   grind
  have e9:_=(g:E):=Au O O;have f0:_=(h:E):=Au O O;have f1:i64.wrap (p*2^a)=j:=(by grind [Au]);have c7:bits BinOp.or ZQ d j=(d+j:H):=(by rw[Zmt d j O c4,G,Zey a2]);have⟨c9,a4⟩:=W_ (d+j);rw[<- a4] at c7 M;have d1:=F_ a b;have d2:(a:E)<=64:=O;have d3:=F_ h i;clear c3 b5 a2 b4 G a4 s D P R S a0 x r b8;go_wp2;go_roundw;exact⟨a+1,c9,X,g_,O,M,True.intro⟩;exact z_
 have j:¬a<(b:E):=O;have h:a=b:=O;have g:K (d=Hk c e b):=w_;clear h r;go_wp2;go_ret;rw[<- g];exact⟨X,v⟩
structure Wh(b:Ft)(f c e):Prop where
 h:c<F b.f
 i:e<F (Z b.f c Df).fs
 g:Z (Z b.f c Df).fs e 0=f
 j:∀a d,a<=c->d<F (Z b.f a Df).fs->(a<c∨d<e)->Z (Z b.f a Df).fs d 0≠f
 A:∀a,a<=c->F (Z b.f a Df).fs<=100
 n:∀a d,a<=c->d<F (Z b.f a Df).fs->Z (Z b.f a Df).fs d 0<F b.g
 q:∀a,a<F b.g->(Z b.g a Aj).g<=100
def Lv(a:Ft)(b c:H):H:=1+Bk a.g (ZU c ((Z a.f b Df).fs))
def Zal{b}:∀a:U H,(∀c∈a,(Z b c Aj).g<=100)->Bk b a<=100*F a
 |[],_=>by simp[Bk]
 | c::a,d=>by
  have g:=Zal a (λf e=>d f (by simp[e]))
  grind [Bk]
def Zcy b6 t e j f3 f2 f4 e7 s c9 a d (o:Ph d b6 f3 f2 f4 e7 s c9 a)(x:Wh a t e j)(g3:F a.f<=1000):C_ 145 #[P_ b6,I t] d (U_ (Y5 #[Y9 #[(Z s e Lm).1,(Z s e Lm).2],ZX ZQ (Lv a e j:H)]) d):=by
 have⟨S,h⟩:=Y_ o x;have⟨f0,g0,e4,g9,_,_⟩:=o.v.v.at (i:=0) (p_ x.h);subst e4;have d9:0<F a.g:=p_ (x.n e j x_ x.i);have⟨h6,g1,_,_,_,_,e5,_⟩:=o.w.at (i:=0) d9;subst e5;have g2:=n_ 1 o.v.r;have d4:=n_ 0 o.v.r;have g4:=(Qb o.v.r).1;clear o x;generalize c1:F a.f=a7 at *;generalize c3:F a.g=e8 at *;have y:=K_ c1 c3;clear c1 c3;refine q_ ?_;go_wp2_with fail
 go_loopw [13] (λb c=>∃(i:H) (a9 b0:ZY),b=ZX ZQ i/\i<=e/\K (H_ c (B d.1) #[a9,b0] 163/\E_ d c)) (λb _=>a7-ZL (ZA b))
 exact⟨0,V _ 0 0,.nilIface,X,v_,hn_,r_⟩;obtain⟨i,a9,b0,rfl,v,c⟩:=hrel;have d7:i<a7:=oj_ h.h y.1;have b9:i<F a.f:=y.1 ▸ d7;have⟨e9,f9,e3,h1,q,r⟩:=S.v.v.at b9;have e1:e9=f0:=w_;subst e1;have⟨L,b7⟩:=S.v.v.j i b9;have⟨u,k,P⟩:=L.d;have⟨m,l,a6⟩:=b7.iface;rw[Ak] at P;rw[P] at q L;rw[a6] at r;have b5:=K_ P a6;have⟨a1,a2⟩:=k2_ c.2 q r;have Q:_=T a9:=M_ 0 _ _ _ c.1;have R:_=T b0:=M_ 1 _ _ _ c.1;have D:=R_ 0 _ _ c.1;have G:=R_ 1 _ _ c.1;have c7:=Y L;have f5:=h.A i v;have f7:=F_ i a7;clear P a6 L b7 q r e3;generalize c2:F (Z a.f i Df).fs=f at *;have W:=Y c2;clear c2
 have a0:K ((ZO (ZO wr (J (B d.1) 0) (V u f k)) (J (B d.1) 1) _).1[B d.1]? =T (O_ #[V u f k,.iface m (P_ l)] 163)/\E_ d (ZO (ZO wr (J (B d.1) 0) (V u f k)) (J (B d.1) 1) (.iface m (P_ l)))):=
  ⟨ht_ 1 _ _ _ (ht_ 0 _ _ _ c.1),(c.2.setCell x_ _).setCell x_ _⟩
 go_upto_region 4 with fail;generalize (ZO (ZO wr (J (B d.1) 0) (V u f k))) (J (B d.1) 1) (.iface m (P_ l))=h7 at *;clear Q R D G a1 a2 c;have f1:=n_ 0 a0.1;go_wp2_with fail
 obtain⟨c6,e6⟩:∃c6,c6=wr:=⟨wr,X⟩;subst e6;go_loopw [5,20] (λp g n=>∃(b:H),p=ZX ZQ (Lv a i b:H)/\g=ZX ZQ b/\b<=f/\(i=e->b<=j)/\K (H_ n (B d.1) #[ZH u f k,.iface m (Y7 (T ⟨l,0,ZP⟩))] 163/\E_ d n)) (λ_ g _=>f-ZL (ZA g))
 exact⟨0,X,X,v_,λ_=>v_,a0⟩;clear a0 f1;obtain⟨b,rfl,rfl,g5,w,c⟩:=hrel;have Q:=n_ 0 c.1;have R:=n_ 1 c.1;have D:=R_ 0 _ _ c.1;have G:=R_ 1 _ _ c.1;have e2:=c.2.size
 have g8:Lv a i b<=10001:=by
  have A:=Zal (ZU b ((Z a.f i Df).fs)) (λa3 z=>by
   obtain⟨g,N,rfl⟩:=aM z;have M:g<F (Z a.f i Df).fs:=w_;have n:=h.n i g v M;have p:Z (Z a.f i Df).fs g 0=(ZU b ((Z a.f i Df).fs))[g]:=w_;rw[p] at n
   exact h.q _ n)
  have g:F (ZU b ((Z a.f i Df).fs))<=100:=w_;unfold Lv;omega
 by_cases c0:b<f
 ·have N:b<F (Z a.f i Df).fs:=W ▸ c0;have a4:=c7.q c.2;obtain⟨a8,e0,h0,_,b1,_⟩:=a4.b (by rw[Ak];exact W) c0;rw[Bq] at b1;subst e0;have a5:=h.n i b v N;rw[y.2] at a5
  have b4:K (Lv a i (b+1)=Lv a i b+(Z a.g (Z (Z a.f i Df).fs b 0) Aj).g):=by
   show 1+Bk a.g (ZU (b+1) ((Z a.f i Df).fs))=1+Bk a.g (ZU b ((Z a.f i Df).fs))+_
   have p:∀(g:U H),b<F g->ZU (b+1) g=ZU b g++[Z g b 0]:=λg n=>by rw[Qi n];grind
   have this:=p _ N;rw[this,wj];omega
  have f8:=F_ b f
  by_cases p:Z (Z a.f i Df).fs b 0=t
  ·have z:i=e:=by
    by_cases g:i=e
    exact g;exact absurd p (h.j i b v N (ZM O))
   have M:b=j:=by
    have A:=w z
    by_cases g:b=j
    exact g;exact absurd p (h.j i b v N (ZJ O))
   have n:(Z (Z a.f i Df).fs b 0:H)=(t:E):=(by rw[p]);rw[n] at b1;have g:K ((Y9 #[(Z s e Lm).1,(Z s e Lm).2]:ZY)=Y9 #[L_ a8 f k,.iface m (P_ l)]/\Lv a e j=Lv a i b):=(by rw[<- z,<- M];exact⟨by rw[b5.1,b5.2],X⟩);have A:K (Below _ d (ZO (ZO wr (J (B d.1) 0) (L_ a8 f k)) (J (B d.1) 1) (.iface m (P_ l)))):=(c.2.setCell x_ _).setCell x_ _;clear p n z M w a5 b4 a4;generalize Lv a i b=c5 at *;go_wp2;apply bodyPost_ret (v:=Y5 #[Y9 #[L_ a8 f k,.iface m (P_ l)],I (c5:H)]) (by simp[results,results145,go_sem, *]) X;rw[g.1,g.2];exact⟨X,A⟩
  have g7:((Z (Z a.f i Df).fs b 0:H)==(t:E))=ZZ:=aO (λg=>p O);have b8:Z (Z a.f i Df).fs b 0<F a.g:=y.2 ▸ a5;have g6:=h.q _ b8;have⟨d0,d2,d1,d3,_,q,r,c4,_,_,_⟩:=S.w.c (i:=Z (Z a.f i Df).fs b 0) b8
  have d8:i=e->b+1<=j:=λg=>by
   have A:=w g
   by_cases a3:b=j
   subst a3;subst g;exact absurd h.g p;omega
  generalize (Z (Z a.f i Df).fs) b 0=n at *;have⟨a1,a2,a3,d5⟩:=k4_ c.2 q r c4 d4;have b3:=KS.a (Z a.g n Aj)
  have b2:K (∀A:ZT,C_ 146 #[Y9 #[ZR (Z a.g n Aj).e.a,V d0 (F (Z a.g n Aj).e.f) d2,V d1 (F (Z a.g n Aj).e.c) d3]] A (U_ (ZX ZQ (Z a.g n Aj).g) A)):=λA=>by rw[<- b3];exact Fq _ _ _ _ _ _ _ A O
  clear b3 q r c4 a4 p w;generalize (Z a.g) n Aj=z at *;generalize z.e.a=h5 at *;generalize (F z.e.f)=h3 at *;generalize (F z.e.c)=h4 at *;generalize z.g=h2 at *;generalize Lv a i b=c5 at *;have f6:=F_ n e8;go_wp2_with fail
  apply (b2 _).m;rintro g h8 ⟨rfl,M⟩;have d6:=M;have c8:=K_ ((M.block _ (Qb c.1).1).T c.1) (c.2.T (M.m e2));clear M d6 c Q R D G a1 a2 a3 d5 b2 b1;go_wp2;go_roundw;exact⟨b+1,by rw[b4];go_num,g_,O,d8,c8⟩;exact z_
 have p:¬b<(f:E):=O
 have z:i<e:=by
  by_cases g:i=e
  have A:=w g;have n:=h.i;rw[<- g,W] at n;omega;omega
 have g:_:=c;clear Q R D G;go_wp2;go_roundw;exact⟨i+1,_,_,g_,O,g⟩;exact z_
def Pi.q{g w' f e d}(b:Pi g f e d)(c:E_ g w'):Pi w' f e d:=by have⟨l,k,m,j,i,h,a⟩:=b.g;exact⟨(c.block _ (Qb b.f).1).T b.f,l,k,m,j,i,h,a.v.q c,a.w.q c,a.n,a.l⟩
def Zbp{d e} c {f a x} i (h:Pi i d e a)(z:0<F a.f)(q:F a.g<=1000)(Q:f<F (Z a.f 0 Df).N)(R:F (Z a.f 0 Df).N<=1000)(D:c<F a.g)(l:∀b:ZT,Pi b d e a->C_ 78 #[P_ e,I f,I c] b (U_ (ZX ZQ (x:H)) b)):C_ 44 #[P_ d,I f,I c] i (U_ (Y5 #[ZX ZQ x,ZX ZQ 0]) i):=by
 have y:=n_ 0 h.f;have⟨m,t⟩:=Y_ h l
 have s:K (∀b:ZT,Pi b d e a->C_ 52 #[P_ d,I c] b (V_ (ZR Z0) b)):=λb A=>by have g:=Jk d e a (c:E) b A q;have j:ZE (0<=(c:E)/\c<=(F a.g:E)-1)=Z0:=t_;rw[j] at g;exact g
 have⟨a0,W,a1,S,N,u,o⟩:=h.g;have n:=Nd _ u i o.v z;clear h o l q D;generalize (F (Z a.f 0 Df).N)=M at *;have v:0<=(f:E):=O;have w:f<=(M:E)-1:=O;refine dl_ ?_;go_enter func44,ntmps44;go_wp2_with fail
 apply n.m;rintro j a2 ⟨rfl,k⟩;have g:=Y k;have P:=T_ k y;clear k n;go_wp2_with fail
 apply (Xf ⟨v,w⟩).m;rintro j a5 ⟨rfl,L⟩;obtain rfl:=L.s;go_wp2_with fail
 apply (s _ (m.q g)).m;rintro j a3 ⟨rfl,G⟩;obtain rfl:=G.s;go_wp2_with fail
 apply (t _ (m.q g)).m;rintro j a4 ⟨rfl,p⟩;have r:=Y (g.T (p.m g.size));clear p;go_wp2;go_ret2
 exact⟨X,r⟩
def Nm{f i g}:∀k b d {a e},Bt f i g b k d=.error (a,e)->a=2∨a=3
 |[],b,d,a,e,h=>by cases h
 | j::l,b,d,a,e,h=>by
  unfold Bt at h
  cases c:Cv f i g b j with
  |error n=>rw[c] at h;injection h with h;injection h with h1 h2;rw[<- h1];exact wg c
  |ok m=>rw[c] at h;exact Nm l _ _ h
theorem Ci a:F (Ab a)=ZK a:=by unfold Ab;rw[length_map];rfl
def Ff a b c:Ab (a.extract b c)=ZF b (ZU c (Ab a)):=by
 unfold Ab
 grind [ByteArray.data_extract,Array.toList_extract,map_take,map_drop,drop_take]
structure xg(d)(g)(c:H->ZG)(f:H->E)(e)(h)(b:RS):Prop where
 l:(∃a,a<g+1/\c a=Z0)->Zi7 d
 ok:∀a,a<g+1->Rq (Cp d (c a) (f a) e h (b.a a) b.k)/\(Cp d (c a) (f a) e h (b.a a) b.k).a=c a/\(Cp d (c a) (f a) e h (b.a a) b.k).b<=16
 num:∀a,a<g+1->∀i∈b.a a,(-1000000000<=i.num/\i.num<=1000000000)/\ZK i.f<=8
 k:∀j∈b.k,0<=j/\j<=99
section
variable {w wr:ZT} {K:H->Prop} {a b rb fb cb m:H} {wd:H->ZG} {sc ct:H->E} {bins:E} {size budget:H}
end
def ZlD{x a:ZC}(c:¬x=a):(x.toList==a.toList)=ZZ:=by
 rw[beq_eq_false_iff_ne,toList_data,toList_data];intro b;apply c
 cases x;cases a
 simp at b;rw[b]
def yk{a:U E}{b}(d:b<F a){c}:(ZU (b+1) a).countP c=(ZU b a).countP c+(if c (Z a b 0)=Z0 then 1 else 0):=by
 rw[Qi d,countP_append,Qc,Qd d]
 grind
def ZdZ{a:U ZC}{c b}(f:b<F a)(g:Z a b ⟨#[]⟩=c)(h:∀d,d<b->Z a d ⟨#[]⟩≠c):a.findIdx (λe=>ZE (e=c))=b:=by grind [findIdx_eq]
def Zd0{a:U ZC}{c}(e:∀b,b<F a->Z a b ⟨#[]⟩≠c):a.findIdx (λd=>ZE (d=c))=F a:=w_
def Zle R {a2 a3} m e o g (w:Ad g R a2 e.f)(x:Bj g R a3 e.c)(M:Rq e)(a0:e.a=Z0->e.f=[])(a1:e.a=ZZ->e.c=[]):C_ 239 #[Y9 #[ZR e.a,a2,a3,I m],Y9 #[ZR o.a,I o.num,Q_ o.f]] g (U_ (ZX ZQ (Gq e o:H)) g):=by
 obtain⟨l,b,c⟩:=e;obtain⟨z,f,h⟩:=o;simp only at w x a0 a1 ⊢;have b0:=M.p;have b1:=M.u;simp only at b0 b1;obtain⟨r,u,rfl⟩:=w.d;obtain⟨s,v,rfl⟩:=x.a;have⟨p,y⟩:=W_ (ZN (ZN g (O_ #[ZR l,V r (F b) u,V s (F c) v,I m] 227)) (O_ #[ZR z,I f,Q_ h] 335));have t:E_ g p:=y ▸ (r_.alloc s_ _);have A:H_ p (B g.1) #[ZR l,V r (F b) u,V s (F c) v,I m] 227:=(by grind [Below.heap_alloc,heap_alloc_new]);have D:H_ p (B g.1+1) #[ZR z,I f,Q_ h] 335:=by have e:=ha_ (ZN g (O_ #[ZR l,V r (F b) u,V s (F c) v,I m] 227)) (O_ #[ZR z,I f,Q_ h] 335);rw[show B (ZN g (O_ #[ZR l,V r (F b) u,V s (F c) v,I m] 227)).1=B g.1+1 by simp,<- y] at e;exact e
 have⟨q,a4,a5,Q⟩:=y4_ t (w.q t) (x.q t) y;have b3:=n_ 0 A;have b4:=n_ 1 A;have b5:=n_ 2 A;have b6:=n_ 0 D;have b7:=n_ 1 D;have b8:=n_ 2 D;clear w x M y A D t;refine q_ ?_;go_upto_region 1 with fail;rw[<- Q];clear Q
 cases z with
 | true=>
  have j:K (Gq ⟨l,b,c⟩ ⟨Z0,f,h⟩=F b+F c+1):=by
   show _=_
   grind [Gq,ES.b,Kz]
  go_wp2;go_ret;rw[j];exact⟨g_,q⟩
 | false =>
  cases l with
  | true=>
   have a7:=a0 X;subst a7;have j:K (Gq ⟨Z0,[],_⟩ ⟨ZZ,f,_⟩=c.findIdx (λa=>ZE (a=h))):=rfl;go_wp2_with fail
   go_loopw [6] (λk n=>∃(a i:H),k=ZX ZQ a/\a<=F c/\K (∀d,d<a->Z c d ⟨#[]⟩≠h)/\n=Y1 p i) (λk _=>F c-ZL (ZA k))
   exact⟨0,0,X,v_,λd W=>O,X⟩;obtain⟨a,i,rfl,a9,L,N⟩:=hrel;subst N
   by_cases n:a<F c
   ·obtain⟨b2,rfl,_,a8⟩:=a5.d X n ⟨#[]⟩;have S:=F_ a (F c)
    by_cases k:Z c a ⟨#[]⟩=h
    ·have G:=Y (ZdZ n k L);have a6:((Z c a ⟨#[]⟩).toList==h.toList)=Z0:=(by rw[k];simp);generalize (Z c) a ⟨#[]⟩=P at *;clear k;go_upto_region 8 with fail;go_quiet (fail);go_wp2;go_ret;rw[j,G];exact⟨X,below_drewN (below_drewN q _) _⟩
    have a6:=ZlD k
    have G:K (∀d,d<a+1->Z c d ⟨#[]⟩≠h):=λd W=>by
     by_cases P:d=a
     rw[P];exact k;exact L d O
    generalize (Z c) a ⟨#[]⟩=P at *;clear k;go_upto_region 8 with fail;go_quiet (fail);refine J_ ?_;exact⟨a+1,i+nq,g_,O,G,s_⟩
   have k:a=F c:=O;have G:=Y (Zd0 (λd W=>L d O));have S:¬a<(F c:E):=O;go_wp2;go_ret;rw[j,G];exact⟨s_,below_drewN q _⟩
  | false=>
   have a6:=a1 X;subst a6;have j:K (Gq ⟨ZZ,_,[]⟩ ⟨ZZ,_,h⟩=b.countP (λd=>ZE (d<f))):=rfl;go_wp2_with fail
   go_loopw [7,8] (λn k G=>∃(a i:H),k=ZX ZQ a/\a<=F b/\n=ZX ZQ ((ZU a b).countP (λd=>ZE (d<f)):H)/\(ZU a b).countP (λd=>ZE (d<f))<=a/\G=Y1 p i) (λ_ k _=>F b-ZL (ZA k))
   exact⟨0,0,X,v_,s_,s_,X⟩;obtain⟨a,i,rfl,a9,rfl,W,N⟩:=hrel;subst N
   by_cases n:a<F b
   ·obtain⟨b2,rfl,_,_,a8,_⟩:=a4.b X n;have S:=F_ a (F b);have L:K ((ZU _ b).countP (λd=>ZE (d<f))=_):=yk n;generalize (Z b) a 0=P,(ZU a b).countP (λd=>ZE (d<f))=G at *
    by_cases a7:P<f
    ·have k:K ((ZU (a+1) b).countP (λd=>ZE (d<f))=G+1):=w_;go_upto_region 15 with fail;go_quiet (fail);refine J_ ?_;exact⟨a+1,i+nq,g_,O,by rw[k];go_num,by rw[k];omega,s_⟩
    have k:K ((ZU (a+1) b).countP (λd=>ZE (d<f))=G):=(by show _=_;rw[L,aC w_];rfl);go_upto_region 15 with fail;go_quiet (fail);refine J_ ?_;exact⟨a+1,i+nq,g_,O,by rw[k],by rw[k];omega,s_⟩
   have k:a=F b:=O;subst k;rw[take_length] at W;rw[take_length];go_wp2;go_ret;rw[j];exact⟨X,below_drewN q _⟩
def Km d e b a g h j i c (m:b<=1000)(l:a<=1000):C_ 189 #[Y9 #[ZR j,V d b g,V e a h,I i]] c (U_ (ZX ZQ (b+a+2:H)) c):=by have f:Below _ c (ZN c (O_ #[ZR j,V d b g,V e a h,I i] 227)):=r_;have k:=Y f;clear f;refine dl_ ?_;go_enter func189,ntmps189;go_wp2;go_ret;exact⟨g_,k⟩
def Zch{d i k j l e m g o f n b c x h}{a:ZT}(A:D_ a d 0 (P_ i))(D:D_ a d 1 (L_ k e m))(s:D_ a k b (L_ j g o))(z:D_ a j c (I x))(t:D_ a i 1 (L_ l f n))(u:D_ a l (b*4+3) (I h))(v:b<e)(w:c<g)(y:b<f):C_ 292 #[P_ d,I c,I b] a λp r=>p=ZI (ZR (x !=h))/\∃q,r=Y1 a q:=by
 have p:=F_ b e;have q:=F_ c g;have r:b<(f:E):=O;refine dl_ ?_;go_enter func292,ntmps292;go_wp2_with fail
 go_quiet (fail);go_wp2;go_ret;exact⟨X,_,X⟩
theorem Ah{b e}(f:E_ b e){a d}(c:ZV b a=T d):ZV e a=T d:=(f.cell (aJ b a c)).T c
def NuV(e:ZT)(d:Y0 Addr)(b:U H):Prop:=∀a,a<F b->∃c,d=T ⟨c,0,ZP⟩/\ZV e (J c a)=T (I (Z b a 0:H))
def NuV.q{c w' b a}(e:NuV c b a)(f:E_ c w'):NuV w' b a:=λi h=>by have⟨j,d,g⟩:=e i h;exact⟨j,d,Ah f g⟩
def Ad.f{c d e n b a}(f:Ad c d (V b n e) (An a))(h:F a=n):NuV c b a:=λk j=>by
 obtain⟨l,i,_,_,g⟩:=f.b (by rw[Ak];exact h) (k:=k) O;rw[Bq] at g
 grind
def LiV(g:ZT)(f:ZY)(a:U (U H)):Prop:=(∃h c,f=ZH h (F a) c)/\∀b,b<F a->∃e c d i,f=L_ e (F a) c/\ZV g (J e b)=T (V d (F (Z a b [])) i)/\NuV g d (Z a b [])
def LiV.q{e w' d a}(b:LiV e d a)(c:E_ e w'):LiV w' d a:=⟨b.1,λm l=>by
 have⟨n,g,f,h,i,j,k⟩:=b.2 m l
 exact⟨n,g,f,h,i,Ah c j,k.q c⟩⟩
def FeV(d:ZT)(f:ZY)(b:U KS):Prop:=(∃g e,f=ZH g (F b) e)/\∀a,a<F b->∃c e h j i k,f=L_ c (F b) e/\ZV d (J c (a*4))=T (ZR (Z b a Aj).e.a)/\
  ZV d (J c (a*4+1))=T (V h (F (Z b a Aj).e.f) j)/\ZV d (J c (a*4+2))=T (V i (F (Z b a Aj).e.c) k)/\ZV d (J c (a*4+3))=T (I (Z b a Aj).d)
def FeV.q{d w' c a}(b:FeV d c a)(q:E_ d w'):FeV w' c a:=⟨b.1,λf e=>by
 have⟨r,i,g,j,h,k,l,m,n,o,p⟩:=b.2 f e
 grind [Ah]⟩
def Vc(a:KS):Prop:=F a.e.f<=1000/\F a.e.c<=1000/\(a.e.a=Z0->a.e.f=[])/\(a.e.a=ZZ->a.e.c=[])
def Vc.g{a}(b:Vc a):F a.e.f+F a.e.c+2=a.g:=by
 unfold KS.g ES.b Kz
 cases c:a.e.a
 rw[b.2.2.2 c];simp;rw[b.2.2.1 c];simp
structure DkV(b:ZT)(c f)(a):Prop where
 g:ZV b (J c 0)=T (I (f:H))
 h:∃e,ZV b (J c 1)=T e/\FeV b e a
 x:∀d,d<F a->Vc (Z a d Aj)
def DkV.q{f w' d e c}(a:DkV f d e c)(b:E_ f w'):DkV w' d e c:=by have⟨i,g,h⟩:=a.h;exact⟨Ah b a.g,⟨i,Ah b g,h.q b⟩,a.x⟩
structure MkV(b:ZT)(f d g)(c)(a):Prop where
 i:ZV b (J f 0)=T (P_ d)
 k:∃h,ZV b (J f 1)=T h/\LiV b h a
 j:DkV b d g c
 y:F a=F c
 u:∀e,e<F a->F (Z a e [])=g
def MkV.q{h w' f e g d c}(a:MkV h f e g d c)(b:E_ h w'):MkV w' f e g d c:=by have⟨k,i,j⟩:=a.k;exact⟨Ah b a.i,⟨k,Ah b i,j.q b⟩,a.j.q b,a.y,a.u⟩
def MkV.drewN{g e c f b a}(h:MkV g e c f b a){d}:MkV (Y1 g d) e c f b a:=h.q (below_drewN y_ d)
def sO(c:U KS)(b:U (U H))(a d:H):ZG:=ZE (Z (Z b a []) d 0≠(Z c a Aj).d)
def MkV.a{h l p m e d}(b:MkV h l p m e d){a c}(g:a<F e)(k:c<m):C_ 292 #[P_ l,I c,I a] h λj i=>j=ZI (ZR (sO e d a c))/\∃f,i=Y1 h f:=by
 have⟨Q,q,t⟩:=b.k;have⟨R,r,u⟩:=b.j.h;have f:a<F d:=b.y ▸ g;obtain⟨N,y,w,D,rfl,i,n⟩:=t.2 a f;obtain⟨P,A,v,z,x,G,rfl,_,_,_,s⟩:=u.2 a g;rw[b.u a f] at i;obtain⟨L,rfl,o⟩:=n c ((b.u a f) ▸ k);have M:=Zch b.i q i o r s f k g;have j:((Z (Z d a []) c 0:H) !=((Z e a Aj).d:E))=sO e d a c:=by grind [sO]
 grind
def DkV.z{b h n a}(k:DkV b h n a){i}(m:i<F a):∃c j d f e g,ZV b (J h 1)=T (L_ c (F a) j)/\ZV b (J c (i*4))=T (ZR (Z a i Aj).e.a)/\ZV b (J c (i*4+1))=T (V d (F (Z a i Aj).e.f) f)/\ZV b (J c (i*4+2))=T (V e (F (Z a i Aj).e.c) g)/\ZV b (J c (i*4+3))=T (I (Z a i Aj).d):=by
 have⟨s,p,l⟩:=k.h;obtain⟨r,o,d,f,e,g,rfl,q⟩:=l.2 i m
 grind
def Za2 x g a c:C_ 373 #[Y9 #[I (x:H),I (g:H)],I (a:H)] c (U_ (ZX ZQ (compareInt x a)) c):=by
 have d:K (∀b:_,Calls _ _ #[ZX _ (x:_),ZX _ (a:_)] b λe f=>_):=λb=>Tryz.cmp_Compare_int _ _ b;generalize compareInt (x:H) (a:H)=h at *;refine q_ ?_;go_wp2_with fail
 apply (d _).m;rintro e i ⟨rfl,f⟩;obtain rfl:=f.s;go_wp2;go_ret;exact⟨X,r_⟩
def ZfI{x a}:compareInt (x:H) (a:H)<0↔x<a:=by unfold compareInt;omega
def ZfH{x a}:compareInt (x:H) (a:H)=0↔x=a:=by unfold compareInt;omega
structure Zi3(b:U (H×H))(d c):Prop where
 k:c<=F b
 t:∀a,a<c->(Z b a (0,0)).1<d
 h:∀a,c<=a->a<F b->d<=(Z b a (0,0)).1
def Ox(a:U (H×H))(c b:H):ZG:=ZE (b<F a/\(Z a b (0,0)).1=c)
def ZpH(d:ZT)(b:U (H×H))(c:H)(e:Ending)(f:ZT):Prop:=∃a,e=ZI (Y5 #[I (a:H),ZR (Ox b c a)])/\Zi3 b c a/\E_ d f
def Zhf t u g {b} m (l:Xp m 0 (V t (F b) u) b)(a3:b.Pairwise (λx L=>x.1<L.1))(b0:F b<=1000000):C_ 372 #[V t (F b) u,I (g:H),YX (.func 373) #[] #[]] m λw a=>ZpH m b g w a:=by
 have M:=Y l
 have P:K (∀a d,a<d->d<F b->(Z b a (0,0)).1<(Z b d (0,0)).1):=λa d a1 a9=>by grind [pairwise_iff_getElem]
 have N:=Y (λx L c=>Za2 x L g c);clear l a3;generalize W:F b=i at *;have h:=Y W;clear W;refine q_ ?_;go_wp2_with fail
 go_loopw [9,10] (λe f j=>∃(a d:H),e=I a/\f=I d/\a<=d/\d<=i/\K ((∀c,c<a->(Z b c (0,0)).1<g)/\(∀c,d<=c->c<i->g<=(Z b c (0,0)).1)/\E_ m j)) (λe f _=>ZL (ZA f)-ZL (ZA e))
 exact⟨0,i,X,X,v_,x_,λc D=>O,λc j R=>O,y_⟩;obtain⟨a,d,rfl,rfl,a1,v,e⟩:=hrel
 by_cases b1:a<d
 ·have a7:a<(d:E):=O;have S:(a+d)/2<i:=O;have⟨a4,G,a2,r,s⟩:=(show Xp m 0 (V t (F b) u) b by rw[h];exact M).b (k:=(a+d)/2) (h ▸ S);have⟨y,z⟩:=k2_ e.2.2 r s;clear r s;subst G;generalize a0:(a+d)/2=f at *;have b2:(a+d)/2=(f:E):=O;have a8:=F_ f i;clear a0
  have A:K ((∀c,c<=f->(Z b c (0,0)).1<=(Z b f (0,0)).1)/\(∀c,f<=c->c<i->(Z b f (0,0)).1<=(Z b c (0,0)).1)):=⟨λc D=>by
   rcases Nat.lt_or_ge c f with j|j
   exact Nat.le_of_lt (P c f j S)
   grind,λc D k=>by
   rcases Nat.lt_or_ge f c with j|j
   exact Nat.le_of_lt (P f c j k)
   grind⟩
  generalize (Z b f (0,0)).1=n at *;generalize (Z b f (0,0)).2=a6 at *;go_wp2_with fail
  apply (N _ _ _).m;rintro w a5 ⟨rfl,p⟩;have o:=Y (e.2.2.T (p.m e.2.2.size));clear p y z
  by_cases k:n<g
  ·have q:=(ZfI).2 k;generalize compareInt (n:H) (g:H)=Q at *;go_wp2;go_roundw;exact⟨f+1,d,g_,X,O,v,λc D=>p_ (A.1 c O),e.2.1,o⟩;exact z_
  have q:¬_:=λl=>k ((ZfI).1 l);generalize compareInt (n:H) (g:H)=Q at *;go_wp2;go_roundw;exact⟨a,f,X,X,O,O,e.1,λc j R=>p_ (A.2 c j R),o⟩;exact z_
 have a7:¬a<(d:E):=O;have a0:a=d:=O;subst a0
 by_cases A:a<i
 ·have S:=F_ a i;have⟨a4,G,a2,r,s⟩:=(show Xp m 0 (V t (F b) u) b by rw[h];exact M).b (k:=a) (h ▸ A);have⟨y,z⟩:=k2_ e.2.2 r s;clear r s;subst G;have f:K (Ox b g a=ZE ((Z b a (0,0)).1=g)):=(by show _=_;unfold Ox;rw[h];simp[A]);generalize (Z b a (0,0)).1=n at *;generalize (Z b a (0,0)).2=a6 at *;go_wp2_with fail
  apply (N _ _ _).m;rintro w a5 ⟨rfl,p⟩;have o:=Y (e.2.2.T (p.m e.2.2.size));clear p y z
  by_cases k:n=g
  ·have q:=(ZfH).2 k;rw[q];go_wp2;go_ret2
   exact⟨a,by rw[f];simp[k],⟨h ▸ v,e.1,h ▸ e.2.1⟩,o⟩
  have q:¬_:=λl=>k ((ZfH).1 l);generalize compareInt (n:H) (g:H)=Q at *;go_wp2;go_ret2
  exact⟨a,by rw[f];simp[k,q],⟨h ▸ v,e.1,h ▸ e.2.1⟩,o⟩
 have S:¬a<(i:E):=O;have f:K (Ox b g a=ZZ):=(by show _=_;unfold Ox;rw[h];simp[A]);go_wp2;go_ret2
 exact⟨a,by rw[f];rfl,⟨h ▸ v,e.1,h ▸ e.2.1⟩,e.2.2⟩
theorem Rf c:∀b a,a∈Bu c b↔a.1<b/\a.2=Z c a.1 0/\a.2≠0
 |0,a=>by simp[Bu]
 | b+1,a=>by
  obtain⟨d,e⟩:=a;rw[Bu,mem_append,Rf c b]
  grind
theorem Zo b:∀a,(Bu b a).Pairwise (λc d=>c.1<d.1)
 |0=>by simp[Bu]
 | a+1=>by
  rw[Bu,pairwise_append];refine⟨Zo b a,by split<;>simp,λc e d f=>?_⟩
  grind [Rf]
def Zka{a c b d}(l:b<c)(h:Zi3 (Bu a c) b d):(if Ox (Bu a c) b d=Z0 then(Z (Bu a c) d (0,0)).2 else 0)=Z a b 0:=by
 have n:=Zo a c;have k:=Rf a c;generalize Bu a c=g at *
 by_cases i:Z a b 0=0
 ·grind [Ox]
 have j:(b,Z a b 0)∈g:=(k _).2 ⟨l,X,i⟩;have⟨f,r,o⟩:=aM j;have p:Z g f (0,0)=(b,Z a b 0):=w_
 have q:f=d:=by
  rcases Nat.lt_trichotomy f d with e|e|e
  ·have:=h.t f e
   grind
  exact e;have m:=h.h d x_ O
  grind [pairwise_iff_getElem]
 grind [Ox]
def Ri{p A w} f {D} a i (g:ku i 0 p A w D (Bu a (F a)))(m:f<F a)(y:F a<=1000000):C_ 371 #[P_ p,I f] i (U_ (ZX ZQ (Z a f 0:H)) i):=by
 obtain⟨u,v,rfl⟩:=g.M.d;have o:=n_ 2 g.r;have s:=Y g.M;have r:=Zhf u v f i g.M (Zo a _) (p_ (Mi a (F a)));have t:K (∀b,Zi3 (Bu a _) _ b->_):=λb h=>Zka m h;clear g m y;generalize Bu a (F a)=c at *;generalize (Z a) f 0=n at *;refine q_ ?_;go_wp2_with fail
 apply r.m;rintro N S ⟨b,rfl,h,l⟩;have e:=t b h;have j:=Y l;have a0:=T_ l o;have L:=Y h;clear l h o
 cases d:Ox c f b
 ·have k:K (n=0):=(by rw[d] at e;exact e.s);clear e d;generalize (F c)=z at *;go_wp2;go_ret;exact⟨by rw[k];rfl,j⟩
 have k:K (n=(Z c b (0,0)).2):=(by rw[d] at e;exact e.s);have x:b<F c:=(by simp only[Ox,decide_eq_true_eq] at d;exact d.1);obtain⟨R,rfl,Q,G,q⟩:=s.b x;have P:=T_ j q;clear e d G q;have M:=F_ b _;generalize (Z c b (0,0)).2=W at *;generalize (F c)=z at *;go_wp2;go_ret;exact⟨by rw[k];rfl,j⟩
abbrev Xt(a b:H)(x:XS):Prop:=x.M<a∨x.M=a/\x.f<b
abbrev rt(b a:H)(x:XS):Prop:=x.M=b/\x.f=a
def Zmz x b a:Na x ⟨b,a,0⟩<0↔Xt b a x:=by
 unfold Na orI Xt compareInt
 grind
def Zmy x b a:Na x ⟨b,a,0⟩=0↔rt b a x:=by
 unfold Na orI rt compareInt
 grind
structure Zi4(b:U XS)(e d c):Prop where
 k:c<=F b
 t:∀a,a<c->Xt e d (Z b a Dm)
 h:∀a,c<=a->a<F b->¬Xt e d (Z b a Dm)
def Kh(a:U XS)(d c b:H):ZG:=ZE (b<F a/\rt d c (Z a b Dm))
def ZpI(e:ZT)(b:U XS)(d c:H)(f:Ending)(g:ZT):Prop:=∃a,f=ZI (Y5 #[I (a:H),ZR (Kh b d c a)])/\Zi4 b d c a/\E_ e g
def Zhg a9 b0 f e b j (i:Nu j 0 (V a9 (F b) b0) b)(b9:Em b)(d5:F b<=1000000):C_ 147 #[V a9 (F b) b0,Y9 #[I (f:H),I (e:H),I 0],YX (.func 148) #[] #[]] j λr g=>ZpI j b f e r g:=by
 have a6:=Y i
 have a8:K (∀a c,a<c->c<F b->(Z b a Dm).M<(Z b c Dm).M∨(Z b a Dm).M=(Z b c Dm).M/\(Z b a Dm).f<=(Z b c Dm).f):=λa c b5 c7=>by
  have:=pairwise_iff_getElem.1 b9 a c O c7 b5
  grind
 have a7:K (∀_ (h:_),Calls _ 148 #[_,Y9 #[I (f:H),I (e:H),ZX _ 0]] h λr g=>_/\_):=λd2 h=>(Hz d2 ⟨f,e,0⟩ h).m (λ_ _ i=>⟨i.1,i.2.q⟩);clear i b9;generalize b8:F b=m at *;have n:=Y b8;clear b8;refine q_ ?_;go_upto_region 1 with fail;generalize Q:ZN j (O_ #[I (f:H),I (e:H),I 0] 184)=a2;have b3:E_ j a2:=(by rw[<- Q];exact r_);have y:H_ a2 (B j.1) #[I f,I e,I 0] 184:=(by rw[<- Q];exact hn_);have c0:=(Qb y).1;have c2:=n_ 0 y;have c3:=n_ 1 y;have c4:=n_ 2 y;have s:=x4_ b3 c2 c3 c4;clear Q b3 y c2 c3 c4;go_wp2_with fail
 go_loopw [9,10] (λd g l=>∃(a c:H),d=I a/\g=I c/\a<=c/\c<=m/\K ((∀k,k<a->Xt f e (Z b k Dm))/\(∀k,c<=k->k<m->¬Xt f e (Z b k Dm))/\E_ a2 l)) (λd g _=>ZL (ZA g)-ZL (ZA d))
 exact⟨0,m,X,X,v_,x_,λk W=>O,λk o b2=>O,y_⟩;obtain⟨a,c,rfl,rfl,b5,S,l⟩:=hrel;have⟨A,D,G⟩:=k3_ l.2.2 s.2.1 s.2.2.1 s.2.2.2;have c1:=l.2.2.size;have p:=Y (s.1.T (l.2.2.m s.1.size))
 by_cases d6:a<c
 ·have d3:a<(c:E):=O;have b7:(a+c)/2<m:=O;have⟨q,a0,a1,L,M,N⟩:=a6.b n (k:=(a+c)/2) b7;have⟨u,v,w⟩:=k3_ p L M N;clear L M N;subst a0;have c9:=Qh a1 p.size;have d0:=Qh c0 c1;generalize c8:(a+c)/2=d at *;have d7:(a+c)/2=(d:E):=O;have d4:=F_ d m;clear c8
  have R:K ((∀k,k<=d->Xt f e (Z b d Dm)->Xt f e (Z b k Dm))/\(∀k,d<=k->k<m->¬Xt f e (Z b d Dm)->¬Xt f e (Z b k Dm))):=⟨λk W c6=>by
   rcases Nat.lt_or_ge k d with o|o
   have:=a8 k d o b7;omega
   grind,λk W g c6=>by
   rcases Nat.lt_or_ge d k with o|o
   have:=a8 d k o g;omega
   grind⟩
  have t:=a7 (Z b d Dm);have b6:=Zmz (Z b d Dm) f e;generalize d1:Xt f e (Z b d Dm)=c5 at *;generalize Na (Z b d Dm) ⟨f,e,0⟩=b1 at *;generalize (Z b d Dm).M=a5 at *;generalize (Z b d Dm).f=a4 at *;generalize (Z b d Dm).i=a3 at *;have P:K (∀h:_,Below _ wr h->Calls _ _ _ h λr _=>_/\_):=λh x=>(t h).m (λ_ _ i=>⟨i.1,x.T (i.2.m x.size)⟩);clear t d1;go_upto_region 5 with fail;go_region_held3 (λg=>D_ g q (d*3) (I (a5:H))/\D_ g q (d*3+1) (I (a4:H))/\D_ g q (d*3+2) (I (a3:H))/\D_ g (B j.1) 0 (I (f:H))/\D_ g (B j.1) 1 (I (e:H))/\D_ g (B j.1) 2 (I 0)) (first|exact⟨u,v,w,A,D,G⟩|grind [Below.cell]) (first|(go_at_call 148;apply (P _ y_.drew).m;rintro r g ⟨rfl,z⟩))
  have g:=Y (l.2.2.T (z.m l.2.2.size));clear z u v w A D G
  by_cases b4:b1<0
  ·have r:=b6.1 b4;go_wp2;go_roundw;exact⟨d+1,c,g_,X,O,S,λk W=>R.1 k O r,l.2.1,g⟩;exact z_
  have r:¬c5:=λi=>b4 (b6.2 i);go_wp2;go_roundw;exact⟨a,d,X,X,O,O,l.1,λk o b2=>R.2 k o b2 r,g⟩;exact z_
 have c5:¬a<(c:E):=O;have b6:a=c:=O;subst b6
 by_cases R:a<m
 ·have b4:a<(m:E):=O;have b7:0<=(a:E):=O;have⟨q,a0,a1,L,M,N⟩:=a6.b n (k:=a) R;have⟨u,v,w⟩:=k3_ p L M N;clear L M N;subst a0;have c9:=Qh a1 p.size;have d0:=Qh c0 c1;have d:K (Kh b f e a=ZE (Na (Z b a Dm) ⟨f,e,0⟩=0)):=by show _=_;unfold Kh;rw[n];simp only[R,true_and,Zmy]
  have t:=a7 (Z b a Dm);generalize Na (Z b a Dm) ⟨f,e,0⟩=b1 at *;generalize (Z b a Dm).M=a5 at *;generalize (Z b a Dm).f=a4 at *;generalize (Z b a Dm).i=a3 at *;have P:K (∀h:_,Below _ wr h->Calls _ _ _ h λr _=>_/\_):=λh x=>(t h).m (λ_ _ i=>⟨i.1,x.T (i.2.m x.size)⟩);clear t;go_upto_region 8 with fail;go_region_held3 (λg=>D_ g q (a*3) (I (a5:H))/\D_ g q (a*3+1) (I (a4:H))/\D_ g q (a*3+2) (I (a3:H))/\D_ g (B j.1) 0 (I (f:H))/\D_ g (B j.1) 1 (I (e:H))/\D_ g (B j.1) 2 (I 0)) (first|exact⟨u,v,w,A,D,G⟩|grind [Below.cell]) (first|(go_at_call 148;apply (P _ y_.drew).m;rintro r g ⟨rfl,z⟩))
  have g:=Y (p.T (z.m p.size));clear z u v w A D G;go_wp2;go_ret2
  exact⟨a,by rw[d];rfl,⟨n ▸ S,l.1,n ▸ l.2.1⟩,g⟩
 have b4:¬a<(m:E):=O;have d:K (Kh b f e a=ZZ):=(by show _=_;unfold Kh;rw[n];simp[R]);clear A D G;go_upto_region 8 with fail;go_quiet (fail);go_wp2;go_ret2
 exact⟨a,by rw[d];rfl,⟨n ▸ S,l.1,n ▸ l.2.1⟩,below_drewN p _⟩
def xbF(b:U XS)(d e c:H):H:=
 match b.find? (λa=>ZE (rt e d a)) with
 |some a=>a.i
 |none=>c
def Tk(a:Ft)(f:U XS)(d b e c:H):H:=
 if Lv a b e<=Z (Z a.f b Df).N c 0/\Z (Z a.f b Df).N c 0<Lv a b e+(Z a.g d Aj).g then Z (Z a.f b Df).N c 0-Lv a b e
 else xbF f d c (Z a.g d Aj).d
def ZlZ{b:U XS}{f e a m:H}(r:Em b)(k:Zi4 b f e a):xbF b e f m=if Kh b f e a=Z0 then(Z b a Dm).i else m:=by
 unfold xbF
 have g:∀c _,Z b c Dm=b[c]:=λc i=>by rw[Qc,Qd i];rfl
 by_cases d:Kh b f e a=Z0
 rw[aD d];simp only[Kh,decide_eq_true_eq] at d;have:b.find? (λj=>ZE (rt f e j))=T b[a]:=(by rw[find?_eq_some_iff_getElem];refine⟨by rw[<- g a d.1];exact aF d.2,a,d.1,X,λh j=>?_⟩;have:=k.t h j;rw[g h O] at this;unfold Xt at this;rw[Bool.not_eq_true',decide_eq_false_iff_not];unfold rt;omega);rw[this,g a d.1];rw[aC d]
 have:b.find? (λj=>ZE (rt f e j))=ZP:=by
  rw[find?_eq_none];intro j s;obtain⟨c,i,rfl⟩:=aM s;simp only[decide_eq_true_eq];intro l
  rcases Nat.lt_or_ge c a with n|n
  have:=k.t c n;rw[g c i] at this;unfold Xt at this;unfold rt at l;omega;apply d;simp only[Kh,decide_eq_true_eq];have h:a<F b:=O;refine⟨h,?_⟩;have o:=k.h a x_ h;rw[g a h] at o ⊢
  rcases Nat.lt_or_ge a c with p|p
  have:=pairwise_iff_getElem.1 r a c h i p;unfold Xt at o;unfold rt at l ⊢;omega;have q:c=a:=O;subst q;exact l
 rw[this]
def ZnQ{p:Prop}(h:p:=by
 have HSE:=Zcy _ f _ p _ _ _ _ _ X D w h hs hbl;have⟨hI,_⟩:=h.v.v.j bi hs.h;have⟨fa,fcc,hvf⟩:=hI.d;have hfk:=hs.n _ p x_ hs.i;rw[hs.g] at hfk;have hmn:=hs.q f hfk;have⟨qk,cK,ab,cb,aw,cw,hvK,hqkl,k0,k1,k2,k3,_⟩:=h.w.at hfk;subst hvK;have⟨xa,xc,hvX⟩:=h.v.j.d;subst hvX;have d0:w.cell? _=some (V _ _ _):=M_ 0 _ _ _ h.v.r;have d2:w.cell? _=some (V _ _ _):=M_ 2 _ _ _ h.v.r;have hdl:=(Qb h.v.r).1;rw[hvf,hvc] at HSE;have HAT:=Y hat;have HMN:=KS.a (D.g.getD f Aj)
 have HHM:K (∀W:World,Calls prog 146 #[.agg #[.bool (D.g.getD f Aj).e.a,V ab (D.g.getD f Aj).e.f.length cb,V aw (D.g.getD f Aj).e.c.length cw]] W (U_ (.int .i64 (((D.g.getD f Aj).g:Nat):Int)) W)):=λW=>by rw[<- HMN];exact Fq _ _ _ _ _ _ _ W (by unfold KS.g ES.b at hmn;omega)
 have HXW:K (∀W:_,_->Nu W 0 _ X):=λW hW=>(Aa.a (S:=λ_=>False) hW).M h.v.j (λ_ _=>id);have HFX:=Y (λW hW=>Zhg _ _ row f X W (HXW.out W hW) h.l hxl);have HLF:K (Tk D X f bi p row=if _/\_ then _ else _):=rfl;have HXB:K (∀i,Zi4 X row f i->xbF X f row (D.g.getD f Aj).d=_):=λi hi=>ZlZ h.l hi;clear HMN hvf hvc hI hs h hat hbl;generalize Tk D X f bi p row=res at *;generalize (D.f.getD bi Df).N.getD row 0=x at *;generalize Lv D bi p=off at *;generalize (An (D.f.getD bi Df).fs).length=nf at *;generalize D.g.getD f Aj=Kf at *;generalize xbF X f row Kf.d=xres at *;generalize Kf.e.a=kwd at *;generalize Kf.e.f.length=knb at *;generalize Kf.e.c.length=knw at *;generalize Kf.g=km at *;generalize Kf.d=kd at *;generalize hnk:D.g.length=nk at *
 clear hnk;generalize hnx:X.length=nx at *;have HNX:=Y hnx;clear hnx;have bf1:(0:Int)<=(f:Int):=O;have bf2:(f:Int)<(nk:Int):=O;refine dl_ ?_;go_enter func78,ntmps78;go_wp2_with fail
 apply HSE.m;rintro e w2 ⟨rfl,hb2⟩;have HB2:=Y hb2;clear hb2 HSE;go_wp2_with fail
 apply (HAT.out _ (HB2.out.alloc HB2.out.size _)).m;rintro e w3 ⟨rfl,hb3⟩;have HB3:=Y ((HB2.out.alloc HB2.out.size _).T (hb3.m (by have:=HB2.out.size;simp;omega)));have d0w:=T_ HB3.out d0;have d2w:=T_ HB3.out d2;have e0:=T_ HB3.out k0;have e1:=T_ HB3.out k1;have e2:=T_ HB3.out k2;clear hb3 HB2
 by_cases hlo:off<=x
 ·obtain⟨bn,hbn⟩:∃bn,bn=x-off:=⟨_,rfl⟩;have q1:(x:Int)-(off:Int)=(bn:Int):=O;have q2:_=(bn:Int):=Au O O;have q3:(0:Int)<=(bn:Int):=O;have HBN:=Y hbn;clear hbn;go_wp2_with fail
  apply (HHM.out _).m;rintro e w4 ⟨rfl,hb4⟩;have HB4:=Y (HB3.out.T (hb4.m HB3.out.size));clear hb4
  by_cases hhi:x<off+km
  ·have q4:(bn:Int)<(km:Int):=p_ HBN.out;have HE:K (res=bn):=(by have:=HLF.out;rw[aD ⟨hlo,hhi⟩] at this;exact this.T HBN.out.s);go_wp2;go_ret;exact⟨by rw[HE.out];rfl,HB4.out⟩
  have q4:¬(bn:Int)<(km:Int):=p_ HBN.out;have HE:K (res=xres):=(by have:=HLF.out;rw[aC (λh=>hhi h.2)] at this;exact this);have d2x:=T_ HB4.out d2;clear d0w d2w e0 e1 e2;go_wp2_with fail
  apply (HFX.out _ HB4.out).m;rintro e w5 ⟨i,rfl,hi,hb5⟩;have HB5:=Y (HB4.out.T (hb5.m HB4.out.size));have hxb:=HXB.out i hi;have⟨d0y,d2y,e3⟩:=k3_ HB5.out d0 d2 k3;clear hb5
  cases hf:Kh X row f i
  ·have HR:K (res=kd):=(by rw[hf] at hxb;exact HE.out.T hxb);clear hxb hf hi;go_wp2;go_ret;exact⟨by rw[HR.out];rfl,HB5.out⟩
  have HR:K (res=(X.getD i Dm).i):=(by rw[hf] at hxb;exact HE.out.T hxb);have hil:i<nx:=(by simp only[Kh,decide_eq_true_eq] at hf;have:=hf.1;rw[HNX.out] at this;exact this);have⟨q,hq,hql,_,_,y2⟩:=(HXW.out _ HB5.out).b HNX.out hil;subst hq;have b1:(0:Int)<=(i:Int):=O;have b2:(i:Int)<(nx:Int):=O;clear hxb hf hi;generalize (X.getD i Dm).i=xb at *;go_wp2;go_ret;exact⟨by rw[HR.out];rfl,HB5.out⟩
 have q1:_=(x:Int)-(off:_):=Au O O;have q3:¬(0:Int)<=(x:Int)-(off:Int):=O;have HE:K (res=xres):=(by have:=HLF.out;rw[aC (λh=>hlo h.1)] at this;exact this);have HB4:=Y HB3.out;go_wp2_with fail
 apply (HFX.out _ HB4.out).m;rintro e w5 ⟨i,rfl,hi,hb5⟩;have HB5:=Y (HB4.out.T (hb5.m HB4.out.size));have hxb:=HXB.out i hi;have⟨d0y,d2y,e3⟩:=k3_ HB5.out d0 d2 k3;clear hb5
 cases hf:Kh X row f i
 ·have HR:K (res=kd):=(by rw[hf] at hxb;exact HE.out.T hxb);clear hxb hf hi;go_wp2;go_ret;exact⟨by rw[HR.out];rfl,HB5.out⟩
 have HR:K (res=(X.getD i Dm).i):=(by rw[hf] at hxb;exact HE.out.T hxb);have hil:i<nx:=(by simp only[Kh,decide_eq_true_eq] at hf;have:=hf.1;rw[HNX.out] at this;exact this);have⟨q,hq,hql,_,_,y2⟩:=(HXW.out _ HB5.out).b HNX.out hil;subst hq;have b1:(0:Int)<=(i:Int):=O;have b2:(i:Int)<(nx:Int):=O;clear hxb hf hi;generalize (X.getD i Dm).i=xb at *;go_wp2;go_ret
 exact⟨by rw[HR.out];rfl,HB5.out⟩):p:=h
def zm{c f bi p row a:H}{g e i:ZY}{d b:U (ZY×ZY)}{X:U XS}{D:Ft}{w:ZT}(h:Ph w c g e i d b X D)(hs:Wh D f bi p)(hbl:F D.f<=1000)(hxl:F X<=1000000)(j:Z (Z D.f bi Df).N row 0<64)(l:Lv D bi p<=100000)(hvc:(Z b bi Lm).2=.iface 382 (P_ a))(hat:∀W:ZT,E_ w W->Calls Y8 323 #[P_ a,I (row:H)] W (U_ (ZX ZQ (Z (Z D.f bi Df).N row 0:H)) W)):Calls Y8 78 #[P_ c,I (row:H),I (f:H)] w (U_ (ZX ZQ (Tk D X f bi p row:H)) w):=by
 have k:∀W:ZT,(method 535 382 (P_ a) "At").run Y8 W=.ok (323,P_ a) W:=λW=>k_
 exact ZnQ
def sj{c f bi p row a:H}{g e i:ZY}{d b:U (ZY×ZY)}{X:U XS}{D:Ft}{w:ZT}(h:Ph w c g e i d b X D)(hs:Wh D f bi p)(hbl:F D.f<=1000)(hxl:F X<=1000000)(j:Z (Z D.f bi Df).N row 0<64)(l:Lv D bi p<=100000)(hvc:(Z b bi Lm).2=.iface 380 (P_ a))(hat:∀W:ZT,E_ w W->Calls Y8 371 #[P_ a,I (row:H)] W (U_ (ZX ZQ (Z (Z D.f bi Df).N row 0:H)) W)):Calls Y8 78 #[P_ c,I (row:H),I (f:H)] w (U_ (ZX ZQ (Tk D X f bi p row:H)) w):=by
 have k:∀W:ZT,(method 535 380 (P_ a) "At").run Y8 W=.ok (371,P_ a) W:=λW=>k_
 exact ZnQ
def Zem{a:H}(c:a<=1000000) b:(Instr.makeSlice 84 (I a) (I a)).run Y8 b=.ok (L_ (B b.1) a a) (ZN b (O_ (YV #[N_] a) 25)):=mk_ 1
structure Mx(g)(j l k e:H)(i:U (U E)):Prop where
 n:∃b:YZ ZY,g.1[l]? =T (O_ b 25)/\B b=k/\(∀a,a<e->∃c,b[a]? =T c/\Ad g j c (Z i a []))/\∀a d,a<d->d<e->∀f c h,b[a]? =T f->b[d]? =T c->ZW f=T h->ZW c≠T h
def Mx.q{g w' base a f e b}(i:Mx g base a f e b)(d:E_ g w'):Mx w' base a f e b:=by
 have⟨h,c,j,k,l⟩:=i.n
 exact⟨h,(d.block a (Qb c).1).T c,j,λp m=>by
  have⟨q,o,n⟩:=k p m
  exact⟨q,o,n.q d⟩,l⟩
def Mx.put{e g c j i f v}(o:Mx e g c j i f)(q:i<j)(t:Ad e g v (Z f i [])){l}(w:∀x,ZW v=T x->l<=x)(D:∀b:YZ ZY,e.1[c]? =T (O_ b 25)->∀a,a<i->∀d,b[a]? =T d->∀x,ZW d=T x->x<l):Mx (ZO e (J c i) v) g c j (i+1) f:=by
 have⟨b,h,m,p,u⟩:=o.n;refine⟨YS b i v,hs_ e c i b _ v h,by simp[m],λa y=>?_,λa k z A d M x n L G=>?_⟩
 rotate_left
 ·rw[aH O] at n
  by_cases r:k=i
  ·grind
  grind
 by_cases r:a=i
 subst r;exact⟨v,by simp[m,q],Am t h C⟩;have⟨d,n,s⟩:=p a O;exact⟨d,w_,Am s h C⟩
def ce(a:Ft):U (U E):=a.f.map (λb=>An b.fs)
theorem Yy{a b}(c:b<F a.f):Z (ce a) b []=An (Z a.f b Df).fs:=by grind [ce]
def Zoe(c:ZT)(a:Ft)(x:Ending)(d:ZT):Prop:=∃b,x=ZI (L_ b (F a.f) (F a.f))/\B c.1<=b/\Mx d (B c.1) b (F a.f) (F a.f) (ce a)/\E_ c d
def ry{b1 e7 e6 e8 e2 c8 c6 b a}(o:Ph a b1 e7 e6 e8 e2 c8 c6 b)(d5:0<F b.f)(f7:F b.f<=1000)(b7:∀i,i<F b.f->0<F (Z b.f i Df).fs/\F (Z b.f i Df).fs<=1000):C_ 94 #[P_ b1] a λn c=>Zoe a b n c:=by
 have⟨a5,c2⟩:=Y_ o b7;have⟨e5,f4,e1,g1,_,_⟩:=o.v.v.at (i:=0) d5;subst e1;have b0:=n_ 1 o.v.r;have d7:∀c5:_,(Instr.makeSlice _ _ (ZX _ (F b.f:_))).run _ c5=_:=Zem O;clear o b7;generalize b8:F b.f=c at *;have u:=Y b8;clear b8;refine q_ ?_;go_upto_region 2 with fail;generalize z:ZN a (O_ (YV #[N_] c) 25)=a1;have w:E_ a a1:=by rw[<- z];exact r_
 have e9:K (Mx a1 (B a.1) (B a.1) c 0 (ce b)/\E_ a a1):=(by refine⟨⟨_,by rw[<- z];exact hn_,by simp[YV],λd q=>O,λd k _ e=>O⟩,w⟩);have f5:=T_ w b0;clear z w d7 b0;go_wp2_with fail
 go_loopw [17] (λd e=>∃(i:H),d=ZX ZQ i/\i<=c/\K (Mx e (B a.1) (B a.1) c i (ce b)/\E_ a e)) (λd _=>c-ZL (ZA d))
 grind
 obtain⟨i,rfl,g0,e⟩:=hrel
 by_cases M:i<c
 ·have L:i<F b.f:=u ▸ M;have⟨e4,f2,e0,g2,Q,R⟩:=a5.v.v.at L;have d9:e4=e5:=w_;subst d9;have⟨j,b6⟩:=a5.v.v.j i L;have⟨d3,v,N⟩:=j.d;have⟨a8,a7,c1⟩:=b6.iface;rw[Ak] at N;rw[N] at Q j;rw[c1] at R;have⟨f8,f9⟩:=c2 i M;have⟨d1,d2⟩:=k2_ e.2 Q R;have⟨c4,c3⟩:=Y_ (Yy L) j
  have d8:∃r,d3=T ⟨r,0,ZP⟩:=by
   rcases j.2 with⟨n,d⟩|⟨d4,c9,d0,n,_⟩
   ·grind
   grind
  obtain⟨r,rfl⟩:=d8;have f1:=F_ i c;clear N c1 j b6 Q R e0;generalize b9:F (Z b.f i Df).fs=S at *;have m:K (F (An (Z b.f i Df).fs)=S):=(by show _=_;rw[Ak];exact b9);clear b9;go_upto_region 5 with fail;generalize A:ZN wr (O_ #[L_ r S v,.iface a8 (P_ a7)] 163)=s;have x:E_ wr s:=(by rw[<- A];exact r_);have b4:s.1[B wr.1]? =T (O_ #[L_ r S v,.iface a8 (P_ a7)] 163):=(by rw[<- A];exact hn_);have g5:=n_ 0 b4;have g:=K_ (e.1.q x) (e.2.T (x.m e.2.size));clear A b4 d1 d2 x e;have b2:=c3.q g.2
  have a3:=Tryz.slices_Clone_int _ 0 _ v _ _ (by rw[m];exact x_) O (λd q=>by
   have⟨f,aA,_,_,a2,_⟩:=b2.b m (k:=d) (by rw[<- m];exact q);injection aA with aA;injection aA with aA _;subst aA;rw[Nat.zero_add]
   exact a2)
  clear b2;go_wp2_with fail
  apply a3.m;clear a3;rintro n t ⟨a0,rfl,l,_,p⟩;have y:=g.1.q p;have c0:=g.2.size;have b5:=g.2.T (p.m c0);have b3:Ad t (B a.1) a0 (Z (ce b) i []):=by rw[c4];rw[<- m,take_length] at l;exact Ad.m (b':=B s.1) l c0
  have a4:∀h:YZ ZY,t.1[B a.1]? =T (O_ h 25)->∀d,d<i->∀W,h[d]? =T W->∀f,ZW W=T f->f<B s.1:=λh D d q W hu f P=>by have⟨c9,G,_,a6,_⟩:=g.1.n;have a9:=(p.block _ (Qb G).1).T G;rw[a9] at D;simp at D;subst D;have⟨d0,c7,a2⟩:=a6 d q;rw[c7] at hu;injection hu with hu;subst hu;exact(B_ a2 f P).2
  have⟨a9,G,d6,_⟩:=y.n
  have a2:ZV t (J (B a.1) i)=T (a9[i]' O):=by
   rw[M_ i _ 25 (0,0) G]
   grind
  have f6:=R_ i _ _ G;generalize (a9[i]' O)=g4 at a2;have f0:K (_/\Below _ a (ZO t (J (B a.1) i) a0)):=⟨y.put M b3 (λf P=>(B_ l f P).1) a4,b5.setCell x_ _⟩
  obtain⟨a6,g3,f3,rfl⟩:∃c7 e3 h,a0=ZH c7 e3 h:=by
   rcases l.2 with⟨rfl,_⟩|⟨d4,c9,d0,rfl,_⟩
   omega
   grind
  clear y b5 b3 G d6 p l a4;go_wp2;go_roundw
  grind
  exact z_
 have f:¬i<(c:E):=O;have d:i=c:=O;subst d;go_wp2;go_ret;refine⟨B a.1,by rw[u];rfl,x_,?_,e.2⟩;rw[u];exact e.1
def zf f o a d (b:Pi d f o a)(g:0<F a.f)(j:F a.f<=1000)(k:∀c,c<F a.f->0<F (Z a.f c Df).fs/\F (Z a.f c Df).fs<=1000):C_ 55 #[P_ f] d λe h=>Zoe d a e h:=by
 have s:=n_ 0 b.f;have⟨w,v,x,t,r,q,i⟩:=b.g;have n:=ry i g j k;clear b i k g j;refine q_ ?_;go_wp2_with fail
 apply n.m;rintro e y ⟨p,rfl,h⟩;have m:=Y h;clear h;generalize l:F a.f=u at *;go_wp2;go_ret;exact⟨p,by rw[l];rfl,l ▸ m⟩
theorem Sq{f e}:∀a d,(Fu f e d a).Sublist (a.map λb=>b.v)
 |[],_=>by simp[Fu]
 |b::c,d=>by unfold Fu;split;exact List.Sublist.cons_cons _ (Sq c _);exact(Sq c _).cons _
def Sp{tot bins B}:∀c b,(∀a∈c,Bz bins tot a.h<=B)->b<=B+1->F (Fu tot bins b c)<=B+1-b
 |[],b,_,d=>by simp[Fu];omega
 | a ::g,b,e,d=>by
  have j:=e a s_;have f:=λi h=>e i (mem_cons_of_mem a h);unfold Fu;split
  ·have:=Sp g (Bz bins tot a.h+1) f O
   grind
  exact Sp g _ f d
def ey{a b}:(Bm a b).Sublist ((ZU (F a-1) a).map λc=>c.v):=by grind [Bm,Sq]
def ye{a}(c:Bc a){b}:(Bm a b).Pairwise (· < ·):=by apply Pairwise.sublist ((ey).T ((take_sublist _ _).map _));rw[pairwise_map];exact c.i.imp λd=>d.1
def ZaT{a}(d:Bc a){b}(o:2<=b):F (Bm a b)<b:=by
 unfold Bm;split;simp;omega;rename_i f;split
 ·grind
 have p:=d.at (i:=F a-1) O;have r:Ae a=(Z a (F a-1) e0).h:=(by unfold Ae;rw[aC f]);have:=Sp (tot:=Ae a) (bins:=b) (B:=b-1) (ZU (F a-1) a) 1 (λm h=>?_) O;omega;obtain⟨c,k,rfl⟩:=ZkP h;rw[length_take] at k;have l:c<F a-1:=O;have e:Z (ZU (F a-1) a) c e0=Z a c e0:=w_;rw[e];have q:=(d.lt (i:=c) (j:=F a-1) l O).2.2;unfold Bz;have g:_*(Z a c e0).h<b*Ae a:=Int.mul_lt_mul_of_pos_left O O;have n:=Int.ediv_lt_of_lt_mul O g;omega
theorem uw a b {c d}(j:F a<=200)(h:2<=d)(i:d<=32)(f:2<=c):(Fb a b c d).Pairwise (· < ·)/\F (Fb a b c d)<c:=by have g:F ((Bd a b).map Prod.fst)<=2097152:=(by have:=Ki a b;simp;omega);have e:=(Tg h i _ ((Bd a b).map Prod.snd) g).1;exact⟨ye e,ZaT e f⟩
structure Vd(e)(b:RS):Prop where
 k:∀d∈b.k,0<=d/\d<=99
 M:∀a∈b.M,(-1000000000<=a.num/\a.num<=1000000000)/\ZK a.f<=8
 j:∀c,c<e->∀a∈b.a c,(-1000000000<=a.num/\a.num<=1000000000)/\ZK a.f<=8
def Vd.h{a}:Vd a RS.h:=⟨by simp[RS.h],by simp[RS.h],by simp[RS.h]⟩
def Ha.N{b}(c:Ha b){a}(f:F a<=8):(-1000000000<=(Hw b a).num/\(Hw b a).num<=1000000000)/\ZK (Hw b a).f<=8:=by have d:=c.k;have e:=c.b;refine⟨?_,?_⟩;show -1000000000<=Tm b/\Tm b<=1000000000;unfold Tm;split<;>omega;show ZK (ZB a)<=8;have:ZK (ZB a)=F a:=(by simp[ZB,ZK]);omega
def Vd.take{n o m d h i}(a:Vd n d)(e:Ja n d)(q:Cv n o m d i=.ok h):Vd n h:=by
 unfold Cv at q;split at q
 ·cases q
 split at q
 ·split at q
  ·cases q
  injection q with q;subst q;exact⟨a.k,a.M,a.j⟩;injection q with q;subst q;exact⟨a.k,a.M,a.j⟩
 split at q;injection q with q;subst q;exact⟨a.k,a.M,a.j⟩;split at q
 ·injection q with q;subst q
  have j:∀c∈d.M++[Hw d.p d.f],(-1000000000<=c.num/\c.num<=1000000000)/\ZK c.f<=8:=λc f=>by
   rcases mem_append.1 f with b|b
   exact a.M c b;simp only[mem_singleton] at b;rw[b];exact e.num.N e.f
  unfold Hm;split
  ·refine⟨λp k=>?_,s_,λl g c f=>?_⟩
   ·rcases mem_append.1 k with b|b
    exact a.k p b;simp only[mem_singleton] at b;rw[b];exact⟨e.d,e.e⟩
   simp only[g,if_true] at f
   rcases mem_append.1 f with b|b
   exact a.j l g c b
   grind
  exact⟨a.k,j,a.j⟩
 cases q
def Vd.a{a k f}(m:1<=a)(n:∀c,c<a->k c=ZZ->0<=f c/\f c<=3):∀j {b d i},Vd a b->Ja a b->Bt a k f b j i=.ok d->Vd a d
 |[],b,d,i,g,_,e=>by injection e with e;subst e;exact g
 | o::j,b,d,i,g,l,e=>by
  simp only[Bt] at e
  cases h:Cv a k f b o with
  |error q=>grind
  |ok p=>rw[h] at e;exact Vd.a m n j (g.take l h) (l.take m n h) e
structure Zi6(c):Prop where
 ok:Zi7 c
 f:∀(b) (e) (d a),F b<=200->2<=a->a<=16->Rq (c b e d a)/\(c b e d a).a=Z0/\(c b e d a).b<=16
def Za3{f e g m h c d l b}(s:(∃a,a<e+1/\g a=Z0)->Zi6 f)(t:∀a,a<e+1->g a=ZZ->0<=m a/\m a<=3)(p:2<=c)(v:c<=16)(w:2<=d)(x:d<=32)(j:Bt (e+1) g m RS.h l 0=.ok b):xg f e g h c d b:=by
 have n:=Ja.a O t l (Ja.h (show 1<=e+1 by omega)) j;have o:=Vd.a O t l (Vd.h) (Ja.h (show 1<=e+1 by omega)) j;refine⟨λk=>(s k).ok,λa q=>?_,o.j,o.k⟩;have r:F (b.a a)<=200:=(n.j a q) ▸ n.k
 cases k:g a with
 | true=>
  have i:Cp f Z0 (h a) c d (b.a a) b.k=f (b.a a) b.k (h a) c:=(by simp[Cp]);rw[i];exact(s ⟨a,q,k⟩).f _ _ _ _ r p v
 | false=>
  have i:Cp f ZZ (h a) c d (b.a a) b.k=⟨ZZ,Fb (b.a a) b.k c d,[]⟩:=(by simp[Cp]);rw[i];have⟨u,y⟩:=uw (b.a a) b.k r w x p;refine⟨⟨u.imp λj=>O,?_,s_⟩,X,?_⟩
  ·grind
  show Kz ZZ (F (Fb (b.a a) b.k c d)) 0<=16;simp[Kz];omega
def clF(b:U KS)(a:U (U H))(e:U H)(f g:H):H:=(range g).countP (λc=>sO b a f c&&e.any (λd=>sO b a d c))
def ZjF b a d e c:clF b a d e (c+1)=clF b a d e c+(if(sO b a e c&&d.any (λf=>sO b a f c))=Z0 then 1 else 0):=by unfold clF;rw[range_succ,countP_append,countP_singleton]
def Zou b a d e c:clF b a d e c<=c:=by have:=countP_le_length (p:=λf=>sO b a e f&&d.any (λg=>sO b a g f)) (l:=range c);rw[length_range] at this;exact this
def Zjk{a:U H}{b}(d:b<F a){c}:(ZU (b+1) a).any c=((ZU b a).any c||c (Z a b 0)):=by
 rw[Qi d,any_append]
 grind
def Pp{a:U H}{b}(c:b<F a):Z a b 0∈a:=w_
def ZeK M W h R g z {b} c d j (m:MkV j M W h c d)(A:NuV j z b)(a3:g<F c)(D:∀e∈b,e<F c)(b4:h<=1000)(a5:F b<=1000):C_ 291 #[P_ M,V z (F b) R,I g] j λn a=>n=ZI (ZX ZQ (clF c d b g h:H))/\∃i,a=Y1 j i:=by
 have y:=Y m;have w:=K_ A D;have b6:=m.i;have b1:=m.j.g;have⟨k,p⟩:=Z_ (F b);have x:=Y p;rw[p] at a5 ⊢;clear m A D p;refine q_ ?_;go_wp2_with fail
 go_loopw [7,8] (λl f n=>∃(a i:H),f=ZX ZQ a/\a<=h/\l=ZX ZQ (clF c d b g a:H)/\n=Y1 j i) (λ_ f _=>h-ZL (ZA f))
 exact⟨0,0,X,v_,X,X⟩;obtain⟨a,i,rfl,b5,rfl,t⟩:=hrel;subst t
 by_cases G:a<h
 ·have a0:a<(h:E):=O;have v:=Y (ZjF c d b g a);have b2:=Zou c d b g a;generalize clF c d b g a=S at *;go_wp2_with fail
  apply ((y.drewN).a a3 G).m;rintro n a9 ⟨rfl,a6,s⟩;have⟨N,r⟩:=Z_ (sO c d g a);have Q:=Y r;rw[r];subst s;clear r;go_wp2_with fail
  go_loopw [10,11] (λo l q=>∃(f i:H),l=ZX ZQ f/\f<=k/\o=ZR ((ZU f b).any (λe=>sO c d e a))/\q=Y1 j i) (λ_ l _=>k-ZL (ZA l))
  exact⟨0,i+a6,X,v_,X,s_⟩;obtain⟨f,L,rfl,b3,rfl,t⟩:=hrel;subst t
  by_cases a4:f<k
  ·have o:f<F b:=x ▸ a4;obtain⟨b7,rfl,b0⟩:=w.1 f o;have a2:=w.2 _ (Pp o);have u:K ((ZU _ b).any (λe=>sO c d e a)=_):=Zjk o;generalize (Z b) f 0=e at *;generalize (ZU f b).any (λe=>sO c d e a)=l at *;have a1:=F_ f k;go_wp2_with fail
   apply ((y.drewN).a a2 G).m;rintro n a9 ⟨rfl,a7,s⟩;subst s;have⟨a8,q⟩:=Z_ (sO c d e a);have P:K ((ZU (f+1) b).any (λe=>sO c d e a)=(l||a8)):=(by rw[<- q];exact u);rw[q];clear u q
   cases l<;>
    (go_wp2
     go_roundw;exact⟨f+1,L+a7,g_,O,by rw[P];rfl,s_⟩
     simp[ZA];omega)
  have a1:¬f<(k:E):=O;have o:ZU f b=_:=aI (p_ x.out);rw[o];have q:K (clF c d b g (a+1)=S+(if(N&&b.any (λe=>sO c d e a))=Z0 then 1 else 0)):=(by rw[<- Q];exact v);clear v o;generalize b.any (λe=>sO c d e a)=l at *
  cases N<;>cases l<;>
   (go_wp2
    go_roundw;exact⟨a+1,L,g_,O,by rw[q];first|rfl|go_num,by first|rfl|simp⟩
    simp[ZA];omega)
 have a0:¬a<(h:E):=O;obtain rfl:a=h:=O;go_wp2;go_ret;exact⟨X,_,X⟩
def Ze4{c}{a:U H}{b}(d:b<F a):Bk c (ZU (b+1) a)=Bk c (ZU b a)+(Z c (Z a b 0) Aj).g:=by
 unfold Bk;rw[Qi d,map_append,sum_append]
 grind
def ZlF{Ks fs}(b:∀a∈fs,(Z Ks a Aj).g<=2002):Bk Ks fs<=2002*F fs:=by
 induction fs with
 |nil=>simp[Bk]
 | cons a fs c=>
  grind [Bk]
def dg r a8 a1 z b c k (s:DkV k r a8 c)(m:NuV k z b)(t:∀d∈b,d<F c)(a6:F b<=1000):C_ 137 #[P_ r,V z (F b) a1] k (U_ (ZX ZQ (Bk c b:H)) k):=by
 have y:=Y s;have w:=K_ m t
 have W:=Y (λa e=>by
  have:=ZlF (Ks:=c) (fs:=ZU a b) (λd m=>by
   have e:=s.x d (t d (aL m));have:=e.g;have:=e.1;have:=e.2.1
   omega)
  rw[length_take,Nat.min_eq_left e] at this
  exact this)
 have⟨i,v⟩:=Z_ (F b);have x:=Y v;rw[v] at a6 ⊢;clear s m t v;refine q_ ?_;go_wp2_with fail
 go_loopw [5,6] (λf e g=>∃a:H,e=ZX ZQ a/\a<=i/\f=ZX ZQ (Bk c (ZU a b):H)/\E_ k g) (λ_ e _=>i-ZL (ZA e))
 exact⟨0,X,v_,X,y_⟩;obtain⟨a,rfl,e,rfl,h⟩:=hrel
 by_cases a5:a<i
 ·have u:a<F b:=x ▸ a5;obtain⟨b1,rfl,A⟩:=(w.1.q h) a u;have Q:=w.2 _ (Pp u);have⟨j,a2,n,p,o,q,D,G,L,M,N⟩:=(y.q h).z Q;have a0:K (Bk c _=_):=Ze4 u;have f:=y.x _ Q;have R:=f.g;have b6:=W a O;have P:=Km n o (F (Z c (Z b a 0) Aj).e.f) (F (Z c (Z b a 0) Aj).e.c) p q (Z c (Z b a 0) Aj).e.a (Z c (Z b a 0) Aj).d
  have S:K (∀l:ZT,C_ 189 #[Y9 #[ZR (Z c (Z b a 0) Aj).e.a,V n (F (Z c (Z b a 0) Aj).e.f) p,V o (F (Z c (Z b a 0) Aj).e.c) q,I (Z c (Z b a 0) Aj).d]] l (U_ (ZX ZQ (Z c (Z b a 0) Aj).g) l)):=λl=>by rw[<- R];exact P l f.1 f.2.1
  have b7:(Z c (Z b a 0) Aj).g<=2002:=oj_ f.1 f.2.1;clear P R f;generalize (Z c (Z b a 0) Aj).g=a7 at *;generalize (Z c (Z b a 0) Aj).e.a=b3 at *;generalize (F (Z c (Z b a 0) Aj).e.f)=a9 at *;generalize (F (Z c (Z b a 0) Aj).e.c)=b0 at *;generalize (Z c (Z b a 0) Aj).d=a3 at *;generalize (Z b) a 0=d at *;generalize Bk c (ZU a b)=b2 at *;have a4:=F_ a i;have b5:=F_ d (F c);have b8:_=(b2:E)+(a7:_):=Au O O;go_upto_region 5 with fail
  go_region_held3 (λg=>D_ g r 1 (L_ j (F c) a2)/\D_ g b1 a (I (d:H))/\D_ g j (d*4) (ZR b3)/\D_ g j (d*4+1) (V n a9 p)/\D_ g j (d*4+2) (V o b0 q)/\D_ g j (d*4+3) (I (a3:H))) (first|exact⟨D,A,G,L,M,N⟩|exact⟨Ah aA D,Ah aA A,Ah aA G,Ah aA L,Ah aA M,Ah aA N⟩) (first|(go_at_call 189;apply (S _).m;rintro b4 b9 ⟨rfl,g⟩;have aA:Below (B wr.1) _ _:=y_.drew.T g))
  go_wp2;go_roundw;exact⟨a+1,g_,O,by rw[a0];go_num,h.T (aA.m h.size)⟩;exact z_
 have a4:¬a<(i:E):=O;have f:ZU a b=_:=aI (p_ x.out);rw[f];go_wp2;go_ret;exact⟨X,h⟩
abbrev Dg:ZY:=N_
structure Mk(f:ZT)(e)(g)(c)(b:U (U E)):Prop where
 M:ZD f e 25 1 g (F b) c
 j:∀a,a<F b->Ad f e (Z c a Dg) (Z b a [])
 apart:∀a d,a<d->d<F b->Bl (Z c a Dg) (Z c d Dg)
section
variable {w w':ZT} {base:H} {v v':ZY} {vs:U ZY} {Ls:U (U E)}
def Mk.y(a:Mk w base v vs Ls):F vs=F Ls:=p_ a.M.1
def Mk.nil{w base}:Mk w base (N_) [] []:=⟨rn_,λc a=>by simp at a,λc d _ b=>by simp at b⟩
def Mk.p{K}(b:Mk w base v vs Ls)(j:Aa K w w')(i:∀a k h,w.1[a]? =T (O_ k h)->h=25∨h=3->base<=a->¬K a):Mk w' base v vs Ls:=
 ⟨j.M b.M (λa c=>by obtain⟨d,e⟩:=Ac b.M c;exact i a d _ e (ZM X) (B_ b.M a c).1),λg f=>j.M (b.j g f) (λa c=>by obtain⟨d,e⟩:=Ac (b.j g f) c;exact i a d _ e (ZJ X) (B_ (b.j g f) a c).1),b.apart⟩
def Mk.q(a:Mk w base v vs Ls)(b:E_ w w'):=a.p (.a (S:=λ_=>False) b) (λ_ _ _ _ _ _=>id)
def Mk.d(c:Mk w base v vs Ls):∃a b,v=ZH a (F Ls) b:=by
 rcases c.M.2 with⟨rfl,g⟩|⟨f,d,e,rfl,_⟩
 ·grind
 grind
def Mk.m{c}(a:Mk w base v vs Ls)(d:c<=base):Mk w c v vs Ls:=by
 refine⟨⟨a.M.1,?_⟩,λj i=>(a.j j i).m d,a.apart⟩
 rcases a.M.2 with b|⟨g,e,f,b,h,k⟩
 exact ZM b;exact ZJ ⟨g,e,f,b,aG d h,k⟩
def Mk.at(d:Mk w base v vs Ls){i}(n:i<F Ls):∃a h b k,v=L_ a (F Ls) h/\ZV w (J a i)=T (ZH b (F (Z Ls i [])) k)/\(∀e,YT w (J a e)=ZZ)/\Z vs i Dg=ZH b (F (Z Ls i [])) k/\(∃c,w.1[a]? =T (YU c 25 (0,0)))/\base<=a:=by
 rcases d.M.2 with⟨_,o⟩|⟨l,j,c,rfl,m,g,p,_⟩
 omega;have⟨b,k,f⟩:=(d.j i n).d;refine⟨l,j,b,k,X,?_,λe=>R_ e _ _ g,f,⟨c,g⟩,m⟩;rw[World.ownsRow.cellAt d.M i O,<- f]
 grind
def Mk.P{c L}(d:Mk w base v vs Ls)(i:Ad w base c L)(m:∀a,a<F Ls->Bl (Z vs a Dg) c)(g:Y3 w w' (ZW v))(o:ZD w' base 25 1 v' (F Ls+1) (vs++[c])):Mk w' base v' (vs++[c]) (Ls++[L]):=by
 have n:=d.y;have e:∀a,a<F Ls->Z (vs++[c]) a Dg=Z vs a Dg/\Z (Ls++[L]) a []=Z Ls a []:=w_;have h:Z (vs++[c]) (F Ls) Dg=c/\Z (Ls++[L]) (F Ls) []=L:=w_;refine⟨w_,λa j=>?_,λa f k l=>?_⟩
 ·rw[Qe,length_singleton] at j
  by_cases b:a<F Ls
  rw[(e a b).1,(e a b).2];exact Ad.kept (d.j a b) g (Ap d.M (d.j a b) C);obtain rfl:a=F Ls:=O;rw[h.1,h.2];exact Ad.kept i g (Ap d.M i C)
 rw[Qe,length_singleton] at l;rw[(e a O).1]
 by_cases b:f<F Ls
 rw[(e f b).1];exact d.apart a f k b
 grind
def Mk.grow{j o b d i}(c:Mk w base (L_ j (F Ls) o) vs Ls)(r:b<F Ls)(q:Y3 w w' (ZW (Z vs b Dg)))(v:Ad w' base d i)(u:ZW d=ZW (Z vs b Dg)∨ZW d=T (B w.1)):Mk (ZO w' (J j b) d) base (L_ j (F Ls) o) (vs.set b d) (Ls.set b i):=by
 have z:=c.y;have t:=World.ownsRow.kept c.M q (Ap (c.j b r) c.M C);have⟨x,s⟩:=Ac t (k:=j) X;have⟨y,_⟩:=World.ownsRow.stored t b d;refine⟨w_,λa m=>?_,λa f n e=>?_⟩
 ·rw[length_set] at m
  by_cases g:a=b
  subst g;have h:Z (vs.set a d) a Dg=d:=w_;have k:Z (Ls.set a i) a []=i:=w_;rw[h,k];exact Am v s C;have h:Z (vs.set b d) a Dg=Z vs a Dg:=w_;have k:Z (Ls.set b i) a []=Z Ls a []:=w_;rw[h,k];refine Am (Ad.kept (c.j a m) q ?_) s C
  rcases Nat.lt_or_gt_of_ne g with g|g
  exact(c.apart a b g r).s.a;exact(c.apart b a g m).a
 rw[length_set] at e;have g:∀k,k<F Ls->k≠b->Z (vs.set b d) k Dg=Z vs k Dg:=w_;have h:Z (vs.set b d) b Dg=d:=w_
 by_cases l:a=b
 subst l;rw[h,g f e O];exact Bl.b (c.apart a f n e) (c.j f e) u
 by_cases p:f=b
 subst p;rw[h,g a O l];exact(Bl.b (c.apart a f n e).s (c.j a O) u).s;rw[g a O l,g f e p];exact c.apart a f n e
end
def Mk.h{k n j t a}(c:Mk k n j t (a.map An)):LiV k j a:=by have⟨l,o,d⟩:=c.d;rw[length_map] at d;refine⟨⟨l,o,d⟩,λb u=>?_⟩;have h:b<F (a.map An):=w_;have⟨s,p,m,r,e,f,_,q,_⟩:=c.at h;have g:Z (a.map An) b []=An (Z a b []):=w_;have i:=c.j b h;rw[q,g,Ak] at i;rw[g,Ak] at f;rw[length_map] at e;exact⟨s,p,m,r,e,f,i.f X⟩
structure ja(e)(d)(f)(c)(a):Prop where
 M:Xr e d 227 4 f (zipWith Bs a c)
 y:F c=F a
 j:∀b,b<F a->Ad e d (Z c b Lm).1 (Z a b Aj).e.f/\Bj e d (Z c b Lm).2 (Z a b Aj).e.c
section
variable {w w':ZT} {base:H} {v v':ZY} {kvs:U (ZY×ZY)} {Ks:U KS}
def ja.nil{w base}:ja w base (N_) [] []:=⟨Xr.nil _,X,λb a=>by simp at a⟩
def ja.a(a:ja w base v kvs Ks):F (zipWith Bs Ks kvs)=F Ks:=by rw[length_zipWith,a.y,Nat.min_self]
def ja.p{K}(c:ja w base v kvs Ks)(n:Aa K w w')(i:∀b h a,w.1[b]? =T (O_ h a)->a=227∨a=3∨a=9->base<=b->¬K b):ja w' base v kvs Ks:=by have e:∀{a m l:H} {o:_} {p:_},ZD w _ a m o l p->(a=227∨_=3∨a=9)->_:=λd k=>n.M d (λb f=>by obtain⟨g,j⟩:=Ac d f;exact i b g _ j k (B_ d b f).1);exact⟨⟨e c.M.M (ZM X),c.M.h⟩,c.y,λg f=>⟨e (c.j g f).1 (ZJ (ZM X)),e (c.j g f).2 (ZJ (ZJ X))⟩⟩
def ja.q(a:ja w base v kvs Ks)(b:E_ w w'):=a.p (.a (S:=λ_=>False) b) (λ_ _ _ _ _ _=>id)
def ja.P{b c}(d:ja w base v kvs Ks)(l:Ad w base c.1 b.e.f)(m:Bj w base c.2 b.e.c)(k:Y3 w w' (ZW v))(t:ZD w' base 227 4 v' (F Ks+1) ((zipWith Bs Ks kvs).flatten++Bs b c)):ja w' base v' (kvs++[c]) (Ks++[b]):=by
 have i:=d.y;refine⟨?_,by simp[i],λa o=>?_⟩;rw[zipWith_append i.s];exact d.M.P w_ X;have e:∀{r q n:H} {x:_} {s:_},ZD w base r q x n s->_:=λj p=>World.ownsRow.kept j k (Ap d.M.M j p);rw[Qe,length_singleton] at o
 by_cases h:a<F Ks
 have f:Z (kvs++[c]) a Lm=Z kvs a Lm:=w_;have g:Z (Ks++[b]) a Aj=Z Ks a Aj:=w_;rw[f,g];exact⟨e (d.j a h).1 C,e (d.j a h).2 C⟩;obtain rfl:a=F Ks:=O;have f:Z (kvs++[c]) (F Ks) Lm=c:=w_;have g:Z (Ks++[b]) (F Ks) Aj=b:=(by simp[Z]);rw[f,g];exact⟨e l C,e m C⟩
def ja.h(a:ja w base v kvs Ks):FeV w v Ks:=by have⟨f,j,d⟩:=a.M.d;rw[a.a] at d;refine⟨⟨f,j,d⟩,λi c=>?_⟩;have⟨q,k,e,_,_,_,_,b⟩:=a.M.at (i:=i) (a.a ▸ c);rw[a.a] at e;have⟨g,l,n⟩:=(a.j i c).1.d;have⟨h,m,o⟩:=(a.j i c).2.a;have p:Z (zipWith Bs Ks kvs) i []=Bs (Z Ks i Aj) (Z kvs i Lm):=(by simp[Z,getElem?_zipWith,c,show i<F kvs by rw[a.y];exact c]);rw[p] at b;exact⟨q,k,g,l,h,m,e,b 0 O _ X,b 1 O _ (congrArg T n),b 2 O _ (congrArg T o),b 3 O _ X⟩
end
def Nt(g:ZT)(a b:H)(e c d f:ZY):Prop:=g.1[a]? =T (O_ #[I b,e,c,d,f] 142)
structure MkX(b:ZT)(e m f g:H)(h o p q i j)(l)(k)(d)(c:U (U H))(n):Prop where
 r:b.1[m]? =T (O_ #[P_ f,i,j] 331)
 v:Nt b f g h o p q
 A:ja b e h l d
 t:Mk b e i k (c.map An)
 w:Ad b e j (An n)
 y:F c=F d
 u:∀a,a<F c->F (Z c a [])=g
 x:∀a,a<F d->Vc (Z d a Aj)
section
variable {w w':ZT} {base a db n:H} {vF vB vC vX vb d e f g:ZY} {kvs:U (ZY×ZY)} {b:U ZY} {Ks:U KS} {Bb:U (U H)} {c:U H}
def MkX.h(e:MkX w base a db n vF vB vC vX vb d kvs b Ks Bb c):MkV w a db n Ks Bb:=
 ⟨M_ 0 _ 331 (0,0) e.r,⟨vb,M_ 1 _ 331 (0,0) e.r,e.t.h⟩,⟨M_ 0 _ 142 (0,0) e.v,⟨vF,M_ 1 _ 142 (0,0) e.v,e.A.h⟩,e.x⟩,e.y,e.u⟩
def MkX.i(h:MkX w base a db n vF vB vC vX vb d kvs b Ks Bb c)(m:Aa (λs=>s=db) w w')(r:Nt w' db n vF e f g):MkX w' base a db n vF e f g vb d kvs b Ks Bb c:=by
 have o:∀i l k,H_ w i l k->k≠142->¬i=db:=λi l k j p t=>by
  have q:=h.v;unfold Nt at q
  grind
 exact⟨m.g h.r (o _ _ _ h.r C),r,h.A.p m (λi l k j p _=>o i _ _ j w_),h.t.p m (λi l k j p _=>o i _ _ j w_),
  m.M h.w (λi j=>by obtain⟨q,u⟩:=Ac h.w j;grind),h.y,h.u,h.x⟩
end
structure Xm(a wr)(b j)(m e l n f o)(d)(c:U (U H))(g)(h):Prop where
 u:Aa (λk=>k=b) a wr
 v:Nt wr b j m e l n
 w:Mk wr (B a.1) e d (c.map An)
 cf:Ad wr (B a.1) f (An g)
 G:∀i,i<F c->Bl f (Z d i Dg)
 p:Eo wr (B a.1) o h
 lt:b<B a.1
section
variable {w wr c:ZT} {db n:H} {vF vB vC vX e f:ZY} {bvs:U ZY} {Fs:U (U H)} {a:U H} {d:U ZG}
def Xm.q(b:Xm w wr db n vF vB vC vX e f bvs Fs a d)(g:E_ wr c):Xm w c db n vF vB vC vX e f bvs Fs a d:=by have h:=Aa.a (S:=λ_=>False) g;exact⟨b.u.q g,h.g b.v id,b.w.q g,b.cf.q g,b.G,h.M b.p (λ_ _=>id),b.lt⟩
def Nt.lt(a:Nt w db n vF vB vC vX):db<B w.1:=(Qb a).1
def Nt.o(d:Nt w db n vF vB vC vX){a b:H}{c}(f:H_ w a c b)(g:b≠142):a≠db:=λe=>by
 unfold Nt at d
 grind
def Xm.h{c j i h b}(f:Xm w wr db n vF vB vC vX e (L_ c h j) bvs Fs a d)(q:F d=h):Xm w (ZO wr (J c i) (ZR b)) db n vF vB vC vX e (L_ c h j) bvs Fs a (d.set i b):=by
 have⟨t,v⟩:=Ac f.p (k:=c) X;have x:=(B_ f.p c X).1;have m:Aa _ _ (ZO wr _ (ZR b)):=(Aa.refl (λg=>g=c) _).setCell (p:=(J c i)) (λ_=>X) _;have r:∀g k o,H_ wr g k o->o≠4->¬g=c:=w_
 have s:Eo (ZO wr (J c i) (ZR b)) (B w.1) (L_ c h j) (d.set i b):=(by have l:=f.p;unfold Eo at l ⊢;rw[q] at l;rw[length_set,q,map_set];exact(World.ownsRow.stored l i _).1);exact⟨f.u.setCell (p:=(J c i)) (λl=>by simp at l;omega) _,m.g f.v (r _ _ _ f.v C),f.w.p m (λg k o l u _=>r g _ _ l w_),m.M f.cf (λg l=>by obtain⟨k,u⟩:=Ac f.cf l;grind),f.G,s,f.lt⟩
def Xm.grow{h p b i r}(g:Xm w wr db n vF (L_ h (F Fs) p) vC vX e f bvs Fs a d)(v:b<F Fs)(k:Y3 wr c (ZW (Z bvs b Dg)))(D:Ad c (B w.1) i (An r))(z:ZW i=ZW (Z bvs b Dg)∨ZW i=T (B wr.1)):Xm w (ZO c (J h b) i) db n vF (L_ h (F Fs) p) vC vX e f (bvs.set b i) (Fs.set b r) a d:=by
 have x:b<F (Fs.map An):=w_;have o:=g.w.j b x;have G:=(Aa.refl _ _).grown k (λj l _=>l);have A:Mk wr (B w.1) (L_ h (F (Fs.map An)) p) bvs (Fs.map An):=(by rw[length_map];exact g.w);have u:=A.grow x k D z;rw[length_map] at u;have m:∃s,H_ c h s 25:=by have j:=World.ownsRow.kept g.w.M k (Ap o g.w.M C);exact Ac j (k:=h) X
 obtain⟨s,m⟩:=m;have M:=(B_ g.w.M h X).1;have t:Nt _ _ n _ _ _ _:=G.g g.v (λl=>by obtain⟨q,j⟩:=Ac o l;exact g.v.o j C X);have L:Aa _ _ (ZO c _ i):=(Aa.refl (λj=>j=h) _).setCell (p:=(J h b)) (λ_=>X) _;refine⟨(g.u.grown k (λj l q=>p_ (B_ o j l).1)).setCell (p:=(J h b)) (λq=>by simp at q;omega) _,L.g t (λl=>t.o m C l.s),map_set ▸ u,?_,λj y=>?_,?_,g.lt⟩;exact Am (Ad.kept g.cf k ((g.G b v).s.a)) m C
 ·rw[length_set] at y
  by_cases l:j=b
  subst l;have q:Z (bvs.set j i) j Dg=i:=gh_ g.w.y;rw[q];exact(Bl.b (g.G j v).s g.cf z).s;have q:Z (bvs.set b i) j Dg=Z bvs j Dg:=w_;rw[q];exact g.G j y
 exact Am (World.ownsRow.kept g.p k (Ap o g.p C)) m C
def Xm.g{c o g m h}(b:Xm w wr db n vF vB vC vX (L_ c m o) f bvs Fs a d)(v:F a=m):Xm w (ZO wr (J c g) (I (h:H))) db n vF vB vC vX (L_ c m o) f bvs Fs (a.set g h) d:=by
 have⟨y,z⟩:=Ac b.cf (k:=c) X;have A:=(B_ b.cf c X).1;have k:Aa _ _ (ZO wr _ (I (h:_))):=(Aa.refl (λe=>e=c) _).setCell (p:=(J c g)) (λ_=>X) _;have x:∀j l s,H_ wr j l s->s≠3->¬j=c:=w_;have q:=(Ad.put b.cf (k:=g) (by rw[Ak];exact v.s) (h:E)).1;have e:(An a).set g h=An (a.set g h):=(by unfold An;rw[map_set]);rw[e] at q
 have t:Mk _ _ _ _ _:=
  ⟨k.M b.w.M (λj i=>by obtain⟨l,r⟩:=Ac b.w.M i;grind),λr u=>k.M (b.w.j r u) (λj i e=>by
   have:=b.G r w_;subst e
   rcases this with e|e|e
   simp[ZW] at e
   ·grind
   exact e (by rw[i];rfl)),b.w.apart⟩
 exact⟨b.u.setCell (p:=(J c g)) (λi=>by simp at i;omega) _,k.g b.v (x _ _ _ b.v C),t,q,b.G,k.M b.p (λj i=>by obtain⟨l,r⟩:=Ac b.p i;grind),b.lt⟩
def Xm.b{h m L}(b:Xm w wr db n vF vB vC vX e f bvs Fs a d)(t:Ad wr (B w.1) h (An L))(r:∀g,g<F Fs->Bl (Z bvs g Dg) h)(y:Bl e h)(j:Y3 wr c (ZW vB))(u:ZD c (B w.1) 25 1 m (F Fs+1) (bvs++[h])):Xm w (ZO c (J db 2) m) db n vF m vC vX e f (bvs++[h]) (Fs++[L]) a d/\Nt c db n vF vB vC vX:=by
 have v:=(Aa.refl _ _).grown j (λl k _=>k);have i:Nt _ _ n _ _ _ _:=v.g b.v (λk=>by obtain⟨p,l⟩:=Ac b.w.M k;exact b.v.o l C X);have q:=b.w.P (L:=An L) t (λg o=>r g w_) j (by rw[length_map];exact u);have x:Aa _ _ (ZO c _ m):=(Aa.refl (λl=>l=db) _).setCell (p:=(J db 2)) (λ_=>X) _;have s:=b.w.y;rw[length_map] at s;refine⟨⟨(b.u.grown j (λl k o=>p_ (B_ b.w.M l k).1)).setCell (p:=(J db 2)) (λ_=>X) _,ht_ 2 _ _ _ i,?_,?_,λg o=>?_,?_,b.lt⟩,i⟩;rw[map_append];exact q.p x (λl p A k z _=>i.o k w_);exact Am (Ad.kept b.cf j (Ap b.w.M b.cf C)) i C
 ·rw[Qe,length_singleton] at o
  by_cases k:g<F Fs
  have l:Z (bvs++[h]) g Dg=Z bvs g Dg:=w_;rw[l];exact b.G g k
  grind
 exact Am (World.ownsRow.kept b.p j (Ap b.w.M b.p C)) i C
def Xm.i{i}{k:H}(b:Xm w wr db n vF vB vC vX e f bvs Fs a d)(g:Y3 wr c (ZW e))(q:Ad c (B w.1) i (An a++[(k:E)]))(m:ZW i=ZW e∨ZW i=T (B wr.1)):Xm w c db n vF vB vC vX i f bvs Fs (a++[k]) d:=by have o:=(Aa.refl _ _).grown g (λj h _=>h);have l:Nt _ _ n _ _ _ _:=o.g b.v (λh=>by obtain⟨p,j⟩:=Ac b.cf h;exact b.v.o j C X);refine⟨b.u.grown g (λj h p=>p_ (B_ b.cf j h).1),l,⟨World.ownsRow.kept b.w.M g (Ap b.cf b.w.M C),λh j=>Ad.kept (b.w.j h j) g (b.G h w_).a,b.w.apart⟩,by unfold An at *;grind,λh j=>Bl.b (b.G h j) (b.w.j h w_) m,World.ownsRow.kept b.p g (Ap b.cf b.p C),b.lt⟩
end
def n1(a:H):H:=if a%2=1 then a/2^^^3988292384 else a/2
def nJ:H->H->H
 |0,a=>a
 |b+1,a=>nJ b (n1 a)
def Zet{c}:∀a b,nJ (c+a) b=nJ c (nJ a b)
 |0,_=>X
 |a+1,b=>Zet a (n1 b)
def zr a b:nJ (a+1) b=n1 (nJ a b):=by rw[Nat.add_comm,Zet];rfl
def ZoX a b:n1 (a^^^b)=n1 a^^^n1 b:=by
 have d:(a^^^b)%2=(a+b)%2:=by
  have c:=testBit_xor (x:=a) (y:=b) (i:=0)
  grind
 have c:(a^^^b)/2=_:=xor_div_two ..;unfold n1
 grind
def ZkS:∀(a b c:H),nJ a (b^^^c)=nJ a b^^^nJ a c
 |0,_,_=>X
 |a+1,b,c=>by show nJ a (n1 (b^^^c))=nJ a (n1 b)^^^nJ a (n1 c);rw[ZoX,ZkS]
def Zqb{a}(b:a<4294967296):n1 a<4294967296:=by unfold n1;split;exact xor_lt_two_pow (n:=32) O C;omega
def ZoY a b:nJ a (2^a*b)=b:=by
 induction a generalizing b with
 |zero=>simp[nJ]
 | succ a d=>
  show nJ a (n1 (2^(a+1)*b))=b;have c:n1 (2^(a+1)*b)=2^a*b:=(by unfold n1;rw[Nat.pow_succ,Nat.mul_comm (2^a) 2,Nat.mul_assoc,aC O];omega);rw[c,d]
def ZcT:U E->H
 |[]=>0
 |a::b=>ZL a+256*ZcT b
def Zmi{b a}(d:b<256):b+256*a=b^^^256*a:=by
 have g:=two_pow_add_eq_or_of_lt (i:=8) d a
 have e:b&&&256*a=0:=by
  apply eq_of_testBit_eq;intro c;rw[testBit_and,zero_testBit]
  by_cases f:c<8
  rw[show 256*a=2^8*a from X,testBit_two_pow_mul,aE O];simp;rw[testBit_lt_two_pow (x:=b) (i:=c) (Qh d (Nat.pow_le_pow_right (n:=2) (i:=8) C O))];simp
 apply eq_of_testBit_eq;intro c;have h:=congrArg (λf=>f.testBit c) e
 grind
def nF(b:H)(a:U E):H:=nJ (8*F a) (b^^^ZcT a)
theorem zp c {a}(e:0<=a/\a<256) b:nF c (a::b)=nF (nJ 8 (c^^^ZL a)) b:=by have d:nF c (a::b)=nJ (8*_+8) (c^^^(_+_)):=rfl;rw[d,Zmi (show ZL a<256 by omega),<- Nat.xor_assoc,Zet,ZkS 8,show 256*ZcT b=2^8*ZcT b from X,ZoY];rfl
theorem Xu(a b:H)(c:a<4294967296)(d:b<4294967296):bits .xor .u32 a b=(a^^^b:H):=by have e:=xor_lt_two_pow (n:=32) c d;simp only[bits,BitVec.ofInt_natCast,BitVec.toNat_xor,BitVec.toNat_ofNat];rw[show IntKind.u32.bits=32 from X,mod_eq_of_lt (show a<2^32 from c),mod_eq_of_lt (show b<2^32 from d)];simp only[wrap,IntKind.bits,signed];simp;omega
def Zjr{a:H}(b:a<4294967296):bits .and .u32 a 1=(a%2:H):=by simp only[bits];rw[show(1:E)=((1:H):E) from X,BitVec.ofInt_natCast,BitVec.ofInt_natCast,BitVec.toNat_and,BitVec.toNat_ofNat,BitVec.toNat_ofNat];rw[show IntKind.u32.bits=32 from X,mod_eq_of_lt (show a<2^32 from b),mod_eq_of_lt (show 1<2^32 by decide),and_one_is_mod];simp only[wrap,IntKind.bits,signed];simp;omega
def Zox{a}(c:a<4294967296):Zba (a:H)=(n1 a:H):=by
 unfold Zba n1;rw[Zjr c]
 rcases mod_two_eq_zero_or_one a with b|b
 ·grind
 rw[b,aD C,aD X,show((a:E)/2)=((a/2:H):E) by omega,show(3988292384:E)=((3988292384:H):E) from X,Xu _ _ O C]
def ZbJ{c}(b:c<4294967296):∀a,nJ a c<4294967296
 |0=>b
 |a+1=>by rw[zr];exact Zqb (ZbJ b a)
theorem ZjR{b}(c:b<4294967296):∀a,gz a (b:H)=(nJ a b:H)
 |0=>X
 |a+1=>by show Zba (gz a b)=_;rw[ZjR c a,Zox (ZbJ c a),zr]
def lp:∀(b:U E) {z:H},z<4294967296->(∀a∈b,0<=a/\a<256)->b.foldl rx (z:H)=(nF z b:H)
 |[],z,_,_=>by simp[nF,nJ,ZcT]
 |a::b,z,h,f=>by have e:=f a s_;obtain⟨c,rfl⟩:=Int.eq_ofNat_of_zero_le e.1;have d:z^^^c<4294967296:=xor_lt_two_pow (n:=32) h O;rw[zp z e,foldl_cons];have g:rx z c=(nJ 8 (z^^^c):H):=(by grind [rx,Xu,ZjR]);rw[g];exact lp _ (ZbJ d 8) (λi d=>f i (by simp[d]))
end Go.Proofs.YtfcgnpchbcmdeaaGreat
