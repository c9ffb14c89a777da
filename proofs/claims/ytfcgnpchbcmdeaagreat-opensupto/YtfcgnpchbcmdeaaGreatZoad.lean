import Derived.Test.YtfcgnpchbcmdeaaGreatHdc
import Derived.Test.YtfcgnpchbcmdeaaGreatRows
namespace Go.Proofs.YtfcgnpchbcmdeaaGreat
set_option linter.all false
set_option maxRecDepth 100000
set_option maxHeartbeats 2000000
open Go.RowKit List Nat World Go.Proofs.Tryz Value IntKind Lib Region
def kb_{b:Nat}{c d:World}(e:Below b c d):∀a:Addr,a.block<b->d.cell? a=c.cell? a:=λ_ f=>e.cell f
def bt_{a b c:World}(d:E_ a b)(e:E_ b c):E_ a c:=d.T (e.m d.size)
def v_{a b:Prop}(x:b)(c:b->a:=by intro x;(try delta C_ U_ V_ I P_ L_ V N_ Q_ J);go_in;exact x):a:=c x
def ew_{a b:Prop}(x:b)(c:b->a:=by intro x;(try delta C_ U_ V_ I P_ L_ V N_ Q_ J);go_in;go_wp2_with fail;exact x):a:=c x
def er_{a b:Prop}(x:b)(c:b->a:=by intro x;(try delta C_ U_ V_ I P_ L_ V N_ Q_ J);go_in;go_wp2;go_ret;exact x):a:=c x
def wm_{d:Nat}{b:Array Value}{g:World}{a:Ending->World->Prop}{e f:Prop}(c:Calls prog d b g a)(x:f)(h:Calls prog d b g a->f->e:=by intro c x;go_wp2_with fail;refine c.m ?_;exact x):e:=h c x
def wr_{a b:Prop}(x:b)(c:b->a:=by intro x;go_wp2;go_ret;exact x):a:=c x
def Yf{a b}(c:a=b):Ending.returned (.bool a)=.returned (.bool b):=by rw[c]
def oz a c b d:C_ 61 #[I a,I c,I b] d (V_ (.bool (decide (c<=a)&&decide (a<=b))) d):=by
 refine v_ ?_;go_wp2
 all_goals go_ret
 all_goals exact⟨by simp[*]<;>omega,rfl⟩
def pc a d c b (e:d<=a/\a<=c):C_ 61 #[I a,I d,I c] b (V_ (.bool true) b):=by
 apply (oz a _ _ b).m
 grind
def Zhs a d c b (e:¬(d<=a/\a<=c)):C_ 61 #[I a,I d,I c] b (V_ (.bool false) b):=by
 apply (oz a _ _ b).m
 grind
def Mr(c:Bool)(b a:Int):Bool:=if c=true then decide (b=0/\1<=a/\a<=1000) else decide (0<=b/\b<=3/\a=0)
def qf b d c e:C_ 159 #[.agg #[.bool b,I d,I c]] e (U_ (.bool (Mr b d c)) e):=by
 cases b
 ·refine v_ ?_;go_wp2
  all_goals go_ret
  all_goals refine⟨?_,q_⟩
  all_goals (refine congrArg (λa=>Ending.returned (.bool a)) (Bool.eq_iff_iff.2 ?_);simp[Mr]<;>omega)
 refine v_ ?_;go_wp2
 all_goals go_ret
 all_goals refine⟨?_,q_⟩
 all_goals (refine congrArg (λa=>Ending.returned (.bool a)) (Bool.eq_iff_iff.2 ?_);simp[Mr]<;>omega)
structure Dq(c:World)(b d a)(g:Nat->Bool)(f e:Nat->Int):Prop where
 le:a<=maxLen
 lt:0<a->b<c.1.size
 v:∀i,i<a->c.cell? (J b (d+i*3))=some (.bool (g i))
 z:∀i,i<a->c.cell? (J b (d+i*3+1))=some (I (f i))
 q:∀i,i<a->c.cell? (J b (d+i*3+2))=some (I (e i))
def Vj(e:Nat->Bool)(d b:Nat->Int)(c:Nat):Bool:=(range c).all λa=>Mr (e a) (d a) (b a)
def rp d c b a:Vj d c b (a+1)=(Vj d c b a&&Mr (d a) (c a) (b a)):=by unfold Vj;grind
def ZkW{e d b a c}(f:a<c)(g:Mr (e a) (d a) (b a)=false):Vj e d b c=false:=by unfold Vj;grind
def en k o c p i g e h (d:Dq h k o c i g e):C_ 95 #[V (some (J k o)) c p] h (U_ (.bool (Vj i g e c)) h):=by
 have r:=d.le;unfold maxLen at r;refine v_ ?_;go_wp2_with fail
 go_loopw [7] (λb f=>∃a:Nat,a<=c/\b=I a/\Vj i g e a=true/\E_ h f) (m1_ c)
 exact⟨0,r_,rfl,rfl,y_⟩;obtain⟨a,x,rfl,l,b⟩:=hrel
 by_cases f:a<c
 ·have w:=d.lt O;have t:=W_ b (d.v a f);have u:=W_ b (d.z a f);have v:=W_ b (d.q a f);go_wp2_with fail
  apply (qf _ _ _ _).m;rintro s y ⟨rfl,q⟩;have m:=(b.alloc b.size _).T (q.m (by have:=b.size;simp;omega))
  cases n:Mr (i a) (g a) (e a)
  ·have j:=Y n;go_wp2;go_ret;refine⟨?_,m⟩;exact Yf (ZkW f j).s
  have j:=Y n;refine J_ ?_;exact⟨a+1,O,g_,by rw[rp,l,j];rfl,m⟩
 have j:c=a:=O;subst j;go_wp2;go_ret;exact⟨Yf l.s,b⟩
def Yx c d a:C_ 95 #[V c 0 d] a (U_ (.bool true) a):=by
 refine v_ ?_;go_wp2_with fail
 go_loopw [7] (λb e=>b=I 0/\e=a) (λb _=>0)
 grind
 obtain⟨rfl,rfl⟩:=hrel;go_wp2;go_ret;exact⟨rfl,y_⟩
def El(g:World)(d:Option Addr)(b:Nat)(h:Nat->Bool)(f e:Nat->Int):Prop:=
 b=0∨∃a c,d=some ⟨a,c,none⟩/\Dq g a c b h f e
def pt b d i g f e a (c:El a b d g f e):C_ 95 #[V b d i] a (U_ (.bool (Vj g f e d)) a):=by
 rcases c with rfl|⟨h,j,rfl,c⟩
 exact Yx b _ a;exact en h _ _ _ _ _ _ a c
def Dq.below{j k e h g l i f}(a:Dq j e h g l i f)(d:E_ j k):Dq k e h g l i f:=
 ⟨a.le,λm=>Qh (a.lt m) d.size,λc b=>W_ d (a.v c b),λc b=>W_ d (a.z c b),λc b=>W_ d (a.q c b)⟩
def El.below{e f a c g d b}(i:El e a c g d b)(k:E_ e f):El f a c g d b:=by
 rcases i with rfl|⟨h,l,rfl,j⟩
 exact Or.inl rfl;exact Or.inr ⟨h,l,rfl,j.below k⟩
def ZiE(a:Bool):Int:=if a=true then 0 else 1
def Iz(b:Nat)(a d c:Int)(g:Nat->Bool)(f e:Nat->Int):Bool:=
 decide ((1:Int)<=b/\(b:Int)<=4/\2<=a/\a<=16/\a<=d/\d<=32/\0<=c/\c<=20)&&Vj g f e b
def Xj c a j d h e i g f b (m:a<=maxLen)(k:El b c a i g f):C_ 56 #[.agg #[V c a j,I d,I h,I e]] b (U_ (.bool (Iz a d h e i g f)) b):=by
 unfold maxLen at m;refine v_ ?_;go_wp2_with (first|(go_at_call 95;apply (pt _ _ _ _ _ _ _ (k.below q_)).m;rintro n o ⟨rfl,l⟩)|go_in)
 all_goals go_ret
 ·refine⟨Yf ?_,q_.T (l.m s_)⟩;unfold Iz
  grind
 all_goals exact⟨Yf (by simp[Iz];omega),q_⟩
def Jf a b:C_ 68 #[I a] b (V_ (.int .i64 a) b):=by refine er_ ?_;exact⟨rfl,rfl⟩
def ZeW(c:Nat)(a d b:Int):Bool:=
 decide ((1:Int)<=c/\(c:Int)<=4/\2<=a/\a<=16/\a<=d/\d<=32/\0<=b/\b<=20)
def Zl9{c a b}(d:a=b):Ending.returned (.int c a)=.returned (.int c b):=by rw[d]
def ZnM{e f d c b a}(g:K ((e&&Vj d c b a)=f)){x}(h:x=(f&&Mr (d a) (c a) (b a))):Value.bool x=.bool (e&&Vj d c b (a+1)):=by rw[rp,<- Bool.and_assoc,g,h]
def Ye h a j d f e i n k c (w:a<=maxLen)(g:El c h a i n k):C_ 69 #[.agg #[V h a j,I d,I f,I e]] c (U_ (.int .i64 (ZiE (Iz a d f e i n k))) c):=by
 unfold maxLen at w;refine v_ ?_;go_upto_region 1 with fail;go_cut [3] (λl b=>l=.bool (ZeW a d f e)/\b=c.alloc (O_ #[V h a j,I d,I f,I e] 37))
 case first=>
  go_wp2
  all_goals go_meet
  all_goals grind [ZeW]
 obtain⟨rfl,rfl⟩:=hcut;go_wp2_with fail
 go_loopw [3,4] (λl m o=>∃b:Nat,b<=a/\m=I b/\l=.bool (ZeW a d f e&&Vj i n k b)/\Below (c.1.size+1) (c.alloc (O_ #[V h a j,I d,I f,I e] 37)) o) (m2_ a)
 exact⟨0,r_,rfl,by simp[Vj],y_⟩;obtain⟨b,F,rfl,rfl,m⟩:=hrel;have E:wr.cell? (J c.1.size 0)=some (V h a j):=(by rw[m.cell (p:=(J c.1.size 0)) s_];simp);have l:=q_.T (m.m s_);generalize x:(ZeW a d f e&&Vj i n k b)=q;have r:=Y x
 by_cases o:b<a
 ·rcases g with g|⟨A,G,rfl,g⟩
  omega;have u:=W_ l (g.v b o);have B:=W_ l (g.z b o);have D:=W_ l (g.q b o);have v:=λz=>m.alloc (by have:=m.size;simpa using this) z;generalize y:i b=t at u;have s:=Y y
  cases q<;>cases t
  all_goals
   go_wp2
   all_goals
    go_roundw;exact⟨b+1,O,g_,ZnM r (by rw[s];grind [Mr]),v _⟩;exact z_
 have t:a=b:=O;subst t;have s:K (Iz _ _ _ _ _ _ _=q):=r
 cases q
 all_goals
  go_wp2;go_ret;exact⟨Zl9 (by rw[s];rfl),l⟩
structure Zmm(a b):Prop where
 B:E_ a b
 size:b.1.size=a.1.size+5
 v:b.cell? (J (a.1.size+4) 0)=some (I 2)
 u:b.cell? (J (a.1.size+4) 12)=some (I 5)
 w:b.cell? (J (a.1.size+4) 24)=some (I 6)
 x:b.cell? (J (a.1.size+4) 36)=some (I 7)
 j:b.cell? (J (a.1.size+4) 48)=some (I 5)
 y:b.cell? (J (a.1.size+4) 60)=some (I 15)
 h:b.cell? (J (a.1.size+4) 1)=some (I 0)
 e:b.cell? (J (a.1.size+4) 2)=some (I 0)
 f3:b.cell? (J (a.1.size+4) 3)=some (N_)
 f4:b.cell? (J (a.1.size+4) 4)=some (I 0)
 f5:b.cell? (J (a.1.size+4) 5)=some (I 0)
 p:b.cell? (J (a.1.size+4) 6)=some (I 0)
 q:b.cell? (J (a.1.size+4) 7)=some (L_ a.1.size 3 3)
 r:b.cell? (J (a.1.size+4) 8)=some (L_ (a.1.size+1) 3 3)
 f9:b.cell? (J (a.1.size+4) 9)=some (Q_ ⟨#[]⟩)
 g:b.cell? (J (a.1.size+4) 10)=some (I 0)
 i:b.cell? (J (a.1.size+4) 11)=some (I 0)
 l:b.cell? (J a.1.size 0)=some (I 5)
 n:b.cell? (J a.1.size 1)=some (I 3)
 o:b.cell? (J a.1.size 2)=some (I 5)
 c:b.cell? (J (a.1.size+1) 0)=some (I 1)
 d:b.cell? (J (a.1.size+1) 1)=some (I 2)
 k:b.cell? (J (a.1.size+1) 2)=some (I 4)
structure OpD where
 a:Int
 n:Int
 w:Int
 c:Option Addr
 A:Nat
 e:Nat
 k:Int
 size:Int
 b:Int
 i:Option Addr
 vl:Nat
 h:Nat
 j:Option Addr
 d:Nat
 l:Nat
 g:ByteArray
 x:Int
 y:Int
 r:Nat->Bool
 fs:Nat->Int
 q:Nat->Int
 o:List Int
 p:List Int
def Cn(f:World)(g:Option Addr)(c:Nat)(d:List Int):Prop:=
 d.length=c/\(∀h∈d,(Lit.int .i64 h).wf=true)/\(c=0∨∃a e,g=some ⟨a,e,none⟩/\a<f.1.size/\∀b,b<c->f.cell? (J a (e+b))=some (I (d.getD b 0)))
structure OpR(b)(a:OpD):Prop where
 A:a.A<=maxLen
 vl:a.vl<=maxLen
 d:a.d<=maxLen
 c:El b a.c a.A a.r a.fs a.q
 o:Cn b a.i a.vl a.o
 p:Cn b a.j a.d a.p
 e:a.i=none->a.vl=0/\a.h=0
 g:a.j=none->a.d=0/\a.l=0
structure OpC(d:World)(b c)(a:OpD):Prop where
 v:d.cell? (J b c)=some (I a.a)
 z:d.cell? (J b (c+1))=some (I a.n)
 q:d.cell? (J b (c+2))=some (I a.w)
 e:d.cell? (J b (c+3))=some (V a.c a.A a.e)
 i:d.cell? (J b (c+4))=some (I a.k)
 j:d.cell? (J b (c+5))=some (I a.size)
 k:d.cell? (J b (c+6))=some (I a.b)
 l:d.cell? (J b (c+7))=some (V a.i a.vl a.h)
 n:d.cell? (J b (c+8))=some (V a.j a.d a.l)
 o:d.cell? (J b (c+9))=some (Q_ a.g)
 g:d.cell? (J b (c+10))=some (I a.x)
 h:d.cell? (J b (c+11))=some (I a.y)
def gd(d:World)(g:Option Addr)(c:Nat)(e:Nat->OpD):Prop:=
 c<=maxLen/\(c=0∨∃b f,g=some ⟨b,f,none⟩/\b<d.1.size/\∀a,a<c->OpC d b (f+a*12) (e a)/\OpR d (e a))
def OpC.below{f g c b e d}(u:OpC f b e d)(v:Below c f g)(w:b<c):OpC g b e d:=by obtain⟨h,i,l,m,n,o,q,r,s,t,j,k⟩:=u;have a:=λx=>v.cell (p:=(J b x)) w;exact⟨(a _).T h,(a _).T i,(a _).T l,(a _).T m,(a _).T n,(a _).T o,(a _).T q,(a _).T r,(a _).T s,(a _).T t,(a _).T j,(a _).T k⟩
end Go.Proofs.YtfcgnpchbcmdeaaGreat
namespace Go.Proofs.YtfcgnpchbcmdeaaGreat
set_option linter.all false
set_option maxRecDepth 100000
set_option maxHeartbeats 2000000
open Go.ChangeShapes Go.WideShapes Go.ChangeAt Go.RowKit List Nat World Go.Proofs.Tryz Value IntKind Lib Region
open Go.Deep
def ZeA:prog.cellsOf 93=12:=k_
def Zey:prog.cellsOf 37=4:=k_
def Zez:prog.cellsOf 51=3:=k_
def Zk9:prog.cellsOf 25=1:=k_
def Zex:prog.cellsOf 35=1:=k_
def ut:prog.cellsOf 3=1:=k_
def Zm0:prog.cellsOf 4=1:=k_
def Zik:prog.cellsOf 9=1:=k_
def us{b:World}{a d}(c:b.cell? a=some d):a.block<b.1.size:=by
 unfold cell? at c
 grind
def Zov{f:Type}{a:List f}(e:a.length=3):∃b c d,a=[b,c,d]:=by
 match a,e with
 |[b,c,d],_=>grind
def ZmA{g:Type}{a:List g}(f:a.length=4):∃b c d e,a=[b,c,d,e]:=by
 match a,f with
 |[b,c,d,e],_=>grind
def ZmB{l:Type}{a:List l}(k:a.length=9):∃b c d e f g h i j,a=[b,c,d,e,f,g,h,i,j]:=by
 match a,k with
 |[b,c,d,e,f,g,h,i,j],_=>grind
def Znq{o:Type}{a:List o}(n:a.length=12):∃b c d e f g h i j k l m,a=[b,c,d,e,f,g,h,i,j,k,l,m]:=by
 match a,n with
 |[b,c,d,e,f,g,h,i,j,k,l,m],_=>grind
section
variable {H:Type} {enc:TypeId×Value->H} {w:World} {a:Bool}
def Za4{o f x}(h:DataW.trod enc prog w 0 (λ_=>true) a o 25 f=some x):∃c b d e,f=[V c b d]/\b<=maxLen/\Cn w c b e/\(c=none->b=0/\d=0):=by
 rcases open_ints underlying25 underlying3 ut h with⟨rfl,_⟩|⟨c,b,d,e,rfl,_,s,t,m,_,k,l⟩
 exact⟨none,0,0,[],rfl,O,⟨rfl,s_,Or.inl rfl⟩,λ_=>⟨rfl,rfl⟩⟩;simp only[if_true] at m;refine⟨some c,b,d,e.take b,rfl,O,⟨t_,λq n=>l q (aL n),?_⟩,s_⟩
 by_cases i:b=0
 exact Or.inl i;right;obtain⟨g,p,rfl,j⟩:=ints_at k O;refine⟨g,p,rfl,us (j 0 O),λu r=>?_⟩
 grind
def ZjE{k e x}(j:DataW.trod enc prog w 0 (λ_=>true) a k 51 e=some x):∃b c d,e=[.bool b,I c,I d]:=by
 obtain⟨s,t,u,o,_,i,f,g,h⟩:=trod_struct3 underlying51 j;rw[Zez] at i;obtain⟨p,q,r,rfl⟩:=Zov i;simp only[ut,Zm0,drop_zero,drop_succ_cons,take_succ_cons,take_zero] at f g h;obtain⟨b,l,_⟩:=DataW.trod_bool underlying4 f;obtain⟨c,m,_⟩:=DataW.trod_int underlying3 g;obtain⟨d,n,_⟩:=DataW.trod_int underlying3 h
 grind
def ZgC{s j x}(o:DataW.trod enc prog w 0 (λ_=>true) a s 35 j=some x):∃c e i f b d,j=[V c e i]/\e<=maxLen/\El w c e f b d:=by
 rcases open_slice underlying35 o with⟨rfl,_⟩|⟨c,e,i,m,B,v,y,rfl,_,z,A,k,_,l⟩
 exact⟨none,0,0,λ_=>false,λ_=>0,λ_=>0,rfl,O,Or.inl rfl⟩;simp only[if_true] at k;subst k;rw[Zez] at l
 have r:∀b,b<m->∃h:Bool×Int×Int,w.cell? (c.add (b*3))=some (.bool h.1)/\w.cell? (c.add (b*3+1))=some (I h.2.1)/\w.cell? (c.add (b*3+2))=some (I h.2.2):=by
  intro b f;obtain⟨u,g,n⟩:=l b f;obtain⟨p,q,t,rfl⟩:=ZjE n;obtain⟨_,_,d⟩:=cells?_some g;refine⟨(p,q,t),?_,?_,?_⟩
  ·have:=d 0 O;rw[add_add] at this;simpa using this
  ·have:=d 1 O;rw[add_add] at this;simpa using this
  have:=d 2 O;rw[add_add] at this;simpa using this
 obtain⟨g,d⟩:=choose_lt r;refine⟨some c,e,m,λb=>(g b).1,λb=>(g b).2.1,λb=>(g b).2.2,rfl,O,?_⟩
 by_cases p:e=0
 exact Or.inl p;right;obtain⟨n,t,u⟩:=c
 have q:u=none:=by simpa [Addr.add] using cell?_spot (d 0 O).1
 subst q;simp only[add_plain] at d;exact⟨n,t,rfl,O,λ_=>us (d 0 O).1,λb f=>(d b O).1,λb f=>(d b O).2.1,λb f=>(d b O).2.2⟩
def ZnD{a8 d x}(U:DataW.trod enc prog w 0 (λ_=>true) a a8 93 d=some x):∃b:OpD,d=[I b.a,I b.n,I b.w,V b.c b.A b.e,I b.k,I b.size,I b.b,V b.i b.vl b.h,V b.j b.d b.l,Q_ b.g,I b.x,I b.y]/\OpR w b:=by
 obtain⟨e4,c1,_,_,B,Z,b⟩:=DataW.trod_struct underlying93 U;rw[ZeA] at B;obtain⟨c3,c4,c7,c8,c9,d0,d1,d2,d3,d4,c5,c6,rfl⟩:=Znq B;obtain⟨d5,d6,d7,d8,d9,e0,e1,e2,e3,rfl⟩:=ZmB Z;have q:=b 0 ⟨ "Kind",3,0,false, "", "",0⟩ rfl;have r:=b 1 ⟨ "At",3,1,false, "", "",8⟩ rfl;have s:=b 2 ⟨ "B",3,2,false, "", "",16⟩ rfl;have t:=b 3 ⟨ "C",37,3,false, "", "",24⟩ rfl;have u:=b 4 ⟨ "V",25,7,false, "", "",72⟩ rfl;have v:=b 5 ⟨ "W",25,8,false, "", "",96⟩ rfl;have y:=b 6 ⟨ "S",9,9,false, "", "",120⟩ rfl;have z:=b 7 ⟨ "X",3,10,false, "", "",136⟩ rfl;have A:=b 8 ⟨ "Y",3,11,false, "", "",144⟩ rfl;simp only[ut,Zey,Zk9,Zik,drop_zero,drop_succ_cons,take_succ_cons,take_zero,getElem?_cons_zero,getElem?_cons_succ] at q r s t u v y z A
 obtain⟨a7,e,_⟩:=DataW.trod_int underlying3 q;obtain⟨a9,f,_⟩:=DataW.trod_int underlying3 r;obtain⟨H,i,_⟩:=DataW.trod_int underlying3 s;obtain⟨b4,b6,b5,b7,n,a2,a1,a3⟩:=Za4 u;obtain⟨b8,b9,wc,c0,o,a5,a4,a6⟩:=Za4 v;obtain⟨b3,p,_⟩:=DataW.trod_string underlying9 y;obtain⟨b0,g,_⟩:=DataW.trod_int underlying3 z;obtain⟨b1,h,_⟩:=DataW.trod_int underlying3 A;obtain⟨e9,c2,_,_,_,a0,c⟩:=DataW.trod_struct underlying37 t;obtain⟨e5,e6,e7,e8,rfl⟩:=ZmA a0;have D:=c 0 ⟨ "Features",35,0,false, "", "",0⟩ rfl;have E:=c 1 ⟨ "Bins",3,1,false, "", "",24⟩ rfl;have F:=c 2 ⟨ "Size",3,2,false, "", "",32⟩ rfl;have G:=c 3 ⟨ "Budget",3,3,false, "", "",40⟩ rfl
 simp only[ut,Zex,drop_zero,drop_succ_cons,take_succ_cons,take_zero,getElem?_cons_zero,getElem?_cons_succ] at D E F G;obtain⟨N,Q,P,T,R,S,j,X,W⟩:=ZgC D;obtain⟨L,k,_⟩:=DataW.trod_int underlying3 E;obtain⟨b2,l,_⟩:=DataW.trod_int underlying3 F;obtain⟨M,m,_⟩:=DataW.trod_int underlying3 G;simp only[List.cons.injEq,and_true] at e f i j k l m n o p g h;subst e f i j k l m n o p g h;exact⟨⟨a7,a9,H,N,Q,P,L,b2,M,b4,b6,b5,b8,b9,wc,b3,b0,b1,T,R,S,b7,c0⟩,rfl,⟨X,a2,a5,W,a1,a4,a3,a6⟩⟩
end
end Go.Proofs.YtfcgnpchbcmdeaaGreat
namespace Go.Proofs.YtfcgnpchbcmdeaaGreat
set_option linter.all false
set_option maxRecDepth 100000
set_option maxHeartbeats 2000000
open Go List Nat World Go.Proofs.Tryz Value IntKind Lib Region
section
variable {P:Program} {a:Array Oper} {Q:Exit->Act->World->Prop} {b:Region.Mode} {S:World->Prop} {c:Nat}
def Cy(P:Program)(b:Region.Mode)(a:Array Oper)(Q:Exit->Act->World->Prop)(S:World->Prop)(c:Nat):Nat->Array Bool->Act->World->Prop
 |0,d,e,f=>ready b a d=[]/\Q .normal e f
 | j+1,d,e,f=>
  (ready b a d=[]->Q .normal e f)/\
  ∀g∈ready b a d,wpOp P a Q g (λi h=>((d.setIfInBounds g true).getD c false=true∨S h)/\Cy P b a Q S c j (d.setIfInBounds g true) i h) e f
def pe:∀(d:Nat)(g:Array Bool)(f:Act)(h:World),Cy P b a Q S c d g f h->wpAny P b a Q d g f h
 |0,_,_,_,e=>e
 |d+1,_,_,_,e=>⟨e.1,λl k=>wpOp_mono (λi m j=>pe d _ i m j.2) (e.2 l k)⟩
def kt(b:Region.Mode)(a:Array Oper)(g:Array Bool)(f:Nat)(d:List Nat):Bool:=
 d.all λe=>!g.getD e true&&((a[e]?).map λh=>h.after.any λc=>binds b c&&(c.on==f||d.contains c.on)).getD false
structure Zch(b)(a:Array Oper)(h:Array Bool)(g)(c:List Nat):Prop where
 j:∀e∈c,h.getD e true=false
 i:∀e∈c,∃f,a[e]? =some f/\∃d∈f.after,binds b d=true/\(d.on=g∨d.on∈c)
def Zgi{f e c}(d:kt b a f e c=true):Zch b a f e c:=by
 unfold kt at d;rw[all_eq_true] at d;refine⟨λh g=>?_,λh g=>?_⟩
 ·grind
 grind
def Zay{b:Array Bool}{a}(c:b.getD a true=false):b.getD a false=false:=w_
def Zch.d{d h e}(g:Zch b a d h e)(q:d.getD h true=false){c}(m:c∈e):c ∉ ready b a d:=λp=>by
 obtain⟨_,r,n,j⟩:=mem_ready.1 p;obtain⟨s,ho',i,l,k,o⟩:=g.i c m;rw[n] at ho';injection ho' with ho';subst ho';have:=j i l k
 rcases o with f|f
 ·grind
 rw[Zay (g.j _ f)] at this;cases this
def Zch.set{h f d c}(e:Zch b a h f c)(k:d ∉ c):Zch b a (h.setIfInBounds d true) f c:=
 ⟨λg i=>by
  have j:d≠g:=w_
  rw[getD_set_ne true j];exact e.j g i,e.i⟩
def yo{f l F u}(E:c∈u)(B:a[f]? =some l)(N:∀(e:Nat) R z n,a[e]? =some R->R.op≠ .select z n)(X:∀G g j,Q (.panic G) (g.put l.dst F) j->Q (.panic G) g j):∀o i g j,(∀e s,a[e]? =some s->e≠f->i.getD e true=false->(∀d∈s.after,binds b d=true->d.on≠f)->l.apart a s=true)->f∈ready b a i->Zch b a i f u->YieldsIf P a S l F g->S j->Cy P b a Q S c o (i.setIfInBounds f true) (g.put l.dst F) j->Cy P b a Q S c (o+1) i g j:=by
 intro o
 induction o with
 | zero=>
  intro i g j _ x _ y p m;refine⟨λT=>w_,λe q=>?_⟩
  by_cases h:e=f
  subst h;exact y.wpOp B p ⟨.inr p,m⟩;have:=ready_mono q h;rw[m.1] at this
  cases this
 | succ o a8=>
  intro i g j L x w y p m;have r:=(mem_ready.1 x).1;refine⟨λT=>w_,λe q=>?_⟩
  by_cases h:e=f
  subst h;exact y.wpOp B p ⟨.inr p,m⟩;have U:=m.2 e (ready_mono q h);obtain⟨a1,s,D,b1⟩:=mem_ready.1 q;have M:e ∉ u:=λd=>w.d r d q;have a0:f ∉ u:=λd=>w.d r d x;have a6:f≠_:=λd=>a0 (d ▸ E);have a7:e≠_:=λd=>M (d ▸ E);have a5:∀d∈s.after,binds b d=true->d.on≠f:=w_;have W:=wpOp_putIf D (L e _ D h a1 a5) (λz n=>N f _ _ n B) (λz n=>N e _ _ n D) X y U
  have Z:∀k t,a[k]? =some t->k≠f->(i.setIfInBounds e true).getD k true=false->
    (∀d∈t.after,binds b d=true->d.on≠f)->l.apart a t=true:=λk t a2 a3 r a4=>by
   refine L k t a2 a3 ?_ a4
   by_cases v:e=k
   ·grind
   rw[getD_set_ne true v] at r;exact r
  refine wpOp_mono (λb0 a9 A=>?_) W
  have H:S a9:=by
   rcases A.2.1 with v|v
   ·rw[getD_set_ne false a7,getD_set_ne false a6,Zay (w.j c E)] at v
    cases v
   exact v
  refine⟨.inr H,a8 _ _ _ Z (ready_mono x (Ne.s h)) (w.set M) A.1 H ?_⟩;rw[Array.setIfInBounds_comm _ _ h];exact A.2.2
def Zb3{f h i l g d e} j (m:a[f]? =some h)
  (t:noSelect a=true) (r:free b a g f=true) (s:(ready b a g).contains f=true) (u:j.contains c=true) (o:kt b a g f j=true)
  (p:∀k d e,Q (.panic k) (d.put h.dst i) e->Q (.panic k) d e) (v:YieldsIf P a S h i d) (q:S e)
  (n:Cy P b a Q S c l (g.setIfInBounds f true) (d.put h.dst i) e):=
 yo (by simpa using u) m (noSelect_spec t) p l g d e (free_spec m r) (by simpa using s) (Zgi o) v q n
def Fn{g d h}(f:ready b a g=[])(e:Q .normal d h):∀i,Cy P b a Q S c i g d h
 |0=>⟨f,e⟩
 |_+1=>⟨λ_=>e,by rw[f];simp⟩
def Zee{i g k j e d}(q:ready b a j=[i])(p:a[i]? =some g)(m:∀f:Act->World->Prop,Shut (∀e d,S d->(S d->Cy P b a Q S c k (j.setIfInBounds i true) e d)->f e d)->if wanted g (yielded a e.tmps)=true then Oper.wp P g e d f Q else f (e.put g.dst undef) d):Cy P b a Q S c (k+1) j e d:=by refine⟨λr=>w_,λs h=>?_⟩;rw[q] at h;simp only[mem_cons,not_mem_nil,or_false] at h;subst h;exact wpOp_step p (λf n=>m _ (λe d l o=>n e d ⟨.inr l,o l⟩))
def Zb2{g i k h d e}(p:ready b a h=[g])(o:a[g]? =some i)(q:(h.setIfInBounds g true).getD c false=true)(l:∀f:Act->World->Prop,Shut (∀d e,Cy P b a Q S c k (h.setIfInBounds g true) d e->f d e)->if wanted i (yielded a d.tmps)=true then Oper.wp P i d e f Q else f (d.put i.dst undef) e):Cy P b a Q S c (k+1) h d e:=by refine⟨λr=>w_,λs j=>?_⟩;rw[p] at j;simp only[mem_cons,not_mem_nil,or_false] at j;subst j;exact wpOp_step o (λf m=>l _ (λd e n=>m d e ⟨.inl q,n⟩))
def Af{h d b} S c (g:P.follows .mixedOrders=true)(f:S b.drew)(e:S b.drew->Cy P .any a Q S c a.size (Array.replicate a.size false) d b.drew):(Code.region h a true).wp P Q d b:=
 wp_region_any g (pe _ _ _ _ (e f))
end
end Go.Proofs.YtfcgnpchbcmdeaaGreat
