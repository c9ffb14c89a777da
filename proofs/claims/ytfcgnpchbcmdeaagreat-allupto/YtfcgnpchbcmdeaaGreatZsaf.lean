import Derived.Test.YtfcgnpchbcmdeaaGreatZsae
open Go renaming World->ZT,Value->ZY,maxLen->Y2,madeCells->YV,strOfNums->ZB
open Go.World renaming grownBy->Y3,ownsRow->ZD,alloc->ZN,setCell->ZO,cell?->ZV,frozen?->YT,drew->YY
open _root_ renaming Int->E,Option->Y0,List->U,Nat->H,Bool->ZG,Array->YZ,ByteArray->ZC,rfl->X
open Option renaming some->T,none->ZP
open Go.Value renaming bool->ZR,int->ZX,pointer->Y7,ownBlock->ZW,func->YX,agg->Y9,slice->ZH,tuple->Y5,string->YW
open Go.Ending renaming returned->ZI
open Bool renaming true->Z0,false->ZZ
open Or renaming inl->ZM,inr->ZJ
open Array renaming size->B,setIfInBounds->YS,size->Z3
open List renaming length->F,getD->Z
open Go.IntKind renaming i64->ZQ
open Int renaming toNat->ZL
open Decidable renaming decide->ZE
open Go.Proofs.Tryz renaming prog->Y8
open ByteArray renaming size->ZK
namespace Go.Proofs.YtfcgnpchbcmdeaaGreat
set_option linter.all false
set_option maxRecDepth 100000
set_option maxHeartbeats 4000000
open Go.RowKit List Nat Go.World Go.Proofs.Tryz Go.Value Go.IntKind Go.Lib Go.Region
def Zkp{g h i:ZT}{c}(a:Y3 g h c)(b:Y3 h i c):Y3 g i c:=
 ⟨b.os.T a.os,b.tape.T a.tape,b.output.T a.output,aG a.size b.size,λf d e=>(b.block f (Qh d a.size) e).T (a.block f d e)⟩
def Do(c:E)(a:Cm)(b:E):Y0 Cm:=
 if a.n=0 then(Rg a b).orElse (λ_=>Io c a b)
 else if a.n=1 then Io c a b
 else if a.n=3 then(Lt a b).orElse (λ_=>Nl a b)
 else if a.n=2 then Nl a b
 else Je a b
def Cq(c:E)(a:U E)(b:E):Y0 (E×U E):=
 if c=0 then(if b=34 then T (7,a) else ZP).orElse (λ_=>Mf a b)
 else if c=6 then Mf a b
 else if c=7 then(if b=34 then T (8,a) else ZP).orElse (λ_=>fz c a b)
 else Ok a b
section
variable {g f i:H} {c d h:YZ ZY} {w:ZT} {Q a:Ending->ZT->Prop} {b:ZG}
def ts_(X:C_ f c w Q)(j:∀e h,Q e h->e=ZI (ZR b)/\a e h)(i:C_ f c w (λe h=>e=ZI (ZR b)/\K (a e h))->C_ g d w a:=by intro X;refine q_ ?_;go_wp2_with fail;apply X.m;rintro e w2 ⟨rfl,HT⟩;go_wp2;go_ret;exact HT):=i (X.m j)
def tt_(X:C_ f c w Q)(l:∀e j,Q e j->(e=ZI (ZR Z0)/\a e j)∨(e=ZI (ZR ZZ)/\C_ i h j λe w2=>e=ZI (ZR b)/\a e w2))(k:C_ f c w (λe j=>(e=ZI (ZR Z0)/\K (a e j))∨(e=ZI (ZR ZZ)/\K (C_ i h j λe w2=>e=ZI (ZR b)/\K (a e w2))))->C_ g d w a:=by intro X;refine q_ ?_;go_wp2_with fail;apply X.m;rintro e w1 (⟨rfl,HT⟩|⟨rfl,Y⟩);(focus (go_wp2;go_ret;exact HT));go_wp2_with fail;apply Y.m;rintro e w2 ⟨rfl,HT⟩;go_wp2;go_ret;exact HT):=k (X.m l)
end
def Gv.a{a i h g m c j f k l b e}(d:Gv a i h g m c j f e k b l):=d.1
def Gv.or{c i h g k d j e p b a m n o r q}(w:Gv c i h g k d j e m p a b)(x:(m.orElse λ_=>n)=o)(v:∀b,RB b c i h g k d j e->C_ r q b (Gv c i h g k d j e n b)):(a=ZI (ZR Z0)/\Gv c i h g k d j e o p a b)∨(a=ZI (ZR ZZ)/\C_ r q b λa u=>a=ZI (ZR n.isSome)/\Gv c i h g k d j e o p a u):=by
 subst x;obtain⟨l,s,t⟩:=w
 cases m with
 |none=>exact ZJ ⟨l,(v _ s).m λa u f=>⟨f.1,f.1,f.2.1,Zkp t f.2.2⟩⟩
 |some f=>exact ZM ⟨l,l,s,t⟩
def qj{d z y x D q A a e h f}(g:RB f d z y x D q A a)(v:0<=h)(w:h<=1000000)(t:0<=a.unit)(u:a.unit<=1000000)(r:0<=a.num)(s:a.num<=1000000000000)(G:0<=a.dig)(L:a.dig<=1000):C_ 215 #[Y7 (T (J d 6)),ZX .u8 e,I h] f λi p=>Gv d z y x D q A a (Do h a e) f i p:=by
 obtain⟨l,_,_,_,_,_,_⟩:=g.i;have j:=Y g;clear g;obtain⟨R,b⟩:=ez_ (Do h a e);rw[b];unfold Do at b
 by_cases m:a.n=0
 rw[m] at l;rw[aD m] at b;exact tt_ (tk d _ _ _ _ _ _ a e f j) λi k c=>c.or b λk g=>Wc d _ _ _ _ _ _ a e k g h v w;rw[aC m] at b
 by_cases n:a.n=1
 rw[n] at l;rw[aD n] at b;exact ts_ (Wc d _ _ _ _ _ _ a e f j h v w) λi p c=>⟨c.1,b.out ▸ c⟩;rw[aC n] at b
 by_cases o:a.n=3
 rw[o] at l;rw[aD o] at b;exact tt_ (tj d _ _ _ _ _ _ a e f j t u r s G L) λi k c=>c.or b λk g=>Wd d _ _ _ _ _ _ a e k g;rw[aC o] at b
 by_cases k:a.n=2
 rw[k] at l;rw[aD k] at b;exact ts_ (Wd d _ _ _ _ _ _ a e f j) λi p c=>⟨c.1,b.out ▸ c⟩;rw[aC k] at b;have M:=aO m;have N:=aO n;have P:=aO k;have Q:=aO o;exact ts_ (qg d _ _ _ _ _ _ a e f j t u r s) λi p c=>⟨c.1,b.out ▸ c⟩
section
variable {b base:H} {c a vC:ZY} {wt:E} {fl:ZG} {d:ZY} {p:Cm} {bs:U E}
def Fo.e{l n o i m k}(v:ZW k=ZW p.f∨∃e,ZW k=T e/\B l.1<=e)(f:Aa (λe=>e=b∨T e=ZW p.f) l n)(q:Fo b base c a vC wt fl d {p with f:=k} bs m n i o):Fo b base c a vC wt fl d p bs m l i o:=by
 obtain⟨r,⟨u,s,h⟩,g⟩:=q;refine⟨r,⟨u,s,?_⟩,⟨g.os.T f.os,g.tape.T f.tape,g.output.T f.output,aG f.size g.size,λe j t=>(g.block e (Qh j f.size) (λi=>?_)).T (f.block e j t)⟩⟩
 ·rcases h with h|⟨e,h,j⟩
  ·grind
  exact ZJ ⟨e,h,p_ f.size⟩
 grind
def Fo.or{h e f j k l o n}(i:Fo b base c a vC wt fl d p bs j h f e)(w:(j.orElse λ_=>k)=l)(s:∀g e,RW e b base c a vC wt fl d {p with f:=g} bs->B h.1<=B e.1->C_ o n e (Fo b base c a vC wt fl d {p with f:=g} bs k e)):(f=ZI (ZR Z0)/\Fo b base c a vC wt fl d p bs l h f e)∨(f=ZI (ZR ZZ)/\C_ o n e λf r=>f=ZI (ZR k.isSome)/\Fo b base c a vC wt fl d p bs l h f r):=by
 subst w
 cases j with
 | none=>
  obtain⟨t,⟨g,u,v⟩,q⟩:=i;exact ZJ ⟨t,(s g e u q.size).m λf r m=>⟨m.1,m.e v q⟩⟩
 |some m=>exact ZM ⟨i.1,i⟩
end
def Zaq{c p v u t x r w b h d f}(g:RW f c p v u t x r w b h)(s:p<=B f.1)(m:F h<=1000):C_ 209 #[Y7 (T (J c 6)),ZX .u8 d] f λi k=>Fo c p v u t x r w b h (Cq b.n h d) f i k:=by
 obtain⟨q,_,_,_,_,_,_⟩:=g.1.i;have l:=Y g;clear g;obtain⟨D,a⟩:=ez_ (Cq b.n h d);rw[a];unfold Cq at a
 by_cases n:b.n=0
 rw[n] at q;rw[aD n] at a;exact tt_ (ix c _ _ _ _ _ _ _ b _ d f l) λi k e=>e.or a λz k g y=>Ty c _ _ _ _ _ _ _ _ _ d k g O m;rw[aC n] at a
 by_cases o:b.n=6
 rw[o] at q;rw[aD o] at a;exact ts_ (Ty c _ _ _ _ _ _ _ b _ d f l s m) λi k e=>⟨e.1,a.out ▸ e⟩;rw[aC o] at a
 by_cases j:b.n=7
 rw[j] at q;rw[aD j] at a;clear j;exact tt_ (tl c _ _ _ _ _ _ _ b _ d f l) λi k e=>e.or a λz k g y=>Zap c _ _ _ _ _ _ _ _ _ d k g O m;rw[aC j] at a;have y:=aO n;have z:=aO o;have A:=aO j;exact ts_ (ql c _ _ _ _ _ _ _ b _ d f l s m) λi k e=>⟨e.1,a.out ▸ e⟩
def Zcp d {i l} k {j n g} m {a} e b c (q:RB c d l k j n g m a)(z:D_ c i 0 (I b))(x:0<=b)(y:b<=1000000)(v:0<=a.unit)(w:a.unit<=1000000)(t:0<=a.num)(u:a.num<=1000000000000)(r:0<=a.dig)(s:a.dig<=1000):C_ 214 #[Y7 (T (J d 6)),ZX .u8 e,P_ i] c λf h=>Gv d l k j n g m a (Do b a e) c f h:=by
 have o:=Y q;refine dl_ ?_;go_enter func214,ntmps214;go_wp2_with fail
 apply (qj o x y v w t u r s).m;rintro f A h;have p:=Y h;obtain rfl:=h.a;go_wp2;go_ret;exact p
structure VS where
 a:ZG
 num:E
 f:ZC
def Jg(a:VS):U ZY:=[ZR a.a,I a.num,Q_ a.f]
def Lb:U VS->U ZY
 |[]=>[]
 |b::a=>Jg b++Lb a
theorem Yh a b:Lb (a++b)=Lb a++Lb b:=by
 induction a with
 |nil=>rfl
 |cons e d c=>simp[Lb,c]
def Ky(d:ZT)(b:H)(c:ZY)(a:U VS):Prop:=ZD d b 308 3 c (F a) (Lb a)
def Ky.nil{b a}:Ky b a (N_) []:=ownsRow_nil b a 308 3
def ZiD{b j c e i l f k h d a}(g:RB a b j (V c 200 e) i l f k h):C_ 98 #[P_ b,ZX .u8 d] a (V_ (ZX ZQ 3) a):=by obtain⟨_,m,_,_,_,_⟩:=g.e;refine dl_ ?_;go_enter func98,ntmps98;go_wp2;go_ret;exact⟨X,X⟩
def Zpp:Zjh->E
 |none=>2
 |_=>0
def ZcO{g o j f k n b p m c i}(l:RB i g o (V j f k) n b ZZ p m)(y:f<200)(s:0<=b)(t:b<=99)(u:0<=c)(v:c<=255):C_ 98 #[P_ g,ZX .u8 c] i λd e=>d=ZI (ZX ZQ (Zpp (Ar b c)))/\∃a,ZnP g o (V j f k) n b ZZ p m (Ar b c) i a e:=by
 obtain⟨_,w,_,_,x,_⟩:=l.e;have z:((f:E)==200)=_:=aO O;have q:=Y l;refine dl_ ?_;go_enter func98,ntmps98;go_wp2_with fail
 apply (ef q s t u v).m;rintro d A a;have r:=Y a
 have e:(d=ZI (ZR ZZ)/\Zpp (Ar b c)=2)∨(d=ZI (ZR Z0)/\Zpp (Ar b c)=0):=by
  obtain⟨_,a⟩:=a
  rcases h:Ar b c with _|_|D
  rw[h] at a;exact ZM ⟨a.1,X⟩;rw[h] at a;exact ZJ ⟨a.1,X⟩;rw[h] at a;exact ZJ ⟨a.1,X⟩
 rcases e with⟨rfl,e⟩|⟨rfl,e⟩
 all_goals
  have h:=show K _ from e
  go_wp2;go_ret;rw[h];exact⟨X,_,r⟩
def Vx{b:H}{a}:C_ 212 #[YX (.func b) #[] #[]] a λc d=>c=ZI (YX (.func 266) #[] #[Y7 (T ⟨B a.1,0,ZP⟩)])/\d=ZN a (O_ #[YX (.func b) #[] #[]] 261):=by refine er_ ?_;exact⟨X,X⟩
def Jd(d:ZT)(K:H->Prop)(g h i:ZY)(j:ZG)(m k f l:E):Prop:=
 (j=Z0/\∃a b c:H,g=YX (.func 209) #[] #[]/\h=YX (.func 210) #[] #[P_ a,P_ b]/\i=YX (.func 266) #[] #[P_ c]/\K a/\K b/\K c/\d.1[a]? =T (O_ #[I k] 3)/\d.1[b]? =T (O_ #[I f] 3)/\d.1[c]? =T (O_ #[YX (.func 213) #[] #[]] 261))∨
 (j=ZZ/\∃e a b c:H,g=YX (.func 214) #[] #[P_ e]/\h=YX (.func 216) #[] #[P_ a,P_ b]/\i=YX (.func 266) #[] #[P_ c]/\K e/\K a/\K b/\K c/\d.1[e]? =T (O_ #[I m] 3)/\d.1[a]? =T (O_ #[I f] 3)/\d.1[b]? =T (O_ #[I l] 3)/\d.1[c]? =T (O_ #[YX (.func 218) #[] #[]] 261))
def If{a:ZT}{b c}(d:B a.1=c):(ZN a b).1[c]? =T b:=by subst d;exact ha_ a b
def ZpS(b:ZT)(c d e:Obj):∃a,a=ZN (ZN (ZN b c) d) e/\a.1[B b.1]? =T c/\a.1[B b.1+1]? =T d/\a.1[B b.1+1+1]? =T e/\E_ b a/\B a.1=B b.1+1+1+1:=
 ⟨_,X,(hc_ u_).T ((hc_ s_).T (If X)),(hc_ s_).T (If s_),If s_,(r_.alloc s_ _).alloc u_ _,s_⟩
def Zqj{k c:ZT}{a s t u v}(o:H_ c a #[t,u,v] s)(j:B k.1<=a)(p:E_ k c)(e:Obj)(f g h:ZY):∃d,d=ZO (ZO (ZO (ZN c e) (J a 0) f) (J a 1) g) (J a 2) h/\(D_ d a 0 f/\D_ d a 1 g/\D_ d a 2 h)/\K (E_ k d)/\d.1[B c.1]? =T e/\∀b l,b≠a->c.1[b]? =T l->d.1[b]? =T l:=by
 have q:=(Qb o).1;have r:=ht_ 2 _ _ h (ht_ 1 _ _ g (ht_ 0 _ _ f ((hb_ c e a q).T o)));have m:∀b,b≠a->(ZO (ZO (ZO (ZN c e) (J a 0) f) (J a 1) g) (J a 2) h).1[b]? =(ZN c e).1[b]?:=λb i=>(Below.heap_setCell _ _ _ _ i).T ((Below.heap_setCell _ _ _ _ i).T (Below.heap_setCell _ _ _ _ i));exact⟨_,X,c3_ r,(((p.alloc p.size e).setCell j f).setCell j g).setCell j h,(m _ O).T hn_,λb l i n=>((m b i).T (hc_ (Qb n).1)).T n⟩
def ZbS{c b a}:C_ 160 #[I c,I b] a λk g=>∃o p q,k=ZI (Y9 #[o,p,q])/\(∀f i,Jd g (λd=>B a.1<=d) o p q Z0 f c b i)/\E_ a g:=by
 refine q_ ?_;go_upto_region 1 with fail;obtain⟨h,l,r,s,d,n,x⟩:=ZpS a (O_ #[I c] 3) (O_ #[I b] 3) (O_ #[.nilFunc,.nilFunc,.nilFunc] 263);rw[<- l];obtain⟨w,m,j,u,t,e⟩:=Zqj d O n (O_ #[YX (.func 213) #[] #[]] 261) (YX (.func 209) #[] #[]) (YX (.func 210) #[] #[P_ (B a.1),P_ (B a.1+1)]) (YX (.func 266) #[] #[P_ (B h.1)]);have v:K (∀f i,Jd w _ _ _ _ Z0 f c b i):=λ_ _=>ZM ⟨X,B a.1,B a.1+1,B h.1,X,X,X,x_,O,O,e _ _ O r,e _ _ O s,t⟩;have i:=K_ m j;have f:(ZN h (O_ #[YX (.func 213) #[] #[]] 261)).1[_]? =_:=(hc_ O).T d;obtain⟨L,M,N⟩:=c3_ f;have P:=λy=>R_ y _ _ f;obtain⟨G,_⟩:=c3_ d;clear l r s d n x m j t e f
 go_wp2_with (go_at_call 212;apply (Vx).m;rintro k g ⟨rfl,rfl⟩)
 rw[<- i.1];obtain⟨z,A,D⟩:=i.2;exact bodyPost_ret (v:=Y9 _) (by simp[results,results160,go_sem,z,A,D]) X ⟨_,_,_,X,v,u⟩
def Ch:H->E
 |0=>1
 |a+1=>Ch a*10
def qp:∀a,a<=3->1<=Ch a/\Ch a<=1000
 |0,_=>by simp[Ch]
 |1,_=>by simp[Ch]
 |2,_=>by simp[Ch]
 |3,_=>by simp[Ch]
 |a+4,b=>O
def su(d:H) l p b (a6:d<=3):C_ 161 #[I d,I l,I p] b λe v=>∃G L M,e=ZI (Y9 #[G,L,M])/\(∀s,Jd v (λa=>B b.1<=a) G L M ZZ (Ch d) s l p)/\E_ b v:=by
 refine q_ ?_;go_wp2_with fail
 obtain⟨k,y,P,Q,c,i,n⟩:=ZpS b (O_ #[I l] 3) (O_ #[I p] 3) (O_ #[.nilFunc,.nilFunc,.nilFunc] 263);obtain⟨N,z,h,r⟩:=na_ k #[I 1] 3;rw[n] at r;have g:=x4_ ((h.block _ O).T P) ((h.block _ O).T Q) ((h.block _ O).T c) (bt_ i h);rw[<- y,<- z];clear y z P Q c i n h;go_loopw [9] (λf j=>∃a:H,a<=d/\f=I a/\K (j.1[B b.1+1+1+1]? =T (O_ #[I (Ch a)] 3))/\K (Y3 N j (T (B b.1+1+1+1)))) (λf _=>d-ZL (intOf f))
 exact⟨0,v_,X,r,Ay⟩;clear r;obtain⟨a,a4,rfl,f,q⟩:=hrel;have b3:=n_ 0 f;have b4:=λt=>R_ t _ 3 f
 by_cases a5:a<d
 ·have⟨u,w⟩:=qp a O;have o:K (Ch (a+1)=_*_):=rfl;generalize Ch a=j at *;have s:_=j*10:=Au O O;have m:K ((ZO wr _ _).1[_+1+1]? =T (O_ #[I (j*10)] 3 _)):=ht_ 0 _ 3 _ f;refine J_ ?_;exact⟨a+1,O,g_,o ▸ m,Aq q _⟩
 obtain rfl:a=d:=O;have n:=g.2.2.2.size;have a7:=(Qb f).1;have o:∀j u,j<B b.1+1+1+1->N.1[j]? =T u->wr.1[j]? =T u:=λj u D e=>(q.block _ (Qb e).1 (λe=>w_)).T e;have c:=o _ _ O g.2.2.1;have i:=g.2.2.2.grown q O (λj D=>by simp at D;omega);generalize wr=k at *;obtain⟨a0,A,x,S,R,m⟩:=Zqj c O i (O_ #[YX (.func 218) #[] #[]] 261) (YX (.func 214) #[] #[P_ (B b.1+1+1+1)]) (YX (.func 216) #[] #[P_ (B b.1),P_ (B b.1+1)]) (YX (.func 266) #[] #[P_ (B k.1)])
 have W:K (∀s,Jd a0 _ _ _ _ ZZ (Ch a) s l p):=λ_=>ZJ ⟨X,B b.1+1+1+1,B b.1,B b.1+1,B k.1,X,X,X,O,x_,O,O,m _ _ O f,m _ _ O (o _ _ O g.1),m _ _ O (o _ _ O g.2.1),R⟩;have w:=K_ A x;have s:(ZN k (O_ #[YX (.func 218) #[] #[]] 261)).1[_]? =_:=(hc_ O).T c;obtain⟨a9,b0,b1⟩:=c3_ s;have b2:=λt=>R_ t _ _ s;obtain⟨a8,_⟩:=c3_ c;clear o c i n A x R m s;go_wp2_with (go_at_call 212;apply (Vx).m;rintro e v ⟨rfl,rfl⟩)
 rw[<- w.1];obtain⟨a1,a2,a3⟩:=w.2;exact bodyPost_ret (v:=Y9 _) (by simp[results,results161,go_sem,a1,a2,a3]) X ⟨_,_,_,X,W,S⟩
def Zf1(c:H)(a d b:E):ZG:=
 ZE ((1:E)<=c/\(c:E)<=4/\2<=a/\a<=16/\a<=d/\d<=32/\0<=b/\b<=20)
def Zny{c a b}(d:a=b):ZI (ZX c a)=ZI (ZX c b):=by rw[d]
def Zph{e f d c b a}(g:K ((e&&Wl d c b a)=f)){x}(h:x=(f&&Nf (d a) (c a) (b a))):ZR x=ZR (e&&Wl d c b (a+1)):=by rw[ts,<- Bool.and_assoc,g,h]
def Rh h a {j d f e} i n k {c}(w:a<=Y2)(g:Ed c h a i n k):C_ 69 #[Y9 #[V h a j,I d,I f,I e]] c (U_ (ZX ZQ (ZfO (Ih a d f e i n k))) c):=by
 unfold Y2 at w;refine q_ ?_;go_upto_region 1 with fail;go_cut [3] (λl b=>l=ZR (Zf1 a d f e)/\b=ZN c (O_ #[V h a j,I d,I f,I e] 37))
 case first=>
  go_wp2
  all_goals go_meet
  all_goals grind [Zf1]
 obtain⟨rfl,rfl⟩:=hcut;go_wp2_with fail
 go_loopw [3,4] (λl m o=>∃b:H,b<=a/\m=I b/\l=ZR (Zf1 a d f e&&Wl i n k b)/\Below (B c.1+1) (ZN c (O_ #[V h a j,I d,I f,I e] 37)) o) (m2_ a)
 exact⟨0,v_,X,by simp[Wl],y_⟩;obtain⟨b,M,rfl,rfl,m⟩:=hrel;have L:ZV wr (J (B c.1) 0)=T (V h a j):=(by rw[m.cell (p:=(J (B c.1) 0)) s_];simp);have l:=r_.T (m.m s_);generalize x:(Zf1 a d f e&&Wl i n k b)=q;have r:=Y x
 by_cases o:b<a
 ·rcases g with g|⟨A,N,rfl,g⟩
  omega;have u:=T_ l (g.t b o);have D:=T_ l (g.D b o);have G:=T_ l (g.G b o);have v:=λz=>m.alloc (by have:=m.size;simpa using this) z;generalize y:i b=t at u;have s:=Y y
  cases q<;>cases t
  all_goals
   go_wp2
   all_goals
    go_roundw;exact⟨b+1,O,g_,Zph r (by rw[s];grind [Nf]),v _⟩;exact z_
 have t:a=b:=O;subst t;have s:K (Ih _ _ _ _ _ _ _=q):=r
 cases q
 all_goals
  go_wp2;go_ret;exact⟨Zny (by rw[s];rfl),l⟩
def Jd.map{K s A D x y z G w u t v}(L:Jd A K x y z G w u t v)(M:∀e g f,K e->A.1[e]? =T (O_ g f)->f=3∨f=261->s e/\D.1[e]? =T (O_ g f)):Jd D s x y z G w u t v:=by
 have d {e g f}:=M e g f
 rcases L with⟨i,m,n,o,j,k,l,p,q,r,a,b,c⟩|⟨i,N,m,n,o,j,k,l,P,p,q,r,h,a,b,c⟩
 have a:=d p a (ZM X);have b:=d q b (ZM X);have c:=d r c (ZJ X);exact ZM ⟨i,m,n,o,j,k,l,a.1,b.1,c.1,a.2,b.2,c.2⟩;have h:=d P h (ZM X);have a:=d p a (ZM X);have b:=d q b (ZM X);have c:=d r c (ZJ X);exact ZJ ⟨i,N,m,n,o,j,k,l,h.1,a.1,b.1,c.1,h.2,a.2,b.2,c.2⟩
def Jd.a{n K a b c o m h d l}(p:Jd n K a b c o m h d l):∃i e j f k g,a=YX i #[] e/\b=YX j #[] f/\c=YX k #[] g:=by grind [Jd]
structure Gp(f)(g j l k:H)(p:H->ZG)(n i:H->E)(h o):Prop where
 r:∃b:YZ ZY,f.1[j]? =T (O_ b 263)/\B b=l*3/\(∀a,a<k->∃c d e,b[a*3]? =T c/\b[a*3+1]? =T d/\b[a*3+2]? =T e/\Jd f (λm=>g<=m) c d e (p a) (Ch (ZL (n a))) (i a) h o)
section
variable {w w':ZT} {base a fb n k:H} {wd:H->ZG} {sc ct:H->E} {bins size:E}
def Gp.map(b:Gp w base fb n k wd sc ct bins size)(d:∀(k:H) e,w.1[k]? =T e->w'.1[k]? =T e)(o:a<=base):Gp w' a fb n k wd sc ct bins size:=by obtain⟨c,j,l,m⟩:=b;refine⟨c,d _ _ j,l,λq p=>?_⟩;have⟨s,t,u,f,g,h,i⟩:=m q p;exact⟨s,t,u,f,g,h,i.map λk c v r b _=>⟨aG o r,d _ _ b⟩⟩
def Gp.q(c:Gp w base fb n k wd sc ct bins size)(b:E_ w w'):=c.map (λ_ _ a=>(b.block _ (Qb a).1).T a) x_
def Gp.cells(l:Gp w base fb n k wd sc ct bins size)(p:k<n):(∃d e f,ZV w (J fb (k*3))=T d/\ZV w (J fb (k*3+1))=T e/\ZV w (J fb (k*3+2))=T f)/\∀a,YT w (J fb a)=ZZ:=by obtain⟨b,g,o,_⟩:=l;have c:∀a,a<B b->∃m,ZV w (J fb a)=T m:=λa q=>⟨b[a],by rw[cell_of_row w fb _ b 263 (0,0) g];grind⟩;obtain⟨d,h⟩:=c (k*3) O;obtain⟨e,i⟩:=c (k*3+1) O;obtain⟨f,j⟩:=c (k*3+2) O;exact⟨⟨d,e,f,h,i,j⟩,λa=>fr_ w fb a b 263 g⟩
def Gp.put(l:Gp w base fb n k wd sc ct bins size)(D:k<n){b c d}(v:Jd w (λa=>base<=a) b c d (wd k) (Ch (ZL (sc k))) (ct k) bins size):Gp (ZO (ZO (ZO w (J fb (k*3)) b) (J fb (k*3+1)) c) (J fb (k*3+2)) d) base fb n (k+1) wd sc ct bins size:=by
 obtain⟨j,s,t,u⟩:=l
 have m:∀a e g,base<=a->w.1[a]? =T (O_ e g)->g=3∨g=261->base<=a/\(ZO (ZO (ZO w (J fb (k*3)) b) (J fb (k*3+1)) c) (J fb (k*3+2)) d).1[a]? =T (O_ e g):=λa e g L l G=>by grind [Below.heap_setCell]
 refine⟨_,(ht_ (k*3+2) _ _ d (ht_ (k*3+1) _ _ c (hs_ w _ (k*3) _ _ b s))),by simp[t],λi A=>?_⟩
 by_cases r:i=k
 subst r;exact⟨b,c,d,w_,w_,w_,v.map m⟩;have⟨x,y,z,o,p,e,q⟩:=u i O;have h:∀f,f≠k*3->f≠k*3+1->f≠k*3+2->(YS (YS (YS j (k*3) b) (k*3+1) c) (k*3+2) d)[f]? =j[f]?:=w_;exact⟨x,y,z,(h _ O O O).T o,(h _ O O O).T p,(h _ O O O).T e,q.map m⟩
end
def mm{o s b v d f t g e l c}(a3:Du c o s b g e l)(c1:1<=b)(c2:b<=4)(a5:∀x,x<b->g x=ZZ->0<=e x/\e x<=3):C_ 96 #[Y9 #[V (T (J o s)) b v,I d,I f,I t]] c λu h=>∃a,u=ZI (ZH (T ⟨a,0,ZP⟩) b b)/\B c.1<=a/\Gp h (B c.1) a b b g e l d f/\E_ c h:=by
 have c5:∀M:ZT,(Instr.makeSlice 155 (I b) (I b)).run Y8 M=.ok (L_ (B M.1) b b) (ZN M (O_ (YV #[.nilFunc,.nilFunc,.nilFunc] (b*3)) 263)):=λ_=>mk_ 3;have D:=Y a3;refine dl_ ?_;go_enter func96,ntmps96;go_wp2_with fail
 have a9:K (Gp (ZN (ZN c (O_ #[V (T (J o s)) b v,I d,I f,I t] 37)) (O_ (YV #[.nilFunc,.nilFunc,.nilFunc] (b*3)) 263)) (B c.1) (B c.1+1) b 0 g e l d f):=⟨_,If s_,by simp[YV],λx c3=>O⟩;have a8:K ((ZN (ZN c (O_ #[V (T (J o s)) b v,I d,I f,I t] 37)) (O_ (YV #[.nilFunc,.nilFunc,.nilFunc] (b*3)) 263)).1[B c.1]? =_):=(hc_ s_).T (ha_ c _);have a7:K (Below _ c (ZN (ZN c (O_ #[V (T (J o s)) b v,I d,I f,I t] 37)) (O_ (YV #[.nilFunc,.nilFunc,.nilFunc] (b*3)) 263))):=r_.alloc s_ _;generalize (ZN (ZN c (O_ #[V (T (J o s)) b v,I d,I f,I t] 37)) (O_ (YV #[.nilFunc,.nilFunc,.nilFunc] (b*3)) 263))=d0 at *
 go_loopw [13] (λi h=>∃a:H,a<=b/\i=I a/\K (Gp h (B c.1) (B c.1+1) b a g e l d f)/\K (h.1[B c.1]? =T (O_ #[V (T (J o s)) b v,I d,I f,I t] 37))/\K (E_ c h)) (m1_ b)
 case atStart=>grind
 obtain⟨a,c4,rfl,N,z,y⟩:=hrel;have a4:=(Qb z).1
 by_cases w:a<b
 ·have⟨S,a1,a2⟩:=k3_ y (D.t a w) (D.D a w) (D.G a w);have W:∀{m i j k} {n:ZT},Jd n (λh=>B (ZN wr m).1<=h) i j k (g a) (Ch (ZL (e a))) (l a) d f->Jd n (λh=>B c.1<=h) i j k (g a) (Ch (ZL (e a))) (l a) d f:=λq=>q.map λa b0 c6 a6 q _=>⟨by have:=y.size;simp at a6;omega,q⟩
  have P:K (∀m,C_ (if g a=Z0 then 160 else 161) (if g a=Z0 then #[I (l a),I d] else #[I (e a),I d,I f]) (ZN wr m) λu n=>∃i j k,u=ZI (Y9 #[i,j,k])/\Jd n (λh=>B c.1<=h) i j k (g a) (Ch (ZL (e a))) (l a) d f/\E_ wr n):=λm=>by
   cases h:g a
   have⟨G,L⟩:=a5 a w h;have:=su (ZL (e a)) d f (ZN wr m) O;rw[show(ZL (e a):E)=e a by omega] at this;exact this.m λu n ⟨i,j,k,q,r,A⟩=>⟨i,j,k,q,h ▸ W (h ▸ r _),bt_ r_ A⟩;exact(ZbS).m λu n ⟨i,j,k,q,r,A⟩=>⟨i,j,k,q,h ▸ W (h ▸ r _ _),bt_ r_ A⟩
  have a0:K (∀m,_/\_):=λm=>k2_ (r_ (o:=m)) (n_ 1 z) (n_ 2 z)
  cases h:g a
  all_goals
   rw[h] at S;simp only[h,if_true,Bool.false_eq_true,if_false] at P;obtain⟨Q,R⟩:=a0 (O_ #[ZR (g a),I (e a),I (l a)] 51);rw[h] at Q R;go_wp2_with fail
   apply (P _).m;rintro u n ⟨i,j,k,rfl,r,A⟩;have G:=Y (N.q A);obtain⟨b4,b1,b5,b2,b6,b3,rfl,rfl,rfl⟩:=r.a;have L:=x3_ (G.put w (h ▸ r)) ((A.block _ a4).T z) (bt_ y A);obtain⟨⟨c7,c8,c9,b7,b8,b9⟩,c0⟩:=G.cells w;clear r A G Q R S a1 a2;refine J_ ?_;exact⟨a+1,O,g_,L.1,(Below.heap_setCell _ _ _ _ s_).T ((Below.heap_setCell _ _ _ _ s_).T ((Below.heap_setCell _ _ _ _ s_).T L.2.1)),((L.2.2.setCell (p:=(J (B c.1+1) (a*3))) s_ _).setCell (p:=(J (B c.1+1) (a*3+1))) s_ _).setCell (p:=(J (B c.1+1) (a*3+2))) s_ _⟩
 obtain rfl:a=b:=O;go_wp2;go_ret;exact⟨_,X,O,N,y⟩
def part0:Cm:=⟨0,ZZ,0,0,0,N_⟩
def sq d a b (f:a<=4):C_ 97 #[L_ d a a] b λc e=>c=ZI (Y7 (T ⟨B b.1+1,0,ZP⟩))/\e=ZN (ZN b (O_ (YV #[N_] a) 251)) (O_ #[L_ d a a,N_,L_ (B b.1) a a,I 0,ZR ZZ,N_,I 0,ZR ZZ,I 0,I 0,I 0,N_] 256):=by have e:∀c:ZT,(Instr.makeSlice 248 (I a) (I a)).run Y8 c=.ok (L_ (B c.1) a a) (ZN c (O_ (YV #[N_] a) 251)):=λ_=>mk_ 1;refine dl_ ?_;go_enter func97,ntmps97;go_wp2;go_ret;exact⟨s_,X⟩
def Gp.base{j base b e g f k h d c i}(a:Gp j b e g f k h d c i)(l:base<=b):Gp j base e g f k h d c i:=a.map (λ_ _ a=>a) l
structure es(d:ZT)(b g c f e a:H)(m)(k j)(h l i):Prop where
 r:d.1[g]? =T (O_ #[L_ c a a,I i,P_ f,I 0] 158)
 w:RB d f (L_ c a a) (N_) (L_ e a a) 0 ZZ (N_) part0
 u:d.1[e]? =T (O_ (YV #[N_] a) 251)
 fs:Gp d b c a a m k j h l
 t:b<=g/\b<=c/\b<=f/\b<=e
def ZbN{e f a k h i c o m r b}(l:Du b e f a o m r)(G:1<=a)(v:a<=4)(Q:∀d,d<a->o d=ZZ->0<=m d/\m d<=3):C_ 57 #[Y9 #[V (T (J e f)) a k,I h,I i,I c]] b λs n=>∃g j t q,s=ZI (Y7 (T ⟨g,0,ZP⟩))/\es n (B b.1) g j t q a o m r h i c/\E_ b n:=by
 have u:K (Below _ b (ZN b (O_ #[V (T (J e f)) a k,I h,I i,I c] 37))):=r_;have L:=l.lt O;have w:K (Du (ZN b (O_ #[V (T (J e f)) a k,I h,I i,I c] 37)) e f a o m r):=(by have j:=λn=>u.cell (p:=(J e n)) L;exact⟨l.k,λ_=>t_,λd g=>(j _).T (l.t d g),λd g=>(j _).T (l.D d g),λd g=>(j _).T (l.G d g)⟩);have y:=Y Q;have A:ZV (ZN b (O_ #[V (T (J e f)) a k,I h,I i,I c] 37)) (J (B b.1) 3)=T (I c):=s_;have P:B (ZN b (O_ #[V (T (J e f)) a k,I h,I i,I c] 37)).1=B b.1+1:=s_;have z:=Y P;refine dl_ ?_;go_enter func57,ntmps57;go_wp2_with fail
 generalize (ZN b) (O_ #[V (T (J e f)) a k,I h,I i,I c] 37)=S at *;apply (mm w G v y).m;rintro s g ⟨j,rfl,M,N,t⟩;have D:=T_ t A;have q:=x3_ N M t;have R:B b.1<B g.1:=oj_ t.size z.out;have x:=Y (λn=>sq j a n v);go_wp2_with fail
 go_region_held3 (λn=>D_ n (B b.1) 3 (I c)) (exact X_ D) (first|(go_at_call 97;apply (x _).m;rintro s n ⟨rfl,rfl⟩))
 all_goals go_wp2
 all_goals go_ret
 have n:E_ g (YY (ZN (ZN (ZN g (O_ (YV #[N_] a) 251)) (O_ #[L_ j a a,N_,L_ (B g.1) a a,I 0,ZR ZZ,N_,I 0,ZR ZZ,I 0,I 0,I 0,N_] 256)) (O_ #[L_ j a a,I c,P_ (B g.1+1),I 0] 158))):=((r_.alloc s_ _).alloc u_ _).drew;refine⟨B g.1+1+1,j,B g.1+1,B g.1,X,⟨If s_,(hc_ s_).T (If s_),(hc_ u_).T ((hc_ s_).T (If X)),(q.1.base O).q n,O,p_ q.2.1,O,O⟩,?_⟩;exact(u.T (q.2.2.m O)).T (n.m O)
structure xm(d:ZT)(a b c i k g j:H)(n)(l h)(e m f):Prop where
 q:d.1[b]? =T (O_ #[P_ c,ZR ZZ,I 0,I 0] 119)
 r:es d a c i k g j n l h e m f
 t:a<=b
def Nb{c a e d h g f}(i:Ih c a e d h g f=Z0):1<=c/\c<=4/\2<=a/\a<=16/\a<=e/\e<=32/\0<=d/\d<=20/\∀b,b<c->Nf (h b) (g b) (f b)=Z0:=by grind [Ih,Wl]
def es.q{m w' base l g i e h n j f c k d}(a:es m base l g i e h n j f c k d)(b:E_ m w'):es w' base l g i e h n j f c k d:=
 ⟨(b.block _ (Qb a.r).1).T a.r,a.w.q b a.w.lt,(b.block _ (Qb a.u).1).T a.u,a.fs.q b,a.t⟩
def es.base{m base b l g i e h n j f c k d}(a:es m b l g i e h n j f c k d)(o:base<=b):es m base l g i e h n j f c k d:=
 ⟨a.r,a.w,a.u,a.fs.base o,p_ a.t⟩
def ZeQ{d e c} n {f k g l j m b}(h:Du b d e c l j m)(N:Ih c f k g l j m=Z0):C_ 31 #[Y9 #[V (T (J d e)) c n,I f,I k,I g]] b λv i=>∃a q w x u,v=ZI (Y5 #[Y7 (T ⟨a,0,ZP⟩),ZX ZQ 0])/\xm i (B b.1) a q w x u c l j m f k g/\E_ b i:=by
 have⟨W,a0,_,_,_,_,_,_,b0⟩:=Nb N
 have R:K (∀a,a<c->l a=ZZ->0<=j a/\j a<=3):=λa i b1=>by grind [Nf]
 have a3:=h.lt O;have A:K (Below _ b (ZN b (O_ #[V (T (J d e)) c n,I f,I k,I g] 37))):=r_;have z:K ((ZN b (O_ #[V (T (J d e)) c n,I f,I k,I g] 37)).1[_]? =_):=ha_ b _
 have D:K (∀t,E_ b t->Du t d e c l j m):=λt G=>by have o:=λq=>G.cell (p:=(J d q)) a3;exact⟨h.k,λ_=>p_ G.size,λa i=>(o _).T (h.t a i),λa i=>(o _).T (h.D a i),λa i=>(o _).T (h.G a i)⟩
 have Q:=Y N;have a5:=h.k;refine dl_ ?_;go_enter func31,ntmps31;go_wp2_with fail
 generalize (ZN b) (O_ #[V (T (J d e)) c n,I f,I k,I g] 37)=b2 at *;apply (Qu a5 (ZJ ⟨d,e,X,D _ A⟩)).m;rintro v b3 ⟨rfl,L⟩;rw[Q];have a4:=(Qb z).1;have o:=(L.block _ a4).T z;have a6:=n_ 0 o;have a7:=n_ 1 o;have a8:=n_ 2 o;have a9:=n_ 3 o;have r:=Y (A.T (L.m O));have P:=r.size;go_wp2_with fail
 apply (ZbN (D _ r) W a0 R).m;rintro v y ⟨q,w,x,u,rfl,a1,a2⟩;have⟨S,s⟩:=Y_ (a1.base P) (r.T (a2.m P));go_wp2;go_ret2
 have M:Below _ y (ZN y (O_ #[P_ q,ZR ZZ,I 0,I 0] 119)):=r_;exact⟨B y.1,q,w,x,u,X,⟨hn_,S.q M,s.size⟩,s.T (M.m s.size)⟩
structure RS where
 k:U E
 a:H->U VS
 g:E
 A:ZG
 M:U VS
 p:Cm
 f:U E
def RS.h:RS:=⟨[],λ_=>[],0,ZZ,[],part0,[]⟩
def Hw(a:Cm)(b:U E):VS:=⟨ZE (a.n=0),Tm a,ZB b⟩
def As(f:ZG)(e:E)(b:Cm)(c:U E)(d:E):Y0 (Cm×U E):=
 if f=Z0 then(Cq b.n c d).map (λa=>({b with n:=a.1},a.2)) else(Do e b d).map (λa=>(a,c))
def Ax:VS:=⟨ZZ,0,⟨#[]⟩⟩
def Hm(d:H)(a:RS)(c:U VS):RS:=
 if F c=d then⟨a.k++[a.g],λb=>if b<d then a.a b++[Z c b Ax] else a.a b,0,ZZ,[],part0,[]⟩
 else {a with M:=c,p:=part0,f:=[]}
def Cv(c:H)(g:H->ZG)(f:H->E)(a:RS)(b:E):Except E RS:=
 if F a.k=200 then .error 3
 else if a.A=ZZ then
  match Ar a.g b with
  |none=>.error 2
  |some ZP=>.ok {a with A:=Z0}
  |some (T h)=>.ok {a with g:=h}
 else
  match As (g (F a.M)) (Ch (ZL (f (F a.M)))) a.p a.f b with
  |some (e,d)=>.ok {a with p:=e,f:=d}
  |none=>if b=El (F a.M) c/\Et a.p.n=Z0 then .ok (Hm c a (a.M++[Hw a.p a.f])) else .error 2
structure Ha(a:Cm):Prop where
 c:0<=a.unit
 e:a.unit<=1000
 b:0<=a.num
 g:0<=a.dig
 h:a.dig<=5
 d:a.num+a.unit<=Ch (ZL a.dig)*1000
def Zfc a (b:a<=5):1<=Ch a/\Ch a<=100000:=by
 have:a=0∨a=1∨a=2∨a=3∨a=4∨a=5:=O
 rcases this with rfl|rfl|rfl|rfl|rfl|rfl<;>decide
def Ha.k{b}(a:Ha b):b.num<=100000000:=by have c:=a.d;have d:=a.c;have e:=(Zfc (ZL b.dig) (oj_ a.g a.h)).2;omega
theorem Ha.part0:Ha part0:=⟨C,C,C,C,C,C⟩
def Mm{a}(b:Cc a=Z0):48<=a/\a<=57:=by simpa [Cc] using b
def Ha.i{e}(x:1<=e)(t:e<=1000){b a c}(r:Ha b)(p:Do e b c=T a):Ha a:=by
 obtain⟨f,g,l,h,i,m⟩:=r
 have w:∀a,Io e b c=T a->Ha a:=λa hq=>by
  unfold Io at hq;split at hq
  ·rename_i d;obtain⟨n,o⟩:=Mm d;injection hq with hq;subst hq;have j:0<=(c-48)*e:=Int.mul_nonneg O O;have q:(c-48)*e<=9*e:=Int.mul_le_mul_of_nonneg_right O O;refine⟨w_,t,j,w_,w_,?_⟩
   grind [Ch]
  cases hq
 have y:∀a,Rg b c=T a->Ha a:=λa hq=>by
  unfold Rg at hq;split at hq;injection hq with hq;subst hq;exact⟨f,g,l,h,i,m⟩
  cases hq
 have z:∀a,Nl b c=T a->Ha a:=λa hq=>by
  unfold Nl at hq;split at hq;injection hq with hq;subst hq;exact⟨f,g,l,h,i,m⟩
  cases hq
 have v:∀a,Lt b c=T a->Ha a:=λa hq=>by
  unfold Lt at hq;split at hq
  ·rename_i d;obtain⟨d,s⟩:=d;obtain⟨n,o⟩:=Mm d;injection hq with hq;subst hq;have j:0<=(c-48)*_:=Int.mul_nonneg O f;have q:(c-48)*_<=9*_:=Int.mul_le_mul_of_nonneg_right O f;refine⟨f,g,?_,?_,?_,?_⟩
   ·grind
   ·grind
   ·grind
   show b.num*10+(c-48)*b.unit+b.unit<=Ch (ZL (b.dig+1))*1000;have k:ZL (b.dig+1)=ZL b.dig+1:=O
   grind [Ch]
  cases hq
 have u:∀a,Je b c=T a->Ha a:=λa hq=>by
  unfold Je at hq;split at hq
  ·rename_i d;obtain⟨d,s⟩:=d;obtain⟨n,o⟩:=Mm d;injection hq with hq;subst hq;have k:0<=b.unit/10:=O;have j:0<=(c-48)*_:=Int.mul_nonneg O k;have q:(c-48)*_<=9*_:=Int.mul_le_mul_of_nonneg_right O k;refine⟨k,?_,?_,h,i,?_⟩
   ·grind
   ·grind
   grind
  cases hq
 unfold Do at p;split at p
 ·grind [Rg]
 grind [Lt]
def Ha.n{b}(a:Ha b){c}:Ha {b with n:=c}:=⟨a.c,a.e,a.b,a.g,a.h,a.d⟩
def Zev c b a d:Do c {b with f:=d} a=(Do c b a).map (λe=>{e with f:=d}):=by grind [Rg,Io,Lt,Nl,Je,Do]
def Zat{d a c b}(e:Cq d a c=T b)(f:F a<=8):F b.2<=8:=by grind [Mf,fz,Ok,Cq]
structure Ja(c)(a:RS):Prop where
 k:F a.k<=200
 j:∀b,b<c->F (a.a b)=F a.k
 d:0<=a.g
 e:a.g<=99
 M:F a.M<c
 num:Ha a.p
 f:F a.f<=8
def Ja.h{a}(b:1<=a):Ja a RS.h:=⟨C,λ_ _=>X,C,C,b,Ha.part0,C⟩
def tm{c b a}(d:Ar c b=T (T a)):1<=a/\a<=99:=by grind [Ar]
structure Wg(h)(K)(c d)(m:H->ZG)(k j:H->E)(i l):Prop where
 r:∃b:YZ ZY,h.1[c]? =T (O_ b 263)/\B b=d*3/\K c/\∀a,a<d->∃e f g,b[a*3]? =T e/\b[a*3+1]? =T f/\b[a*3+2]? =T g/\Jd h K e f g (m a) (Ch (ZL (k a))) (j a) i l
def Wg.p{S K m w' e i n j d c k}(b:Wg m K e i n j d c k)(l:Aa S m w')(g:∀a,K a->¬S a):Wg w' K e i n j d c k:=by obtain⟨r,t,u,f,v⟩:=b;refine⟨r,l.g t (g _ f),u,f,λx w=>?_⟩;obtain⟨y,z,A,o,p,q,s⟩:=v x w;exact⟨y,z,A,o,p,q,s.map λa _ _ h b _=>⟨h,l.g b (g a h)⟩⟩
def Wg.a{g h e f m k j i l K}(d:Gp g h e f f m k j i l)(u:K e)(hK:∀b a c,h<=b->g.1[b]? =T (O_ a c)->(c=3∨c=261)->K b):Wg g K e f m k j i l:=by obtain⟨a,r,s,t⟩:=d;refine⟨a,r,s,u,λx v=>?_⟩;obtain⟨z,A,D,n,o,p,q⟩:=t x v;exact⟨z,A,D,n,o,p,q.map λb a c y d w=>⟨hK b a c y d w,d⟩⟩
structure Rt(d)(K e:H->Prop)(o n i c)(t)(r q)(p s)(g:RS)(l h m)(f:H->ZY):Prop where
 w:RB d o (L_ n c c) l (L_ i c c) g.g g.A h {g.p with f:=m}
 x:Ad d 0 l g.k
 or:Ky d 0 h g.M
 v:Az d 0 m g.f
 u:∃j:YZ ZY,d.1[i]? =T (O_ j 251)/\B j=c/\∀a,a<c->j[a]? =T (f a)
 y:∀a,a<c->Ky d 0 (f a) (g.a a)
 fs:Wg d K n c t r q p s
 G:∀a k,a<c->k<c->a≠k->ZW (f a)=ZP∨ZW (f a)≠ZW (f k)
 D:∀a,a<c->ZW (f a)=ZP∨ZW (f a)≠ZW h
 L:e o
 N:e i
 R:∀b,ZW l=T b->e b
 W:∀b,ZW h=T b->e b
 M:∀b,ZW m=T b->e b
 P:∀a b,a<c->ZW (f a)=T b->e b
 A:∀b,K b->b<B d.1/\¬e b
 S:∀b,e b->b<B d.1
def RdM(n:ZT)(K a:H->Prop)(g e c f:H)(o:H->ZG)(i d:H->E)(b j:E)(h:RS):Prop:=∃k m p l,Rt n K a g e c f o i d b j h k m p l
def Ky.p{S e w' c a b}(f:Ky e c a b)(h:Aa S e w')(g:∀d,ZW a=T d->¬S d):Ky w' c a b:=h.M f g
def Ad.p{S e w' c a b}(f:Ad e c a b)(h:Aa S e w')(g:∀d,ZW a=T d->¬S d):Ad w' c a b:=h.M f g
def Az.p{S e w' c a b}(f:Az e c a b)(h:Aa S e w')(g:∀d,ZW a=T d->¬S d):Az w' c a b:=h.M f g
def RB.p{S h w' a f e d i b g c}(j:RB h a f e d i b g c)(l:Aa S h w')(k:¬S a):RB w' a f e d i b g c:=l.g j k
section
variable {w:ZT} {K M:H->Prop} {rb fb cb n:H} {wd:H->ZG} {sc ct:H->E} {bins size:E} {s:RS} {a c d:ZY} {b:H->ZY}
def Rt.p{S w'}(e:Rt w K M rb fb cb n wd sc ct bins size s a c d b)(h:Aa S w w')(i:∀f,K f∨M f->¬S f):Rt w' K M rb fb cb n wd sc ct bins size s a c d b:=by
 obtain⟨p,l,m,o⟩:=e.u
 exact⟨e.w.p h (i _ (ZJ e.L)),e.x.p h (λf g=>i _ (ZJ (e.R f g))),e.or.p h (λf g=>i _ (ZJ (e.W f g))),e.v.p h (λf g=>i _ (ZJ (e.M f g))),
  ⟨p,h.g l (i _ (ZJ e.N)),m,o⟩,λk j=>(e.y k j).p h (λf g=>i _ (ZJ (e.P k f j g))),e.fs.p h (λf g=>i _ (ZM g)),e.G,e.D,e.L,e.N,e.R,e.W,e.M,e.P,
  λf g=>⟨Qh (e.A f g).1 h.size,(e.A f g).2⟩,λf g=>Qh (e.S f g) h.size⟩
def RdM.p{S w'}(e:RdM w K M rb fb cb n wd sc ct bins size s)(h:Aa S w w')(g:∀f,K f∨M f->¬S f):RdM w' K M rb fb cb n wd sc ct bins size s:=by obtain⟨a,c,d,b,e⟩:=e;exact⟨a,c,d,b,e.p h g⟩
def Rt.j(e:Rt w K M rb fb cb n wd sc ct bins size s a c d b):fb≠rb:=by obtain⟨h,_,_,g,_⟩:=e.fs;intro f;exact(e.A _ g).2 (f ▸ e.L)
def Rt.z(f:Rt w K M rb fb cb n wd sc ct bins size s a c d b){i}(m:i<n):∃e g h,ZV w (J fb (i*3))=T e/\Jd w K e g h (wd i) (Ch (ZL (sc i))) (ct i) bins size:=by
 obtain⟨j,k,_,_,l⟩:=f.fs
 grind [cell_of_row]
end
def ZgO(d:ZT)(K b:H->Prop)(k i g j:H)(o:H->ZG)(m h:H->E)(f n:E)(l:RS)(e:ZT):Prop:=
 (∃c,RdM e K c k i g j o m h f n l/\(∀a,c a->b a∨B d.1<=a))/\Aa b d e
section
variable {w:ZT} {K M:H->Prop} {rb fb cb n:H} {wd:H->ZG} {sc ct:H->E} {bins size:E} {s:RS} {b c a:ZY} {d:H->ZY}
def Rt.e(i:Rt w K M rb fb cb n wd sc ct bins size s b c a d){e f:H}{g}(j:H_ w e g f)(k:f≠256):e≠rb:=λh=>by
 subst h;have:=i.w
 grind [RB]
def Rt.f{q}(g:Rt w K M rb fb cb n wd sc ct bins size s b c a d)(h:Aa (λf=>f=rb∨T f=ZW a) w q){p bs i wt fl}(t:RB q rb (L_ fb n n) b (L_ cb n n) wt fl c {p with f:=i})(y:Az q 0 i bs)(P:ZW i=ZW a∨∃f,ZW i=T f/\B w.1<=f):
  Rt q K (λf=>M f∨ZW i=T f) rb fb cb n wd sc ct bins size {s with p:=p,f:=bs,g:=wt,A:=fl} b c i d:=by
 have r:∀{o:H} {size n u z},ZD w 0 o size u n z->o≠256->o≠5->∀f,ZW u=T f->¬(f=rb∨T f=ZW a):=λ{o size n u z} t j G f l e=>by
  obtain⟨x,m⟩:=Ac t l
  rcases e with e|e
  exact g.e m j e;obtain⟨k,L⟩:=Ac g.v e.s
  grind
 obtain⟨x,v,A,D⟩:=g.u
 have N:¬(cb=rb∨T cb=ZW a):=λe=>by
  rcases e with e|e
  exact g.e v C e;obtain⟨k,L⟩:=Ac g.v e.s
  grind
 have Q:∀f,ZW i=T f->M f∨B w.1<=f:=λf e=>by
  rcases P with j|⟨k,j,G⟩
  exact ZM (g.M f (j ▸ e))
  grind
 refine⟨t,g.x.p h (r g.x C C),g.or.p h (r g.or C C),y,⟨x,h.g v N,A,D⟩,λm k=>(g.y m k).p h (r (g.y m k) C C),g.fs.p h ?_,g.G,g.D,ZM g.L,ZM g.N,λf e=>ZM (g.R f e),λf e=>ZM (g.W f e),λf e=>ZJ e,λm f k e=>ZM (g.P m f k e),λf e=>?_,λf e=>?_⟩
 ·intro f l e
  rcases e with e|e
  exact(g.A f l).2 (e ▸ g.L);exact(g.A f l).2 (g.M f e.s)
 ·have j:=g.A f e;refine⟨Qh j.1 h.size,λL=>?_⟩
  grind
 rcases e with e|e
 exact Qh (g.S f e) h.size;exact(B_ y f e).2
def ZaH(w:ZT)(K M:H->Prop)(rb fb cb n:H)(wd:H->ZG)(sc ct:H->E)(bins size:E)(s:RS)(b c:ZY)(d:H->ZY)(f:Y0 (Cm×U E))(h:Ending)(g:ZT):Prop:=
 h=ZI (ZR f.isSome)/\(∃e i,Rt g K e rb fb cb n wd sc ct bins size {s with p:=(f.getD (s.p,s.f)).1,f:=(f.getD (s.p,s.f)).2} b c i d/\(∀a,M a->e a)/\(∀a,e a->M a∨B w.1<=a))/\Aa M w g
def Zlk(g:Rt w K M rb fb cb n wd sc ct bins size s b c a d) i {h u}(y:H_ w u #[I h] 3)(z:0<=h)(G:h<=1000)(j:Ha s.p):C_ 214 #[Y7 (T (J rb 6)),ZX .u8 i,P_ u] w λe v=>ZaH w K M rb fb cb n wd sc ct bins size s b c d (As ZZ h s.p s.f i) e v:=by
 have D:=j.k;apply (Zcp rb b c i h w g.w (M_ 0 _ 3 _ y) z O j.c (gh_ j.e) j.b w_ j.g (gh_ j.h)).m;rintro e v ⟨k,l,o⟩;rw[Zev] at k l;have m:Aa (λf=>f=_∨T f=ZW a) w _:=(Aa.refl _ w).grown o (λf hk _=>ZM (by injection hk with hk;exact hk.s))
 have q:=g.v.p ((Aa.refl (λf=>f=rb) w).grown o (λf hk _=>w_)) (λf hk e=>by
  obtain⟨t,r⟩:=Ac g.v hk
  exact g.e r C e)
 have t:=m.m (λf _ e=>by
  rcases e with e|e
  exact e ▸ g.L
  exact g.M f e.s)
 have x:As ZZ h _ s.f i=(Do h s.p i).map _:=rfl;unfold ZaH;rw[x]
 cases r:Do h s.p i with
 | none=>
  rw[r] at k l;refine⟨k,⟨_,a,g.f (p:=s.p) (bs:=s.f) m l q (ZM X),λf e=>ZM e,λf e=>?_⟩,t⟩
  rcases e with e|e
  exact ZM e;exact ZM (g.M f e)
 | some A=>
  rw[r] at k l;refine⟨k,⟨_,a,g.f (p:=A) (bs:=s.f) m l q (ZM X),λf e=>ZM e,λf e=>?_⟩,t⟩
  rcases e with e|e
  exact ZM e;exact ZM (g.M f e)
def Zii(h:Rt w K M rb fb cb n wd sc ct bins size s b c a d) g {v}(A:F s.f<=8):C_ 209 #[Y7 (T (J rb 6)),ZX .u8 g] w λe x=>ZaH w K M rb fb cb n wd sc ct bins size s b c d (As Z0 v s.p s.f g) e x:=by
 apply (Zaq ⟨h.w,h.v⟩ O O).m;rintro e x ⟨i,⟨q,⟨j,k⟩,m⟩,o⟩
 have u:=Aa.m o (λf _ e=>by
  rcases e with e|e
  exact e ▸ h.L
  exact h.M f e.s)
 have y:As Z0 v _ s.f g=(Cq _ _ g).map (λl=>({s.p with n:=l.1},_)):=rfl
 have r:∀f,(M f∨ZW q=T f)->M f∨B w.1<=f:=λf e=>by
  rcases e with e|e
  exact ZM e
  rcases m with l|⟨z,l,t⟩
  exact ZM (h.M f (l ▸ e))
  grind
 unfold ZaH;rw[y];have z:Cq ({s.p with f:=a}:_).n s.f g=Cq s.p.n _ g:=rfl;rw[z] at i j k
 cases t:Cq s.p.n s.f g with
 | none=>
  rw[t] at i j k;exact⟨i,⟨_,q,h.f (p:=s.p) (bs:=s.f) o j k m,λf e=>ZM e,r⟩,u⟩
 | some l=>
  rw[t] at i j k;exact⟨i,⟨_,q,h.f (p:={s.p with n:=l.1}) (bs:=l.2) o j k m,λf e=>ZM e,r⟩,u⟩
end
def Ag{e:ZT}{f b l j:H}{d m}(h:ZD e f b l d j m){k a c g}(i:ZW d=T k)(p:H_ e a g c)(r:b≠c):k≠a:=λo=>by
 have⟨n,q⟩:=Ac h i
 grind
def Zaf{f:ZT}{g h a b q r o p:H}{e d s t}(k:ZD f g a q e o s)(j:ZD f h b r d p t)(n:a≠b){c}(m:ZW e=T c):ZW d≠T c:=λi=>by have⟨u,l⟩:=Ac j i;exact Ag k m l n X
section
variable {w:ZT} {K M:H->Prop} {rb fb cb n:H} {wd:H->ZG} {sc ct:H->E} {bins size:E} {s:RS} {b c d:ZY} {a:H->ZY}
def Rt.h(f:Rt w K M rb fb cb n wd sc ct bins size s b c d a):∃e,w.1[rb]? =T (O_ e 256):=⟨_,f.w⟩
def Rt.g(e:Rt w K M rb fb cb n wd sc ct bins size s b c d a):cb≠rb:=by have⟨g,f,_⟩:=e.u;exact e.e f C
def zo{M:H->Prop}{d b:ZY}{c}(g:∀a,ZW d=T a->M a)(f:ZW b=ZW d∨∃a,ZW b=T a/\c<=a):∀a,(M a∨ZW b=T a)->M a∨c<=a:=λa e=>w_
def Rt.k{w' vW' ws' wt fl}(g:Rt w K M rb fb cb n wd sc ct bins size s b c d a)(h:Aa (λf=>f=rb∨ZW b=T f) w w')(k:RB w' rb (L_ fb n n) vW' (L_ cb n n) wt fl c {s.p with f:=d})(r:Ad w' 0 vW' ws')(D:ZW vW'=ZW b∨∃f,ZW vW'=T f/\B w.1<=f):
  Rt w' K (λf=>M f∨ZW vW'=T f) rb fb cb n wd sc ct bins size {s with k:=ws',g:=wt,A:=fl} vW' c d a/\(∀f,(M f∨ZW vW'=T f)->M f∨B w.1<=f)/\Aa M w w':=by
 have⟨L,A⟩:=g.h;have⟨x,q,u,v⟩:=g.u;have z:=zo g.R D
 have m:∀{p size n:H} {t G},ZD w 0 p size t n G->p≠256->p≠3->∀f,ZW t=T f->¬(f=rb∨ZW b=T f):=λk o y f i e=>by
  rcases e with e|e
  exact Ag k i A o e;exact Zaf k g.x y i e
 refine⟨⟨k,r,g.or.p h (m g.or C C),g.v.p h (m g.v C C),⟨x,h.g q ?_,u,v⟩,λl j=>(g.y l j).p h (m (g.y l j) C C),g.fs.p h ?_,g.G,g.D,ZM g.L,ZM g.N,λf e=>ZJ e,λf e=>ZM (g.W f e),λf e=>ZM (g.M f e),λl f j e=>ZM (g.P l f j e),λf e=>?_,λf e=>?_⟩,z,h.m (λf _ e=>?_)⟩
 ·intro e
  rcases e with e|e
  exact g.g e;exact Ag g.x e q C X
 ·intro f i e
  rcases e with e|e
  exact(g.A f i).2 (e ▸ g.L);exact(g.A f i).2 (g.R f e)
 ·have o:=g.A f e;refine⟨Qh o.1 h.size,λN=>?_⟩
  grind
 ·rcases e with e|e
  exact Qh (g.S f e) h.size;exact(B_ r f e).2
 rcases e with e|e
 exact e ▸ g.L;exact g.R f e
def Rt.putRow{w' vr' row' p bs wv' wt fl}(g:Rt w K M rb fb cb n wd sc ct bins size s b c d a)(l:Aa (λf=>f=rb∨ZW c=T f) w w')(m:RB w' rb (L_ fb n n) b (L_ cb n n) wt fl vr' {p with f:=wv'})(v:Ky w' 0 vr' row')(u:ZW vr'=ZW c∨ZW vr'=ZP∨∃f,ZW vr'=T f/\B w.1<=f)(L:Az w' 0 wv' bs)(P:ZW wv'=ZP∨wv'=d):
  Rt w' K (λf=>M f∨ZW vr'=T f) rb fb cb n wd sc ct bins size {s with M:=row',p:=p,f:=bs,g:=wt,A:=fl} b vr' wv' a/\(∀f,(M f∨ZW vr'=T f)->M f∨B w.1<=f)/\Aa M w w':=by
 have⟨R,t⟩:=g.h;have⟨D,q,z,A⟩:=g.u
 have G:∀f,(M f∨ZW vr'=T f)->M f∨B w.1<=f:=by
  rcases u with h|h|h
  exact zo g.W (ZM h)
  ·grind
  grind
 have y:∀{o size n:H} {x Q},ZD w 0 o size x n Q->o≠256->o≠308->∀f,ZW x=T f->¬(f=rb∨ZW c=T f):=λm h r f k e=>by
  rcases e with e|e
  exact Ag m k t h e;exact Zaf m g.or r k e
 refine⟨⟨m,g.x.p l (y g.x C C),v,L,⟨D,l.g q ?_,z,A⟩,λi j=>(g.y i j).p l ?_,g.fs.p l ?_,g.G,λi j=>?_,ZM g.L,ZM g.N,λf e=>ZM (g.R f e),λf e=>ZJ e,λf e=>?_,λi f j e=>ZM (g.P i f j e),λf e=>?_,λf e=>?_⟩,G,l.m (λf _ e=>?_)⟩
 ·intro e
  rcases e with e|e
  exact g.g e;exact Ag g.or e q C X
 ·intro f k e
  rcases e with e|e
  exact Ag (g.y i j) k t C e
  rcases g.D i j with h|h
  ·grind
  grind
 ·intro f k e
  rcases e with e|e
  exact(g.A f k).2 (e ▸ g.L);exact(g.A f k).2 (g.W f e)
 ·rcases u with h|h|⟨S,h,r⟩
  rw[h];exact g.D i j
  ·grind
  cases N:ZW (a i) with
  |none=>exact ZM X
  | some f=>
   refine ZJ λe=>?_;rw[h] at e;injection e with e;have:=(B_ (g.y i j) f N).2;omega
 ·rcases P with h|h
  ·grind
  exact ZM (g.M f (h ▸ e))
 ·have h:=g.A f e;refine⟨Qh h.1 l.size,λN=>?_⟩
  grind
 ·rcases e with e|e
  exact Qh (g.S f e) l.size;exact(B_ v f e).2
 rcases e with e|e
 exact e ▸ g.L;exact g.W f e
def upd{a:Type}(c:H->a)(d:H)(x:a):H->a:=λb=>if b=d then x else c b
def Px{c} b a (x:c):upd b a x a=x:=aD X
def Rn{e b c a}{x:e}(d:a≠c):upd b c x a=b a:=aC d
def Rt.i{w' i v' col'}(g:Rt w K M rb fb cb n wd sc ct bins size s b c d a)(r:i<n)(p:Aa (λf=>f=cb∨ZW (a i)=T f) w w')(Q:∃v:YZ ZY,w'.1[cb]? =T (O_ v 251)/\B v=n/\∀h,h<n->v[h]? =T (upd a i v' h))(a0:Ky w' 0 v' col')(S:ZW v'=ZW (a i)∨∃f,ZW v'=T f/\B w.1<=f):Rt w' K (λf=>M f∨ZW v'=T f) rb fb cb n wd sc ct bins size {s with a:=upd s.a i col'} b c d (upd a i v')/\(∀f,(M f∨ZW v'=T f)->M f∨B w.1<=f)/\Aa M w w':=by
 have⟨a2,R⟩:=g.h;have⟨v,y,_⟩:=g.u;have P:=zo (λf e=>g.P i f r e) S
 have D:∀{A size n:H} {u a1},ZD w 0 A size u n a1->A≠251->A≠308->∀f,ZW u=T f->¬(f=cb∨ZW (a i)=T f):=λG j N f k e=>by
  rcases e with e|e
  exact Ag G k y j e;exact Zaf G (g.y i r) N k e
 have z:∀{q:ZY},(ZW q=ZP∨ZW (a i)=ZP∨ZW q≠ZW (a i))->(∀f,ZW q=T f->f<B w.1)->ZW q=ZP∨ZW q≠ZW v':=w_;have L:∀{q u:ZY},(ZW q=ZP∨ZW q≠ZW u)->ZW u=ZP∨ZW u≠ZW q:=w_;refine⟨⟨g.w.p p ?_,g.x.p p (D g.x C C),g.or.p p ?_,g.v.p p (D g.v C C),Q,λh l=>?_,g.fs.p p ?_,λh t l x W=>?_,λh l=>?_,ZM g.L,ZM g.N,λf e=>ZM (g.R f e),λf e=>ZM (g.W f e),λf e=>ZM (g.M f e),λh f l e=>?_,λf e=>?_,λf e=>?_⟩,P,p.m (λf _ e=>?_)⟩
 ·intro e
  rcases e with e|e
  ·grind
  exact Ag (g.y i r) e R C X
 ·intro f k e
  rcases e with e|e
  exact Ag g.or k y C e
  rcases g.D i r with j|j
  ·grind
  grind
 ·by_cases e:h=i
  ·grind [upd]
  rw[Rn e];show Ky w' 0 (a h) (upd s.a i col' h);rw[Rn e];apply (g.y h l).p p;intro f k m
  rcases m with m|m
  exact Ag (g.y h l) k y C m
  rcases g.G h i l r e with j|j
  ·grind
  grind
 ·intro f k e
  rcases e with e|e
  exact(g.A f k).2 (e ▸ g.N);exact(g.A f k).2 (g.P i f r e)
 ·by_cases o:h=i
  ·subst o;have m:t≠h:=O;rw[Px,Rn m];refine L (z ?_ (λf k=>(B_ (g.y t x) f k).2))
   rcases g.G t h x l m with j|j
   exact ZM j
   grind
  rw[Rn o]
  by_cases m:t=i
  ·subst m;rw[Px];refine z ?_ (λf k=>(B_ (g.y h l) f k).2)
   rcases g.G h t l x o with j|j
   exact ZM j
   grind
  rw[Rn m];exact g.G h t l x W
 ·by_cases o:h=i
  ·subst o;rw[Px];refine L (z ?_ (λf k=>(B_ g.or f k).2))
   rcases g.D h l with j|j
   ·grind
   grind
  rw[Rn o];exact g.D h l
 ·by_cases o:h=i
  subst o;rw[Px] at e;exact ZJ e;rw[Rn o] at e;exact ZM (g.P h f l e)
 ·have j:=g.A f e;refine⟨Qh j.1 p.size,λm=>?_⟩
  grind
 ·rcases e with e|e
  exact Qh (g.S f e) p.size;exact(B_ a0 f e).2
 rcases e with e|e
 exact e ▸ g.N;exact g.P i f r e
end
def Kn{n w e f a K A z}(W:e.guard=ZP) y x o (a4:e.op=.call {callee:=.builtin .append,args:=#[y,x],argTypes:=#[o,o]}) k g (l:TypeInfo) t c s (b0:n.underlying o=T (.slice g))(a0:n.info? g=T l)(b3:l.zero=T t)(a8:l.size=c)(R:l.bytes=s)(b4:B t.cells=c)(a9:0<c) h d q (a7:f.eval y=h)(a5:ZD a k g c h d q) r b u (m:U ZY)(b2:f.eval x=ZH (T r) b u)(a1:F m=b*c)(a3:∀v p,m[v]? =T p->ZV a (r.add v)=T p)(M:∀p∈m,p.oneCell'=Z0)(a2:0<b)(P:d+b<=Y2)(S:(d+b)*s<=140737488355328)(Q:k<=B a.1)(L:∀i j,Hid (ZD j k g c i (d+b) (q++m)/\Y3 a j (ZW h)/\(ZW i=ZW h∨ZW i=T (B a.1)/\Below (B a.1) a j)/\ZD j k g c h d q/\∃G D,i=L_ G (d+b) D)->K (f.put e.dst i) j):if wanted e (yielded w f.tmps)=Z0 then Oper.wp n e f a K A else z:=by
 have b1:wanted e (yielded w f.tmps)=Z0:=(by simp[wanted,W]);rw[aD b1];have⟨i,j,a6,N⟩:=Sc (P:=n) a k o e.type g l t c s b0 a0 b3 a8 R b4 a9 h d q a5 r b u m a1 a3 M a2 P S Q;unfold Oper.wp;simp only[execOp,a4,resolve,invoke,builtin,Sem.run_bind,Sem.run_pure,Result.andThen_ok,map_toArray,map_cons,map_nil,a7,b2,a6];exact L _ _ N
def ZoK:(prog.info? 3).map (λa=>(a.zero,a.size,a.bytes))=T (T (I 0),1,8):=k_
def vr{d h f}{c g:ZY}(i:Y3 (YY (ZN d f)) h (ZW c)){b e}:Aa (λa=>a=b∨ZW c=T a) d (ZO h (J b e) g):=
 ((((Aa.refl (λa=>a=b∨ZW c=T a) d).alloc f).drew).grown i (λ_ a _=>ZJ a)).setCell (p:=(J b e)) (λ_=>ZM X) g
def Zgq{b h:ZT}{d}{f a:ZY}(g:ZW a=ZW f∨ZW a=T (B (YY (ZN b d)).1)/\Below (B (YY (ZN b d)).1) (YY (ZN b d)) h):ZW a=ZW f∨∃e,ZW a=T e/\B b.1<=e:=by
 rcases g with c|⟨c,_⟩
 exact ZM c;exact ZJ ⟨_,c,s_⟩
def Aa.c{c g d h i}(a:Aa c d h)(b:Aa g h i)(n:∀f,g f->c f∨B d.1<=f):Aa c d i:=
 ⟨b.os.T a.os,b.tape.T a.tape,b.output.T a.output,aG a.size b.size,λe k l=>(b.block e (Qh k a.size) (λm=>by rcases n e m with j|j;exact l j;omega)).T (a.block e k l)⟩
def Zf{b:ZT}{d n m a k e:H}{p o q f}(c:ZD b 0 d n p m q)(h:b.1[a]? =T (O_ f e))(j:d≠e):=
 ((Aa.refl (λl=>l=a) b).setCell (p:=(J a k)) (λ_=>X) o).M c (λ_ i g=>Ag c i h j g)
def Ky.a{h d b a}(f:Ky h d b a):∃c e,b=ZH c (F a) e:=by
 rcases f.2 with⟨rfl,g⟩|⟨k,j,i,rfl,_⟩
 exact⟨ZP,0,by rw[g]⟩;exact⟨_,_,X⟩
def be:∀(c:U VS) (b:H),b<F c->∀a,a<3->(Lb c)[b*3+a]? =(Jg (Z c b Ax))[a]?
 |[],b,d=>by simp at d
 |f::c,0,_=>λa e=>by simp only[Lb];rw[show 0*3+a=a by omega,getElem?_append_left (by simpa [Jg] using e)];rfl
 |f::c,b+1,d=>λa e=>by simp only[Lb];rw[getElem?_append_right (by simp[Jg];omega),show(b+1)*3+a-F (Jg f)=b*3+a by simp[Jg];omega];exact be c b (by simpa using d) a e
def Ky.at{c j f q l b}(h:Ky c j (V f q l) b){k}(o:k<F b):∃a,f=T ⟨a,0,ZP⟩/\a<B c.1/\ZV c (J a (k*3))=T (ZR (Z b k Ax).a)/\ZV c (J a (k*3+1))=T (I (Z b k Ax).num)/\ZV c (J a (k*3+2))=T (Q_ (Z b k Ax).f):=by
 have i:=h
 rcases h.2 with⟨g,t⟩|⟨a,u,s,g,_⟩
 omega;injection g with e1 e2 e3;subst e1 e2 e3
 have e:=λd r n p=>by have:=World.ownsRow.cells i (g:=a) X (k*3+d) r ((be b k o d n).T p);have m:((J a 0):Addr).add (k*3+d)=(J a (k*3+d)):=(by unfold Addr.add;split<;>simp_all);rw[m] at this;exact this
 exact⟨a,X,(B_ i a X).2,e 0 _ O X,e 1 _ O X,e 2 _ O X⟩
def Ky.P{c a b L x}(d:ZD c a 308 3 b (F L+1) (Lb L++Jg x)):Ky c a b (L++[x]):=by
 unfold Ky;rw[Yh,Qe]
 simpa [Lb] using d
def Sz(a:RS)(c:H):RS:={a with k:=a.k++[a.g],a:=λb=>if b<c then a.a b++[Z a.M b Ax] else a.a b}
def ZdH a:Sz a 0={a with k:=a.k++[a.g]}:=by unfold Sz;have:(λb=>if b<0 then a.a b++[Z a.M b Ax] else a.a b)=a.a:=(by funext b;rw[aC O]);rw[this]
def ZdG b a:{Sz b a with a:=upd (Sz b a).a a (b.a a++[Z b.M a Ax])}=Sz b (a+1):=by
 unfold Sz
 have:upd (λc=>if c<a then b.a c++[Z b.M c Ax] else b.a c) a (b.a a++[Z b.M a Ax])=λc=>if c<a+1 then b.a c++[Z b.M c Ax] else b.a c:=by
  funext c
  by_cases e:c=a
  subst e;rw[Px,aD O];rw[Rn e]
  by_cases d:c<a
  rw[aD d,aD O];rw[aC d,aC O]
 simp only[this]
def Zov{h:ZT}{e d c i}(m:∃b:YZ ZY,h.1[e]? =T (O_ b 251)/\B b=d/\∀a,a<d->b[a]? =T (i a))(p:c<d){g}:∃b:YZ ZY,(ZO h (J e c) g).1[e]? =T (O_ b 251)/\B b=d/\∀a,a<d->b[a]? =T (upd i c g a):=by
 obtain⟨b,j,k,l⟩:=m;refine⟨_,hs_ h _ c _ _ g j,by simp[k],λa n=>?_⟩
 by_cases f:a=c
 subst f;rw[Array.getElem?_setIfInBounds_self_of_lt O,Px];rw[aH (λo=>f o.s),Rn f];exact l a n
def ZjP b a:(Sz b a).a a=b.a a:=by unfold Sz;simp
section
variable {w:ZT} {K M:H->Prop} {rb fb cb n:H} {wd:H->ZG} {sc ct:H->E} {bins size:E} {s:RS} {c d a:ZY} {b:H->ZY}
def ZdR(L:Rt w K M rb fb cb n wd sc ct bins size s c d a b)(c6:F s.M=n)(e2:n<=4)(e4:F s.k<=200)(c5:∀q,q<n->F (s.a q)<=200):C_ 222 #[P_ rb] w λh w'=>h=ZI (Y5 #[])/\ZgO w K M rb fb cb n wd sc ct bins size {s with k:=s.k++[s.g],a:=λq=>if q<n then s.a q++[Z s.M q Ax] else s.a q,g:=0,A:=ZZ,M:=[]} w':=by
 obtain⟨a5,a6,a9⟩:=L.or.a;rw[c6] at a9;subst a9;obtain⟨_,b7,d4,b8,d5,d6⟩:=L.w.e;have u:=Y L;refine q_ ?_;go_upto_region 0 with fail;refine Af (λw'=>ZV w' _=T _/\ZV w' _=T _) 15 k_ ⟨b7,b8⟩ (λhHeld=>?_);refine G_ ?_;refine on_ 10 λKK hK=>?_;go_simp;refine hK _ _ ⟨by go_keep,by go_keep⟩ (λhHeld=>?_);try simp only[Act.put,sA,sB,sC]
 refine on_ 11 λKK hK=>?_;refine aq_ [I s.g] (ra_ (Y L.x) _) ?_;intro e8 P c1;obtain⟨a0,o,W,_,l,j,rfl⟩:=c1;have x:=RB.grown (w:=ZN (YY w) _) ((hb_ w _ _ u.w.lt).T u.w) o (λh=>Ag u.x h.s u.w C X);have d8:=x.i.2.2.2.2.2.2;have r:=Y (u.k (w':=ZO P _ _) (vW':=V _ _ _) (ws':=s.k++[s.g]) (wt:=s.g) (fl:=s.A) (vr o) (x.k) (Ad.P (Zf a0 x C)) (Zgq W));refine hK _ _ ⟨x.e.2.1,x.e.2.2.2.1⟩ (λhHeld=>?_);refine G_ ?_;refine le_ ?_
 have A:Hid (Rt (ZO P (J rb 1) (L_ l (F s.k+1) j)) K (λk=>M k∨ZW (L_ l (F s.k+1) j)=T k) rb fb cb n wd sc ct bins size (Sz s 0) (L_ l (F s.k+1) j) (V a5 n a6) a b/\(∀k,(M k∨ZW (L_ l (F s.k+1) j)=T k)->M k∨Z3 w.1<=k)/\Aa M w (ZO P (J rb 1) (L_ l (F s.k+1) j))):=(by rw[ZdH];exact r);have d7:=A.1.w.e.2.2.2.2.2;generalize (ZO P) (J rb 1) (L_ l (F s.k+1) j)=f0 at *;have G:∃Q:_,Q=(λk=>M k∨ZW (L_ l (F s.k+1) j)=T k):=⟨_,X⟩;obtain⟨Q,G⟩:=G;rw[<- G] at A;generalize L_ l (F s.k+1) j=d1 at *;go_wp2_with fail
 go_loopw [24] (λf e=>∃(k:H) (g:H->ZY) (R:H->Prop),k<=n/\f=I k/\Hid (Rt e K R rb fb cb n wd sc ct bins size (Sz s k) d1 (V a5 n a6) a g)/\Hid ((∀k,R k->M k∨Z3 w.1<=k)/\Aa M w e)) (m1_ n)
 exact⟨0,b,Q,v_,X,A.1,(G ▸ A.2)⟩;obtain⟨k,a3,R,e1,rfl,g,m⟩:=hrel
 by_cases i:k<n
 ·obtain⟨e6,rfl,e3,c8,c9,d0⟩:=g.or.at (k:=k) (by show k<F s.M;omega);have b5:Hid (Z (Sz s k).M k Ax=Z s.M k _):=rfl;rw[b5] at c8 c9 d0;generalize c7:Z s.M k Ax=e at *;go_upto_region 4 with fail;have a8:Below _ wr (ZN wr (O_ #[ZR e.a,I e.num,Q_ e.f] 308)):=r_;have f:=Y (g.p (Aa.a (S:=λ_=>False) a8) (λ_ _=>id));have a4:=Y (m.2.q a8);have b4:Hid (ZW (a3 k)≠T (Z3 wr.1)):=λh=>p_ (B_ (g.y k i) _ h).2
  have b6:Hid (Z3 wr.1<Z3 (ZN wr (O_ #[ZR e.a,I e.num,Q_ e.f] 308)).1):=show _<_ by simp
  have b1:ZV (ZN wr (O_ #[_,I e.num,Q_ e.f] 308)) _=T (ZR e.a):=M_ 0 _ _ _ hn_;have b2:ZV (ZN wr (O_ #[ZR e.a,_,Q_ e.f] 308)) _=T (I e.num):=M_ 1 _ _ _ hn_;have b3:ZV (ZN wr (O_ #[ZR e.a,I e.num,_] 308)) _=T (Q_ e.f):=M_ 2 _ _ _ hn_;have e0:=c5 k i;generalize (ZN wr) (O_ #[ZR e.a,I e.num,Q_ e.f] 308)=y at *;have d2:=f.w.e.2.2.1;have d3:ZV y (J cb k)=T (a3 k):=by obtain⟨t,v,_,z⟩:=f.u;exact(M_ k _ _ _ v).T (z k i)
  refine Af (λw'=>ZV w' _=T _/\ZV w' _=T _/\ZV w' _=T _/\ZV w' _=T _/\ZV w' _=T _) 18 k_ ⟨d2,d3,b1,b2,b3⟩ (λhHeld=>?_);refine G_ ?_;refine on_ 15 λKK hK=>?_;go_simp;refine hK _ _ ⟨by go_keep,by go_keep,by go_keep,by go_keep,by go_keep⟩ (λhHeld=>?_);try simp only[Act.put,sA,sB,sC]
  refine on_ 16 λKK hK=>?_;refine aq_ (Jg e) (ra_ (by have:=f.y k i;rw[ZjP] at this;exact this) _) ?_ (h1:=by simp[Jg,oneCell']);intro e9 b0 c2;obtain⟨a0,o,W,_,e7,e5,rfl⟩:=c2;have c4:∃t:YZ ZY,b0.1[cb]? =T (O_ t 251)/\Z3 t=n/\∀a2,a2<n->t[a2]? =T (a3 a2):=by obtain⟨t,v,D,z⟩:=f.u;refine⟨t,?_,D,z⟩;rw[o.block cb (by simp;have:=f.S cb f.N;omega) (λh=>Ag (f.y k i) h.s v C X)];exact(hc_ (f.S _ f.N)).T v
  obtain⟨c0,D,b9,a7⟩:=c4;have d9:=λN=>R_ N _ _ D;have c3:=b6.out;have S:=λN=>(cb_ (w:=ZN (YY y) _) (a:=(J (Z3 wr.1) N)) (o.block _ t_ (λh=>b4 h.s))).T (Below.cell (B:=Z3 y.1) (w:=y) (p:=(J (Z3 wr.1) N)) ((y_.drew).alloc s_ _) c3);have r:=Y (f.i (w':=ZO b0 _ _) (v':=V _ _ _) (col':=s.a k++[e]) i (vr o) (Zov ⟨c0,D,b9,a7⟩ i) (Ky.P (Zf a0 D C)) (Zgq W));rw[<- c7,ZdG] at r;refine hK _ _ ⟨((RB.grown (w:=ZN (YY y) _) ((hc_ f.w.lt).T f.w) o (λh=>Ag (f.y k i) h.s f.w C X)).e.2.2.1),((M_ k _ _ _ D).T (a7 k i)),(S _).T b1,(S _).T b2,(S _).T b3⟩ (λhHeld=>?_);refine G_ ?_;refine le_ ?_;refine J_ ?_
  exact⟨k+1,_,_,O,g_,r.1,λz a1=>(by rcases r.out.2.1 z a1 with v|v;exact m.1 z v;exact ZJ (p_ a4.size)),a4.c r.2.2 m.1⟩
 obtain rfl:k=n:=O;have f:=g.w.e;have y:=g.w.i.2.2.2.2.2.2;obtain⟨_,_,_,f,h,t⟩:=f
 have e:=Y (g.putRow (w':=ZO (ZO (ZO wr _ _) _ _) _ _) (vr':=N_) (row':=[]) (p:=s.p) (bs:=s.f) (wv':=a) (wt:=0) (fl:=ZZ)
  ((((Aa.refl _ wr).setCell (p:=(J rb 3)) (λ_=>ZM X) _).setCell (p:=(J rb 4)) (λ_=>ZM X) _).setCell (p:=(J rb 5)) (λ_=>ZM X) _)
  (((g.w.h 0).j ZZ).g _) (Ky.nil) (ZJ (ZM X))
  (Zf (Zf (Zf g.v g.w C) (g.w.h 0) C) ((g.w.h 0).j ZZ) C) (ZJ X))
 go_wp2;go_end0;refine⟨X,⟨_,⟨_,_,_,_,e.1⟩,λz a1=>?_⟩,m.2.c e.2.2 m.1⟩
 rcases e.out.2.1 z a1 with v|v
 exact m.1 z v;exact ZJ (p_ m.2.size)
end
section
variable {w w' W:ZT} {G:H->Prop} {t b:ZC} {db i:H} {s:SS}
def tq.P{d c}(e:Aa G w W)(a:tq G db b i d W c w'):tq G db b i d w c w':=⟨a.1,a.2.1,e.T a.2.2⟩
def Aa.d{c a b e}(f:Aa c w W)(d:D_ w a b e)(g:¬c a):D_ W a b e:=(cb_ (w:=w) (a:=J a b) (f.block _ (lt_ d) g)).T d
def Oq.zero{a}(f:Oq w G db b s i):Oq w G db a s 0:=by obtain⟨e,c,g,d,h,-⟩:=f;exact⟨e,c,g,d,h,O,O⟩
def Oq.e{G':H->Prop}(d:Oq w G db b s 0)(k:∀b a c,G b->H_ w b a c->H_ W b a c)(j:∀e,e<B w.1->G e->G' e):Oq W G' db b s 0:=by obtain⟨h,f,l,g,m,-⟩:=d;exact⟨h,f,l,g,m.c (λb a c i d _=>k b a c i d) j,O,O⟩
def Oq.a(g:Oq w G db b s i)(L:0<s.l):∃c,s.l<=9223372036854775807/\D_ w db 6 (P_ c)/\D_ w c 0 (I s.l)/\(∀k,YT w (J c k)=ZZ)/\c≠db/\Oq (ZO w (J c 0) (I (s.l-1))) G db b (On s) i/\Aa G w (ZO w (J c 0) (I (s.l-1))):=by
 obtain⟨y,q,N,P,a,z,A⟩:=g
 rcases a.f with⟨d,_⟩|⟨_,c,o,rfl,n,D,h⟩
 omega;have m:=tp_ w c 0 (I (s.l-1))
 have j:∀{b e l},H_ w b e l->l≠199->H_ _ b e l:=λf Q=>m.g f λd=>by subst d;have:=h.s.T f;grind
 have d:On s={s with l:=s.l-1}:=aD L;refine⟨c,a.z.2.2,n_ 6 a.d,n_ 0 h,λk=>R_ k _ _ h,λd=>?_,d ▸ ⟨y,q,N,_,⟨j a.d C,a.g,a.a.c (λb e _ _ f=>j f C) λ_ _ g=>g,a.y.c (λb e _ _ f=>j f C) λ_ _ g=>g,ZJ ⟨?_,c,o,X,n,D,fm 0 h⟩,a.z.1,a.z.2.1,?_⟩,λp e=>?_,A⟩,m.m λo _ d=>d ▸ n⟩;subst d;have:=h.s.T a.d;grind;show 0<=s.l-1;omega;have:=a.z.2.2;show s.l-1<=_;omega;obtain⟨M,r,t,u,v,x⟩:=z p e;exact⟨M,r,t,u,v,j x C⟩
def Po{o m n}(g:Oq w G db b s i)(z:∀W,Sem.run Y8 (callFunc o (m++n)) W=.ok (.enter o (m++n)) W)(j:∀W,Oq W G db b (On s) i->Aa G w W->C_ o (m++n) W (tq G db b i (Ze b i (On s)) W)):C_ 110 #[P_ db,YX (.func o) m n] w (tq G db b i (stS b i s) w):=by
 by_cases h:s.l=0
 ·rw[show stS b i s=_ from aD h];obtain⟨y,t,A,x,a,-⟩:=g
  rcases a.f with⟨f,_⟩|⟨_,u,L,rfl,D,p,d⟩
  omega;rw[h] at d;have r:=n_ 6 a.d;have v:=n_ 0 d;have q:=n_ 1 d;have c:=Y (vo a p);clear a d j z h;refine q_ ?_;go_wp2_with fail
  apply c.m;rintro f l ⟨rfl,a,e⟩;have k:K (tq G db b i (6,ez s) w _ l):=⟨X,⟨_,_,_,_,a,s_,s_⟩,e⟩;clear a e c;go_wp2;go_ret;exact k
 rw[show stS b i s=_ from aC h]
 by_cases p:0<s.l
 ·obtain⟨u,D,r,v,y,A,a,e⟩:=g.a p;have c:=Y (j _ a e);have t:=Y e;have x:(s.l==0)=ZZ:=aO h;clear g j a e;generalize Ze b i (On s)=q at *;generalize s.l=L at *;refine q_ ?_;go_wp2_with fail
  apply c.m;rintro f l ⟨rfl,d⟩;have k:K (tq G db b i q w _ l):=tq.P t ⟨X,d⟩;clear c d;go_wp2;go_ret;exact k
 obtain⟨y,t,A,x,a,d⟩:=id g
 rcases a.f with⟨f,rfl⟩|⟨f,_⟩
 ·have r:=n_ 6 a.d;have e:On s=s:=aC p;rw[e] at j ⊢;have c:=Y (j w g (.refl _ _));clear a g d j h p f e;generalize Ze b i s=q at *;refine q_ ?_;go_wp2_with fail
  apply c.m;rintro f l ⟨rfl,d⟩;have k:K (tq G db b i q w _ l):=⟨X,d⟩;clear c d;go_wp2;go_ret;exact k
 omega
def Zim{d e a}(l:D_ w d 0 (P_ db))(m:D_ w e 0 (Q_ b))(g:C_ 105 #[P_ db,Q_ b] w (tq G db b i a w)):C_ 104 #[P_ d,P_ e] w (tq G db b i a w):=by
 have c:=Y g;clear g;refine q_ ?_;go_wp2_with fail
 apply c.m;rintro k j ⟨rfl,f⟩;have h:K (tq G db b i a w _ j):=⟨X,f⟩;clear c f;go_wp2;go_ret;exact h
def fnV(db a b:H):H->ZY
 |0=>YX (.func 106) #[P_ db] #[]
 |1=>YX (.func 104) #[] #[P_ a,P_ b]
 |2=>YX (.func 107) #[P_ db] #[]
 |3=>YX (.func 108) #[P_ db] #[]
 |_=>YX (.func 109) #[P_ db] #[]
def Zin{e f}(o:i<5)(d:Oq w G db b s i)(l:¬G e)(m:¬G f)(j:D_ w e 0 (P_ db))(k:D_ w f 0 (Q_ b))(n:∀h,B w.1<=h->G h)(g:ZK b<=1000000):C_ 110 #[P_ db,fnV db e f i] w (tq G db b i (stS b i s) w):=by
 rcases(show i=0∨i=1∨i=2∨i=3∨i=4 by omega) with rfl|rfl|rfl|rfl|rfl
 exact Po d (λW=>k_) λW a c=>ZdK a (n _ c.size);exact Po d (λW=>k_) λW a c=>Zim (c.d j l) (c.d k m) (ZiN a g);exact Po d (λW=>k_) λW a c=>ZlI a;exact Po d (λW=>k_) λW a c=>ZeR a g;exact Po d (λW=>k_) λW a c=>ti a
def svS(b:ZC)(s:SS):E×SS:=if s.p=Z0 then(5,s) else Sh b 5 s
def Zx(G:H->Prop)(db:H)(a:E×SS)(w:ZT)(b:Ending)(w':ZT):Prop:=b=ZI (I a.1)/\Oq w' G db ⟨#[]⟩ a.2 0/\Aa G w w'
def Yf(a:i<5):Sh b (5-i) s=if(stS b i s).1=0 then Sh b (4-i) (stS b i s).2 else stS b i s:=by rw[show 5-i=4-i+1 by omega,Sh,show 4-(4-i)=i by omega]
def Zg9(d:Oq w G db b s 0)(M:∀a,B w.1<=a->G a)(a2:ZK b<=1000000):C_ 63 #[P_ db,Q_ b] w (Zx G db (svS b s) w):=by
 have⟨a7,a5,b1,a6,S,_⟩:=id d;have v:=n_ 1 S.d;have a9:=lt_ v;have o:=K_ d M;have⟨l,h⟩:=ez_ (svS b s);rw[h.out];clear d S M
 cases u:s.p with
 | true=>
  rw[u] at v;have n:K (Zx G db l w (ZI (I 5)) (ZN (ZN w (O_ #[P_ db] 124)) (O_ #[Q_ b] 9))):=(by have c:E_ w (ZN (ZN w (O_ #[P_ db] 124)) (O_ #[Q_ b] 9)):=r_.alloc s_ _;rw[show l=(5,s) from h.out.s.T (aD u)];exact⟨X,(o.1.e (λ_ _ _ _=>ab_ c) λ_ _ d=>d).zero,.a c⟩);clear h o;refine q_ ?_;go_wp2;go_ret;exact n
 | false=>
  rw[u] at v;have h:K (Sh b 5 s=l):=(aC (by simp[u])).s.T h.out;refine q_ ?_;go_wp2_with fail
  generalize P:ZN (ZN (ZN w (O_ #[P_ db] 124)) (O_ #[Q_ b] 9)) (O_ #[YX (.func 106) #[P_ db] #[],YX (.func 104) #[] #[P_ (B w.1),P_ (B w.1+1)],YX (.func 107) #[P_ db] #[],YX (.func 108) #[P_ db] #[],YX (.func 109) #[P_ db] #[]] 77)=g
  have k:K (B g.1=B w.1+3/\E_ w g/\D_ g (B w.1) 0 (P_ db)/\D_ g (B w.1+1) 0 (Q_ b)/\∀i,i<5->D_ g (B w.1+1+1) i (fnV db (B w.1) (B w.1+1) i)):=by
   subst P;refine⟨s_,(r_.alloc s_ _).alloc t_ _,by simp[go_sem],by simp[go_sem],λi a3=>?_⟩
   rcases(show i=0∨i=1∨i=2∨i=3∨i=4 by omega) with rfl|rfl|rfl|rfl|rfl<;>simp[go_sem,fnV]
  clear P;have L:K (Oq g (λa=>G a/\a<B w.1∨B w.1+3<=a) db b s 0):=o.1.e (λ_ _ _ _=>ab_ k.2.1) λa a0 a1=>ZM ⟨a1,a0⟩;go_loopw [25] (λe c=>∃i:H,e=I i/\i<=5/\K (∃f,Oq c (λa=>G a/\a<B w.1∨B w.1+3<=a) db b f i/\Sh b (5-i) f=l/\Aa (λa=>G a/\a<B w.1∨B w.1+3<=a) g c)) (m1_ 5)
  exact⟨0,X,O,s,L,h,.refl _ _⟩;obtain⟨i,rfl,a3,A⟩:=hrel;have D:K (∀r,Aa (λa=>G a/\a<B w.1∨B w.1+3<=a) g r->Aa G w r):=λr c=>(Aa.a k.2.1).c c λa m=>m.elim (λd=>ZM d.1) λd=>ZJ O
  by_cases x:i<5
  ·obtain⟨f,e,y,c⟩:=A;have Q:=c.d k.2.2.1 O;have W:=c.d (k.2.2.2.2 i x) O;have a4:=c.size;have z:=Y (Zin x e O O Q (c.d k.2.2.2.1 O) (λa j=>ZJ (by have:=k.1;omega)) a2);have N:=Y c;rw[Yf x] at y;have j:=Y y;have a8:=F_ i 5;clear e y c a4 L;generalize fnV db (B w.1) (B w.1+1) i=r at *;generalize stS b i f=q at *;go_wp2_with fail
   apply z.m;rintro m R ⟨rfl,e,c⟩;have t:=Y (N.T c);clear z c N W Q
   by_cases p:q.1=0
   ·have n:K (∃f,Oq R (λa=>G a/\a<B w.1∨B w.1+3<=a) db b f (i+1)/\Sh b (5-(i+1)) f=l/\_):=⟨q.2,by rw[aD p] at e;exact e,by rw[aD p] at j;rw[show 5-(i+1)=4-i by omega];exact j,t⟩;clear e j t;rw[p];refine J_ ?_;exact⟨i+1,g_,O,n⟩
   have n:K (Zx G db l w (ZI (I q.1)) R):=(by rw[aC p] at j;rw[<- j.out];exact⟨X,Oq.e (G':=G) e.zero (λ_ _ _ _ d=>d) λa _ m=>m.elim (·.1) λd=>o.2 _ O,D _ t⟩);have b0:(q.1==0)=ZZ:=aO p;clear e j t;generalize q.1=b2 at *;go_wp2;go_ret;exact n
  obtain rfl:i=5:=O;obtain⟨f,e,rfl,c⟩:=A;have n:K (Zx G db (0,f) w _ wr):=⟨X,Oq.e (G':=G) e.zero (λ_ _ _ _ d=>d) λa _ m=>m.elim (·.1) λd=>o.2 _ O,D _ c⟩;clear e c;go_wp2;go_ret;exact n
end
def ZdT(x b:E)(a:SS):E×SS:=if x<0∨b<0 then(1,a) else if a.p=Z0 then(5,a) else if x=0 then(0,ez a) else(0,{a with l:=x})
def Ze0(a:SS):E×SS:=if a.p=Z0 then(0,{a with p:=ZZ}) else(1,a)
def cg(a:SS):ZC×E:=if a.p=Z0 then(⟨#[]⟩,5) else if a.h=Z0 then(a.t,0) else(⟨#[]⟩,4)
section
variable {w w' W:ZT} {G:H->Prop} {t b:ZC} {db i:H} {s:SS} {x y:E}
def Zx.c{z}(a:Oq w G db b s i):Zx G db (z,s) w (ZI (ZX ZQ z)) w:=⟨X,a.zero,.refl _ _⟩
def Zg7(f:Oq w G db b s 0)(q:G (B w.1))(t:x<=9223372036854775807):C_ 65 #[P_ db,I x,I y] w (Zx G db (ZdT x y s) w):=by
 unfold ZdT;have⟨o,m,v,A,a,_⟩:=id f;have h:=n_ 1 a.d;have l:=n_ 6 a.d;have n:=λu=>R_ u _ _ a.d;have r:=lt_ h;have d:=K_ f a;clear f a
 by_cases f:x<0∨y<0
 ·rw[aD f];have c:=Y (Zx.c (z:=1) d.1);clear d h
  by_cases p:x<0
  all_goals
   refine q_ ?_;go_wp2;go_ret;exact c
 rw[aC f];have p:¬x<0:=O;have D:¬y<0:=O
 by_cases g:s.p=Z0
 ·rw[aD g];rw[g] at h;have c:=Y (Zx.c (z:=5) d.1);clear d g;refine q_ ?_;go_wp2;go_ret;exact c
 rw[aC g];rw[eq_false_of_ne_true g] at h;clear g
 by_cases i:x=0
 ·rw[aD i];subst x;have j:=Y (vo (k:=y) d.2 O);clear d l n;refine q_ ?_;go_wp2_with fail
  apply j.m;rintro k z ⟨rfl,a,e⟩;have c:K (Zx G db (0,ez s) w _ z):=⟨X,⟨_,_,_,_,a,O,O⟩,e⟩;clear j a e;go_wp2;go_ret;exact c
 rw[aC i];have i:(x==0)=ZZ:=aO i;have a:=d.2.q (w':=ZN w (O_ #[I x,I y] 199)) r_;have e:=((Aa.refl (λj=>j=db) (ZN w (O_ #[I x,I y] 199))).put 6 (P_ (B w.1)))
 have c:K (Zx G db (0,{s with l:=x}) w (ZI (ZX ZQ 0)) (ZO (ZN w (O_ #[I x,I y] 199)) (J db 6) (P_ (B w.1)))):=
  ⟨X,⟨o,m,v,_,a.put (s':={s with l:=x}) e (fm 6 a.d) a.a a.y (ZJ ⟨by show 0<=x;omega,_,y,X,q,O,hn_⟩) ⟨a.z.1,a.z.2.1,t⟩,O,O⟩,(Aa.a r_).T (e.m λj _ k=>k ▸ a.g)⟩
 rw[setCell_alloc_past _ _ _ _ r] at c;clear d a e;refine q_ ?_;go_wp2;go_ret;exact c
def ZdN(g:Oq w G db b s 0):C_ 66 #[P_ db] w (Zx G db (Ze0 s) w):=by
 unfold Ze0;have⟨k,i,m,o,d,_⟩:=id g;have h:=n_ 1 d.d;have n:=λl=>R_ l _ _ d.d;have a:=K_ g d;clear g d
 by_cases c:s.p=Z0
 ·rw[aD c];rw[c] at h;have f:=(tp_ w db 1 (ZR ZZ));have e:K (Zx G db (0,{s with p:=ZZ}) w (ZI (ZX ZQ 0)) _):=⟨X,⟨k,i,m,_,a.2.put f (fm 1 a.2.d) a.2.a a.2.y a.2.f a.2.z,O,O⟩,f.m λp _ j=>j ▸ a.2.g⟩;clear a f c;refine q_ ?_;go_wp2;go_ret;exact e
 rw[aC c];rw[eq_false_of_ne_true c] at h;have e:=Y (Zx.c (z:=1) a.1);clear a c;refine q_ ?_;go_wp2;go_ret;exact e
def Zg8(f:Oq w G db b s 0):C_ 64 #[P_ db] w (V_ (Y5 #[YW (cg s).1,ZX ZQ (cg s).2]) w):=by
 unfold cg;have⟨n,j,o,m,d,_⟩:=f;have e:=n_ 1 d.d;have i:=n_ 3 d.d;have h:=d.a;clear f d
 by_cases a:s.p=Z0
 ·rw[aD a];rw[a] at e;clear a h;refine q_ ?_;go_wp2;go_ret2
  exact⟨X,X⟩
 rw[aC a];rw[eq_false_of_ne_true a] at e;clear a
 rcases h with⟨c,rfl,_⟩|⟨c,k,rfl,_,g⟩
 ·rw[aC (by simp[c])];clear c;refine q_ ?_;go_wp2;go_ret2
  exact⟨X,X⟩
 rw[aD c];have l:=n_ 0 g;clear c g;refine q_ ?_;go_wp2;go_ret2
 exact⟨X,X⟩
end
end Go.Proofs.YtfcgnpchbcmdeaaGreat
