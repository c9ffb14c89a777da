import Derived.Test.YtfcgnpchbcmdeaaGreatZsad
open Option renaming some->T,none->ZP,some->Z2
open List renaming length->F,take->ZU,replicate->Y6,getD->Z
open _root_ renaming Nat->H,Int->E,List->U,Bool->ZG,rfl->X,List->Z1,Array->YZ,Option->Y0,ByteArray->ZC
open Go renaming Value->ZY,World->ZT,maxLen->Y2,madeCells->YV,strOfNums->ZB
open Go.Value renaming int->ZX,ownBlock->ZW,slice->ZH,pointer->Y7,agg->Y9,bool->ZR,tuple->Y5,string->YW
open Go.IntKind renaming i64->ZQ
open Go.World renaming ownsRow->ZD,grownBy->Y3,alloc->ZN,drew->YY,setCell->ZO,cell?->ZV,frozen?->YT,drewN->Y1
open Or renaming inl->ZM,inr->ZJ
open Decidable renaming decide->ZE
open Bool renaming true->Z0,false->ZZ
open Array renaming size->B,setIfInBounds->YS
open Go.Ending renaming returned->ZI
open ByteArray renaming size->ZK
open Go.Proofs.Tryz renaming prog->Y8
open Go.Obj renaming cells->YU
open Int renaming toNat->ZL
namespace Go.Proofs.YtfcgnpchbcmdeaaGreat
set_option linter.all false
set_option maxRecDepth 100000
set_option maxHeartbeats 4000000
open Go.RowKit List Nat Go.World Go.Proofs.Tryz Go.Value Go.IntKind Go.Lib Go.Region
def Zkv:(prog.info? 3).map (λa=>(a.zero,a.size,a.bytes))=T (T (I 0),1,8):=k_
def Ad(d:ZT)(b:H)(c:ZY)(a:U E):Prop:=ZD d b 3 1 c (F a) (a.map (ZX ZQ))
def Ad.nil{b a}:Ad b a (N_) []:=ownsRow_nil b a 3 1
def Ad.q{e w' base d f}(b:Ad e base d f)(j:E_ e w'):Ad w' base d f:=by
 refine⟨b.1,?_⟩
 rcases b.2 with l|⟨a,g,h,i,k,c,m⟩
 exact ZM l;exact ZJ ⟨a,g,h,i,k,(j.block a (Qb c).1).T c,m⟩
def Ad.kept{d e b a f c}(g:Ad d b a f)(h:Y3 d e c)(i:ZW a=ZP∨ZW a≠c):Ad e b a f:=World.ownsRow.kept g h i
def Ad.P{d b c a}{x:E}(e:ZD d b 3 1 c (F a+1) (a.map (ZX ZQ)++[I x])):Ad d b c (a++[x]):=by grind [Ad]
def ZgX(x:E):E:=if 1000000000<x then 1000000000 else x
def ZdC x:Ey x=if ZgX x< -1000000000 then -1000000000 else ZgX x:=by grind [Ey,ZgX]
def ZgS(a:E):ZG:=ZE (a<1∨1000<a)
def ZdD a:Kd a=if ZgS a=Z0 then 1 else a:=by grind [Kd,ZgS]
def Ez(a:U (E×E))(x:E):ZG:=match a.getLast? with
 |none=>Z0
 |some b=>ZE (b.1<x)
def Zhl x:Ez [] x=Z0:=rfl
def Wr b a x:Ez (b++[a]) x=ZE (a.1<x):=by simp[Ez]
def Zkg{b}(g:b.Pairwise λa e=>a.1<e.1){x}(f:Ez b x=Z0):∀a∈b,a.1<x:=by
 rcases eq_nil_or_concat b with c|⟨h,a,c⟩
 subst c;simp;rw[concat_eq_append] at c;subst c;rw[Wr] at f;simp at f;intro e d
 rcases mem_append.1 d with d|d
 have:=(pairwise_append.1 g).2.2 e d a s_;omega
 grind
structure Kb(d c:U (E×E)):Prop where
 f:c.Pairwise λa b=>a.1<b.1
 e:∀a∈c,∃b∈d,b.1=a.1
 g:∀a∈c,a.2=Qj d a.1
 A:∀b∈d,Ez c b.1=ZZ->∃a∈c,a.1=b.1
def Kb.nil b:Kb b []:=⟨s_,s_,s_,λc _ a=>by rw[Zhl] at a;cases a⟩
structure Kx(b e:U (E×E))(c)(f)(d g:E):Prop where
 j:f=ZZ->d=0/\g=0/\∀a∈ZU c b,Ez e a.1=ZZ
 l:f=Z0->(∃a∈ZU c b,Ez e a.1=Z0/\a.1=d)/\(∀a∈ZU c b,Ez e a.1=Z0->d<=a.1)/\g=Qj (ZU c b) d
def Kx.h b a:Kx b a 0 ZZ 0 0:=⟨(λ_=>⟨X,X,s_⟩),(λc=>by cases c)⟩
def Kx.a{b g c h k n}(d:Kx b g c h k n) m (j:Ez g b[c].1=Z0)(o:h=ZZ∨b[c].1<k):Kx b g (c+1) Z0 b[c].1 b[c].2:=by
 refine⟨(λd=>by cases d),λ_=>?_⟩;simp only[Qi m];refine⟨⟨b[c],mem_append.2 (ZJ s_),j,X⟩,λe a i=>?_,?_⟩
 ·rcases mem_append.1 a with a|a
  ·cases f:h with
   |false=>have:=(d.j f).2.2 e a;grind
   | true=>
    have:=(d.l f).2.1 e a i
    grind
  grind
 rw[Nr,qt (λe a l=>?_)];simp[Qj];have i:Ez g e.1=Z0:=l ▸ j
 cases f:h with
 |false=>have:=(d.j f).2.2 e a;grind
 | true=>
  have:=(d.l f).2.1 e a i
  grind
def Kx.c{a e b d f}(c:Kx a e b Z0 d f) k (i:a[b].1=d):Kx a e (b+1) Z0 d (f+a[b].2):=by
 have⟨⟨m,l,j,g⟩,n,h⟩:=c.l X;refine⟨(λc=>by cases c),λ_=>?_⟩;simp only[Qi k];refine⟨⟨m,mem_append.2 (ZM l),j,g⟩,λq p o=>?_,?_⟩
 ·grind
 rw[Nr,h];simp[Qj,i]
def Kx.d{a c b d f i}(g:Kx a c b d f i) m (r:d=ZZ->Ez c a[b].1=ZZ)(o:d=Z0->a[b].1≠f/\(Ez c a[b].1=Z0->f<=a[b].1)):Kx a c (b+1) d f i:=by
 refine⟨λe=>?_,λe=>?_⟩
 ·have⟨j,k,h⟩:=g.j e
  grind [Qi]
 have⟨⟨p,n,l,j⟩,k,h⟩:=g.l e;simp only[Qi m];refine⟨⟨p,mem_append.2 (ZM n),l,j⟩,λt s q=>?_,?_⟩
 ·grind
 rw[Nr,h];simp[Qj,(o e).1]
def Kb.h{a c h i}(b:Kb a c)(g:Kx a c (F a) ZZ h i):Ej a c:=by have⟨_,_,d⟩:=g.j X;rw[aI x_] at d;exact⟨b.f,b.e,λf e=>b.A f e (d f e),b.g⟩
def Kb.P{e d f h}(c:Kb e d)(r:Kx e d (F e) Z0 f h):Kb e (d++[(f,h)]):=by
 have⟨⟨s,q,o,m⟩,i,n⟩:=r.l X;rw[aI x_] at q i n;refine⟨?_,?_,?_,?_⟩;rw[pairwise_append];refine⟨c.f,s_,λg j b a=>?_⟩;simp at a;rw[a];have:=Zkg c.f o g j;simp;omega
 ·intro p a
  rcases mem_append.1 a with a|a
  exact c.e p a
  grind
 ·intro p a
  rcases mem_append.1 a with a|a
  exact c.g p a
  grind
 intro g l k;rw[Wr] at k;simp at k
 cases j:Ez d g.1 with
 |false=>obtain⟨p,a,m⟩:=c.A g l j;grind
 |true=>have:=i g l j;exact⟨(f,h),s_,t_⟩
def Kb.y{d a}(f:Kb d a):F a<=F d:=by
 have h:∀(a:Z1 (E×E)) (U:Z1 E),(a.Pairwise λb g=>b.1<g.1)->(∀b∈a,b.1∈U)->F a<=F U:=by
  intro a
  induction a with
  |nil=>simp
  | cons e a k=>
   intro U c g;rw[pairwise_cons] at c;have l:=g e s_
   have m:=k _ c.2 (λb i=>by
    have j:b.1≠e.1:=w_
    exact(mem_erase_of_ne j).2 (g b (by simp[i])))
   grind
 have:=h a (d.map (·.1)) f.f (λb c=>by obtain⟨g,i,e⟩:=f.e b c;grind)
 simpa using this
def Bl(b a:ZY):Prop:=ZW b=ZP∨ZW a=ZP∨ZW b≠ZW a
def Bl.s{c b}(a:Bl c b):Bl b c:=by
 rcases a with a|a|a
 exact ZJ (ZM a);exact ZM a;exact ZJ (ZJ (Ne.s a))
def Bl.a{c b}(a:Bl c b):ZW b=ZP∨ZW b≠ZW c:=by
 rcases a with a|a|a
 ·grind
 exact ZM a
 grind
def Bl.b{f g e c b k}(h:Bl e b)(i:Ad f g b k)(a:ZW c=ZW e∨ZW c=T (B f.1)):Bl c b:=by
 rcases a with a|a
 unfold Bl;rw[a];exact h
 cases d:ZW b with
 |none=>exact ZJ (ZM d)
 | some j=>
  have:=(B_ i j d).2;refine ZJ (ZJ ?_)
  grind
structure Aa(c:H->Prop)(a w':ZT):Prop where
 os:w'.os=a.os
 tape:w'.tape=a.tape
 output:w'.output=a.output
 size:B a.1<=B w'.1
 block:∀b,b<B a.1->¬c b->w'.1[b]? =a.1[b]?
theorem Aa.refl b a:Aa b a a:=⟨X,X,X,x_,λ_ _ _=>X⟩
def Aa.T{c d e f}(a:Aa c d e)(b:Aa c e f):Aa c d f:=
 ⟨b.os.T a.os,b.tape.T a.tape,b.output.T a.output,aG a.size b.size,λi g h=>(b.block i (Qh g a.size) h).T (a.block i g h)⟩
def Aa.m{d S' c e}(b:Aa d c e)(i:∀a,a<B c.1->d a->S' a):Aa S' c e:=
 ⟨b.os,b.tape,b.output,b.size,λa f h=>b.block a f (λg=>h (i a f g))⟩
def Aa.b{d c e b}(a:Aa d c e)(i:b<=B c.1)(k:∀f,d f->b<=f):Below b c e:=
 ⟨a.os,a.tape,a.output,a.size,λg j=>a.block g O (λh=>w_)⟩
def Aa.a{S b c}(a:E_ b c):Aa S b c:=⟨a.os,a.tape,a.output,a.size,λe d _=>a.block e d⟩
def Aa.q{a b c d}(e:Aa a b c)(f:E_ c d):Aa a b d:=e.T (.a f)
def Aa.alloc{a b c}(d:Aa a b c) e:Aa a b (ZN c e):=d.q r_
def Aa.drew{a b c}(d:Aa a b c):Aa a b (YY c):=d.q y_.drew
def Aa.setCell{S b c}(a:Aa S b c){p}(i:p.block<B b.1->S p.block) h:Aa S b (ZO c p h):=
 ⟨a.os,a.tape,a.output,by have:=a.size;simpa [ZO] using this,λg e f=>(Below.heap_setCell c p h g (λd=>f (d ▸ i (d ▸ e)))).T (a.block g e f)⟩
def Aa.h c a d e f g:Aa (λb=>b=a) c (ZO (ZO (ZO (ZO c (J a 0) d) (J a 1) e) (J a 2) f) (J a 3) g):=
 ((((Aa.refl (λb=>b=a) c).setCell (p:=(J a 0)) (λ_=>X) _).setCell (p:=(J a 1)) (λ_=>X) _).setCell (p:=(J a 2)) (λ_=>X) _).setCell (p:=(J a 3)) (λ_=>X) _
def Aa.grown{d e g h j}(b:Aa d e g)(c:Y3 g h j)(l:∀a,j=Z2 a->a<B e.1->d a):Aa d e h:=
 ⟨c.os.T b.os,c.tape.T b.tape,c.output.T b.output,aG b.size c.size,λa f i=>(c.block a (Qh f b.size) (λk=>i (l a k.s f))).T (b.block a f i)⟩
def Aa.M{c d e}(p:Aa c d e){f g l b k m}(i:ZD d f g l b k m)(s:∀j,ZW b=Z2 j->¬c j):ZD e f g l b k m:=by
 refine⟨i.1,?_⟩
 rcases i.2 with r|⟨a,n,o,rfl,q,h,t⟩
 exact ZM r;exact ZJ ⟨a,n,o,X,q,(p.block a (Qb h).1 (s a X)).T h,t⟩
def Aa.g{S b c}(f:Aa S b c){a e}(d:b.1[a]? =Z2 e)(g:¬S a):c.1[a]? =Z2 e:=(f.block a (Qb d).1 g).T d
def Hx(h:ZT)(i:E)(g:ZY):Prop:=∃d c f,g=ZH d c f/\c<=Y2/\(c=0∨∃e a,d=T ⟨e,0,ZP⟩/\h.1[e]? =T (O_ a 98)/\∀b,b<c->a[b*4]? =T (I i)/\a[b*4+1]? =T (I 0)/\a[b*4+2]? =T (I 0)/\a[b*4+3]? =T (I 0))
def Lz(a:E):Cd:=⟨a,0,0,0⟩
def Yj{d}:∀c b,b<c->∀a,a<4->(flat (Y6 c (Lz d)))[b*4+a]? =(Es (Lz d))[a]?
 |0,b,f=>O
 |c+1,0,_=>λa e=>by grind [flat,Es]
 |c+1,b+1,f=>λa e=>by simp only[replicate_succ,flat];rw[getElem?_append_right (by simp[Es];omega),show(b+1)*4+a-F (Es (Lz d))=b*4+a by simp[Es];omega];exact Yj c b O a e
def sa{a c b}:flat (Y6 c (Lz a))++flat (Y6 b (Lz a))=flat (Y6 (c+b) (Lz a)):=by rw[<- Cb,replicate_append_replicate]
theorem Hx.of_row{l m e f n b h i g}(r:Ai l m (L_ e b n) (Y6 b (Lz g)))(w:b<=Y2)(x:f<=b)(o:h=T ⟨e,0,ZP⟩):Hx l g (V h f i):=by
 subst o
 rcases r.2 with⟨d,_⟩|⟨u,t,j,d,_,p,_,_,_,s⟩
 ·cases d
 injection d with e1 e2 e3;injection e1 with e1;injection e1 with e1;subst e1;refine⟨_,f,i,X,O,ZJ ⟨e,j,X,p,λk v=>?_⟩⟩
 have c:∀a,a<4->j[k*4+a]? =(Es (Lz g))[a]?:=λa q=>by rw[<- Yj b k O a q,<- s,getElem?_take,aD t_];simp
 exact⟨c 0 O,c 1 O,c 2 O,c 3 O⟩
def Hx.nil{c d a b}:Hx c d (V a 0 b):=⟨a,0,b,X,by simp[Y2],ZM X⟩
def Hx.D{d f c b e}(a:Ai d f c (Y6 b (Lz e)))(l:b<=Y2):Hx d e c:=by
 have m:=a
 rcases a.2 with⟨rfl,_⟩|⟨j,g,h,i,_,k,_,_,_,n⟩
 exact .nil
 grind [of_row]
def Hx.p{S d w' j c}(l:Hx d j c)(p:Aa S d w')(o:∀b a,ZW c=T b->d.1[b]? =T (O_ a 98)->¬S b):Hx w' j c:=by obtain⟨k,i,e,rfl,h,n|⟨f,a,rfl,g,m⟩⟩:=l;exact⟨k,i,e,X,h,ZM n⟩;exact⟨_,i,e,X,h,ZJ ⟨f,a,X,p.g g (o f _ X g),m⟩⟩
def Hx.q{b w' c a}(d:Hx b c a)(e:E_ b w'):Hx w' c a:=d.p (S:=λ_=>False) (.a e) (λ_ _ _ _=>id)
def Zej:ZY->H
 |.slice _ a _=>a
 |_=>0
def Hx.append{d e i}{h q c:ZY}{s b f}(m:Hx d i h)(z:Y3 d e (ZW q))(g:ZW c=ZW q∨ZW c=T f/\Below f d e)(v:B d.1=f)(L:Ai e s c (Y6 b (Lz i)))(D:b<=Y2)(y:∃a k,c=L_ a b k)(A:Zej h<=b):Hx e i h:=by
 subst v
 rcases g with g|⟨_,w⟩
 ·obtain⟨r,p,j,rfl,o,G|⟨a,t,rfl,n,x⟩⟩:=m;exact⟨r,p,j,X,o,ZM G⟩;obtain⟨u,k,rfl⟩:=y
  by_cases l:a=u
  subst l;exact .of_row L D (by simpa [Zej] using A) X;refine⟨_,p,j,X,o,ZJ ⟨a,t,X,?_,x⟩⟩;rw[z.block a (Qb n).1 (by rw[<- g];simpa [ZW] using l)];exact n
 exact m.q w
def Sc{P} c o i r e f s h D (y:P.underlying i=T (.slice e))(u:P.info? e=T f)(L:f.zero=T s)(W:f.size=h)(N:f.bytes=D)(b1:B s.cells=h)(b0:0<h) n d A (w:ZD c o e h n d A) l b p m (q:F m=b*h)(v:∀a0 z,m[a0]? =T z->ZV c (l.add a0)=T z)(M:∀z∈m,z.oneCell'=Z0)(R:0<b)(G:d+b<=Y2)(Q:(d+b)*D<=140737488355328)(a6:o<=B c.1):∃j k,(Builtin.append_ #[i,i] r #[n,ZH (T l) b p]).run P c=.ok j k/\ZD k o e h j (d+b) (A++m)/\Y3 c k (ZW n)/\(ZW j=ZW n∨ZW j=T (B c.1)/\Below (B c.1) c k)/\ZD k o e h n d A/\∃g t,j=L_ g (d+b) t:=by
 have⟨j,k,x,a2,a3,b2,a4,a5⟩:=ip (P:=P) c o i r e f s h D y u L W N b1 b0 n d A w l b p m q v M R G Q a6;refine⟨j,k,x,a2,a3,?_,a4,a5⟩;subst W N
 rcases w.2 with⟨rfl,rfl⟩|⟨g,t,a1,rfl,b3,a9,b5,b4,a7,b6⟩
 have a:=run_append_nil (P:=P) c i r e f s y u L l b p _ q v R (by simp only[Y2] at G;omega) w_;rw[x] at a;simp only[Result.ok.injEq] at a;right;refine⟨by rw[a.1];rfl,?_⟩;rw[a.2];exact(y_.drew).alloc s_ _
 by_cases S:d+b<=t
 have a8:d*f.size+F m<=B a1:=(by rw[q,a7,<- Nat.add_mul];exact aK _ S);have a:=run_append_room (P:=P) c i r e f y u g d _ _ a9 l b p _ q v M S a8;rw[x] at a;simp only[Result.ok.injEq] at a;left;rw[a.1];rfl;have a8:=w.cells (g:=g) X;have a:=run_append_grow (P:=P) c i r e f s y u L _ d t _ w.1 a8 l b p _ q v O (by simp only[Y2] at G;omega) (growslice_fits O Q);rw[x] at a;simp only[Result.ok.injEq] at a;right;refine⟨by rw[a.1];rfl,?_⟩;rw[a.2];exact(y_.drew).alloc s_ _
def Dl{i a y z m n u}(W:m.guard=ZP) A x o (a4:m.op=.call {callee:=.builtin .append,args:=#[A,x],argTypes:=#[o,o]}) j e (k:TypeInfo) t c s (b0:i.underlying o=T (.slice e))(a0:i.info? e=T k)(b2:k.zero=T t)(a8:k.size=c)(R:k.bytes=s)(b3:B t.cells=c)(a9:0<c) f d q (a7:n.eval A=f)(a5:ZD a j e c f d q) r b v (l:U ZY)(b1:n.eval x=ZH (T r) b v)(a1:F l=b*c)(a3:∀w p,l[w]? =T p->ZV a (r.add w)=T p)(M:∀p∈l,p.oneCell'=Z0)(a2:0<b)(P:d+b<=Y2)(S:(d+b)*s<=140737488355328)(Q:j<=B a.1)(L:∀g h,K (ZD h j e c g (d+b) (q++l)/\Y3 a h (ZW f)/\(ZW g=ZW f∨ZW g=T (B a.1)/\Below (B a.1) a h)/\ZD h j e c f d q/\∃G D,g=L_ G (d+b) D)->wpList i y u z (n.put m.dst g) h):wpList i y u (m::z) n a:=by
 refine wpList_plain W λK hK=>?_;have⟨g,h,a6,N⟩:=Sc (P:=i) a j o m.type e k t c s b0 a0 b2 a8 R b3 a9 f d q a5 r b v l a1 a3 M a2 P S Q;unfold Oper.wp;simp only[execOp,a4,resolve,invoke,builtin,Sem.run_bind,Sem.run_pure,Result.andThen_ok,map_toArray,map_cons,map_nil,a7,b1,a6];exact hK _ _ (L _ _ N)
def Ap{e:ZT}{f g b c m n k l:H}{d a o p}(j:ZD e f b m d k o)(i:ZD e g c n a l p)(y:b≠c):ZW a=ZP∨ZW a≠ZW d:=by
 rcases i.2 with⟨rfl,_⟩|⟨u,q,s,rfl,_,w,_⟩
 exact ZM X
 rcases j.2 with⟨rfl,_⟩|⟨v,r,t,rfl,_,x,_⟩
 exact ZJ (by simp[ZW]);refine ZJ λh=>?_;simp[ZW] at h
 grind
theorem Ac{d:ZT}{e a i h:H}{c j}(g:ZD d e a i c h j){k}(b:ZW c=T k):∃f,d.1[k]? =T (O_ f a):=by
 rcases g.2 with⟨rfl,_⟩|⟨n,l,m,rfl,_,o,_⟩
 ·cases b
 simp[ZW] at b;grind
def WB(c:ZT)(b:H)(a:YZ ZY):Prop:=c.1[b]? =T (O_ a 90)
def WB.lt{b a c}(d:WB b a c):a<B b.1:=(Qb d).1
def WB.cell{w b a}(d:WB w b a) c:ZV w (J b c)=a[c]?:=cell_of_row w b c a 90 (0,0) d
def WB.frozen{b a c}(e:WB b a c) d:YT b (J a d)=ZZ:=fr_ b a d c 90 e
def WB.set{e a b}(f:WB e a b) c d:WB (ZO e (J a c) d) a (YS b c d):=by have:=hs_ e a c b 90 d f;unfold WB;rw[this]
def WB.q{b d w' a c}(e:WB d a c)(f:Below b d w')(g:a<b):WB w' a c:=(f.block a g).T e
def WB.grown{w e a b d}(c:WB w a b)(f:Y3 w e d)(g:T a≠d):WB e a b:=(f.block a c.lt g).T c
def WB.alloc{w a b}(c:WB w a b) d:WB (ZN w d) a b:=(hb_ w d a c.lt).T c
def WB.h{b a c}(e:WB b a c){p}(f:a≠p.block){d}:WB (ZO b p d) a c:=(Below.heap_setCell b p d a f).T e
theorem Gg{f:ZT}{g h j a:H}{e k}(i:ZD f g h j e a k):∃c d,e=ZH c a d/\(0<a->∃b,c=T ⟨b,0,ZP⟩/\b<B f.1):=by
 rcases i.2 with⟨rfl,m⟩|⟨b,d,l,rfl,_,n,_⟩
 ·grind
 grind
theorem Hn{d:ZT}{f g c j b:H}{e}(h:ZD d f g 1 (L_ b c j) c e){a x}(i:e[a]? =T x):ZV d (J b a)=T x:=by
 have:=World.ownsRow.cells h (g:=b) X a x i;have k:((J b 0):Addr).add a=(J b a):=by unfold Addr.add;split<;>simp_all
 grind
def fiL(a:U (Y0 Addr)):U ZY:=(a.filter Option.isSome).map Y7
def uh b c {e}:C_ 171 #[Y9 #[Y7 b,Y7 c]] e λs p=>∃h,s=ZI h/\ZD p (B e.1+2) 187 1 h (F (fiL [b,c])) (fiL [b,c])/\E_ e p:=by
 refine q_ ?_;go_wp2_with fail
 generalize o:ZN (ZN e (O_ #[Y7 b,Y7 c] 189)) (O_ #[Y7 b,Y7 c] 187)=g
 have f:K (B g.1=B e.1+2/\E_ e g/\∀a,a<2->ZV g (J (B e.1+1) a)=T (Y7 (Z [b,c] a ZP))):=by
  subst o;refine⟨s_,r_.alloc s_ _,λa k=>?_⟩
  rcases(show a=0∨a=1 by omega) with rfl|rfl<;>simp[go_sem]
 clear o;go_loopw [12,3] (λj i d=>∃a:H,j=I a/\a<=2/\K (ZD d (B e.1+2) 187 1 i (F (fiL (ZU a ([b,c])))) (fiL (ZU a ([b,c])))/\E_ g d)) (m4_ 2)
 exact⟨0,X,O,rn_,y_⟩;obtain⟨a,rfl,k,d⟩:=hrel
 by_cases t:a<2
 ·have r:=T_ d.2 (f.2.2 a t)
  have n:fiL (ZU (a+1) ([b,c]))=fiL (ZU a ([b,c]))++fiL [Z [b,c] a ZP]:=by
   rcases(show a=0∨a=1 by omega) with rfl|rfl
   rfl
   cases b<;>cases c<;>rfl
  have m:=Y n;clear n;have w:F (fiL (ZU a ([b,c])))<=2:=(by unfold fiL;rw[length_map];exact aG (length_filter_le _ _) t_);have v:=F_ a 2;have u:=f.1 ▸ d.2.size;generalize (Z [b,c]) a ZP=l at *
  cases l with
  | none=>
   go_wp2;go_roundw;exact⟨a+1,g_,O,by rw[m.out];simpa [fiL] using d.1,d.2⟩;exact z_
  | some l=>
   go_wp2_with (at_builtin;refine ap_ [Y7 (T l)] (d.1.alloc _) ?_)
   intro h q i;have j:K (ZD q (B e.1+2) 187 1 h (F (fiL (ZU (a+1) ([b,c])))) (fiL (ZU (a+1) ([b,c])))/\E_ g q):=(by rw[m.out,Qe];exact⟨i.1,d.2.T (f.1 ▸ ((y_.alloc u _).grown i.2.1 t_ λa k=>(B_ d.1 a k).1))⟩);clear d i r;refine J_ ?_;exact⟨a+1,g_,O,j⟩
 obtain rfl:a=2:=O;have j:=K_ d.1 (bt_ f.2.1 d.2);clear f d;refine wr_ ?_;exact⟨_,X,j⟩
def ZcB{k l}(b:U (H×ZC)) i (s:fiL [k,l]=b.map λx=>P_ x.1)(u:∀x∈b,D_ i x.1 0 (Q_ x.2)/\ZK x.2<=1000000)(S:F b<=2):C_ 170 #[Y9 #[Y7 k,Y7 l]] i (U_ (ZX ZQ ((b.map λx=>ZK x.2).sum:H)) i):=by
 have⟨f,o⟩:=Y_ s u;clear s u;refine q_ ?_;go_wp2_with fail
 apply (uh k l).m;rintro M j ⟨W,rfl,h,t⟩;rw[f.out,length_map] at h;have n:K (E_ i j):=r_.T (t.m s_);obtain⟨D,L,rfl,w⟩:=Gg h
 have q:K (∀a,a<F b->∃d,∃x:H×ZC,D=T (J d 0)/\D_ j d a (P_ x.1)/\D_ j x.1 0 (Q_ x.2)/\ZK x.2<=1000000/\((ZU (a+1) b).map λx=>ZK x.2).sum=((ZU a b).map λx=>ZK x.2).sum+ZK x.2):=λa g=>by obtain⟨d,rfl,_⟩:=w O;have c:=o _ (Qf g);exact⟨d,b[a],X,Hn h (by rw[getElem?_map,Qd g];rfl),T_ n c.1,c.2,by rw[Qi g,map_append,sum_append];simp⟩
 clear h t w o f;generalize v:F b=e at *;have p:=Y v;clear v;go_wp2_with fail
 go_loopw [9,3] (λm d r=>∃a c:H,m=I a/\a<=e/\d=I c/\c<=a*1000000/\K (((ZU a b).map λx=>ZK x.2).sum=c)/\j=r) (m4_ e)
 exact⟨0,0,X,O,X,O,X,X⟩;obtain⟨a,c,rfl,g,rfl,Q,m,rfl⟩:=hrel
 by_cases A:a<e
 ·obtain⟨d,x,rfl,N,P,z,r⟩:=q a A;have y:=Y r;have R:=F_ a e;clear r;obtain⟨a0,G⟩:=x;simp only at z;refine J_ ?_;exact⟨a+1,c+ZK G,g_,O,g_,O,show _=_ by rw[y.out,m.out],True.intro⟩
 have f:K (_=_):=show(b.map λx=>ZK x.2).sum=c by rw[<- m.out,aI (by have:=p.out;omega)]
 have d:¬(a:E)<e:=O;clear q p m;go_wp2;go_ret;exact⟨by rw[f.out];rfl,n⟩
def fm{f a b d e} c (g:H_ f a b d):H_ (ZO f (J a c) e) a (YS b c e) d:=ht_ _ _ _ _ g
def Aa.put{b c k}(e:Aa (λa=>a=k) b c) f d:Aa (λa=>a=k) b (ZO c (J k f) d):=e.setCell (λ_=>X) d
def ab_{c d a b e}(f:E_ c d)(x:H_ c a b e):H_ d a b e:=(f.block _ (Qb x).1).T x
def tp_ a b c d:Aa (λe=>e=b) a (ZO a (J b c) d):=(Aa.refl _ a).put c d
structure SS where
 i:H
 p:ZG
 h:ZG
 t:ZC
 a:ZG
 n:ZC
 l:E
def ez(a:SS):SS:={a with p:=Z0,h:=a.a,t:=a.n,l:= -1}
def On(a:SS):SS:=if 0<a.l then {a with l:=a.l-1} else a
def Ze(b:ZC)(c:H)(a:SS):E×SS:=if c=1/\a.i<ZK a.t+ZK b then(7,a) else(0,if c=3 then {a with h:=Z0,t:=b} else if c=4 then {a with a:=Z0,n:=b} else a)
def stS(b:ZC)(c:H)(a:SS):E×SS:=if a.l=0 then(6,ez a) else Ze b c (On a)
def Sh(b:ZC):H->SS->E×SS
 |0,a=>(0,a)
 |c+1,a=>if(stS b (4-c) a).1=0 then Sh b c (stS b (4-c) a).2 else stS b (4-c) a
def xp(f:ZT)(e:H->Prop)(d:Y0 Addr)(c:ZG)(b:ZC):Prop:=(c=ZZ/\d=ZP/\b=⟨#[]⟩)∨(c=Z0/\∃a,d=T (J a 0)/\e a/\H_ f a #[Q_ b,I (ZK b)] 196)
def Zi2(f:ZT)(e:H->Prop)(d:Y0 Addr)(b:E):Prop:=(b= -1/\d=ZP)∨(0<=b/\∃a c,d=T (J a 0)/\e a/\0<=c/\H_ f a #[I b,I c] 199)
structure Qk(e)(c:H->Prop)(i)(b:SS)(l h k j):Prop where
 d:H_ e i #[I b.i,ZR b.p,Y7 l,Y7 h,Y7 ZP,Y7 k,Y7 j] 192
 g:c i
 a:xp e c h b.h b.t
 y:xp e c k b.a b.n
 f:Zi2 e c j b.l
 z:ZK b.t<=1000000/\ZK b.n<=1000000/\b.l<=9223372036854775807
section
variable {w w':ZT} {G G' S:H->Prop} {v fr a sc fl:Y0 Addr} {h:ZG} {t b:ZC} {l:E} {db:H} {s:SS}
def xp.c(x:xp w G v h t)(i:∀b c,G b->v=T (J b 0)->H_ w b c 196->H_ w' b c 196)(g:∀a,a<B w.1->G a->G' a):xp w' G' v h t:=by
 rcases x with x|⟨f,b,d,e,x⟩
 exact ZM x;exact ZJ ⟨f,b,d,g _ (Qb x).1 e,i b _ e d x⟩
def Zi2.c(x:Zi2 w G v l)(i:∀b c,G b->v=T (J b 0)->H_ w b c 199->H_ w' b c 199)(h:∀a,a<B w.1->G a->G' a):Zi2 w' G' v l:=by
 rcases x with x|⟨f,b,a,d,e,g,x⟩
 exact ZM x;exact ZJ ⟨f,b,a,d,h _ (Qb x).1 e,g,i b _ e d x⟩
def Qk.c(x:Qk w G db s fr a sc fl)(h:∀b c j,G b->H_ w b c j->(j=196->a=T (J b 0)∨sc=T (J b 0))->H_ w' b c j)(g:∀i,i<B w.1->G i->G' i):Qk w' G' db s fr a sc fl:=
 ⟨h _ _ _ x.g x.d s_,g _ (Qb x.d).1 x.g,x.a.c (λb c d f e=>h b c _ d e λ_=>ZM f) g,x.y.c (λb c d f e=>h b c _ d e λ_=>ZJ f) g,x.f.c (λb c d f e=>h b c _ d e s_) g,x.z⟩
def Qk.q(x:Qk w G db s fr a sc fl)(b:E_ w w'):Qk w' G db s fr a sc fl:=x.c (λ_ _ _ _ h _=>ab_ b h) λ_ _ h=>h
def Qk.put{s' fr' f j g}(x:Qk w G db s fr a sc fl)(e:Aa (λk=>k=db) w w')(n:H_ w' db #[I s'.i,ZR s'.p,Y7 fr',Y7 f,Y7 ZP,Y7 j,Y7 g] 192)(m:xp w G f s'.h s'.t)(d:xp w G j s'.a s'.n)(p:Zi2 w G g s'.l)(q:ZK s'.t<=1000000/\ZK s'.n<=1000000/\s'.l<=9223372036854775807):Qk w' G db s' fr' f j g:=by
 have i:∀{b d l},H_ w b d l->l≠192->b≠db:=λc r o=>by
  subst o;have:=x.d
  grind
 exact⟨n,x.g,m.c (λb d _ _ c=>e.g c (i c C)) λ_ _ h=>h,d.c (λb d _ _ c=>e.g c (i c C)) λ_ _ h=>h,p.c (λb d _ _ c=>e.g c (i c C)) λ_ _ h=>h,q⟩
def Qk.cells(x:Qk w G db s fr a sc fl):D_ w db 0 (I s.i)/\D_ w db 1 (ZR s.p)/\D_ w db 2 (Y7 fr)/\D_ w db 3 (Y7 a)/\D_ w db 4 (Y7 ZP)/\D_ w db 5 (Y7 sc)/\D_ w db 6 (Y7 fl)/\∀b,YT w (J db b)=ZZ:=
 ⟨n_ 0 x.d,n_ 1 x.d,n_ 2 x.d,n_ 3 x.d,n_ 4 x.d,n_ 5 x.d,n_ 6 x.d,λb=>R_ b _ _ x.d⟩
def Oq(w:ZT)(G:H->Prop)(db:H)(b:ZC)(s:SS)(c:H):Prop:=∃fr a sc fl,Qk w G db s fr a sc fl/\(1<=c->c<=3->∃d,fr=T (J d 0)/\G d/\a≠fr/\sc≠fr/\H_ w d #[Q_ (if c=1 then⟨#[]⟩ else b),I ((if c=3 then ZK b else 0:H):H)] 196)/\(c=4->fr=ZP/\s.h=Z0/\s.t=b)
def tq(G:H->Prop)(db:H)(b:ZC)(d:H)(a:E×SS)(w:ZT)(c:Ending)(w':ZT):Prop:=c=ZI (I a.1)/\Oq w' G db b a.2 (if a.1=0 then d+1 else 0)/\Aa G w w'
def tq.ok{a c d}(f:c=(0,d))(x:Oq w' G db b d (a+1))(e:Aa G w w'):tq G db b a c w (ZI (ZX ZQ 0)) w':=f ▸ ⟨X,x,e⟩
def xp.lt(x:xp w G v h t):v≠T (J (B w.1) 0):=λa=>by
 subst a
 rcases x with x|⟨_,b,a,_,x⟩
 ·cases x.2.1
 have:=(Qb x).1
 grind
def ZdK(h:Oq w G db b s 0)(i:G (B w.1)):C_ 106 #[P_ db] w (tq G db b 0 (Ze b 0 s) w):=by
 obtain⟨x,a,v,u,d,-⟩:=h;have⟨f,k,l,m,n,o,p,q⟩:=d.cells;have r:=lt_ f;have c:=Y d;clear d;refine q_ ?_;go_wp2;go_ret;have e:=(tp_ w db 2 (P_ (B w.1)));have j:=c.put (s':=s) (fr':=T (J (B w.1) 0)) e (fm 2 c.d) c.a c.y c.f c.z;refine .ok X ⟨_,a,v,u,j.q r_,λ_ _=>⟨B w.1,X,i,c.a.lt,c.y.lt,?_⟩,O⟩ ?_
 ·have:=ha_ (ZO w (J db 2) (P_ (B w.1))) (O_ #[Q_ ⟨#[]⟩,I 0] 196)
  simpa [ZO] using this
 exact(e.alloc _).m λt _ g=>g ▸ c.g
def ZeR(h:Oq w G db b s 3)(l:ZK b<=1000000):C_ 108 #[P_ db] w (tq G db b 3 (Ze b 3 s) w):=by obtain⟨D,a,A,x,d,i,_⟩:=h;obtain⟨g,rfl,k,_,_,e⟩:=i C C;have⟨m,n,o,p,q,r,t,u⟩:=d.cells;have c:=K_ d e;clear d e i;refine q_ ?_;go_wp2;go_ret;have f:=(tp_ w db 2 (Y7 ZP)).put 3 (P_ g);exact .ok X ⟨ZP,_,A,x,c.1.put f (fm 3 (fm 2 c.1.d)) (ZJ ⟨X,g,X,k,c.2⟩) c.1.y c.1.f ⟨l,c.1.z.2⟩,O,λ_=>⟨X,X,X⟩⟩ (f.m λv _ j=>j ▸ c.1.g)
def ti(h:Oq w G db b s 4):C_ 109 #[P_ db] w (tq G db b 4 (Ze b 4 s) w):=by obtain⟨A,a,y,x,d,_,k⟩:=h;obtain⟨rfl,i,j⟩:=k X;have⟨m,n,o,p,q,r,t,u⟩:=d.cells;have c:=x3_ d i j;clear d i j k;refine q_ ?_;go_wp2;go_ret;have f:=(tp_ w db 4 (Y7 ZP)).put 5 (Y7 a);have g:=c.1.a;have e:=c.1.z;rw[c.2.1,c.2.2] at g;rw[c.2.2] at e;exact .ok X ⟨ZP,a,a,x,c.1.put f (fm 5 (fm 4 c.1.d)) c.1.a g c.1.f ⟨c.1.z.1,e.1,e.2.2⟩,O,O⟩ (f.m λv _ l=>l ▸ c.1.g)
end
def mk_(i:H){g d e a k:H}{l:YZ ZY}{j f:E}{c:ZT}(w:f<=100000000000:=by omega)(m:j=e:=by omega)(n:f=a:=by omega)(x:e<=a:=by omega)(r:k=a*i:=by omega)
  (s:prog.underlying g=T (.slice d):=by kernel_rfl) (p:(prog.info? d).map (λb=>(b.zero.map Value.cells,b.size,ZE (b.bytes<=1000)))=T (T l,i,Z0):=by kernel_rfl):
  (Instr.makeSlice g (ZX ZQ j) (ZX ZQ f)).run Y8 c=.ok (L_ (B c.1) e a) (ZN c (YU (YV l k) d)):=by
 have⟨b,q,h⟩:=Option.map_eq_some_iff.1 p;simp only[Prod.mk.injEq,decide_eq_true_eq,Option.map_eq_some_iff] at h;obtain⟨⟨u,t,rfl⟩,rfl,v⟩:=h;subst m n r;have o:(b.bytes:E)*a<=1000*a:=Int.mul_le_mul_of_nonneg_right O O;have:=run_make (P:=Y8) c g d b u s q t ZQ ZQ (e:E) (a:E) O O (Int.le_trans o O) O;rw[this];rfl
def Mh{c} a j b x {f}(l:Cj f c a)(d:Bc a)(e:b<=F a)(p:0<=x.t/\0<=x.h/\x.t<=1000000000000/\x.h<=1000000000000):C_ 85 #[V c (F a) j,I b,Y9 #[I x.v,I x.t,I x.h,I x.g]] f (U_ (Y9 #[ZX ZQ (seen a b x).v,ZX ZQ (seen a b x).t,ZX ZQ (seen a b x).h,ZX ZQ (seen a b x).g]) f):=by
 obtain⟨G,L,M,N⟩:=p;have m:=jz d e;have u:=Dk d;have g:=Y l;have h:=Y d;obtain⟨r,s,t⟩:=m;have n:0<=Co a b/\Co a b<=1000000000000:=O;have o:0<=Dz a b/\Dz a b<=1000000000000:=O;obtain⟨v,w⟩:=n;obtain⟨A,D⟩:=o
 have i:K (seen a b x=⟨_,_,_,_⟩):=show _=_ from X
 refine dl_ ?_;go_enter func85,ntmps85;go_wp2_with fail
 go_region_with (go_at_call 152;refine(iv c a b ?_ h e).m ?_;exact g.q (by repeat(first|with_reducible exact y_|with_reducible apply Below.drew|with_reducible refine below_drewN ?_ _|with_reducible refine Below.setCell ?_ s_ _|with_reducible refine Below.alloc ?_ u_ _));rintro k q ⟨rfl,y,rfl⟩)
 all_goals go_wp2_with fail
 all_goals go_region_with (go_at_call 153;refine(de c a b ?_ h e).m ?_;exact g.q (by repeat(first|with_reducible exact y_|with_reducible apply Below.drew|with_reducible refine below_drewN ?_ _|with_reducible refine Below.setCell ?_ s_ _|with_reducible refine Below.alloc ?_ u_ _));rintro k q ⟨rfl,z,rfl⟩)
 all_goals go_wp2
 all_goals exact bodyPost_ret (v:=Y9 #[I x.v,I (x.t+Co a b),I (x.h+Dz a b),I x.g]) (by simp[results,results85,go_sem]) X ⟨by rw[i],(by repeat(first|with_reducible exact y_|with_reducible apply Below.drew|with_reducible refine below_drewN ?_ _|with_reducible refine Below.setCell ?_ s_ _|with_reducible refine Below.alloc ?_ u_ _))⟩
def Se{o w c a e K A z}(S:c.guard=ZP) r x k (a2:c.op=Op.call {callee:=Callee.builtin Builtin.append,args:=#[r,x],argTypes:=#[k,k]}) q f (g:TypeInfo) s d t (a7:o.underlying k=T (.slice f))(W:o.info? f=T g)(b0:g.zero=T s)(a5:g.size=d)(Q:g.bytes=t)(b1:B s.cells=d)(a6:0<d) m h y (a4:a.eval r=m)(a3:ZD e q f d m h y) p b u (j:U ZY)(a9:a.eval x=ZH (T p) b u)(a0:F j=b*d)(a1:∀v l,j[v]? =T l->ZV e (p.add v)=T l)(G:∀l∈j,l.oneCell'=Z0)(N:h+b<=Y2)(R:(h+b)*t<=140737488355328)(P:q<=B e.1)(D:∀n i,ZD i q f d n (h+b) (y++j)->Y3 e i (ZW m)->K (a.put c.dst n) i):if wanted c (yielded w a.tmps)=Z0 then Oper.wp o c a e K A else z:=by
 have a8:wanted c (yielded w a.tmps)=Z0:=(by simp[wanted,S]);rw[aD a8];exact wp_append_own e r x k a2 _ f g s _ _ a7 W b0 a5 Q b1 a6 m h _ a4 a3 p b u _ a9 a0 a1 G N R P λn i L M _=>D n i L M
def Cj.at{d g c i}(j:Cj d g c)(f:i<F c):∃a b,g=T ⟨a,b,ZP⟩/\ZV d (J a (b+i*4))=T (I (Z c i e0).v)/\ZV d (J a (b+i*4+1))=T (I (Z c i e0).t)/\ZV d (J a (b+i*4+2))=T (I (Z c i e0).h)/\ZV d (J a (b+i*4+3))=T (I (Z c i e0).g)/\a<B d.1:=by rcases j with⟨_,k|⟨a,b,h,e⟩⟩;omega;exact⟨a,b,h,e.v i f,e.t i f,e.h i f,e.g i f,e.lt O⟩
def Yd{a e c:ZT}{g h b l}{x:Cd}{m:Prop}(d:E_ a e)(i:Ai e (B a.1) g b)(f:ZD c (B a.1) 98 4 h (F b+1) (flat b++[I x.v,I x.t,I x.h,I x.g])/\Y3 (ZN e l) c (ZW g)/\m):K (Ai c (B a.1) h (b++[x]))/\E_ a c:=
 ⟨Ai.P f.1,(d.alloc d.size _).grown f.2.1 (by have:=d.size;simp;omega) (λk j=>(i.lt k j).1)⟩
def mz{b2 b3 a b} a6 b7 {h}(a7:Cj h b2 a)(a8:Cj h b3 b)(b8:Bc a)(b9:Bc b):C_ 46 #[V b2 (F a) a6,V b3 (F b) b7] h λv d=>∃c,v=ZI c/\Ai d (B h.1) c (Bf a b)/\E_ h d:=by
 have⟨d6,d0,d3,d4,d5⟩:=info_parts bq;have e8:=a7.1;have e9:=a8.1;have⟨L,M,s,t⟩:=y4_ a7 a8 b8 b9;clear a7 a8 b8 b9;have d1:∀a5:ZT,(Instr.makeSlice 29 (I 0) (I (F a+F b))).run Y8 a5=.ok (L_ (B a5.1) 0 (F a+F b)) (ZN a5 (O_ (YV #[I 0,I 0,I 0,I 0] ((F a+F b)*4)) 98)):=λ_=>mk_ 4;have a9:K (Ai (ZN h (O_ (YV #[I 0,I 0,I 0,I 0] ((F a+F b)*4)) 98)) _ _ []):=ownsRow_made h _ _ x_ (by unfold Y2;omega) (size_madeCells _ _);refine dl_ ?_;go_enter func46,ntmps46;go_wp2_with fail
 go_loopw [5,6,7] (λd f k c=>∃(i j:H) (x:U Cd),f=ZX ZQ i/\k=ZX ZQ j/\K (So a b i j x/\Ai c (B h.1) d x)/\E_ h c) (λ_ f k _=>(F a-ZL (intOf f))+(F b-ZL (intOf k)))
 case atStart=>exact⟨0,0,[],X,X,⟨⟨⟨v_,v_,λ_ d=>absurd d O,λ_ d=>absurd d O⟩,by simp[ph]⟩,a9⟩,r_⟩
 clear a9 d1;obtain⟨i,j,x,rfl,rfl,c,e⟩:=hrel;have W:=c.1.y;have S:=c.1.n.h;have c2:=c.1.n.e;have G:=e.size
 rcases(by omega:(i<a.length/\j<b.length)∨(i<a.length/\¬j<b.length)∨¬i<a.length) with⟨w,z⟩|c0
 ·obtain⟨c5,d7,rfl,c4,a0,a2,b1,e1⟩:=(L.q e).at w;obtain⟨c6,d8,rfl,c9,b4,b5,b6,e2⟩:=(M.q e).at z;have u:=s.at w;have y:=t.at z;have c7:=F_ i (F a);have c8:=F_ j (F b)
  rcases Int.lt_trichotomy (Z a i e0).v (Z b j e0).v with b0|A|a1
  ·have p:=Y (c.1.a s w (λ_=>b0));generalize (Z b j e0).v=g,Z a i e0=d at *;clear b4 b5 b6 y;obtain⟨N,P,Q,R,_⟩:=u;go_wp2_with fail
   go_region
   go_wp2_with fail
   apply (Mh b _ j d ((M.q e).q y_.drew) t c2 O).m;rintro v r ⟨rfl,n⟩;have f:E_ wr r:=y_.drew.T n;have l:=Y (c.2.q f);have m:=bt_ e f;have D:=m.size;clear n f c;go_wp2_with (at_builtin;refine ap_ [I (seen b j d).v,I (seen b j d).t,I (seen b j d).h,I (seen b j d).g] (l.alloc _) ?_)
   intro a3 a4 k;have⟨o,q⟩:=Yd m l k;clear k;refine J_ ?_;exact⟨i+1,j,_,g_,g_,⟨p,o⟩,q⟩
  ·have p:=Y (c.1.c s t w z A);generalize (Z a) i e0=d,Z b j e0=g at *;obtain⟨N,P,Q,R,_⟩:=u;obtain⟨e4,e5,e6,e7,_⟩:=y;have d2:¬d.v<g.v:=O;have e3:¬g.v<d.v:=O;have⟨k,d9⟩:=Y_ c.2 A;clear A c;go_wp2_with fail
   go_region
   go_wp2_with fail
   go_region
   go_wp2_with fail
   go_region_law (first|(apply Se X (.tmp 24) (.tmp 34) 29 X (B h.1) 98 d6 (Y9 #[I 0,I 0,I 0,I 0]) 4 32 underlying29 d0 d3 d4 d5 X C u5 (F x) (flat x) j_ ((k.q (y_.drew.drew.drew.T n)).alloc _) (J (B r.1) 0) 1 1 [I (Pb d g).v,I (Pb d g).t,I (Pb d g).h,I (Pb d g).g] j_ X (one_new r _ 98) (by intro l f;simp at f;rcases f with rfl|rfl|rfl|rfl<;>rfl) (by unfold Y2;omega) O (by have:=n.size;simp at this ⊢;omega);intro a3 a4 c3 c1)|(go_simp;go_wp2_with (go_at_call 86;apply (Zpj d g O O).m;rintro v r ⟨rfl,n⟩)))
   all_goals
    have f:Below (B wr.1) _ _:=y_.drew.drew.drew.T n;have D:=aG G f.size;have l:=((f.m G).alloc D _).grown c1 t_ (λo m=>((k.q f).lt o m).1);have q:=e.T l;have o:=Y (Ai.P c3);clear c3 c1 n;refine J_ ?_;exact⟨i+1,j+1,_,g_,g_,⟨p,o⟩,q⟩
  have p:=Y (c.1.b t z (λ_=>a1));generalize (Z a i e0).v=g,Z b j e0=d at *;clear a0 a2 b1 u;obtain⟨N,P,Q,R,_⟩:=y;have d2:¬g<d.v:=O;go_wp2_with fail
  go_region
  go_wp2_with fail
  go_region
  go_wp2_with fail
  apply (Mh a a6 i d ((L.q e).q y_.drew.drew) s S O).m;rintro v r ⟨rfl,n⟩;have f:E_ wr r:=y_.drew.drew.T n;have l:=Y (c.2.q f);have m:=bt_ e f;have D:=m.size;clear n f c;go_wp2_with (at_builtin;refine ap_ [I (seen a i d).v,I (seen a i d).t,I (seen a i d).h,I (seen a i d).g] (l.alloc _) ?_)
  intro a3 a4 k;have⟨o,q⟩:=Yd m l k;clear k;refine J_ ?_;exact⟨i,j+1,_,g_,g_,⟨p,o⟩,q⟩
 have b0:K (i<F a->¬j<F b):=λd2 c0=>O
 rcases c0 with⟨w,z⟩|w
 all_goals
  go_wp2_with fail
  go_loopw [5,6] (λd f l=>∃(g:H) (a1:U Cd),f=ZX ZQ g/\K (So a b g j a1/\Ai l (B h.1) d a1/\(g<F a->¬j<F b))/\E_ h l) (m2_ (F a))
  case atStart=>exact⟨i,x,X,⟨c.1,c.2,b0⟩,e⟩
  clear e W S G c b0;obtain⟨g,a1,rfl,c,e⟩:=hrel;have W:=c.1.y;have S:=c.1.n.h;have G:=e.size
  by_cases A:g<F a
  ·have y:=c.2.2 A;have u:=s.at A;obtain⟨c5,d7,rfl,c4,a0,a2,b1,_⟩:=(L.q e).at A;have p:=Y (c.1.a s A (λd=>absurd d y));generalize (Z a) g e0=d at *;obtain⟨N,P,Q,R,_⟩:=u;have c7:=F_ g (F a);go_wp2_with fail
   apply (Mh b b7 j d (M.q e) t c2 O).m;rintro v r ⟨rfl,f⟩;have l:=Y (c.2.1.q f);have m:=bt_ e f;have D:=m.size;clear c f;go_wp2_with (at_builtin;refine ap_ [I (seen b j d).v,I (seen b j d).t,I (seen b j d).h,I (seen b j d).g] (l.alloc _) ?_)
   intro a3 a4 k;have⟨o,q⟩:=Yd m l k;clear k;refine J_ ?_;exact⟨g+1,_,g_,⟨p,o,λ_=>y⟩,q⟩
  have b1:=A;go_wp2_with fail
  go_loopw [5,7] (λd k l=>∃(u:H) (a2:U Cd),k=ZX ZQ u/\K (So a b g u a2/\Ai l (B h.1) d a2)/\E_ h l) (m2_ (F b))
  case atStart=>exact⟨j,a1,X,⟨c.1,c.2.1⟩,e⟩
  clear e W G c;obtain⟨u,a2,rfl,c,e⟩:=hrel;have W:=c.1.y
  by_cases a0:u<F b
  ·have y:=t.at a0;obtain⟨c6,d8,rfl,c9,b4,b5,b6,_⟩:=(M.q e).at a0;have p:=Y (c.1.b t a0 (λd=>absurd d b1));generalize (Z b) u e0=d at *;obtain⟨N,P,Q,R,_⟩:=y;have c8:=F_ u (F b);go_wp2_with fail
   apply (Mh a a6 g d (L.q e) s S O).m;rintro v r ⟨rfl,f⟩;have l:=Y (c.2.q f);have m:=bt_ e f;have D:=m.size;clear c f;go_wp2_with (at_builtin;refine ap_ [I (seen a g d).v,I (seen a g d).t,I (seen a g d).h,I (seen a g d).g] (l.alloc _) ?_)
   intro a3 a4 k;have⟨o,q⟩:=Yd m l k;clear k;refine J_ ?_;exact⟨u+1,_,g_,⟨p,o⟩,q⟩
  have d:=Y c.2;rw[show a2=Bf a b by have:=c.1.f;rw[vv b1 a0,append_nil] at this;exact this] at d;go_wp2;go_ret;exact⟨_,X,d,e⟩
def Qm(e:ZT)(a:H)(d b f c:E):Prop:=e.1[a]? =T (O_ #[I d,I b,I f,I c] 153)
def Qm.cells{b a e f g h}(c:Qm b a e f g h):ZV b (J a 0)=T (I e)/\ZV b (J a 1)=T (I f)/\ZV b (J a 2)=T (I g)/\ZV b (J a 3)=T (I h)/\(∀d,YT b (J a d)=ZZ):=by unfold Qm at c;refine⟨?_,?_,?_,?_,λd=>fr_ b a d _ _ c⟩<;>simp[ZV,c]
def Qm.lt{b a d e f g}(c:Qm b a d e f g):a<B b.1:=(Qb c).1
def Qm.a{b a d e h f}(g:Qm b a d e h f){c}:Qm (ZO b (J a 2) (I c)) a d e c f:=hs_ b a 2 _ 153 (I c) g
def Qm.b{b a d e f h}(g:Qm b a d e f h){c}:Qm (ZO b (J a 3) (I c)) a d e f c:=hs_ b a 3 _ 153 (I c) g
def ZhO{b a:E}(d:0<a)(c:0<=b):0<=b/a/\b/a<=b/\0<=b%a/\b%a<a/\b/a*a+b%a=b:=
 ⟨Int.ediv_nonneg c O,Int.ediv_le_self _ c,Int.emod_nonneg _ O,Int.emod_lt_of_pos _ d,by grind [Int.mul_ediv_add_emod]⟩
theorem Ay{a:ZT}{b}:Y3 a a b:=⟨X,X,X,x_,λ_ _ _=>X⟩
theorem Aq{h c:ZT}{b}(a:Y3 h c (T b)) e {g}:Y3 h (ZO c (J b e) g) (T b):=
 ⟨a.os,a.tape,a.output,by have:=a.size;simpa [ZO] using this,λf j d=>(Below.heap_setCell c (J b e) g f (λi=>d (by rw[i]))).T (a.block f j d)⟩
theorem Qt{c d:ZT}{b}(a:Y3 c d b):Y3 c (YY d) b:=⟨a.os,a.tape,a.output,a.size,a.block⟩
def ZkW{e a a3 c b h}(j:Qm h e a a3 c b)(l:1<=a3/\a3<=4194304)(n:0<=a/\a<=4000000000000)(o:0<=c/\c<=100000000000000000)(m:0<=b/\b<a3):C_ 88 #[P_ e] h λi g=>i=ZI (Y5 #[])/\∃f d,Qm g e a a3 f d/\f*a3+d=c*a3+b+a/\0<=d/\d<a3/\0<=f/\f<=c+a+1/\Y3 h g (T e):=by
 obtain⟨M,N⟩:=l;obtain⟨q,R⟩:=n;obtain⟨S,W⟩:=o;obtain⟨P,Q⟩:=m;have k:=ZhO (by omega:0<a3) q;have y:a.tdiv a3=a/a3:=w_;have z:a.tmod a3=a%a3:=w_;obtain⟨A,D,G,L,p⟩:=k;have⟨s,t,u,v,w⟩:=j.cells;have i:=Y j;have r:=Y p;generalize a/a3=f,a%a3=d at *
 by_cases x:a3<=b+d
 ·have g:K ((c+f+1)*a3+(b+d-a3)=c*a3+b+a):=w_;refine q_ ?_;go_wp2_with fail
  go_region
  go_wp2_with fail
  go_region
  go_wp2_with fail
  go_region
  go_wp2_with fail
  go_region
  go_wp2_with fail
  go_end0;refine⟨X,c+f+1,b+d-a3,?_,g,O,O,O,O,?_⟩;exact(((i.a).b).a).b;exact(by repeat(first|with_reducible exact Ay|with_reducible apply Qt|with_reducible refine Aq ?_ _))
 have g:K ((c+f)*a3+(b+d)=c*a3+b+a):=w_;refine q_ ?_;go_wp2_with fail
 go_region
 go_wp2_with fail
 go_region
 go_wp2_with fail
 go_region
 go_wp2_with fail
 go_end0;refine⟨X,c+f,b+d,?_,g,O,O,O,O,?_⟩;exact(i.a).b
 grind [Ay,Qt,Aq]
def td{d i h a b c}(f:Qm c d i h a b)(g:0<=a/\a<=100000000000000000):C_ 90 #[P_ d] c (V_ (ZX ZQ (if 0<b then a+1 else a)) c):=by
 obtain⟨o,p⟩:=g;have⟨j,k,l,m,n⟩:=f.cells
 by_cases e:0<b
 rw[aD e];refine er_ ?_;exact⟨X,X⟩;rw[aC e];refine q_ ?_;go_wp2;go_ret;exact⟨X,X⟩
structure Cm where
 n:E
 neg:ZG
 dig:E
 unit:E
 num:E
 f:ZY
def RB(h:ZT)(b:H)(f e d:ZY)(i:E)(c:ZG)(g:ZY)(a:Cm):Prop:=
 h.1[b]? =T (O_ #[f,e,d,I i,ZR c,g,I a.n,ZR a.neg,I a.dig,I a.unit,I a.num,a.f] 256)
section
variable {w:ZT} {b:H} {c a vC:ZY} {wt:E} {fl:ZG} {d:ZY} {p:Cm}
def RB.i(e:RB w b c a vC wt fl d p):ZV w (J b 6)=T (I p.n)/\ZV w (J b 7)=T (ZR p.neg)/\ZV w (J b 8)=T (I p.dig)/\ZV w (J b 9)=T (I p.unit)/\ZV w (J b 10)=T (I p.num)/\ZV w (J b 11)=T p.f/\(∀f,YT w (J b f)=ZZ):=by unfold RB at e;refine⟨?_,?_,?_,?_,?_,?_,λf=>fr_ w b f _ _ e⟩<;>simp[ZV,e]
def RB.e(e:RB w b c a vC wt fl d p):ZV w (J b 0)=T c/\ZV w (J b 1)=T a/\ZV w (J b 2)=T vC/\ZV w (J b 3)=T (I wt)/\ZV w (J b 4)=T (ZR fl)/\ZV w (J b 5)=T d:=by unfold RB at e;refine⟨?_,?_,?_,?_,?_,?_⟩<;>simp[ZV,e]
def RB.lt(e:RB w b c a vC wt fl d p):b<B w.1:=(Qb e).1
def RB.grown{g f}(e:RB w b c a vC wt fl d p)(h:Y3 w g f)(i:T b≠f):RB g b c a vC wt fl d p:=(h.block b e.lt i).T e
def RB.q{w' e}(f:RB w b c a vC wt fl d p)(g:Below e w w')(h:b<e):RB w' b c a vC wt fl d p:=(g.block b h).T f
def RB.drew(e:RB w b c a vC wt fl d p):RB (YY w) b c a vC wt fl d p:=e
def RB.n(f:RB w b c a vC wt fl d p) e:RB (ZO w (J b 6) (I e)) b c a vC wt fl d {p with n:=e}:=hs_ w b 6 _ 256 _ f
def RB.neg(f:RB w b c a vC wt fl d p) e:RB (ZO w (J b 7) (ZR e)) b c a vC wt fl d {p with neg:=e}:=hs_ w b 7 _ 256 _ f
def RB.dig(f:RB w b c a vC wt fl d p) e:RB (ZO w (J b 8) (I e)) b c a vC wt fl d {p with dig:=e}:=hs_ w b 8 _ 256 _ f
def RB.unit(f:RB w b c a vC wt fl d p) e:RB (ZO w (J b 9) (I e)) b c a vC wt fl d {p with unit:=e}:=hs_ w b 9 _ 256 _ f
def RB.num(f:RB w b c a vC wt fl d p) e:RB (ZO w (J b 10) (I e)) b c a vC wt fl d {p with num:=e}:=hs_ w b 10 _ 256 _ f
def RB.f(f:RB w b c a vC wt fl d p) e:RB (ZO w (J b 11) e) b c a vC wt fl d {p with f:=e}:=hs_ w b 11 _ 256 _ f
end
theorem Au{z}(a: -9000000000000000000<=z)(b:z<=9000000000000000000):i64.wrap z=z:=by simp[wrap,IntKind.bits,signed];omega
def Cc(a:E):ZG:=ZE (48<=a)&&ZE (a<=57)
def Fz(a:E):ZG:=ZE (97<=a)&&ZE (a<=122)
def Th a c:C_ 315 #[ZX .u8 a] c (V_ (ZR (Cc a)) c):=by
 unfold Cc
 by_cases b:48<=a
 refine er_ ?_;exact⟨by simp[b],X⟩;have d:=aE b;refine q_ ?_;go_wp2;go_ret;exact⟨X,X⟩
def Qv a c:C_ 310 #[ZX .u8 a] c (V_ (ZR (Fz a)) c):=by
 unfold Fz
 by_cases b:97<=a
 refine er_ ?_;exact⟨by simp[b],X⟩;have d:=aE b;refine q_ ?_;go_wp2;go_ret;exact⟨X,X⟩
def ej a b d (f:48<=a)(g:a<=57)(c:0<=b)(e:b<=1000000):C_ 316 #[ZX .u8 a,I b] d (V_ (ZX ZQ ((a-48)*b)) d):=by have j:IntKind.u8.wrap (a-48)=a-48:=(by simp[wrap,IntKind.bits,signed];omega);have h:0<=(a-48)*b:=Int.mul_nonneg O c;have i:(a-48)*b<=9*_:=Int.mul_le_mul O e c O;have k:i64.wrap (a-48)=a-48:=(by simp[wrap,IntKind.bits,signed];omega);refine er_ ?_;exact⟨X,X⟩
def Rg(b:Cm)(a:E):Y0 Cm:=if a=45 then T {b with n:=1,neg:=Z0} else ZP
def Io(b:E)(c:Cm)(a:E):Y0 Cm:=if Cc a=Z0 then T {c with n:=if a=48 then 2 else 3,dig:=1,unit:=b,num:=(a-48)*b} else ZP
def Lt(a:Cm)(b:E):Y0 Cm:=if Cc b=Z0/\a.dig≠5 then T {a with dig:=a.dig+1,num:=a.num*10+(b-48)*a.unit} else ZP
def Nl(a:Cm)(b:E):Y0 Cm:=if b=46/\a.unit≠1 then T {a with n:=4} else ZP
def Je(a:Cm)(b:E):Y0 Cm:=if Cc b=Z0/\a.unit≠1 then T {a with n:=5,unit:=a.unit/10,num:=a.num+(b-48)*(a.unit/10)} else ZP
def Gv(a:H)(i h g:ZY)(l:E)(e:ZG)(j:ZY)(f:Cm)(b:Y0 Cm)(k:ZT)(d:Ending)(c:ZT):Prop:=
 d=ZI (ZR b.isSome)/\RB c a i h g l e j (b.getD f)/\Y3 k c (T a)
section
variable (b:H) (d a vC:ZY) (wt:E) (fl:ZG) (e:ZY) (p:Cm) (c:E) (w:ZT)
def tk(h:RB w b d a vC wt fl e p):C_ 268 #[Y7 (T (J b 6)),ZX .u8 c] w λj k=>Gv b d a vC wt fl e p (Rg p c) w j k:=by
 obtain⟨l,m,_,_,_,_,n⟩:=h.i;have g:=Y h
 by_cases f:c=45
 subst f;refine er_ ?_;exact⟨X,(g.n 1).neg _,Aq (Aq (Ay) _) _⟩;have o:=aO f;have i:K (Rg p c=_):=aC f;refine q_ ?_;go_wp2;go_ret;unfold Gv;rw[i];exact⟨X,g,Ay⟩
def Wd(g:RB w b d a vC wt fl e p):C_ 271 #[Y7 (T (J b 6)),ZX .u8 c] w λl n=>Gv b d a vC wt fl e p (Nl p c) w l n:=by
 obtain⟨o,_,_,k,_,_,q⟩:=g.i;have i:=Y g
 by_cases j:c=46
 ·subst j
  by_cases h:p.unit=1
  have f:K (Nl p 46=_):=aC (by simp[h]);rw[h] at k;refine er_ ?_;unfold Gv;rw[f];exact⟨X,i,Ay⟩;have m:=aO h;have f:K (Nl p _=_):=aD ⟨X,h⟩;refine er_ ?_;unfold Gv;rw[f];exact⟨X,i.n 4,Aq (Ay) _⟩
 have m:=aO j;have f:K (Nl p c=_):=aC (λg=>j g.1);refine er_ ?_;unfold Gv;rw[f];exact⟨X,i,Ay⟩
def Wc(n:RB w b d a vC wt fl e p) f (u:0<=f)(v:f<=1000000):C_ 269 #[Y7 (T (J b 6)),ZX .u8 c,I f] w λh i=>Gv b d a vC wt fl e p (Io f p c) w h i:=by
 obtain⟨z,_,A,D,y,_,G⟩:=n.i;have m:=Y n;have j:=Y (λk=>Th c k);clear n
 by_cases g:Cc c=Z0
 ·have r:48<=c/\c<=57:=by simpa [Cc] using g
  obtain⟨s,t⟩:=r;have o:=Y (λk=>ej c f k s t u v);rw[g] at j
  by_cases l:c=48
  ·have k:K (Io f p c=T {p with n:=2,dig:=1,unit:=f,num:=(c-48)*f}):=(by show Io f p c=_;unfold Io;grind);have q:(c==48)=Z0:=(by simp[l]);generalize (c-48)*f=x at *;clear l g;refine q_ ?_;go_wp2_with (first|(go_at_call 315;apply (j _).m;rintro h i ⟨rfl,rfl⟩)|(go_at_call 316;apply (o _).m;rintro h i ⟨rfl,rfl⟩))
   go_ret;unfold Gv;rw[k];exact⟨X,((((m.n 3).dig 1).unit f).num _).n 2,Aq (Aq (Aq (Aq (Aq (Ay) _) _) _) _) _⟩
  have k:K (Io f p c=T {p with n:=3,dig:=1,unit:=f,num:=(c-48)*f}):=(by show Io f p c=_;unfold Io;grind);have q:=aO l;generalize (c-48)*f=x at *;clear l g;refine q_ ?_;go_wp2_with (first|(go_at_call 315;apply (j _).m;rintro h i ⟨rfl,rfl⟩)|(go_at_call 316;apply (o _).m;rintro h i ⟨rfl,rfl⟩))
  go_ret;unfold Gv;rw[k];exact⟨X,(((m.n 3).dig 1).unit f).num _,Aq (Aq (Aq (Aq (Ay) _) _) _) _⟩
 have k:K (Io f p c=_):=aC g
 have l:Cc c=ZZ:=by simpa using g
 rw[l] at j;clear g l;refine q_ ?_;go_wp2_with (go_at_call 315;apply (j _).m;rintro h i ⟨rfl,rfl⟩)
 go_ret;unfold Gv;rw[k];exact⟨X,m,Ay⟩
def yc{p:Prop}(h:p:=by
 refine q_ ?_;go_wp2_with (go_at_call 315;apply (f _).m;rintro j k ⟨rfl,rfl⟩)
 go_ret;unfold Gv;rw[i]
 exact⟨X,m,Ay⟩):p:=h
def tj(g:RB w b d a vC wt fl e p)(o:0<=p.unit)(q:p.unit<=1000000)(M:0<=p.num)(N:p.num<=1000000000000)(A:0<=p.dig)(D:p.dig<=1000):C_ 270 #[Y7 (T (J b 6)),ZX .u8 c] w λj k=>Gv b d a vC wt fl e p (Lt p c) w j k:=by
 obtain⟨_,_,s,y,x,_,z⟩:=g.i;have m:=Y g;have f:=Y (λn=>Th c n)
 by_cases h:Cc c=Z0
 ·have t:48<=c/\c<=57:=by simpa [Cc] using h
  obtain⟨u,v⟩:=t
  by_cases l:p.dig=5
  have i:K (Lt p c=_):=aC (λg=>g.2 l);rw[h] at f;rw[l] at s;exact yc;have P:=aO l;have i:K (Lt p c=_):=aD ⟨h,l⟩;have r:=Y (λn=>ej c _ n u v o q);have G:0<=(c-48)*_:=Int.mul_nonneg O o;have L:(c-48)*_<=9*_:=Int.mul_le_mul O q o O;rw[h] at f;generalize (c-48)*p.unit=n at *;have Q:_=p.num*10:=Au O O;have R:_=p.num*10+n:=Au O O;refine q_ ?_;go_wp2_with (go_at_call 315;apply (f _).m;rintro j k ⟨rfl,rfl⟩)
  go_region_with (go_at_call 316;apply (r _).m;rintro j k ⟨rfl,rfl⟩)
  all_goals go_wp2
  all_goals go_ret
  all_goals unfold Gv
  all_goals rw[i]
  all_goals exact⟨X,((m.dig _).num _).drew,Qt (Aq (Aq (Ay) _) _)⟩
 have i:K (Lt p c=_):=aC (λg=>h g.1)
 have l:Cc c=ZZ:=by simpa using h
 rw[l] at f;exact yc
def qg(g:RB w b d a vC wt fl e p)(x:0<=p.unit)(R:p.unit<=1000000)(M:0<=p.num)(N:p.num<=1000000000000):C_ 272 #[Y7 (T (J b 6)),ZX .u8 c] w λj k=>Gv b d a vC wt fl e p (Je p c) w j k:=by
 obtain⟨A,_,_,s,z,_,D⟩:=g.i;have m:=Y g;have f:=Y (λn=>Th c n)
 by_cases h:Cc c=Z0
 ·have t:48<=c/\c<=57:=by simpa [Cc] using h
  obtain⟨u,v⟩:=t
  by_cases l:p.unit=1
  have i:K (Je p c=_):=aC (λg=>g.2 l);rw[h] at f;rw[l] at s;exact yc;have P:=aO l;have Q:p.unit.tdiv 10=_/10:=Int.tdiv_eq_ediv_of_nonneg x;have o:0<=p.unit/10:=O;have q:p.unit/10<=1000000:=O;have i:K (Je p c=_):=aD ⟨h,l⟩;have r:=Y (λn=>ej c _ n u v o q);have G:0<=(c-48)*_:=Int.mul_nonneg O o;have L:(c-48)*_<=9*_:=Int.mul_le_mul O q o O;rw[h] at f;generalize (c-48)*(p.unit/10)=n at *;generalize p.unit/10=y at *;have S:_=p.num+n:=Au O O;have W:_=y:=Au O O;refine q_ ?_;go_wp2_with (go_at_call 315;apply (f _).m;rintro j k ⟨rfl,rfl⟩)
  go_region_with (go_at_call 316;apply (r _).m;rintro j k ⟨rfl,rfl⟩)
  all_goals go_wp2
  all_goals go_ret
  all_goals unfold Gv
  all_goals rw[i]
  all_goals exact⟨X,(((m.n _).unit _).num _).drew,Qt (Aq (Aq (Aq (Ay) _) _) _)⟩
 have i:K (Je p c=_):=aC (λg=>h g.1)
 have l:Cc c=ZZ:=by simpa using h
 rw[l] at f;exact yc
end
section
variable {w w':ZT} {G G' S:H->Prop} {v fr a sc fl:Y0 Addr} {h:ZG} {t b:ZC} {l:E} {db f:H} {s:SS}
def Qk.e{x d}(i:Qk w G db s (T (J f 0)) a sc fl)(e:H_ w f #[x,d] 196)(g:Aa (λk=>k=f) w w')(n:a≠T (J f 0))(o:sc≠T (J f 0)):Qk w' G db s (T (J f 0)) a sc fl:=
 i.c (λb l d _ c m=>g.g c λj=>by subst j;have p:=e.s.T c;grind) λ_ _ h=>h
def ZlI(h:Oq w G db b s 2):C_ 107 #[P_ db] w (tq G db b 2 (Ze b 2 s) w):=by obtain⟨R,a,Q,P,e,m,-⟩:=h;obtain⟨f,rfl,j,k,l,d⟩:=m C C;have⟨i,n,x,o,p,q,r,y⟩:=e.cells;have u:D_ w f 0 (Q_ b):=n_ 0 d;have z:=n_ 1 d;have A:=λv=>R_ v _ _ d;have L:=lt_ i;have M:=lt_ u;have c:=x4_ e d k l;clear e d m i n o p q r k l;refine q_ ?_;go_upto_region 1 with fail;refine rg_ w 16 λD=>?_;refine G_ ?_;refine le_ ?_;go_wp2;go_ret;have g:=(tp_ w f 1 (I (ZK b))).drew;exact .ok X ⟨_,a,Q,P,c.1.e c.2.1 g c.2.2.1 c.2.2.2,λ_ _=>⟨f,X,j,c.2.2.1,c.2.2.2,fm 1 c.2.1⟩,O⟩ (g.m λN _ t=>t ▸ j)
def ZiN(h:Oq w G db b s 1)(a2:ZK b<=1000000):C_ 105 #[P_ db,Q_ b] w (tq G db b 1 (Ze b 1 s) w):=by
 obtain⟨fr,a,sc,fl,i,A,-⟩:=h;obtain⟨f,rfl,x,y,z,c⟩:=A C C;have⟨u,M,v,N,P,Q,R,S⟩:=i.cells;have l:D_ w f 0 (Q_ ⟨#[]⟩):=n_ 0 c
 have r:K (∀j,E_ w j->C_ 170 #[Y9 #[Y7 (T (J f 0)),Y7 a]] j λg w'=>g=ZI (ZX ZQ (ZK s.t))/\E_ w w'):=λj m=>by
  rcases i.a with⟨_,rfl,g⟩|⟨_,d,rfl,_,e⟩
  exact(ZcB [(f,⟨#[]⟩)] j X (by simpa using ⟨T_ m l,v_⟩) s_).m λ_ _ h=>⟨by rw[h.1,g];rfl,bt_ m h.2⟩;exact(ZcB [(f,⟨#[]⟩),(d,s.t)] j X (by simpa using ⟨⟨T_ m l,v_⟩,T_ m (n_ 0 e),i.z.1⟩) s_).m λ_ _ h=>⟨by rw[h.1];show ZI (ZX ZQ ((0+(ZK s.t+0):H):E))=_;simp,bt_ m h.2⟩
 have a3:=lt_ u;have a4:=lt_ l;have a5:=i.z.1;have d:=x4_ i c y z;clear i c A M P Q R y z;refine q_ ?_;go_upto_region 1 with fail;refine rg_ w 12 λp=>?_;refine G_ ?_;refine oc_ 4 (r _ p) ?_;rintro g q ⟨rfl,e⟩;refine⟨_,X,e,λp=>G_ ?_⟩;refine le_ ?_;rw[Au O O];have n:=Y e;have L:=d.1.q e;have l:=T_ e l;have v:=T_ e v;have c:=ab_ e d.2.1;have a1:=λW=>R_ W _ _ c;have k:=K_ L c;clear e p r L c u N S
 by_cases D:s.i<ZK s.t+ZK b
 ·have o:K (Ze b 1 s=_):=aD ⟨X,D⟩;have a0:(s.i:E)<ZK s.t+ZK b:=O;have t:K (Oq q G db b s 0/\Aa G w q):=⟨⟨_,a,sc,fl,k.1,O,O⟩,.a n⟩;clear k d n;go_wp2;go_ret;rw[o.out];exact⟨X,t⟩
 have o:K (Ze b 1 s=_):=aC λh=>D h.2;have a0:¬(s.i:E)<ZK s.t+ZK b:=O;have a7:(⟨#[]⟩:ZC)++b=b:=ByteArray.empty_append;have a8:ZK (⟨#[]⟩:ZC)+ZK b<=9223372036854775807:=(by show 0+_<=_;omega);go_wp2;go_ret;have t:=tp_ q f 0 (Q_ b);exact .ok o ⟨_,a,sc,fl,k.1.e k.2 t d.2.2.1 d.2.2.2,λ_ _=>⟨f,X,x,d.2.2.1,d.2.2.2,fm 0 k.2⟩,O⟩ ((Aa.a n).T (t.m λa6 _ g=>g ▸ x))
end
section
variable {w w':ZT} {G:H->Prop} {fr a sc fl:Y0 Addr} {t b:ZC} {k:E} {db f:H} {s:SS}
def ZkH(a:H_ w f #[Q_ t,I (ZK t)] 196)(q:ZK t<=1000000)(o:0<=k):C_ 172 #[P_ f,I k] w λc w'=>c=ZI (Y5 #[])/\H_ w' f #[Q_ t,I (ZK t)] 196/\Aa (λk=>k=f) w w':=by have d:=n_ 0 a;have m:=n_ 1 a;have n:=λg=>R_ g _ _ a;have p:=lt_ d;have b:=Y a;have h:(if 0<k then(0:E) else k)=0:=(by split<;>omega);have j:=Au (z:=ZK t) O O;have l:(0:E)<=ZK t:=O;have i:t.extract 0 (ZK t)=t:=ByteArray.extract_zero_size;clear a;refine q_ ?_;go_upto_region 0 with fail;refine rg_ w 10 λe=>?_;refine G_ ?_;refine le_ ?_;rw[show i64.wrap 0=0 from X];go_upto_region 1 with fail;refine rg_ w 16 λe=>?_;refine G_ ?_;refine le_ ?_;go_wp2;go_end0;exact⟨X,fm 0 b,(tp_ w f 0 _).drew.drew⟩
def vo(x:Qk w G db s fr a sc fl)(A:0<=k):C_ 111 #[P_ db,I k] w λc w'=>c=ZI (Y5 #[])/\Qk w' G db (ez s) ZP sc sc ZP/\Aa G w w':=by
 have⟨m,p,q,r,t,u,v,y⟩:=x.cells;have a9:=lt_ m;have g:=Y x;clear x;refine q_ ?_;go_upto_region 1 with fail;have e:=(tp_ w db 2 (Y7 ZP)).put 3 (Y7 sc);have x:=g.put (s':={s with h:=s.a,t:=s.n}) e (fm 3 (fm 2 g.d)) g.y g.y g.f ⟨g.z.2.1,g.z.2⟩;have o:=K_ x (e.m (S':=G) λk _ c=>c ▸ g.g);clear m p q r t u v y e g;generalize (ZO (ZO w (J db 2) (Y7 ZP))) (J db 3) (Y7 sc)=b2 at *;have⟨m,p,q,r,t,u,v,y⟩:=x.cells;clear x;go_wp2_with fail
 apply (uh ZP sc).m;rintro c N ⟨b1,rfl,D,l⟩;obtain⟨a4,a0,rfl,S⟩:=Gg D;have j:=K_ (o.1.q l) (o.2.q l)
 have Q:K (∀k,k<F (fiL [ZP,sc])->∃i f,a4=T ⟨i,0,ZP⟩/\D_ N i k (P_ f)/\sc=T ⟨f,0,ZP⟩/\H_ N f #[Q_ s.n,I (ZK s.n)] 196/\G f/\i≠f/\i≠db):=λk A=>by
  obtain⟨i,rfl,_⟩:=S O;have L:=(B_ D i X).1;have d:=lt_ m
  rcases o.1.y with⟨_,rfl,_⟩|⟨_,f,rfl,z,h⟩
  ·cases A
  have n:=lt_ (n_ 0 h)
  obtain rfl:k=0:=by simpa [fiL] using A
  exact⟨i,f,X,Hn D X,X,ab_ l h,z,O,O⟩
 have b0:F (fiL [ZP,sc])<=1:=(by cases sc<;>simp[fiL]);generalize (F (fiL [ZP,sc]))=n at *;clear D l S m p q r t u v y o;go_wp2_with fail
 go_loopw [19] (λh d=>∃k:H,h=I k/\k<=n/\K (Qk d G db {s with h:=s.a,t:=s.n} ZP sc sc fl/\Aa G w d/\(k=0->d=N))) (m1_ n)
 exact⟨0,X,O,j.1,j.2,λ_=>X⟩;obtain⟨M,rfl,a8,d⟩:=hrel
 by_cases a3:M<n
 ·obtain rfl:M=0:=O;obtain⟨i,f,rfl,a1,rfl,h,z,a5,a6⟩:=Q 0 a3;obtain rfl:=d.2.2 X;have a7:=F_ 0 n;have R:=ZkH h j.1.z.2.1 A;have L:=K_ h z;clear h z;go_wp2_with fail
  apply R.m;rintro c W ⟨rfl,h,e⟩
  have P:K (Qk W G db {s with h:=s.a,t:=s.n} ZP (T (J f 0)) (T (J f 0)) fl/\Aa G w W):=⟨j.1.c (λb a0 b3 _ l _=>by
   by_cases c:b=f
   subst c;exact h.T (L.1.s.T l)
   exact e.g l c) λ_ _ a2=>a2,j.2.T (e.m λk _ c=>c ▸ L.2)⟩
  clear h e R a1 d j L;refine J_ ?_;exact⟨1,g_,O,P.1,P.2,O⟩
 have h:¬(M:E)<n:=O;have⟨m,p,q,r,t,u,v,y⟩:=d.1.cells;clear Q j;go_wp2;go_end0;have e:=(tp_ wr db 6 (Y7 ZP)).put 1 (ZR Z0);exact⟨X,d.1.put e (fm 1 (fm 6 d.1.d)) d.1.y d.1.y (ZM ⟨X,X⟩) ⟨d.1.z.1,d.1.z.1,by show(-1:E)<=_;decide⟩,d.2.1.T (e.m λk _ c=>c ▸ d.1.g)⟩
end
section
variable {w:ZT} {b:H} {a c vC:ZY} {wt:E} {fl:ZG} {d:ZY} {p:Cm}
def RB.h(f:RB w b a c vC wt fl d p) e:RB (ZO w (J b 3) (I e)) b a c vC e fl d p:=hs_ w b 3 _ 256 _ f
def RB.j(f:RB w b a c vC wt fl d p) e:RB (ZO w (J b 4) (ZR e)) b a c vC wt e d p:=hs_ w b 4 _ 256 _ f
def RB.g(f:RB w b a c vC wt fl d p) e:RB (ZO w (J b 5) e) b a c vC wt fl e p:=hs_ w b 5 _ 256 _ f
def RB.k(f:RB w b a c vC wt fl d p){e}:RB (ZO w (J b 1) e) b a e vC wt fl d p:=hs_ w b 1 _ 256 _ f
end
def Et(a:E):ZG:=!(ZE (a=1)||ZE (a=4)||ZE (a=7))
def Zeo{h m l k o i n} a g (j:RB g h m l k o i n a):C_ 220 #[Y7 (T (J h 6))] g (V_ (ZR (Et a.n)) g):=by
 obtain⟨f,_,_,_,_,_,_⟩:=j.i
 by_cases c:a.n=1
 have b:K (Et a.n=ZZ):=(by show Et a.n=ZZ;rw[c];rfl);rw[c] at f;refine er_ ?_;rw[b];exact⟨X,X⟩
 by_cases d:a.n=4
 have b:K (Et a.n=ZZ):=(by show Et a.n=ZZ;rw[d];rfl);rw[d] at f;refine er_ ?_;rw[b];exact⟨X,X⟩
 by_cases e:a.n=7
 have b:K (Et a.n=ZZ):=(by show Et a.n=ZZ;rw[e];rfl);rw[e] at f;refine er_ ?_;rw[b];exact⟨X,X⟩;have b:K (Et a.n=Z0):=(by show Et a.n=Z0;unfold Et;simp[c,d,e]);have p:=aO c;have q:=aO d;have r:=aO e;refine er_ ?_;rw[b];exact⟨X,X⟩
def wx{d k j i c f l h b}(g:RB b d k j i c f l h):C_ 91 #[P_ d] b (V_ (ZR (ZE (c=0))) b):=by
 obtain⟨_,_,_,m,_,_⟩:=g.e
 by_cases a:c=0
 subst a;refine er_ ?_;exact⟨X,X⟩;have n:=aO a;have e:=Y (aE a);refine er_ ?_
 first|exact⟨X,X⟩|(rw[e];exact⟨X,X⟩)
abbrev Zjh:=Y0 (Y0 E)
def Ar(b a:E):Zjh:=
 if a=44/\0<b then T ZP
 else if 48<=a/\a<=57/\1<=b*10+(a-48)/\b*10+(a-48)<=99 then T (T (b*10+(a-48)))
 else ZP
def ZnP(a:H)(g f e:ZY)(j:E)(i:ZG)(h:ZY)(d:Cm)(k:Zjh)(l:ZT)(c:Ending)(b:ZT):Prop:=
 Y3 l b (T a)/\match k with
  |none=>c=ZI (ZR ZZ)/\RB b a g f e j i h d
  |some ZP=>c=ZI (ZR Z0)/\RB b a g f e j Z0 h d
  |some (T m)=>c=ZI (ZR Z0)/\RB b a g f e m i h d
def ef{f o n m b j p l a i}(g:RB i f o n m b j p l)(w:0<=b)(x:b<=99)(y:0<=a)(z:a<=255):C_ 162 #[P_ f,ZX .u8 a] i λc d=>ZnP f o n m b j p l (Ar b a) i c d:=by
 obtain⟨_,_,_,r,s,_⟩:=g.e;have t:=g.i.2.2.2.2.2.2;have d:=Y g
 by_cases k:a=44/\0<b
 have c:K (Ar _ a=_):=aD k;obtain⟨rfl,e⟩:=k;refine er_ ?_;rw[c];exact⟨Aq (Ay) _,X,d.j _⟩
 by_cases q:48<=a/\a<=57
 ·obtain⟨u,v⟩:=q;have M:¬a=44:=O;have A:IntKind.u8.wrap (a-48)=a-48:=(by simp[wrap,IntKind.bits,signed];omega);have D:_=a-48:=Au O O;have G:_=b*10:=Au O O;have L:_=b*10+(a-48):=Au O O
  by_cases h:1<=b*10+(a-48)/\b*10+(a-48)<=99
  ·have c:K (Ar b a=T (T (b*10+(a-48)))):=(by show Ar b a=_;grind [Ar]);obtain⟨e,N⟩:=h;refine q_ ?_;go_wp2;go_ret;rw[c];exact⟨Aq (Ay) _,X,d.h _⟩
  have c:K (Ar b a=ZP):=(by show Ar b a=_;grind [Ar]);have e:b*10+(a-48)<1∨99<b*10+(a-48):=O
  rcases e with e|e
  all_goals
   refine q_ ?_;go_wp2;go_ret;rw[c];exact⟨Ay,X,d⟩
 have c:K (Ar b a=ZP):=(by show Ar b a=_;grind [Ar]);have e:a<48∨57<a:=O;have h:(a=44/\b=0)∨¬a=44:=O
 rcases h with⟨rfl,rfl⟩|h
 ·clear e;refine q_ ?_;go_wp2;go_ret;rw[c];exact⟨Ay,X,d⟩
 have u:=aO h
 rcases e with e|e
 all_goals
  refine q_ ?_;go_wp2;go_ret;rw[c];exact⟨Ay,X,d⟩
def Zf3:(prog.info? 5).map (λa=>(a.zero,a.size,a.bytes))=T (T (ZX .u8 0),1,1):=k_
def Az(d:ZT)(b:H)(c:ZY)(a:U E):Prop:=ZD d b 5 1 c (F a) (a.map (ZX .u8))
def Az.a{g d b a}(f:Az g d b a):∃c e,b=ZH c (F a) e:=by
 rcases f.2 with⟨rfl,i⟩|⟨k,j,h,rfl,_⟩
 ·grind
 grind
def RW(b:ZT)(c d:H)(i h g:ZY)(k:E)(f:ZG)(j:ZY)(a:Cm)(e:U E):Prop:=RB b c i h g k f j a/\Az b d a.f e
def Fo(e i:H)(n m l:ZY)(p:E)(k:ZG)(o:ZY)(b:Cm)(f:U E)(c:Y0 (E×U E))(g:ZT)(j:Ending)(h:ZT):Prop:=
 j=ZI (ZR c.isSome)/\(∃d,RW h e i n m l p k o {b with n:=(c.getD (b.n,f)).1,f:=d} (c.getD (b.n,f)).2/\(ZW d=ZW b.f∨∃a,ZW d=T a/\B g.1<=a))/\Aa (λa=>a=e∨T a=ZW b.f) g h
def Fo.none{c d i h g k f j a e b}(l:RW b c d i h g k f j a e):Fo c d i h g k f j a e ZP b (ZI (ZR ZZ)) b:=
 ⟨X,⟨a.f,l,ZM X⟩,Aa.refl _ _⟩
section
variable (b base:H) (d a vC:ZY) (wt:E) (fl:ZG) (e:ZY) (p:Cm) (bs:U E) (c:E) (w:ZT)
def mo(g:RW w b base d a vC wt fl e p bs):C_ 311 #[Y7 (T (J b 6))] w (V_ (ZR (ZE (F bs=8))) w):=by
 obtain⟨_,_,_,_,_,f,j⟩:=g.1.i;obtain⟨i,k,h⟩:=g.2.a;rw[h] at f
 by_cases c:F bs=8
 rw[c] at f;refine er_ ?_;exact⟨by simp[c],X⟩;have l:((F bs:E)==8)=_:=aO O;refine er_ ?_;exact⟨by simp[c],X⟩
def ix(f:RW w b base d a vC wt fl e p bs):C_ 259 #[Y7 (T (J b 6)),ZX .u8 c] w λh k=>Fo b base d a vC wt fl e p bs (if c=34 then T (7,bs) else ZP) w h k:=by
 obtain⟨l,_,_,_,_,_,m⟩:=f.1.i;have H:=Y f
 have i:K (∀g,Az (ZO w (J b 6) g) base p.f bs):=λg=>((Aa.refl _ w).setCell (p:=(J b 6)) (λ_=>X) g).M f.2 (λo j h=>by
  obtain⟨n,q⟩:=Ac f.2 j;subst h;have:=f.1;unfold RB at this
  grind)
 by_cases q:c=34
 ·subst q;refine q_ ?_;go_wp2;go_ret;exact⟨X,⟨p.f,⟨H.1.n 7,i _⟩,ZM X⟩,(λg=>(Aa.refl _ w).setCell (p:=(J b 6)) (λ_=>ZM X) g) _⟩
 have j:=aO q;refine q_ ?_;go_wp2;go_ret
 first|exact Fo.none H|(rw[(aC q)];exact Fo.none H)
def tl(f:RW w b base d a vC wt fl e p bs):C_ 261 #[Y7 (T (J b 6)),ZX .u8 c] w λh k=>Fo b base d a vC wt fl e p bs (if c=34 then T (8,bs) else ZP) w h k:=by
 obtain⟨l,_,_,_,_,_,m⟩:=f.1.i;have H:=Y f
 have i:K (∀g,Az (ZO w (J b 6) g) base p.f bs):=λg=>((Aa.refl _ w).setCell (p:=(J b 6)) (λ_=>X) g).M f.2 (λo j h=>by
  obtain⟨n,q⟩:=Ac f.2 j;subst h;have:=f.1;unfold RB at this
  grind)
 by_cases q:c=34
 ·subst q;refine q_ ?_;go_wp2;go_ret;exact⟨X,⟨p.f,⟨H.1.n 8,i _⟩,ZM X⟩,(λg=>(Aa.refl _ w).setCell (p:=(J b 6)) (λ_=>ZM X) g) _⟩
 have j:=aO q;refine q_ ?_;go_wp2;go_ret
 first|exact Fo.none H|(rw[(aC q)];exact Fo.none H)
end
def Mf(a:U E)(b:E):Y0 (E×U E):=if Fz b=Z0/\F a≠8 then T (6,a++[b]) else ZP
def Gh(a:E):ZG:=Fz a||ZE (a=32)||ZE (a=44)||ZE (a=10)||ZE (a=34)
def fz(c:E)(a:U E)(b:E):Y0 (E×U E):=if Gh b=Z0/\F a≠8 then T (c,a++[b]) else ZP
def Ok(a:U E)(b:E):Y0 (E×U E):=if b=34/\F a≠8 then T (7,a++[b]) else ZP
def bj{a l p o n s m q d b f r e i w h g j}(t:RW r a l p o n s m q d b)(u:RB e a p o n s m q {d with n:=w})(x:Aa (λk=>k=a) r e)(z:ZD i l 5 1 (L_ h (F b+1) g) (F b+1) (b.map (ZX .u8)++[ZX .u8 f]))(v:Y3 (ZN e (O_ #[ZX .u8 f] 5)) i (ZW d.f))(D:ZW (L_ h (F b+1) g)=ZW d.f∨ZW (L_ h (F b+1) g)=T j/\Below j (ZN e (O_ #[ZX .u8 f] 5)) i)(L:B e.1<=j):Fo a l p o n s m q d b (T (w,b++[f])) r (ZI (ZR Z0)) (ZO i (J a 11) (L_ h (F b+1) g)):=by
 have A:T a≠ZW d.f:=λc=>by
  obtain⟨y,G⟩:=Ac t.2 c.s;have:=t.1;unfold RB at this
  grind
 have y:RB (ZN e (O_ #[ZX .u8 f] 5)) a _ _ _ _ _ _ _:=(hb_ _ _ a u.lt).T u;refine⟨X,⟨V _ _ _,⟨(y.grown v A).f _,?_⟩,?_⟩,?_⟩
 ·have G:Aa _ _ (ZO i _ (L_ h (F b+1) g)):=(Aa.refl _ _).setCell (p:=(J a 11)) (λ_=>X) _;have M:=G.M z (λk N c=>by grind [RB])
  grind [Az]
 ·rcases D with c|⟨c,_⟩
  exact ZM c;exact ZJ ⟨j,c,p_ x.size⟩
 exact(((x.m (λk _ c=>ZM c)).alloc _).grown v (λk c _=>ZJ c.s)).setCell (p:=(J a 11)) (λ_=>ZM X) _
section
variable (b base:H) (d a vC:ZY) (wt:E) (fl:ZG) (e:ZY) (p:Cm) (bs:U E) (c:E) (w:ZT)
def Ty(f:RW w b base d a vC wt fl e p bs)(z:base<=B w.1)(W:F bs<=1000):C_ 260 #[Y7 (T (J b 6)),ZX .u8 c] w λg h=>Fo b base d a vC wt fl e p bs (Mf bs c) w g h:=by
 obtain⟨M,_,_,_,_,L,N⟩:=f.1.i;have i:=Y f;have j:=Y (λk=>Qv c k);have l:=Y (mo b _ _ _ _ _ _ _ p _ w f)
 have t:K (Az (ZO w (J b 6) (I 6)) base p.f bs):=((Aa.refl (λk=>k=b) w).setCell (p:=(J b 6)) (λ_=>X) _).M f.2 (λk m g=>by
  obtain⟨r,x⟩:=Ac f.2 m;subst g;have:=f.1;unfold RB at this
  grind)
 have o:=Y (f.1.n 6);have v:K (Aa _ w (ZO w _ (I 6))):=(Aa.refl (λk=>k=b) w).setCell (p:=(J b 6)) (λ_=>X) _
 have u:K (_<=B (ZO w (J b 6) (I 6)).1):=show base<=_ by simp[ZO];exact z
 have Q:_=T p.f:=(f.1.n 6).i.2.2.2.2.2.1
 by_cases n:Fz c=Z0
 ·rw[n] at j
  by_cases m:F bs=8
  ·have k:K (Mf _ c=_):=aC (λf=>f.2 m);have q:=aF m;rw[q] at l;refine q_ ?_;go_wp2_with (first|(go_at_call 310;apply (j _).m;rintro g h ⟨rfl,rfl⟩)|(go_at_call 311;apply (l).m;rintro g h ⟨rfl,rfl⟩))
   go_ret;rw[k];exact Fo.none i
  have k:K (Mf _ c=_):=aD ⟨n,m⟩;rw[(aE m)] at l;refine q_ ?_;go_upto_region 4 with(first|(go_at_call 310;apply (j _).m;rintro g h ⟨rfl,q⟩;obtain rfl:=q.s)|(go_at_call 311;apply (l).m;rintro g h ⟨rfl,q⟩;obtain rfl:=q.s))
  have s:K (T b≠ZW p.f):=λg=>by
   obtain⟨r,x⟩:=Ac i.2 g.s;have:=i.1;unfold RB at this
   grind
  generalize (ZO w) (J b 6) (I 6)=G at *;have a0:=u.out;go_wp2_with (at_builtin;refine ap_ [ZX .u8 c] (ra_ t _) ?_)
  intro a3 a2 y;obtain⟨D,r,A,_,a1,P,rfl⟩:=y;have x:RB (ZN G (O_ #[ZX .u8 c] 5)) b _ _ _ _ _ _ _:=(hb_ _ _ b o.lt).T o;obtain⟨_,_,_,_,_,R,S⟩:=(x.grown r s).i;go_wp2;go_ret;rw[k];exact(Y (bj i o v D r A O))
 have k:K (Mf bs c=_):=aC (λf=>n f.1)
 have m:Fz c=ZZ:=by simpa using n
 rw[m] at j;refine q_ ?_;go_wp2_with (go_at_call 310;apply (j _).m;rintro g h ⟨rfl,rfl⟩)
 go_ret;rw[k];exact Fo.none i
end
def El(b a:H):E:=if b+1=a then 10 else 44
def tf{e g} a i {q p r l h b j o d}(m:RB d e (V g a i) q p r l (V h b j) o)(u:a<=1000)(v:b<=1000):C_ 219 #[P_ e] d λc k=>c=ZI (ZX .u8 (El b a))/\∃f,k=Y1 d f:=by
 have⟨s,_,_,_,_,t⟩:=m.e
 by_cases f:b+1=a
 ·have c:K (El _ _=_):=aD f;have n:_=(a:E)-1:=Au O O;have k:(b==(a:E)-1)=Z0:=t_;refine q_ ?_;go_wp2_with fail
  go_big_quiet (fail);go_wp2;go_ret;rw[c];exact⟨X,_,X⟩
 have c:K (El _ _=_):=aC f;have n:_=(a:E)-1:=Au O O;have k:((b:E)==(a:_)-1)=_:=aO O;refine q_ ?_;go_wp2_with fail
 go_big_quiet (fail);go_wp2;go_ret;rw[c];exact⟨X,_,X⟩
def Pn a g {f d}(e:Az a g f d):(convert 66 9 f).run Y8 a=.ok (Q_ (ZB d)) a:=by
 rcases e.2 with⟨rfl,h⟩|⟨c,i,j,rfl,_,l,_⟩
 have b:=eq_nil_of_length_eq_zero h;subst b;rw[run_convert_bytes_nil a 66 5 underlying66 underlying5 0 0 9 underlying9];rfl
 refine run_convert_bytes_arg a _ 5 underlying66 underlying5 c 0 _ _ _ X (λb m=>?_) 9 underlying9;have:=World.ownsRow.cells e (g:=c) X b (ZX .u8 (Z d b 0)) w_;have k:((J c 0):Addr).add b=(J c b):=by unfold Addr.add;split<;>simp_all
 grind
def Tm(a:Cm):E:=if a.neg=Z0 then -a.num else a.num
def ZiJ{f} R {a4 a3 a2 a6 a0 a5} p {b a}(g:RW a f R a4 a3 a2 a6 a0 a5 p b)(a9: -1000000000000<=p.num)(b0:p.num<=1000000000000):C_ 221 #[Y7 (T ⟨f,6,ZP⟩)] a λd c=>d=ZI (Y9 #[ZR (ZE (p.n=0)),ZX ZQ (Tm p),YW (ZB b)])/\E_ a c:=by
 have⟨x,y,_,_,v,w,_⟩:=g.1.i;have a8:=g.1.lt;have⟨r,s,N⟩:=g.2.a;have n:=λe a1=>Pn e _ ((Aa.a (S:=λ_=>False) a1).M g.2 (λ_ _=>id));have h:Below _ a (ZN a (YU #[ZR ZZ,I 0,YW ⟨#[]⟩] 308)):=r_;have D:=n _ h.drew;have G:(convert 66 9 p.f).run _ (YY (ZN (ZN a _) (YU #[ZR ZZ,I 0,YW ⟨#[]⟩] 308)))=_:=n _ (h.alloc s_ _).drew;have⟨W,A,S,z⟩:=k4_ h x y v w;have Q:K (∀e,E_ a e->(convert 66 9 (ZH r (F b) s)).run Y8 e=.ok (YW (ZB b)) e):=(by rw[<- N];exact n);have m:=Y h;have b1:B (ZN a (YU #[ZR ZZ,I 0,YW ⟨#[]⟩] 308)).1=B a.1+1:=s_;have b6:ZV (ZN a (YU #[ZR ZZ,I 0,YW ⟨#[]⟩] 308)) (J (B a.1) 0)=T (ZR ZZ):=s_;have b7:ZV (ZN a (YU #[ZR ZZ,I 0,YW ⟨#[]⟩] 308)) (J (B a.1) 1)=T (I 0):=s_
 have b8:ZV (ZN a (YU #[ZR ZZ,I 0,YW ⟨#[]⟩] 308)) (J (B a.1) 2)=T (YW ⟨#[]⟩):=s_;have t:K ((ZN a (YU #[ZR ZZ,I 0,YW ⟨#[]⟩] 308)).1[_]? =_):=ha_ a _;have b9:∀P,YT (ZN a (YU #[ZR ZZ,I 0,YW ⟨#[]⟩] 308)) _=_:=λP=>R_ P _ _ (ha_ a _);clear g n h x y v w;rw[N] at z D G;refine q_ ?_;go_wp2_with fail
 generalize (ZN a) (YU #[ZR ZZ,I 0,YW ⟨#[]⟩] 308)=l at *;have b3:=new_ne _ _ W;have b4:=new_ne _ _ S;have b5:=new_ne _ _ z;clear D G;go_region_held3 (λc=>(ZV c ⟨f,6,ZP⟩=T (I p.n)/\ZV c ⟨f,10,ZP⟩=T (I p.num)/\ZV c ⟨f,11,ZP⟩=T (ZH r (F b) s))/\(convert 66 9 (ZH r (F b) s)).run Y8 c=.ok (YW (ZB b)) c) (exact⟨by go_keep,Q.out _ (by repeat(first|with_reducible exact m.out|with_reducible apply Below.drew|(refine Below.alloc ?_ O _)|(refine Below.setCell ?_ (by first|omega|(simp;omega)) _)))⟩) (fail)
 have a7:K (Below _ a (YY (ZN l (YU #[ZR (p.n==0),I p.num,YW (ZB b)] 308)))):=(m.alloc O _).drew;have M:(p.n==0)=ZE (p.n=0):=w_;have u:=Y M;clear M;have b2:_= -p.num:=Au O O
 by_cases d:p.neg=Z0
 ·have q:K (Tm p=_):=aD d;rw[d] at A;clear d;have c:(YY (ZN (ZO (ZO (ZO l (J (B a.1) 0) (ZR (p.n==0))) (J (B a.1) 1) (I (-p.num))) (J (B a.1) 2) (YW (ZB b))) (YU #[ZR (p.n==0),I (-p.num),YW (ZB b)] 308))).1[B a.1]? =T (YU #[ZR (p.n==0),I (-p.num),YW (ZB b)] 308 (0,0)):=by have j:=ht_ 0 _ _ (ZR (p.n==0)) t;have k:=ht_ 1 _ _ (I (-p.num)) j;have i:=ht_ 2 _ _ (YW (ZB b)) k;exact(hc_ (Qb i).1).T i
  have i:=n_ 0 c;have j:=n_ 1 c;have k:=n_ 2 c;have o:K (E_ a (YY (ZN (ZO (ZO (ZO l (J (B a.1) 0) (ZR (p.n==0))) (J (B a.1) 1) (I (-p.num))) (J (B a.1) 2) (YW (ZB b))) (YU #[ZR (p.n==0),I (-p.num),YW (ZB b)] 308)))):=((((m.setCell (p:=(J (B a.1) 0)) x_ _).setCell (p:=(J (B a.1) 1)) x_ _).setCell (p:=(J (B a.1) 2)) x_ _).alloc (by simp[ZO];omega) _).drew;clear c;go_wp2;exact bodyPost_ret (v:=Y9 #[ZR (p.n==0),I (-p.num),YW (ZB b)]) (by simp at i j k;simp[results,results221,go_sem,i,j,k]) X ⟨by rw[q,u],o⟩
 have L:p.neg=ZZ:=by simpa using d
 have q:K (Tm p=_):=aC d;rw[L] at A;clear d L;have c:(YY (ZN (ZO (ZO (ZO l (J (B a.1) 0) (ZR (p.n==0))) (J (B a.1) 1) (I (p.num))) (J (B a.1) 2) (YW (ZB b))) (YU #[ZR (p.n==0),I (p.num),YW (ZB b)] 308))).1[B a.1]? =T (YU #[ZR (p.n==0),I (p.num),YW (ZB b)] 308 (0,0)):=by have j:=ht_ 0 _ _ (ZR (p.n==0)) t;have k:=ht_ 1 _ _ (I (p.num)) j;have i:=ht_ 2 _ _ (YW (ZB b)) k;exact(hc_ (Qb i).1).T i
 have i:=n_ 0 c;have j:=n_ 1 c;have k:=n_ 2 c;have o:K (E_ a (YY (ZN (ZO (ZO (ZO l (J (B a.1) 0) (ZR (p.n==0))) (J (B a.1) 1) (I (p.num))) (J (B a.1) 2) (YW (ZB b))) (YU #[ZR (p.n==0),I (p.num),YW (ZB b)] 308)))):=((((m.setCell (p:=(J (B a.1) 0)) x_ _).setCell (p:=(J (B a.1) 1)) x_ _).setCell (p:=(J (B a.1) 2)) x_ _).alloc (by simp[ZO];omega) _).drew;clear c;go_wp2;exact bodyPost_ret (v:=Y9 #[ZR (p.n==0),I (p.num),YW (ZB b)]) (by simp at i j k;simp[results,results221,go_sem,i,j,k]) X ⟨by rw[q,u],o⟩
def mx a f:C_ 312 #[ZX .u8 a] f (V_ (ZR (Gh a)) f):=by
 have b:=Y (λc=>Qv a c)
 by_cases e:Fz a=Z0
 ·have c:K (Gh a=Z0):=(by show Gh a=Z0;unfold Gh;rw[e];rfl);rw[e] at b;refine q_ ?_;go_wp2_with (go_at_call 310;apply (b _).m;rintro g n ⟨rfl,d⟩;obtain rfl:=d.s)
  go_ret;rw[c];exact⟨X,X⟩
 have i:Fz a=ZZ:=by simpa using e
 have c:K (Gh a=(ZE (a=32)||ZE (a=44)||ZE (a=10)||ZE (a=34))):=(by show Gh a=_;unfold Gh;grind);rw[i] at b;have h:a=32∨a=44∨a=10∨a=34∨(¬a=32/\¬a=44/\¬a=10/\¬a=34):=O
 rcases h with rfl|rfl|rfl|rfl|⟨j,k,l,m⟩
 all_goals try
  have d:=aO j;have g:=aO k;have n:=aO l;have o:=aO m
 all_goals go_enter func312,ntmps312
 all_goals go_wp2_with (go_at_call 310;apply (b _).m;rintro g n ⟨rfl,d⟩;obtain rfl:=d.s)
 all_goals go_ret
 all_goals refine⟨?_,X⟩
 all_goals rw[c]
 all_goals first|rfl|simp_all
section
variable (b base:H) (d a vC:ZY) (wt:E) (fl:ZG) (f:ZY) (p:Cm) (bs:U E) (c:E) (w:ZT)
def ql(e:RW w b base d a vC wt fl f p bs)(D:base<=B w.1)(a3:F bs<=1000):C_ 263 #[Y7 (T (J b 6)),ZX .u8 c] w λg q=>Fo b base d a vC wt fl f p bs (Ok bs c) w g q:=by
 obtain⟨Q,_,_,_,_,P,R⟩:=e.1.i;have l:=Y e;have N:=Y (λh=>Qv c h);have i:=Y (mo b _ _ _ _ _ _ _ p _ w e)
 have s:K (T b≠ZW p.f):=λg=>by
  obtain⟨j,k⟩:=Ac e.2 g.s;have:=e.1;unfold RB at this
  grind
 have u:K (Az (ZO w (J b 6) (I 7)) base p.f bs):=((Aa.refl (λh=>h=b) w).setCell (p:=(J b 6)) (λ_=>X) _).M e.2 (λh m g=>by
  obtain⟨j,k⟩:=Ac e.2 m;subst g;have:=e.1;unfold RB at this
  grind)
 have m:=Y (e.1.n 7);have x:K (Aa _ w (ZO w _ (I 7))):=(Aa.refl (λh=>h=b) w).setCell (p:=(J b 6)) (λ_=>X) _
 have v:K (_<=B (ZO w (J b 6) (I 7)).1):=show base<=_ by simp[ZO];exact D
 have W:_=T p.f:=(e.1.n 7).i.2.2.2.2.2.1;have a0:=(e.1.n 7).i.2.2.2.2.2.2
 by_cases k:c=34
 ·subst k
  by_cases j:F bs=8
  ·have h:K (Ok _ 34=_):=aC (λe=>e.2 j);have n:=aF j;rw[n] at i;refine q_ ?_;go_wp2_with ((go_at_call 311;apply (i).m;rintro g q ⟨rfl,o⟩;obtain rfl:=o.s))
   go_ret;rw[h];exact Fo.none l
  have h:K (Ok _ _=_):=aD ⟨X,j⟩;have n:=aE j;rw[n] at i;refine q_ ?_;go_upto_region 4 with((go_at_call 311;apply (i).m;rintro g q ⟨rfl,o⟩;obtain rfl:=o.s))
  generalize (ZO w) (J b 6) (I 7)=M at *;have a4:=v.out;go_wp2_with (at_builtin;refine ap_ [ZX .u8 34] (ra_ u _) ?_)
  intro a7 a6 A;obtain⟨L,r,G,_,a5,S,rfl⟩:=A;have y:RB (ZN M (O_ #[ZX .u8 34] 5)) b _ _ _ _ _ _ _:=(hb_ _ _ b m.lt).T m;have z:=y.grown r s;obtain⟨_,_,_,_,_,a1,a2⟩:=z.i;have t:=Y (bj l m x L r G O);go_wp2;go_ret;rw[h];exact t
 have h:K (Ok bs c=_):=aC (λe=>k e.1);refine er_ ?_;rw[h];exact Fo.none l
def Zjw{p:Prop}(h:p:=by
 refine q_ ?_;go_wp2_with (first|(go_at_call 312;apply (h _).m;rintro e w' ⟨rfl,hw'⟩;obtain rfl:=hw'.s)|(go_at_call 311;apply (HF).m;rintro e w' ⟨rfl,hw'⟩;obtain rfl:=hw'.s))
 go_ret;rw[i]
 exact Fo.none l):p:=h
def Zap(g:RW w b base d a vC wt fl f p bs)(y:base<=B w.1)(W:F bs<=1000):C_ 262 #[Y7 (T (J b 6)),ZX .u8 c] w λe w'=>Fo b base d a vC wt fl f p bs (fz p.n bs c) w e w':=by
 obtain⟨L,_,_,_,_,G,M⟩:=g.1.i;have l:=Y g;have h:=Y (λi=>mx c i);have HF:=Y (mo b _ _ _ _ _ _ _ p _ w g)
 have q:K (T b≠ZW p.f):=λe=>by
  obtain⟨i,j⟩:=Ac g.2 e.s;have:=g.1;unfold RB at this
  grind
 have s:=Y g.2;have m:=Y g.1;have t:K (Aa (λi=>i=b) w w):=Aa.refl _ _;have D:=Y y;have P:=g.1.i.2.2.2.2.2.1;have Q:=g.1.i.2.2.2.2.2.2
 by_cases k:Gh c=Z0
 ·rw[k] at h
  by_cases j:F bs=8
  have i:K (fz p.n _ c=_):=aC (λg=>g.2 j);have n:=aF j;rw[n] at HF;exact Zjw;have i:K (fz p.n _ c=_):=aD ⟨k,j⟩;have n:=aE j;rw[n] at HF;refine q_ ?_;go_upto_region 3 with(first|(go_at_call 312;apply (h _).m;rintro e w' ⟨rfl,hw'⟩;obtain rfl:=hw'.s)|(go_at_call 311;apply (HF).m;rintro e w' ⟨rfl,hw'⟩;obtain rfl:=hw'.s))
  go_wp2_with (at_builtin;refine ap_ [ZX .u8 c] (ra_ s _) ?_)
  intro a2 a1 x;obtain⟨A,o,z,_,a0,N,rfl⟩:=x;have u:RB (ZN w (O_ #[ZX .u8 c] 5)) b _ _ _ _ _ _ _:=(hb_ w _ b m.lt).T m;have v:=u.grown o q;obtain⟨_,_,_,_,_,R,S⟩:=v.i;have r:=Y (bj l m t A o z O);go_wp2;go_ret;rw[i];exact r
 have j:Gh c=ZZ:=by simpa using k
 have i:K (fz p.n bs c=_):=aC (λg=>k g.1);rw[j] at h;exact Zjw
end
end Go.Proofs.YtfcgnpchbcmdeaaGreat
