import Derived.Test.YtfcgnpchbcmdeaaGreatZoas
import Derived.Test.YtfcgnpchbcmdeaaGreatZoar
import Derived.Test.YtfcgnpchbcmdeaaGreatZoau
namespace Go.Proofs.YtfcgnpchbcmdeaaGreat
set_option linter.all false
set_option maxRecDepth 100000
set_option maxHeartbeats 8000000
open Go.RowKit Go.Lib Go.Sort List Nat World Go.Proofs.Tryz Value IntKind Lib Region
def orI(a b:Int):Int:=if a=0 then b else a
def ZjF l n a c j (o:D_ j l 0 (I a))(p:D_ j l 1 (I c)):C_ 192 #[L_ l 2 n] j (V_ (.int .i64 (orI a c)) j):=by
 have e:K (orI a c=if a=0 then c else a):=rfl;generalize orI a c=m at *;refine v_ ?_;go_wp2_with fail
 go_loop [8] (λb=>∃d:Nat,b=I d/\d<=2/\(1<=d->K (a=0))/\(2<=d->K (c=0))) (λb=>2-(intOf b).toNat)
 grind
 obtain⟨d,rfl,q,g,i⟩:=hrel
 rcases(show d=0∨d=1∨d=2 by omega) with rfl|rfl|rfl
 ·clear g i
  by_cases b:a=0
  ·have k:(a !=0)=false:=(by simp[b]);have h:=Y b;clear b;go_wp2
   grind [intOf]
  have k:(a !=0)=true:=by simpa using b
  have f:K (m=a):=w_;clear b e;go_wp2;go_ret;exact⟨by rw[f];rfl,rfl⟩
 ·have h:=g O;clear g i
  by_cases b:c=0
  ·have k:(c !=0)=false:=(by simp[b]);have f:=Y b;clear b;go_wp2
   grind [intOf]
  have k:(c !=0)=true:=by simpa using b
  have f:K (m=c):=(by show _=_;rw[e.out,aD h.out]);clear b e;go_wp2;go_ret;exact⟨by rw[f];rfl,rfl⟩
 have h:=g O;have f:K (m=0):=(by show _=_;rw[e.out,aD h.out,(i O).out]);clear g i e;go_wp2;go_ret;exact⟨by rw[f];rfl,rfl⟩
def Gr(a d:World):Prop:=∃c b,d=grow (a.drewN c) b
def Gr.refl a:Gr a a:=⟨0,#[],by simp;rfl⟩
def Gr.alloc{a c}(d:Gr a c) b:Gr a (c.alloc b):=by obtain⟨f,e,rfl⟩:=d;exact⟨f,e++#[b],by rw[alloc_eq_grow,grow_grow]⟩
def Gr.drew{a b}(c:Gr a b):Gr a b.drew:=by obtain⟨e,d,rfl⟩:=c;exact⟨e+1,d,rfl⟩
def Gr.below{a b}(c:Gr a b):E_ a b:=by obtain⟨g,f,rfl⟩:=c;refine⟨rfl,rfl,rfl,by simp[grow],λe d=>?_⟩;rw[Go.Sort.heap_grow_old _ _ (by simpa using d)];rfl
def Mn(x a:XS):Int:=orI (compareInt x.row a.row) (compareInt x.f a.f)
def Hq x e a:C_ 148 #[.agg #[I x.row,I x.f,I x.i],.agg #[I e.row,I e.f,I e.i]] a λg c=>g=.returned (.int .i64 (Mn x e))/\Gr a c:=by
 have n:K (Mn x e=orI _ _):=rfl;have l:K (∀b:_,Calls _ _ #[.int _ (x.row:_),.int _ (e.row:_)] b λg c=>_):=λb=>Tryz.cmp_Compare_int _ _ b;have m:K (∀b:_,Calls _ 151 #[.int _ (x.f:Nat),.int _ (e.f:_)] b λg c=>_):=λb=>Tryz.cmp_Compare_int _ _ b;obtain⟨h,i,o⟩:=x;obtain⟨j,k,p⟩:=e;simp only at n l m ⊢;generalize Mn ⟨h,i,o⟩ ⟨j,k,p⟩=D,compareInt (h:Nat) (j:Nat)=w,compareInt (i:Nat) (k:Nat)=y at *;refine v_ ?_;go_upto_region 1 with fail;generalize f:(a.alloc (O_ #[I (h:Nat),I (i:Nat),I (o:Nat)] 184)).alloc (O_ #[I (j:Nat),I (k:Nat),I (p:Nat)] 184)=d;have B:d.1.size=a.1.size+1+1:=(by rw[<- f];simp);have r:K (Gr a d):=(by show Gr _ _;rw[<- f];exact((Gr.refl a).alloc _).alloc _);have s:D_ d a.1.size 0 (I h):=by rw[<- f];simp[go_sem]
 have t:D_ d a.1.size 1 (I i):=(by rw[<- f];simp[go_sem]);have u:D_ d (a.1.size+1) 0 (I j):=(by rw[<- f];simp[go_sem]);have v:D_ d (a.1.size+1) 1 (I k):=(by rw[<- f];simp[go_sem]);clear f B
 have q:K (∀b:World,D_ b d.1.size 0 (I w)->D_ b d.1.size 1 (I y)->C_ 192 #[L_ d.1.size 2 2] b (V_ (.int .i64 D) b)):=λb z A=>by rw[n];exact ZjF _ 2 _ _ b z A
 go_region_held3 (λc=>D_ c a.1.size 0 (I (h:Nat))/\D_ c a.1.size 1 (I (i:Nat))/\D_ c (a.1.size+1) 0 (I (j:Nat))/\D_ c (a.1.size+1) 1 (I (k:Nat))) (exact⟨X_ s,X_ t,X_ u,X_ v⟩) (first|(go_at_call_of 151 (h);apply (l _).m;rintro g c ⟨rfl,rfl⟩)|(go_at_call_of 151 (i);apply (m _).m;rintro g c ⟨rfl,rfl⟩)|(go_at_call 192;apply (q _ (by simp[go_sem]) (by simp[go_sem])).m;rintro g c ⟨rfl,rfl⟩))
 go_wp2;go_ret;exact⟨rfl,(r.alloc _).drew⟩
def eu(x:XS):List Value:=Ct x
def ltX x a:ltOf Mn x a=decide (x.row<a.row∨x.row=a.row/\x.f<a.f):=by
 obtain⟨b,c,d⟩:=x;obtain⟨e,f,g⟩:=a;unfold ltOf Mn orI compareInt
 grind
def Zpn:SWO (ltOf Mn) where
  irrefl a:=by rw[ltX];simp
  trans a d e b c:=by rw[ltX] at *;simp at *;omega
  ntrans a d e b c:=by rw[ltX] at *;simp at *;omega
section
variable [Inhabited XS]
def Ziq a b c d:CmpLays prog 148 #[] eu 3 Mn a b c d:=
 λ_ _ _ _ e f=>Hq e f _
def Zhb c e a b (g:HoldsK eu 3 b c 0 a)(h:c<b.1.size)(i:a.size<4611686018427387904):C_ 208 #[L_ c a.size e,.func (.func 148) #[] #[]] b λf l=>f=.returned (.tuple #[])/\∃d j k,PermIn 0 a.size a d/\SortedIn (ltOf Mn) 0 a.size d/\l=sortWorldK eu 3 b c 0 j d k:=by exact AnyQ.slices_SortFunc Tryz.B 3 isAgg184 sizeOf184 _ (λ_=>rfl) (λj f d=>by simp[eu,Ct] at d;rcases d with rfl|rfl|rfl<;>rfl) _ Zpn _ _ _ 0 _ a b (enters_of func148 k_ rfl) (Ziq _ 0 _ b) g h i
def ZdT c b a:C_ 208 #[V c 0 b,.func (.func 148) #[] #[]] a (V_ (.tuple #[]) a):=AnyF.slices_SortFunc_none {Tryz.B with} c b _ a
def Zf6 b:∀a c,a<b.length->c<3->(Jr b)[a*3+c]? =(Ct (b.getD a ⟨0,0,0⟩))[c]?:=by
 induction b with
 |nil=>grind
 | cons d b g=>
  intro a c e f
  cases a with
  |zero=>grind [Jr,Ct]
  | succ a=>
   grind [Jr,Ct]
theorem ZeN b:(Go.Sort.flatK eu 3 b.toArray).toList=Jr b:=by
 apply ext_getElem?;intro a
 by_cases d:a<b.length*3
 ·have c:=Zf6 b (a/3) (a%3) O O;rw[show a/3*3+a%3=a by omega] at c;rw[c,Array.getElem?_toList];simp only[Go.Sort.flatK]
  grind [eu,Ct]
 rw[getElem?_eq_none t_,getElem?_eq_none (by rw[sh];omega)]
def Za8{e g a f m os d b}(i:b.length=d.length)(k:Ni e g (L_ a d.length f) d):Ni (Go.Proofs.sortWorldK eu 3 e a 0 m b.toArray os) g (L_ a d.length f) b/\e.grownBy (Go.Proofs.sortWorldK eu 3 e a 0 m b.toArray os) (some a):=by
 rcases k.2 with⟨c,_⟩|⟨u,t,j,c,l,h,w,n,o,x⟩
 simp at c;simp only[slice.injEq,Option.some.injEq,Addr.mk.injEq,and_true,true_and] at c;obtain⟨rfl,rfl⟩:=c;have v:(Go.Sort.flatK eu 3 b.toArray).size=d.length*3:=by simp[i]
 have p:(Go.Proofs.sortWorldK eu 3 e a 0 m b.toArray os).1[a]? =some (O_ (Go.Sort.putCells id 0 (Go.Sort.flatK eu 3 b.toArray) j) 184):=(by unfold Go.Proofs.sortWorldK Go.Sort.putRowK;rw[Go.Sort.heap_grow_old _ _ (by simpa using ((Qb h).1))];simp[Go.Sort.putRow,Go.Sort.mapBlock,Go.Sort.ahead,Array.getElem?_modify,h,Go.Sort.onCells]);refine⟨⟨by rw[sh],.inr ⟨a,f,_,by simp[i],l,p,O,n,by simp[Go.Sort.putCells,o],?_⟩⟩,⟨rfl,rfl,rfl,?_,λs q r=>?_⟩⟩
 ·grind [ZeN,od]
 unfold Go.Proofs.sortWorldK Go.Sort.putRowK;simp;unfold Go.Proofs.sortWorldK Go.Sort.putRowK;rw[Go.Sort.heap_grow_old _ _ (by simpa using q)];have:a≠s:=λc=>r (by rw[c]);simp[Go.Sort.putRow,Go.Sort.mapBlock,Go.Sort.ahead,Array.getElem?_modify,this]
def Zdz{e f c g a}(d:Ni e f (L_ c a.length g) a):Go.Sort.HoldsK eu 3 e c 0 a.toArray:=by
 intro b h
 have i:b<a.length*3:=by simpa using h
 refine⟨?_,?_⟩
 ·rw[Nat.zero_add,World.ownsRow.cellAt d b i,<- ZeN]
  grind
 rw[Nat.zero_add];exact World.ownsRow.frozenAt d b
end
def Eh(c:List XS):Prop:=c.Pairwise λa b=>a.row<b.row∨a.row=b.row/\a.f<=b.f
def ZdV e a d (g:Ni d 0 e a)(A:a.length<=1000000):C_ 208 #[e,.func (.func 148) #[] #[]] d λc f=>c=.returned (.tuple #[])/\(∃b:List XS,b.Perm a/\Eh b/\Ni f 0 e b)/\d.grownBy f e.ownBlock:=by
 haveI:Inhabited XS:=⟨⟨0,0,0⟩⟩
 have i:=g
 rcases g.2 with⟨rfl,m⟩|⟨l,k,z,rfl,_,o,_⟩
 have c:=length_eq_zero_iff.1 m;subst c;apply (ZdT _ 0 d).m;rintro c f ⟨rfl,rfl⟩;exact⟨rfl,⟨[],List.Perm.refl _,Pairwise.nil,g⟩,Az _ _⟩;have j:=Zhb l k _ d (Zdz i) (Qb o).1 t_;rw[show a.toArray.size=a.length by simp] at j;apply j.m;rintro c f ⟨rfl,b,x,y,s,u,rfl⟩;obtain⟨t,_,B⟩:=s;have n:b.size=a.length:=(by rw[t];simp);have h:=Za8 (m:=x) (os:=y) O i;rw[show b.toList.toArray=b by simp] at h;refine⟨rfl,⟨b.toList,?_,?_,h.1⟩,h.2⟩
 ·have p:b.extract 0 a.length=b:=by rw[<- n];simp
  grind
 unfold Eh;rw[pairwise_iff_getElem];intro v w p r q;simp at p r;have:=u v w r_ q O;rw[ltX] at this
 grind
end Go.Proofs.YtfcgnpchbcmdeaaGreat
namespace Go.Proofs.YtfcgnpchbcmdeaaGreat
set_option linter.all false
set_option maxRecDepth 100000
set_option maxHeartbeats 8000000
open Go.RowKit List Nat World Go.Proofs.Tryz Value IntKind Lib Region
def ZaD:∀(b:List Int) (a:Int) (c:Nat),a∈b->0<=idxFrom b a c/\idxFrom b a c<(c+b.length:Nat)
 |[],a,c,d=>by simp at d
 | g::b,a,c,d=>by
  simp only[idxFrom];split;simp;omega;rename_i f;have e:a∈b:=w_;have:=ZaD b a (c+1) e
  grind
theorem Uw:∀(b:List Int) (a:Int),b.foldl max a=a∨b.foldl max a∈b
 |[],a=>.inl rfl
 | d::b,a=>by
  simp only[foldl_cons]
  rcases Uw b (max a d) with c|c
  ·grind
  right;simp[c]
def Zgt{a}(c:0<a.length):maxOf a∈a:=by
 cases a with
 |nil=>simp at c
 | cons b a=>
  have d:maxOf (b::a)=foldl max b a:=by first|rfl|(simp[maxOf])|(simp[maxOf,Int.max_def])
  grind [Uw]
def ZaS b {a}(c:0<a):0<=Xt b a/\Xt b a<a:=by have:=ZaD (Bz b a) (maxOf (Bz b a)) 0 (Zgt (by rw[Co];exact c));rw[Co] at this;unfold Xt Lib.idxOf;omega
def Wv(b:ES)(a:List Nat):Nat:=(Xt a (b.b+2)).toNat
def ZeI b a:Xt a (b.b+2)=(Wv b a:Nat):=by have:=ZaS a (show 0<b.b+2 by omega);unfold Wv;omega
def kF(b:List ES)(c:List (List Nat))(a:Nat):KS:=⟨b.getD a Rj,Wv (b.getD a Rj) (c.getD a [])⟩
def oF(c:List ES)(b:List (List Nat))(a:Nat):List Bool:=Cx (b.getD a []) (Wv (c.getD a Rj) (b.getD a []))
def Ev(b:List ES)(a:List (List Nat))(c:Nat):List KS:=(range c).map (kF b a)
def In(b:List ES)(a:List (List Nat))(c:Nat):List (List Bool):=(range c).map (oF b a)
def Et c b a:(Ev c b a).length=a:=by simp[Ev]
def ho c b a:(In c b a).length=a:=by simp[In]
def ZaH b a c:Ev b a (c+1)=Ev b a c++[kF b a c]:=by simp[Ev,range_succ]
def Fy c b {d a}(e:a<d):(Ev c b d).getD a Ai=kF c b a:=by simp[Ev,getD,e]
def Mw c b {d a}(e:a<d):(In c b d).getD a []=oF c b a:=by simp[In,getD,e]
def Oe:∀(b c:List KS) (a d:List (Value×Value)),a.length=b.length->Ha (b++c) (a++d)=Ha b a++Ha c d
 |[],c,a,d,e=>by grind [Ha]
 | f ::b,c,a,d,e=>by
  cases a with
  |nil=>simp at e
  | cons g a=>
   simp only[cons_append,Ha,append_assoc];rw[Oe b c a d (by simpa using e)]
def Zgs(a:Nat)(c:a<=1000000) b:(Instr.makeSlice 309 (I a) (I a)).run prog b=.ok (L_ b.1.size a a) (b.alloc (O_ (madeCells #[N_] a) 101)):=mk_ 1
def Zgr a (b:World) c (e:a<=1000000)(d:c<=b.1.size):(b.alloc (O_ (madeCells #[N_] a) 101)).ownsRow c 101 1 (L_ b.1.size a a) a (replicate a (N_)):=by
 have:=ownsRow_lit (base:=c) (size:=1) (e:=101) b (madeCells #[N_] a) a d m_ (by simp[madeCells]);rw[Sq] at this
 simpa using this
structure ch(b f)(c:List ES)(d:List (List Nat)):Prop where
 le:c.length=b+1
 p:∀a,a<b+1->(d.getD a []).length=f
 ok:∀a,a<b+1->Qv (c.getD a Rj)
 g:∀a,a<b+1->(c.getD a Rj).b<=16
 i:∀a,a<b+1->∀e∈d.getD a [],e<(c.getD a Rj).b+2
def Z4(b:World)(a:Nat):Prop:=b.1[a]? =some (O_ #[.bool false,N_,N_,I 0] 172)
def Z4.cells{b a}(c:Z4 b a):b.cell? (J a 0)=some (.bool false)/\b.cell? (J a 1)=some (N_)/\b.cell? (J a 2)=some (N_)/\b.cell? (J a 3)=some (I 0)/\(∀d,b.frozen? (J a d)=false):=by unfold Z4 at c;refine⟨?_,?_,?_,?_,λd=>fr_ b a d _ _ c⟩<;>simp[cell?,c]
def Z4.new{a:World}{b}(c:b=a.1.size):Z4 (a.alloc (O_ #[.bool false,N_,N_,I 0] 172)) b:=by subst c;exact ha_ a _
def Z4.drew{b a}(c:Z4 b a):Z4 b.drew a:=c
def Z4.call{c d a}(b:Z4 c a)(e:E_ c d):Z4 d a:=(e.block a (Qb b).1).T b
def Z4.fill{f a}(g:Z4 f a) b c d e:((((f.setCell (J a 0) b).setCell (J a 1) c).setCell (J a 2) d).setCell (J a 3) e).1[a]? =some (O_ #[b,c,d,e] 172):=
 hs_ _ a 3 _ 172 _ (hs_ _ a 2 _ 172 _ (hs_ _ a 1 _ 172 _ (hs_ _ a 0 _ 172 _ g)))
structure Ol(i)(h wr:World)(j n b l k:Nat)(c)(m)(f)(e)(d):Prop where
 r:wr.1[j]? =some (O_ #[c,N_,N_] 168)
 q:Jk i wr c m (Ev e d l)
 p:wr.ownsRow 0 101 1 (L_ n b b) b f
 u:∀a,a<k->Ej wr 0 (f.getD a (N_)) (oF e d a)
 o:E_ h wr
 v:∀g,c.ownBlock=some g->h.1.size<=g
def Ol.below{m wr w2 base c k i g f l h j e d}(a:Ol base m wr c k i g f l h j e d)(b:E_ wr w2):Ol base m w2 c k i g f l h j e d:=
 ⟨(b.block c (Qb a.r).1).T a.r,a.q.below b,(Aa.a (S:=λ_=>False) b).row a.p (λ_ _=>id),λo n=>(a.u o n).below b,a.o.T (b.m a.o.size),a.v⟩
def Ol.A{t d q m f A y k p v6 vb vw h z g e}(a:Ol m t d f A y k k p h z g e)(F:t.1.size<=f)(s:d.grownBy q p.ownBlock)(M:q.ownsRow 0 172 4 v6 (k+1) (Ha (Ev g e k) h++Bs (kF g e k) (vb,vw)))(D:v6.ownBlock=p.ownBlock∨v6.ownBlock=some d.1.size/\E_ d q)(u:Ad d m vb (kF g e k).e.g)(v:Bi d m vw (kF g e k).e.c):Ol m t (q.setCell (J f 0) v6) f A y (k+1) k v6 (h++[(vb,vw)]) z g e/\Aa (λc=>p.ownBlock=some c∨c=f) d (q.setCell (J f 0) v6):=by
 have P:=(Aa.refl _ d).grown s (λk b _=>b);have w:=P.g a.r (λb=>Ah a.q.row b a.r C rfl);have j:Aa (λc=>_∨c=f) d _:=((Aa.refl _ d).grown s (λk b _=>.inl b)).setCell (p:=(J f 0)) (λ_=>.inr rfl) v6
 have l:∀{m b N L:Nat} {B Q},d.ownsRow m b N B L Q->b≠172->b≠168->∀c,B.ownBlock=some c->¬(p.ownBlock=some c∨c=f):=λG n R c hq H=>by
  have⟨x,o⟩:=Ac G hq
  rcases H with b|b
  ·have⟨r,E⟩:=Ac a.q.row b
   grind
  subst b;rw[a.r] at o
  grind
 refine⟨⟨ht_ 0 _ _ _ w,⟨?_,?_,λi o=>?_⟩,j.row a.p (l a.p C C),λi o=>j.row (a.u i o) (l (a.u i o) C C),(a.o.grown s a.o.size (λc hq=>a.v c hq)).setCell F _,λc hq=>?_⟩,j⟩;rw[Et];have b:Ha (Ev g e (k+1)) (h++[(vb,vw)])=Ha (Ev g e k) h++Bs (kF g e k) (vb,vw):=(by rw[ZaH,Oe _ _ _ _ a.q.len];simp[Ha]);rw[b];exact Al M w C;rw[Qe,a.q.len,Et,Et];rfl
 ·rw[Et] at o;have S:h.length=k:=by rw[a.q.len,Et]
  by_cases x:i<k
  have r:(h++[(vb,vw)]).getD i Ld=h.getD i Ld:=w_;have n:=a.q.j i (by rw[Et];exact x);rw[r,Fy _ _ o];rw[Fy _ _ x] at n;exact⟨j.row n.1 (l n.1 C C),j.row n.2 (l n.2 C C)⟩;have E:i=k:=O;subst E;have r:(h++[(vb,vw)]).getD i Ld=(vb,vw):=w_;rw[r,Fy _ _ o];exact⟨j.row u (l u C C),j.row v (l v C C)⟩
 rcases D with b|b
 exact a.v c (b ▸ hq);rw[b.1] at hq;injection hq with hq;have:=a.o.size;omega
def Ol.out{p h k r d l a w c v g o m}(b:Ol k p h r d l (a+1) a w v g o m)(z:p.1.size<=d)(M:a<l)(t:Ej h 0 c (oF o m a)):Ol k p (h.setCell (J d a) c) r d l (a+1) (a+1) w v (g.set a c) o m:=by
 have⟨G,x⟩:=Ac b.p (k:=d) rfl;have j:=(Aa.refl (λi=>i=d) h).setCell (p:=(J d a)) (λ_=>rfl) c;have q:∀{k f D B:Nat} {E:_} {F:_},h.ownsRow k f D E B F->f≠101->∀i,_->¬i=d:=λA s i u f=>Ah A u x s f;have N:g.length=l:=p_ b.p.1;refine⟨j.g b.r (λf=>?_),b.q.p j (λi H Q u P f=>?_),(World.ownsRow.stored b.p a c).1,λe L=>?_,b.o.setCell z c,b.v⟩
 ·have s:=b.r
  grind
 ·grind
 by_cases y:e=a
 subst y;have n:(g.set e c).getD e (N_)=c:=w_;rw[n];exact j.row t (q t C);have n:(g.set a c).getD e (N_)=g.getD e (N_):=w_;rw[n];exact j.row (b.u e O) (q (b.u e O) C)
def Ol.a{m wr h i g a l k f d c}(e:Ol h m wr i g a a a l k f d c):Ik wr (L_ g a a) f (In d c a):=
 ⟨by rw[ho];exact e.p,λj b=>by rw[ho] at b;rw[Mw _ _ b];exact e.u j b⟩
def Bj(a:List KS)(c:List Nat):Nat:=(c.map (λb=>(a.getD b Ai).a)).sum
def tp a c b:Bj a (c++[b])=Bj a c+(a.getD b Ai).a:=by simp[Bj]
def Sc c e d f:∀a b,(a.foldl (Ak c e d f) b).off=b.off+Bj c a
 |[],b=>by simp[Bj]
 |g::a,b=>by simp only[foldl_cons];rw[Sc c e d f a];simp[Bj,Ak];omega
theorem ji a d c e f b:(Jm a d c e f b).off=1+Bj a b:=Sc a d c e b _
structure pl(e f d)(b)(a:GS):Prop where
 out:a.out.length=f
 fs:∀c∈a.fs,c<e+1
 sum:a.k=Bj b a.fs
 k:a.k<=40
 len:a.fs.length<=d
def pl.step{n c m budget f Ks Os a}(k:∀d∈a,pl n c m Ks d)(o:(Os.getD f []).length=c)(w:f<n+1)(x:(Ks.getD f Ai).a<=40):∀d∈Bc Ks Os c budget a f,pl n c (m+1) Ks d:=λd g=>by
 unfold Bc at g;split at g
 ·rename_i p
  rcases mem_or_eq_of_mem_set g with l|b
  have⟨e,h,i,j,b⟩:=k d l;exact⟨e,h,i,j,O⟩;have i:=findIdx_getElem (w:=p);have s:a.getD (a.findIdx (Ek (Os.getD f []) (Ks.getD f Ai).a budget)) Fj=a[a.findIdx (Ek (Os.getD f []) (Ks.getD f Ai).a budget)]:=w_;rw[s] at b;have⟨j,q,r,u,v⟩:=k _ (Qf p);generalize a[a.findIdx (Ek (Os.getD f []) (Ks.getD f Ai).a budget)]=e at *;subst b;unfold Ek at i;simp only[Bool.and_eq_true,decide_eq_true_eq] at i;refine⟨?_,?_,?_,i.2,?_⟩;show(orL e.out _).length=c;rw[Lx (by rw[j,o])];exact j
  ·intro t h
   rcases mem_append.1 h with h|h
   exact q t h
   grind
  show e.k+_=Bj Ks (e.fs++[f]);rw[tp,r];show(e.fs++[f]).length<=m+1;simp;omega
 rcases mem_append.1 g with l|b
 have⟨e,h,i,j,b⟩:=k d l;exact⟨e,h,i,j,O⟩;simp only[mem_cons,not_mem_nil,or_false] at b;subst b;refine⟨?_,?_,?_,?_,?_⟩;show(orL (replicate c false) _).length=c;rw[Lx (by rw[o];simp)];simp
 ·grind [Ug,Jp]
 simp[Ug,Jp,Bj];show 0+(Ks.getD f Ai).a<=40;omega;simp[Ug,Jp]
theorem ZaJ b c f d a e:(Bc b c f d a e).length<=a.length+1:=by unfold Bc;split<;>simp
def wh{h e budget c i}(l:∀f,f<h+1->(i.getD f []).length=e)(n:∀f,f<h+1->(c.getD f Ai).a<=40):∀(b:List Nat) g a,(∀d∈b,d<h+1)->(∀d∈a,pl h e g c d)->(∀d∈b.foldl (Bc c i e budget) a,pl h e (g+b.length) c d)/\(b.foldl (Bc c i e budget) a).length<=a.length+b.length
 |[],g,a,_,j=>⟨j,s_⟩
 | d::b,g,a,m,j=>by
  have k:=m d s_;have⟨q,r⟩:=wh (budget:=budget) l n b (g+1) (Bc c i e budget a d) (λp o=>m p (by simp[o])) (pl.step j (l d k) k (n d k))
  grind [ZaJ]
def Xm{a d budget Ks c}(h:∀b,b<a+1->(c.getD b []).length=d)(i:∀b,b<a+1->(Ks.getD b Ai).a<=40):(∀e∈Hs a Ks c d budget,pl a d (a+1) Ks e)/\(Hs a Ks c d budget).length<=a+1:=by
 have f:=wh (budget:=budget) h i _ 0 [] (λe g=>hh a c e g) (λe g=>by simp at g);rw[Ky] at f
 simpa [Hs] using f
def Fl(d:List (List Bool))(a:List (List Nat))(e:Nat)(c:List KS)(b:List GS):Ga:=b.foldl (Lh d a e) ⟨c,[],[]⟩
def uh d c e:∀(b:List GS) a,(b.foldl (Lh d c e) a).h=a.h
 |[],a=>rfl
 |f::b,a=>by simp only[foldl_cons];rw[uh d c e b];rfl
def Oq d a e c b:(Fl d a e c b).h=c:=uh d a e b _
def Zcm d c e f (a:List GS){b}(g:b<a.length):Fl d c e f (a.take (b+1))=Lh d c e (Fl d c e f (a.take b)) (a.getD b Fj):=by
 unfold Fl
 grind [Qi]
def zf e c b:∀(f:List GS) a,(∀d∈f,d.fs.length<=4)->(f.foldl (Lh e c b) a).g.length=a.g.length+f.length/\(f.foldl (Lh e c b) a).q.length<=a.q.length+f.length*(4*b)
 |[],a,_=>⟨rfl,s_⟩
 | d ::f,a,g=>by
  simp only[foldl_cons];have⟨l,m⟩:=zf e c b f (Lh e c b a d) (λi h=>g i (by simp[h]));have j:=(Np a.h e c b d.fs ⟨replicate b 0,a.q,1⟩ s_).2;have k:_<=4*b:=aK _ (g d s_);have h:(Lh e c b a d).g.length=a.g.length+1:=by simp[Lh]
  have i:(Lh e c b a d).q.length<=a.q.length+4*b:=by
   show(Jm a.h e c b a.q d.fs).q.length<=_;unfold Jm
   grind
  refine⟨w_,?_⟩;rw[length_cons,Nat.add_mul,Nat.one_mul];omega
def ZfI d b {n} c {a}(f:∀e∈a,e.fs.length<=4)(k:n<=200)(g:a.length<=4):(Fl d b n c a).g.length<=4/\(Fl d b n c a).q.length<=4000:=by
 have⟨h,i⟩:=zf d b n a ⟨c,[],[]⟩ f;have j:_*(4*n)<=4*800:=Nat.mul_le_mul g O
 grind [Fl]
def Bw(b d e:Nat)(c:List ES)(a:List (List Nat)):Ga:=Fl (In c a (b+1)) a d (Ev c a (b+1)) (Hs b (Ev c a (b+1)) (In c a (b+1)) d e)
structure Om(d)(f)(c h i)(g e)(b)(a:Ga):Prop where
 v:DsX d f c h i e a.g b
 q:ZfF d c g a.h
 n:b.Perm a.q
 l:Eh b
structure Us(b)(h)(j)(e f g)(k i)(d)(c:Ga):Prop where
 v:ci b h j e f g i c.g d
 q:Jk b h e k c.h
 n:d.Perm c.q
 l:Eh d
 o:∀a,e.ownBlock=some a->b<=a
 x:∀a,f.ownBlock=some a->b<=a
 p:∀a,g.ownBlock=some a->b<=a
def Lg(c:Nat)(j:World)(e:Nat)(a:Ga):Prop:=∃h g i f d b,Us c j e h g i f d b a
def Zmn(i:World)(d:Nat)(a:Ga):Prop:=∃g f h e c b,Om i d g f h e c b a
def Lg.zero{f d c b}(a:Lg f d c b):Zmn d c b:=by obtain⟨j,i,k,h,g,e,a⟩:=a;exact⟨j,i,k,h,g,e,a.v.m r_,a.q.m r_,a.n,a.l⟩
def ci.l{d f i l o n c k j u h}(a:ci i d l o n c k j u)(r:d.grownBy f c.ownBlock)(q:Ni f 0 c h):ci i f l o n c k j h/\Aa (λb=>c.ownBlock=some b) d f/\gc (λb=>c.ownBlock=some b) d:=by have g:=(Aa.refl _ d).grown r (λb e _=>e);have m:gc _ d:=λb w x e t=>a.a b _ _ e (.inr (.inr t));refine⟨⟨g.g a.r (λp=>Ah a.j p a.r C rfl),a.v.p g (λb e s=>?_) m,q⟩,g,m⟩;have⟨v,p⟩:=Ac a.v.row e;exact Ah a.j s p C rfl
structure ZhW(g)(f wr)(b)(i d e)(h)(c:Ga):Prop where
 v:ci g wr b i d e h c.g c.q
 t:Aa (λa=>a=b) f wr
 x:∀a,DsS b d e a->a=b∨f.1.size<=a
def ZhW.a{m wr n c e g k l p o b}(a:ZhW c m wr e g k l p o)(t:ie c wr n e g k l b.g b.q):∃f h d,ZhW c m n e g f h d b:=by
 obtain⟨f,h,d,q,r,s⟩:=t;refine⟨f,h,d,q,a.t.c r (λj i=>a.x j i),λj u=>?_⟩
 rcases s j u with i|i
 exact a.x j i;have:=a.t.size;exact .inr O
def ZjI{i:World}{b c h g:Nat}{a j}(e:i.ownsRow 0 c h a g j)(m:∀f,a.ownBlock=some f->b<=f):i.ownsRow b c h a g j:=by
 refine⟨e.1,?_⟩
 rcases e.2 with n|⟨d,k,l,rfl,_,o⟩
 exact .inl n;exact .inr ⟨d,k,l,rfl,m d rfl,o⟩
def Zjq(q d e x d2 c1:Nat) e7 f b g (i1:d+1<=4)(a3:e<=200)(c7:x<=20)(h9:q<=g.1.size)(e8:Yt q g (L_ d2 (d+1) c1) e7 f b)(b0:ch d e f b):C_ 157 #[L_ d2 (d+1) c1,I x] g λc j=>c=.returned (.pointer (some ⟨g.1.size,0,none⟩))/\Lg q j g.1.size (Bw d e x f b)/\E_ g j:=by
 have⟨b4,t⟩:=Z_ e8 b0;have i2:∀p:_,(Instr.makeSlice 309 (.int _ ((d:Int)+1)) (.int _ ((d:Int)+1))).run _ p=_:=Zgs (d+1) O;clear e8 b0;refine dl_ ?_;go_enter func157,ntmps157;go_wp2_with fail
 go_loopw [19] (λs c=>∃(a:Nat) (a4:Value) (Q:List (Value×Value)) (R:List Value),s=.int .i64 a/\a<=d+1/\Hid (Ol q g c g.1.size (g.1.size+1) (d+1) a a a4 Q R f b)) (λs _=>d+1-(intOf s).toNat)
 case atStart=>
  refine⟨0,N_,[],replicate (d+1) (N_),rfl,r_,?_⟩;refine⟨?_,⟨rn_,rfl,λi n=>by simp[Ev] at n⟩,?_,λi n=>O,?_,λo j=>by simp[ownBlock] at j⟩;exact(hc_ s_).T (ha_ g _);have:=Zgr (d+1) (g.alloc (O_ #[N_,N_,N_] 168)) 0 O r_;rw[show(g.alloc (O_ #[N_,N_,N_] 168)).1.size=g.1.size+1 by simp] at this;exact this;exact q_.alloc s_ _
 clear i2;obtain⟨a,a4,Q,R,rfl,j5,h⟩:=hrel;have j8:=h.o.size
 by_cases G:a<d+1
 ·have c3:=b4.out.below h.out.o;have⟨j6,h4,d8,d9,e0⟩:=c3.cells (i:=a) (t.le ▸ G);have F:=c3.j a (t.le ▸ G);have a2:=t.p a G;have j3:=t.g a G;have f3:=t.i a G;have⟨k,m,c5⟩:=F.1.shape;have⟨l,n,c6⟩:=F.2.1.a;have⟨B,E,a9⟩:=F.2.2.shape;rw[Aj,a2] at a9;rw[c5] at d8;rw[c6] at d9;rw[a9] at e0;have S:=x4_ (c5 ▸ F.1) (c6 ▸ F.2.1) (a9 ▸ F.2.2) a2;have c9:(f.getD a Rj).b=Kr _ _ _:=rfl
  have d4:Hid (∀p:World,C_ 146 #[.agg #[.bool (f.getD a Rj).a,V k (f.getD a Rj).g.length m,V l (f.getD a Rj).c.length n]] p (U_ (.int .i64 ((f.getD a Rj).b+2:Nat)) p)):=λp=>by have c:((f.getD a Rj).b+2:Nat)=((Kr (f.getD a Rj).a (f.getD a Rj).g.length (f.getD a Rj).c.length:Nat):Int)+2:=p_ c9;rw[c];exact Fm _ _ _ _ _ _ _ p (by rw[<- c9];omega)
  have d6:Hid (∀p:World,E_ wr p->C_ 204 #[V B e E,I ((f.getD a Rj).b+2:Nat)] p (U_ (.int .i64 (Wv (f.getD a Rj) (b.getD a []):Nat)) p)):=λp c4=>by rw[<- ZeI];exact ac _ e _ _ _ p (S.2.2.1.below c4) a2 a3 f3 O O
  have M:Hid (∀p:_,_->Calls _ _ _ p λc j=>∃o,_/\Ej j _ o (oF f b a)/\_):=λp c4=>fn B e E _ _ p c4 a2 a3;have b5:Hid (kF f b a=⟨_,_⟩):=rfl;clear c3 F a2 f3 c5 c6 a9 c9;generalize Wv (f.getD a Rj) (b.getD a [])=W at *;generalize f.getD a Rj=a8 at *;generalize g0:a8.a=z at *;generalize f5:a8.g.length=u at *;generalize f6:a8.c.length=v at *;generalize a8.b=j1 at *;have iZ:0<=(a:Int):=O;have i9:a<(d:Int)+1:=O;have h2:=x3_ g0 f5 f6;clear g0 f5 f6;go_upto_region 6 with fail;generalize y:wr.alloc (O_ #[.bool z,V k u m,V l v n,V B e E] 266)=w1;have g9:Hid (∃D,w1.1[_]? =some (O_ D _ _)):=⟨_,by rw[<- y];exact hn_⟩;have i4:w1.1.size=wr.1.size+1:=by rw[<- y];simp
  have b3:Hid (E_ wr w1):=(by show Below _ _ _;rw[<- y];exact q_);have e4:w1.cell? (J wr.1.size 0)=some (.bool z):=(by rw[<- y];simp[go_sem]);have e5:w1.cell? (J wr.1.size 1)=some (V k u m):=(by rw[<- y];simp[go_sem]);have e6:w1.cell? (J wr.1.size 2)=some (V l v n):=(by rw[<- y];simp[go_sem]);have c0:w1.cell? (J wr.1.size 3)=some (V B e E):=(by rw[<- y];simp[go_sem]);have d1:wr.1.size<w1.1.size:=O;clear y h4 d8 d9 e0 i4;go_cut [9] (λo c=>∃P,o=.pointer (some ⟨P,0,none⟩)/\Hid (w1.1.size<=P/\c.1[P]? =some (.cells #[.bool z,.slice k u m,.slice l v n,.int .i64 (W:Nat)] 172 (0,0))/\E_ w1 c))
  case first=>
   go_region_held3 (λj=>j.cell? (J wr.1.size 0)=some (.bool z)/\j.cell? (J wr.1.size 1)=some (V k u m)/\j.cell? (J wr.1.size 2)=some (V l v n)/\j.cell? (J wr.1.size 3)=some (V B e E)) (exact⟨X_ e4,X_ e5,X_ e6,X_ c0⟩) (first|(go_at_call 146;apply (d4 _).m;rintro c w ⟨rfl,r⟩;have o:E_ w1 w:=bt_ bw_ r;have f8:=o.size;(try((first|(have hA:Z4 w w1.1.size:=Z4.call (Z4.drew (Z4.new (Eq.refl _))) r)|(have hA:Z4 w w1.1.size:=Z4.call (Z4.new (Eq.refl _)) r));obtain⟨s,A,D,H,j⟩:=hA.cells;have L:=j 0;have N:=j 1;have P:=j 2;have T:=j 3;clear j));clear r)|(go_at_call 204;apply (d6 _ (b3.T (Below.m bw_ (by omega:wr.1.size<=w1.1.size)))).m;rintro c s ⟨rfl,aB⟩;have f1:E_ w1 s:=bt_ bw_ aB;have f9:=f1.size;(try((first|(have aA:Z4 s w1.1.size:=Z4.call hA aB)|(have aA:Z4 s w1.1.size:=Z4.call (Z4.drew hA) aB));obtain⟨o,r,A,D,j⟩:=aA.cells;have H:=j 0;have L:=j 1;have N:=j 2;have P:=j 3;clear j));(try((first|(have aA:Z4 s w.1.size:=Z4.call (Z4.new (Eq.refl _)) aB)|(have aA:Z4 s w.1.size:=Z4.call (Z4.drew (Z4.new (Eq.refl _))) aB));obtain⟨o,r,A,D,j⟩:=aA.cells;have H:=j 0;have L:=j 1;have N:=j 2;have P:=j 3;clear j));clear aB))
   all_goals go_wp2
   all_goals go_meet
   exact⟨_,rfl,f9,hn_,by repeat(first|assumption|(refine Below.alloc ?_ f9 _))⟩;exact⟨_,rfl,f8,aA.fill _ _ _ _,by repeat(first|assumption|(refine Below.setCell ?_ f8 _))⟩;exact⟨_,rfl,x_,aA.fill _ _ _ _,by refine Below.setCell (Below.setCell (Below.setCell (Below.setCell f1 ?_ _) ?_ _) ?_ _) ?_ _<;>exact x_⟩
  clear d4 d6;obtain⟨P,rfl,r⟩:=hcut;have Z:=b3.T (r.2.2.m (Nat.le_of_lt d1));have N:=Y (h.below Z);have e1:=W_ r.2.2 c0;have L:=x3_ (S.1.below Z) (S.2.1.below Z) (S.2.2.1.below Z);have j4:=Qh d1 r.1;have i0:=(Qb r.2.1).1;have A:=Y r.2.1;have h0:Hid (∃D,wc.1[wr.1.size]? =some (O_ D 266)):=by obtain⟨a7,j⟩:=g9;exact⟨a7,(r.2.2.block _ d1).T j⟩
  have h1:Hid (¬a4.ownBlock=some P):=λc=>by have⟨a7,j⟩:=Ac h.q.row c;have:=(Qb j).1;omega
  have b1:=(Qb h.r).1;clear h b3 S r Z e4 e5 e6 c0
  obtain⟨i6,H,b2⟩:∃h3 a7,a4=.slice h3 a a7:=by
   have s:=N.q.row;rw[Et] at s
   rcases s.2 with⟨rfl,j⟩|⟨o,T,D,rfl,_⟩
   exact⟨none,0,by rw[j]⟩;exact⟨_,_,rfl⟩
  subst b2;have a6:Hid (wc.ownsRow 0 172 4 (V i6 a H) a (Ha (Ev f b a) Q)):=(by have s:=N.q.row;rw[Et] at s;exact s);have U:=n_ 0 N.r;have b6:=n_ 0 A;have b7:=n_ 1 A;have b8:=n_ 2 A;have b9:=n_ 3 A;go_upto_region 7 with fail;refine Af (λj=>j.cell? _=some _/\j.cell? _=some _/\j.cell? _=some _/\j.cell? _=some _/\j.cell? _=some _) 10 k_ ⟨U,b6,b7,b8,b9⟩ (λhHeld=>?_);refine K_ ?_;refine on_ 6 λKK hK=>?_;go_simp;refine hK _ _ ⟨X_ U,X_ b6,X_ b7,X_ b8,X_ b9⟩ (λhHeld=>?_);clear hK KK;try simp only[Act.put,sA,sB,sC]
  refine on_ 7 λKK hK=>?_;refine aq_ [.bool z,V k u m,V l v n,I (W:Nat)] (ra_ (w:=wc.drew) a6 _) ?_;rintro v6 a5 ⟨g7,c2,e3,_,g6,g5,i5⟩;have a0:=N.below ((y_.drew).alloc x_ (O_ #[.bool z,V k u m,V l v n,I (W:Nat)] 172));have a1:E_ wc (wc.drew.alloc (O_ #[.bool z,V k u m,V l v n,I W] 172)):=(y_.drew).alloc x_ _;have f4:Bs (kF f b a) (V k u m,V l v n)=[.bool z,V k u m,V l v n,I W]:=by rw[b5];simp[Bs,h2.out.1]
  have⟨f0,e9⟩:=a0.A (v6:=v6) (vb:=V k u m) (vw:=V l v n) x_ c2 (f4 ▸ g7) e3 (b5 ▸ (L.1.below a1)) (b5 ▸ (L.2.1.below a1));have d7:=Y f0;have d3:Aa _ (wc.drew.alloc (O_ _ _)) _:=(Aa.refl _ _).grown c2 (λa b0 _=>b0);have d0:¬_:=λc=>h1 c;have X:=d3.g ((a1.block _ i0).T A) d0;have c8:=d3.g a0.r (λc=>Ah a0.q.row c a0.r C rfl);have e2:=n_ 0 c8;have h8:=R_ 0 _ _ c8;have g1:=n_ 0 X;have g2:=n_ 1 X;have g3:=n_ 2 X;have g4:=n_ 3 X;have T:=(Aa.a a1).T e9;have i3:¬P=g.1.size:=O;have h5:(a5.setCell _ _).cell? _=some (.int _ _):=G_ 3 _ _ _ (T.g A (λc=>c.elim d0 i3))
  have h6:(a5.setCell (J g.1.size 0) v6).cell? (J wr.1.size 3)=some (V B e E):=by obtain⟨D,s⟩:=h0;rw[cb_ (a:=(J wr.1.size 3)) (T.block wr.1.size O (λc=>c.elim (λc=>Ah a6 c s C rfl) (λc=>O)))];exact e1
  have d5:Hid (Ad (a5.setCell (J g.1.size 0) v6) 0 (V B e E) (An (b.getD a []))):=T.row L.2.2 (λo j c=>c.elim (λc=>by
   have⟨D,s⟩:=Ac L.2.2 j
   exact Ah a6 c s C rfl) (λc=>Ah L.2.2 j N.r C c))
  have j7:=T.size;subst i5;clear g7 c2 e3 a0 a1 f4 f0 e9 d3 X c8 T N L A a6;refine hK _ _ ⟨e2,g1,g2,g3,g4⟩ (λhHeld=>?_);clear hK KK;refine K_ ?_;refine le_ ?_;have h7:_=(a5.setCell (J g.1.size 0) (L_ g6 (a+1) g5)).1.size:=rfl;clear h7;generalize a5.setCell (J g.1.size 0) (L_ g6 (a+1) g5)=k1 at *;clear e2 h8 g1 g2 g3 g4 hHeld b6 b7 b8 b9 U e1;go_wp2_with fail
  apply (M _ d5).m;rintro c g8 ⟨k0,rfl,o,f2⟩;have j:=d7.below f2;have f7:R.length=d+1:=p_ j.p.1;have j0:g8.cell? (J (g.1.size+1) a)=some (R.getD a (N_)):=(by rw[World.ownsRow.cellAt j.p a O];simp[getD,f7,G]);have j2:g8.frozen? (J (g.1.size+1) a)=false:=by have⟨D,s⟩:=Ac j.p (k:=g.1.size+1) rfl;exact R_ a _ _ s
  have s:=Y (j.out (le_succ _) G (o.m r_));have⟨i7,j9,D⟩:=o.shape;subst D;clear f7 j o f2 d7 d5 h6 h5 M;go_wp2;go_roundw;case rel=>exact⟨a+1,_,_,_,g_,O,s⟩
  case measure=>exact z_
 have d9:a=d+1:=O;have d0:¬a<(d:Int)+1:=O
 have u:Hid (Ol q g wr g.1.size (g.1.size+1) (d+1) (d+1) (d+1) a4 Q R f b):=(by rw[d9] at h;exact h);obtain⟨B,H,_,_,_,_,b2,_⟩:=u.q.at (i:=0) (by rw[Et];omega);rw[Et] at b2;subst b2;have U:=n_ 0 u.r;have b1:=(Qb u.r).1;have e9:Hid (Bw d e x f _=Fl _ b e _ _):=rfl
 have a7:∀i,i<d+1->((In f b (d+1)).getD i []).length=e:=λi n=>by rw[Mw _ _ n];show(Cx _ _).length=e;unfold Cx;rw[length_map];exact t.p i n
 have a6:∀i,i<d+1->((Ev f b (d+1)).getD i Ai).a<=40:=λi n=>by rw[Fy _ _ n];have:=t.g i n;show(f.getD i Rj).b+2<=40;omega
 have d1:∀c3∈In f b (d+1),c3.length=e:=λc3 f5=>by
  obtain⟨i,n,rfl⟩:=aM f5;have:=a7 i (by rw[ho] at n;exact n)
  simpa [getD,n] using this
 have c8:∀K∈Ev f b (d+1),K.a<=100:=λK hK=>by obtain⟨i,n,rfl⟩:=aM hK;have:=a6 i (by rw[Et] at n;exact n);rw[getD,Qd n] at this;simp at this;omega
 have a1:=Xm (budget:=x) a7 a6;have y:=x3_ u.q u.a (b4.below u.o);have v:Hid ((Ev f b _).length=d+1/\(In f b _).length=d+1/\_/\_):=⟨Et _ _ _,ho _ _ _,d1,c8⟩;have c0:=ew d e _ _ _ _ _ _ _ _ _ _ i1 v.1 v.2.1 (y.1.m r_) y.2.1 v.2.2.1 a3 c7 v.2.2.2;have⟨a0,b6⟩:=Z_ u.o u.r;have g3:=aG h9 (u.v B rfl);clear h u a7 a6 d1 c8 d9 b4;generalize Hs d (Ev f b (d+1)) (In f b (d+1)) e x=k at *;generalize Ev f b (d+1)=m at *;generalize In f b (d+1)=l at *;go_wp2_with fail
 apply c0.m;rintro c w ⟨i3,rfl,f4,r⟩;obtain⟨h0,f3,g9,d4,F⟩:=f4;have⟨f2,h2,g4⟩:=F.x.a;subst g4;have e6:=Y F;have P:=x3_ (y.1.below r) (y.2.1.below r) (y.2.2.below r);have⟨e5,b9⟩:=Z_ (a0.T (r.m a0.size)) ((r.block _ b1).T b6)
 have S:Hid (gc (λo=>o=g.1.size) w):=λo D i0 j c=>by subst c;rw[b9] at j;simp at j;exact .inl j.2.s
 have h5:=a1.2;have b7:=Y a1.1;have f7:=Qh b1 r.size;have h4:=Qh b1 d4;clear a1 c0 F r y a0 b6 U d4;generalize d8:k.length=E at *;have b8:=Y d8;clear d8;go_wp2_with fail
 go_loopw [60] (λs z=>∃(i:Nat) (X N:Value) (a2:List (Value×Value)),s=.int .i64 i/\i<=E/\Hid (ZhW q w z g.1.size (.slice (some ⟨B,0,none⟩) (d+1) H) X N a2 (Fl l b e m (k.take i)))) (λs _=>E-(intOf s).toNat)
 case atStart=>
  refine⟨0,N_,N_,[],rfl,r_,?_⟩;refine⟨⟨b9,⟨rn_,rfl,λi n=>absurd n (by simp[Fl])⟩,rn_⟩,Aa.refl _ _,λo j=>?_⟩
  rcases j with c|c|c
  exact .inl c;simp[ownBlock] at c;simp[ownBlock] at c
 obtain⟨i,X,N,a2,rfl,h6,h⟩:=hrel;have h8:=h.t.size
 have a8:∀Z∈k.take i,Z.fs.length<=4:=λZ F=>by have:=(b7 Z (aL F)).len;omega
 have T:=ZfI l b (n:=e) m a8 a3 (by rw[length_take];omega);have z:=Oq l b e m (k.take i)
 by_cases g1:i<E
 ·have L:=b8.out ▸ g1;have d7:k.getD i Fj=k[i]:=(by rw[getD,Qd L];rfl);have A:=d7 ▸ (b7.out _ (Qf _));have W:=e6.out.p h.out.t (λo j c=>O);have⟨g7,h3,e3,h7,c4⟩:=W.x.at L;have g0:f2=some ⟨g7,0,none⟩:=(by injection e3);subst g0;have⟨g8,i4,hK⟩:=W.x.j i L;have⟨g5,g6,e4⟩:=hK.out.shape;rw[A.out] at e4;subst e4;unfold qp at c4;have d5:=hK.r;have d6:Ad _ q _ _:=ZjI hK.fs (λo j=>p_ (W.v i L o (hK.g o j)));have c9:=P.1.b h.t S;have d3:=P.2.1.b h.t S;have c6:=P.2.2.p h.t S;have e0:=ji m l b e (Fl l b e m (k.take i)).q (k.getD i Fj).fs;have e2:=A.sum;have f6:=A.k;have g2:=A.len
  have b5:=pq q g.1.size (f3.getD i 0) d e B H d2 c1 _ (d+1) _ _ X N g8 g5 g6 a2 Q e7 R _ _ m f b l _ wr O h.v (c9.m r_) v.1 d5 d6 (c6.m r_) t.le d3 v.2.1 v.2.2.1 t.p A.fs a3 O (λa5 M a9 c7=>by have s:=t.i a5 M a9 c7;have b3:=t.g a5 M;omega) v.2.2.2 (by rw[e0,<- e2];omega) O O;have e1:=Zcm l b e m _ L
  have c2:Hid (∀s:World,ie q wr s g.1.size (L_ B (d+1) H) X N ((Fl l b e m (k.take i)).g++[⟨(k.getD i Fj).fs,(Jm m l b e (Fl l b e m (k.take i)).q (k.getD i Fj).fs).N,(Jm m l b e (Fl l b e m (k.take i)).q (k.getD i Fj).fs).off-1⟩]) (Jm m l b e (Fl l b e m (k.take i)).q (k.getD i Fj).fs).q->∃a9 b3 a5,ZhW q w s g.1.size (L_ B (d+1) H) a9 b3 a5 (Fl l b e m (k.take (i+1)))):=λs M=>by apply h.a;rw[e1];show ie q wr s _ _ _ _ ((Fl l b e m (k.take i)).g++[⟨_,(Jm (Fl l b e m (k.take i)).h l b e _ _).N,_⟩]) (Jm (Fl l b e m (k.take i)).h l b e _ _).q;rw[z];exact M
  have h1:=F_ i E;clear d7 A W e3 hK d5 d6 c9 d3 c6 e0 e2 f6 g2 e1 z a8 T;go_wp2_with fail
  apply b5.m;rintro c s ⟨rfl,M⟩;have⟨a9,b3,a5,c5⟩:=c2 s M;have f0:=Y c5;clear b5 M c5 c2 h c4;go_wp2;go_roundw;case rel=>exact⟨i+1,a9,b3,a5,g_,O,f0⟩
  case measure=>exact z_
 have e0:¬i<(E:Int):=O;have c2:k.take i=_:=aI (by rw[b8];omega);rw[c2] at h T z;rw[<- e9] at h T z;have a5:_=some N:=G_ 2 _ _ _ h.v.r;have M:=ZdV _ _ _ h.v.j O;have⟨e1,e2,c4⟩:=h.v.j.shape;have W:=Y c4;have a9:=P.1.b h.t S;have d3:Hid (Jk q wr (L_ B (d+1) H) Q (Bw d e x f b).h):=(by rw[z];exact a9);clear a9 c2 z T a8 c4;rw[W] at a5 M;go_wp2_with fail
 apply M.m;rintro c c6 ⟨rfl,⟨d5,b3,b5,L⟩,A⟩
 have c9:Hid (Lg q c6 g.1.size (Bw d e x f b)/\E_ g c6):=by
  rw[<- W] at L A;have⟨d6,c5,d7⟩:=h.v.l A L;refine⟨⟨_,_,_,_,_,d5,d6,d3.b c5 d7,b3,b5,λo j=>aG g3 (Nat.le_of_eq (by simpa [ownBlock] using j)),λo j=>by rcases h.out.x o (.inr (.inl j)) with c|c<;>omega,λo j=>by rcases h.out.x o (.inr (.inr j)) with c|c<;>omega⟩,?_⟩;have s:=e5.T (h.t.b (Nat.le_of_lt f7) (λo j=>Nat.le_of_eq j.s));refine s.T (c5.b O (λo j=>?_))
  rcases h.out.x o (.inr (.inr j)) with c|c<;>omega
 clear M b3 b5 L A a5;go_wp2;go_ret;exact⟨rfl,c9⟩
def Zdf r u e s v l m f c b h a (k:Kq a 0 (V r e s) b)(M:Cn a u e h)(A:b.length=e)(F:e<=200)(G:∀g∈b,-1000000000<=g.num/\g.num<=1000000000)(N:∀w∈h,0<=w/\w<=99)(H:2<=f)(L:f<=32)(D:2<=c)(E:c<=16)(Q:D_ a l 0 (I c))(R:D_ a m 0 (I (f:Nat)))(a0:l<a.1.size)(a1:m<a.1.size):C_ 216 #[V r e s,V u e v,P_ l,P_ m] a λp d=>∃g,p=.returned g/\Vg d a.1.size g ⟨false,Ey b h c f,[]⟩/\E_ a d:=by
 have y:=Y (λi d=>ey _ _ e _ v _ _ b _ i ((Aa.a (S:=λ_=>False) d).row k (λ_ _=>id)) (M.below d) A F G N H L D E);refine dl_ ?_;go_enter func216,ntmps216;go_wp2_with fail
 apply (y _ q_).m;rintro p t ⟨g,rfl,⟨a2,k,i⟩,q⟩;subst k;have⟨n,o,B⟩:=i.shape;rw[B] at i ⊢;have d:t.1[a.1.size]? =some (O_ _ 170 _):=(q.block _ s_).T hn_;have S:=n_ 0 d;have T:=n_ 1 d;have U:=n_ 2 d;have W:=R_ 0 _ _ d;have X:=R_ 1 _ _ d;have Z:=R_ 2 _ _ d;have x:=Y (q_.T (q.m s_));have z:K (Ad t (a.1.size+1) (V n (Ey b h c f).length o) (Ey b h c f)):=by have j:(a.alloc (O_ #[.bool false,N_,N_] 170)).1.size=a.1.size+1:=s_;rw[j] at i;exact i
 have j:=Y d;generalize (Ey b h c f).length=P at *;go_wp2;apply bodyPost_ret (v:=.agg #[.bool false,V n P o,N_]) (by simp[results,results216,go_sem, *]) rfl;refine⟨_,rfl,⟨_,_,rfl,?_,rn_⟩,?_⟩;exact Ad.m (Al (Al (Al z j C) (by exact ht_ _ _ _ _ j) C) (by exact ht_ _ _ _ _ (ht_ _ _ _ _ j)) C) (le_succ _);exact((x.setCell x_ _).setCell x_ _).setCell x_ _
def Zhj i m b a f d e c p k n l h (g:RB h i m (V b f d) (V a e c) p k n l):C_ 155 #[P_ i] h λj o=>j=.returned (.agg #[.slice b f d,.slice a e c])/\o=h.alloc (O_ #[V b f d,V a e c] 250):=by
 have j:=n_ 1 g;have o:=n_ 2 g;have q:=(Qb g).1;refine dl_ ?_;go_enter func155,ntmps155;go_wp2;apply bodyPost_ret (v:=.agg #[V b f d,V a e c]) (by simp[results,results155,go_sem, *]) rfl
 grind
def jp:∀(b:List ES) (d:List (Value×Value×Value)),d.length=b.length->∀a,a<b.length->∀(e:ES) (c:Value×Value×Value),Ms (b.set a e) (d.set a c)=((((Ms b d).set (a*4) (.bool e.a)).set (a*4+1) c.1).set (a*4+2) c.2.1).set (a*4+3) c.2.2
 |[],_,_,a,f,_,_=>by simp at f
 |g::b,[],f,_,_,_,_=>by simp at f
 |g::b,h::d,_,0,_,e,c=>by simp[Ms,Lu]
 | g::b,h::d,f,a+1,i,e,c=>by
  simp only[set_cons_succ,Ms];rw[jp b d (by simpa using f) a (by simpa using i) e c];have j:(Lu g h).length=4:=rfl
  grind
def ZlI a (b:a<=4):(madeCells #[.bool false,N_,N_,N_] (a*4)).toList=Ms (replicate a Rj) (replicate a Un):=by
 rcases(show a=0∨a=1∨a=2∨a=3∨a=4 by omega) with rfl|rfl|rfl|rfl|rfl
 all_goals kernel_rfl
def ZlJ(a:Nat)(c:a<=4) b:(Instr.makeSlice 258 (I a) (I a)).run prog b=.ok (L_ b.1.size a a) (b.alloc (O_ (madeCells #[.bool false,N_,N_,N_] (a*4)) 266)):=mk_ 4
def Mi(d:World) a e f g h x j k i b c (l:b≠a):((((d.setCell (J a e) x).setCell (J a f) j).setCell (J a g) k).setCell (J a h) i).cell? (J b c)=d.cell? (J b c):=by grind [cell?_of_block,Below.heap_setCell]
structure Lf(f wr:World)(i c g)(e)(b)(d:Nat->ES)(h:Nat->List Nat):Prop where
 row:wr.ownsRow 0 266 4 (L_ i c c) c (Ms e b)
 le:e.length=c
 k:b.length=c
 l:∀a,a<g->e.getD a Rj=d a
 j:∀a,a<g->Ad wr f.1.size (b.getD a Un).1 (d a).g/\Bi wr f.1.size (b.getD a Un).2.1 (d a).c/\Ad wr 0 (b.getD a Un).2.2 (An (h a))
 o:E_ f wr
def Lf.below{l wr w2 k j i g h f e}(a:Lf l wr k j i g h f e)(b:E_ wr w2):Lf l w2 k j i g h f e:=
 ⟨(Aa.a (S:=λ_=>False) b).row a.row (λ_ _=>id),a.le,a.k,a.l,λd c=>⟨(a.j d c).1.below b,(a.j d c).2.1.below b,(a.j d c).2.2.below b⟩,a.o.T (b.m a.o.size)⟩
def Lf.cells{o wr c h b k l j i}(m:Lf o wr c h b k l j i)(r:b<h):((∃a,wr.cell? (J c (b*4))=some a)/\(∃a,wr.cell? (J c (b*4+1))=some a)/\(∃a,wr.cell? (J c (b*4+2))=some a)/\(∃a,wr.cell? (J c (b*4+3))=some a))/\(∀g,wr.frozen? (J c g)=false):=by
 have f:=m.row
 have e:∀d,d<4->∃a,wr.cell? (J c (b*4+d))=some a:=λd q=>by rw[World.ownsRow.cellAt f (b*4+d) O];have g:=f.1;exact⟨_,Qd O⟩
 have⟨p,n⟩:=Ac f (k:=c) rfl;exact⟨⟨e 0 O,e 1 O,e 2 O,e 3 O⟩,λg=>R_ g _ _ n⟩
def Lf.put{l c a q k j h d o}(b:Lf l c a q k j h d o)(p:k<q)(m:l.1.size<=a){v}(u:Ad c l.1.size v.1 (d k).g)(w:Bi c l.1.size v.2.1 (d k).c)(x:Ad c 0 v.2.2 (An (o k))):Lf l ((((c.setCell (J a (k*4)) (.bool (d k).a)).setCell (J a (k*4+1)) v.1).setCell (J a (k*4+2)) v.2.1).setCell (J a (k*4+3)) v.2.2) a q (k+1) (j.set k (d k)) (h.set k v) d o:=by
 have⟨M,z⟩:=Ac b.row (k:=a) rfl
 have g:Aa _ c ((((c.setCell _ (.bool (d k).a)).setCell _ v.1).setCell _ v.2.1).setCell _ v.2.2):=
  ((((Aa.refl (λn=>n=a) c).setCell (p:=(J a (k*4))) (λ_=>rfl) _).setCell (p:=(J a (k*4+1))) (λ_=>rfl) _).setCell (p:=(J a (k*4+2))) (λ_=>rfl) _).setCell (p:=(J a (k*4+3))) (λ_=>rfl) _
 have f:∀{y e G F:Nat} {H:_} {L:_},c.ownsRow y e G H F L->e≠266->∀n,_->¬n=a:=λD B n E e=>Ah D E z B e;refine⟨?_,by rw[length_set];exact b.le,by rw[length_set];exact b.k,λi A=>?_,λi A=>?_,(((b.o.setCell m _).setCell m _).setCell m _).setCell m _⟩;rw[jp j h (by rw[b.le,b.k]) k (b.le ▸ p)];exact(World.ownsRow.stored (World.ownsRow.stored (World.ownsRow.stored (World.ownsRow.stored b.row _ _).1 _ _).1 _ _).1 _ _).1
 ·by_cases e:i=k
  subst e;simp[getD,b.le,p];have:(j.set k (d k)).getD i Rj=j.getD i Rj:=(by simp[getD,getElem?_set_ne (show k≠i by omega)]);rw[this];exact b.l i O
 by_cases e:i=k
 subst e;have:(h.set i v).getD i Un=v:=(by simp[getD,b.k,p]);rw[this];exact⟨g.row u (f u C),g.row w (f w C),g.row x (f x C)⟩;have:(h.set k v).getD i Un=h.getD i Un:=(by simp[getD,getElem?_set_ne (show k≠i by omega)]);rw[this];have⟨r,s,t⟩:=b.j i O;exact⟨g.row r (f r C),g.row s (f s C),g.row t (f t C)⟩
def Lf.i{k wr j a f g b d}(c:Lf k wr j a a f g b d):Yt k.1.size wr (L_ j a a) g ((range a).map b) ((range a).map d):=by
 have l:f=(range a).map b:=by
  apply ext_getElem;simp[c.le];intro i e h;have:=c.l i w_
  grind
 subst l;have e:((range a).map b).length=a:=s_;refine⟨by rw[e];exact c.row,by rw[e];exact c.k,λi h=>?_⟩;rw[e] at h;have m:((range a).map b).getD i Rj=b i:=w_;have n:((range a).map d).getD i []=d i:=w_;rw[m,n];exact c.j i h
def Bi.e{d e c a}(b:Bi d e c a):Bi d 0 c a:=by
 refine⟨b.1,?_⟩
 rcases b.2 with f|⟨j,g,h,i,k,l⟩
 exact .inl f
 grind
theorem um a x:Gi a x<a.b+2:=by grind [Gi,ES.b,Kr]
def ZkU(a:World)(g:Bool)(c e f d:Nat)(h b:Int)(i:Nat):Prop:=
 (g=true/\c=210/\a.1[e]? =some (O_ #[I h] 3)/\a.1[f]? =some (O_ #[I b] 3)/\a.1[d]? =some (O_ #[.func (.func 213) #[] #[]] 261))∨
 (g=false/\c=216/\a.1[e]? =some (O_ #[I b] 3)/\a.1[f]? =some (O_ #[I i] 3)/\a.1[d]? =some (O_ #[.func (.func 218) #[] #[]] 261))
def Iv.b{t K q r s u z k j}{p:Nat}(x:Iv t K q r s u z k j p):∃w v l n o a,q=.func w #[] v/\r=.func (.func l) #[] #[P_ n,P_ o]/\s=.func (.func 266) #[] #[P_ a]/\ZkU t u l n o a k j p:=by
 rcases x with⟨e,h,i,a,b,c,d,_,_,_,m,f,g⟩|⟨e,A,h,i,a,b,c,d,_,_,_,_,m,f,g,y⟩
 exact⟨_,_,210,h,i,a,b,c,d,.inl ⟨e,rfl,m,f,g⟩⟩;exact⟨_,_,216,h,i,a,b,c,d,.inr ⟨e,rfl,f,g,y⟩⟩
def ZhP(p:List VS->List Int->Int->Int->ES):Prop:=∀j m b k q f g i d c h a,Kq a 0 (V j b k) c->Cn a m b h->c.length=b->b<=200->(∀n∈h,0<=n/\n<=99)->(∀e∈c,e.g.size<=8)->a.cell? (J f 0)=some (I i)->a.cell? (J g 0)=some (I d)->f<a.1.size->g<a.1.size->2<=d->d<=16->
 C_ 210 #[V j b k,V m b q,P_ f,P_ g] a λo l=>∃e,o=.returned e/\Vg l a.1.size e (p c h i d)/\E_ a l
def Ck(e:List VS->List Int->Int->Int->ES)(g:Bool)(d b:Int)(f:Nat)(a:List VS)(c:List Int):ES:=if g=true then e a c d b else⟨false,Ey a c b f,[]⟩
def Zak f4 K h3 (f8 f6 d7 p c Z a8 j9:Nat) a3 k2 d4 D f d e (P:H_ e f8 #[L_ d7 (c+1) (c+1),I a8,P_ f6,I j9] 158)(i1:RdM e K h3 f6 d7 p (c+1) a3 k2 d4 D Z f)(b2:Is (c+1) f)(b7:c+1<=4)(T:a8<=20)(iZ:(∃b,b<c+1/\a3 b=true)->ZhP f4)(e1:∀b,d b=Ck f4 (a3 b) (d4 b) D Z (f.a b) f.k)(f0:∀b,b<c+1->Qv (d b)/\(d b).a=a3 b/\(d b).b<=16)(f1:∀b,b<c+1->∀j∈f.a b,(-1000000000<=j.num/\j.num<=1000000000)/\j.g.size<=8)(b9:∀a5∈f.k,0<=a5/\a5<=99)(i9:2<=Z)(j0:Z<=32)(e5:2<=D)(e6:D<=16):C_ 92 #[P_ f8] e λq h=>∃a,q=.returned (.pointer (some ⟨a,0,none⟩))/\e.1.size<=a/\Lg e.1.size h a (Bw c f.k.length a8 ((range (c+1)).map d) ((range (c+1)).map (λb=>(f.a b).map (Gi (d b)))))/\E_ e h:=by
 obtain⟨m7,m9,n0,m8,R⟩:=i1;have⟨t,wc,j5,e4,_⟩:=R.x.d (λa5 a=>p_ (b9 a5 a));subst j5;have W:=b2.k;have h2:=Zhj _ _ _ _ _ _ _ _ _ _ _ _ e R.v;have a0:=n_ 0 P;have a1:=n_ 1 P;have f7:=n_ 2 P;have⟨a7,d0,A,M⟩:=y4_ R e4 b2.h f0;have c8:∀g:_,(Instr.makeSlice 258 (.int _ ((c:Int)+1)) (.int _ ((c:Int)+1))).run _ g=_:=ZlJ (c+1) b7;have g6:=Y e1;clear P R e4 b2 f0 e1;refine dl_ ?_;go_enter func92,ntmps92;go_wp2_with fail
 apply h2.m;rintro q o ⟨rfl,j7⟩;obtain rfl:=j7;go_upto_region 2 with fail;generalize Q:(e.alloc (O_ #[V t f.k.length wc,L_ p (c+1) (c+1)] 250)).alloc (O_ #[V t f.k.length wc,L_ p (c+1) (c+1)] 250)=o;have b0:E_ e o:=(by rw[<- Q];exact q_.alloc s_ _);have f2:o.1.size=e.1.size+1+1:=(by rw[<- Q];simp);have i2:H_ o (e.1.size+1) #[V t f.k.length wc,L_ p (c+1) (c+1)] 250:=(by rw[<- Q];exact Hx _ _ _ s_);have l8:=W_ b0 a0;have a6:=Y f2;clear Q f2;go_upto_region 3 with fail;rw[a6.out]
 have c7:Hid (Lf e (o.alloc (O_ (madeCells #[.bool false,N_,N_,N_] ((c+1)*4)) 266)) (e.1.size+1+1) (c+1) 0 (replicate (c+1) Rj) (replicate (c+1) Un) d (λb=>(f.a b).map (Gi (d b)))):=(by refine⟨?_,s_,s_,λb h=>absurd h (not_lt_zero _),λb h=>absurd h (not_lt_zero _),b0.alloc b0.size _⟩;have i:=ownsRow_lit (base:=0) (size:=4) (e:=266) o (madeCells #[.bool false,N_,N_,N_] ((c+1)*4)) (c+1) r_ m_ (by simp[madeCells]);rw[ZlI _ b7,a6] at i;exact i);have h1:Hid ((o.alloc (O_ (madeCells #[.bool false,N_,N_,N_] ((c+1)*4)) 266)).1[_]? =_):=(hc_ (by rw[a6];omega)).T i2;generalize o.alloc (O_ (madeCells #[.bool false,N_,N_,N_] ((c+1)*4)) 266)=m at *;have⟨l7,k1⟩:=k2_ c7.o a0 a1;go_wp2_with fail
 go_loopw [25] (λh i=>∃(a:Nat) (d5:List ES) (d8:List (Value×Value×Value)),h=.int .i64 a/\a<=c+1/\Hid (Lf e i (e.1.size+1+1) (c+1) a d5 d8 d (λb=>(f.a b).map (Gi (d b))))/\Hid (H_ i (e.1.size+1) #[.slice t f.k.length wc,.slice (some ⟨p,0,none⟩) (c+1) (c+1)] 250)) (λh _=>c+1-(intOf h).toNat)
 case atStart=>exact⟨0,_,_,rfl,r_,c7,h1⟩
 obtain⟨a,d5,d8,rfl,l4,B,N⟩:=hrel;have y:=B.o;have E:=y.size;have i3:=(Qb N).1
 by_cases l:a<c+1
 ·have⟨k8,b5,k9,_,i4⟩:=a7.fs.q;have⟨m3,m4,m5,j2,j3,j4,i6⟩:=i4 a l;have⟨d6,d3,s,G,X,F,h4,h5,h6,b6⟩:=i6.b;subst h4 h5 h6;have k3:=W_ y ((G_ _ _ _ _ b5).T j2);have k4:=W_ y ((G_ _ _ _ _ b5).T j3);have k5:=W_ y ((G_ _ _ _ _ b5).T j4);have⟨k7,e9,l3,i5⟩:=a7.u;have l1:=(Qb e9).1;have U:=a7.y a l;have⟨H,c2,b8⟩:=U.a;rw[A a l] at b8;have k6:=W_ y ((G_ a _ _ _ e9).T ((i5 a l).T (congrArg _ b8)));rw[b8] at U;have c4:=n_ 1 N;have c3:=n_ 0 N;have c5:=T_ ((M a l).1) ((M a l).2.1)
  have g8:Hid (∀g:World,E_ e g->C_ s #[V H f.k.length c2,V t f.k.length wc,P_ G,P_ X] g λq h=>∃j,q=.returned j/\Vg h g.1.size j (d a)/\E_ g h):=λg k=>by
   have u:Kq g 0 _ _:=(Aa.a (S:=λ_=>False) (k.m x_)).row U (λ_ _=>id);have a2:=k.size;rw[g6 a]
   rcases b6 with⟨h,rfl,i,n,_⟩|⟨h,rfl,i,n,_⟩
   unfold Ck;rw[aD h];have v:=(Qb i).1;have w:=(Qb n).1;exact iZ ⟨a,l,h⟩ H t _ _ wc G X _ D _ _ g u (d0.below k) (A a l) W b9 (λj r=>(f1 a l j r).2) (W_ k (G_ 0 _ 3 _ i)) (W_ k (G_ 0 _ 3 _ n)) O O e5 e6;unfold Ck;rw[aC (by rw[h];decide)];have v:=(Qb i).1;have w:=(Qb n).1;exact Zdf H _ _ _ _ G _ _ _ _ _ g u (d0.below k) (A a l) W (λj r=>(f1 a l j r).1) b9 i9 j0 e5 e6 (W_ k (G_ 0 _ 3 _ i)) (W_ k (G_ 0 _ 3 _ n)) O O
  have c6:Hid (D_ e F 0 (.func (.func (if(d a).a=true then 213 else 218)) #[] #[])/\F<e.1.size):=by
   rw[c5.2]
   rcases b6 with⟨h,_,_,_,i⟩|⟨h,_,_,_,i⟩
   rw[aD h];exact⟨G_ 0 _ _ _ i,(Qb i).1⟩;rw[aC (by rw[h];decide)];exact⟨G_ 0 _ _ _ i,(Qb i).1⟩
  have⟨h0,L⟩:=Z_ U y;have l0:p<wr.1.size:=O
  have i7:s=210∨s=216:=by
   rcases b6 with⟨_,h,_⟩|⟨_,h,_⟩
   exact .inl h;exact .inr h
  have l2:∀d1 g,Sem.run prog (callFunc s d1) g=.ok (.enter s d1) g:=by
   rcases i7 with rfl|rfl
   exact enters_of func210 k_ rfl;exact enters_of func216 k_ rfl
  go_wp2_with fail
  apply (g8 _ (L.T (Below.m ((br_ wr.1.size wr).alloc x_ _) E))).m;rintro q m ⟨f9,rfl,e2,e8⟩;have g7:Hid (Vg m 0 f9 (d a)):=(by obtain⟨r,u,h,i,n⟩:=e2;exact⟨r,u,h,Ad.m i r_,Bi.e n⟩);have h7:Vg m e.1.size f9 (d a):=by obtain⟨r,u,h,i,n⟩:=e2;have v:e.1.size<=(wr.1.size+1):=O;exact⟨r,u,h,Ad.m i (by simpa using v),Ce n (by simpa using v)⟩
  have⟨v,w,r,x,j6,h8,h9⟩:=h7.a;subst j6;have e0:m.1[wr.1.size]? =some (O_ _ 263 _):=(e8.block _ s_).T hn_;have j1:=(Qb e0).1;have c9:=T_ h8 h9;have g4:=Y (q_.T (e8.m s_));go_upto_region 8 with fail;generalize e3:m.alloc (O_ #[.bool (d a).a,V v (d a).g.length w,V r (d a).c.length x] 170)=z;have b1:E_ m z:=(by rw[<- e3];exact q_);have S:H_ z m.1.size #[.bool (d a).a,V v (d a).g.length w,V r (d a).c.length x] 170:=(by rw[<- e3];exact hn_);have b4:=(b1.block _ j1).T e0;have c3:=n_ 0 b4;have c4:=n_ 1 b4;have g0:=n_ 2 b4;have g1:=n_ 0 S;have g2:=n_ 1 S;have g3:=n_ 2 S;have k0:=(Qb S).1;have f5:wr.1.size<z.1.size:=O
  have l5:e.1.size+1+1<wr.1.size:=(by have⟨i,h⟩:=Ac B.row (k:=e.1.size+1+1) rfl;exact(Qb h).1);have c0:wr.1.size≠e.1.size+1+1:=O;have c1:m.1.size≠e.1.size+1+1:=O;have u:=T_ (g4.T (b1.m O)) b1
  have g5:Hid (∀g:World,E_ z g->C_ 156 #[.agg #[.func d6 #[] d3,.func (.func s) #[] #[P_ G,P_ X],.func (.func 266) #[] #[P_ F]],.agg #[.bool (d a).a,V v (d a).g.length w,V r (d a).c.length x],V H f.k.length c2] g λi h=>∃j,i=.returned j/\Ad h g.1.size j ((f.a a).map (λa4=>(Gi (d a) a4:Nat)))/\E_ g h):=λg k=>by have i:=u.2.T (k.m O);have n:=(L.T (u.1.m E)).T (k.m O);have a2:=k.size;exact Zh5 _ _ _ 0 F H _ c2 _ _ g (g7.below i) c5.1 ((Aa.a (S:=λ_=>False) n).row h0 (λ_ _=>id)) (A a l) W ⟨_,_,rfl⟩ ⟨_,_,rfl⟩ (W_ n c6.1) (p_ c6.2)
  go_region_held3 (λh=>D_ h wr.1.size 0 (.func d6 #[] d3)/\D_ h wr.1.size 1 (.func (.func s) #[] #[P_ G,P_ X])/\D_ h wr.1.size 2 (.func (.func 266) #[] #[P_ F])/\D_ h m.1.size 0 (.bool (d a).a)/\D_ h m.1.size 1 (V v (d a).g.length w)/\D_ h m.1.size 2 (V r (d a).c.length x)) (first|(with_reducible exact⟨(Mi _ _ _ _ _ _ _ _ _ _ _ 0 c0).T s0,(Mi _ _ _ _ _ _ _ _ _ _ _ 1 c0).T s1,(Mi _ _ _ _ _ _ _ _ _ _ _ 2 c0).T s2,(Mi _ _ _ _ _ _ _ _ _ _ _ 0 c1).T a0,(Mi _ _ _ _ _ _ _ _ _ _ _ 1 c1).T a1,(Mi _ _ _ _ _ _ _ _ _ _ _ 2 c1).T f7⟩)|(exact⟨X_ c3,X_ c4,X_ g0,X_ g1,X_ g2,X_ g3⟩)) (first|(go_at_call 156;apply (g5 _ bw_).m;rintro q a2 ⟨m6,rfl,b3,e7⟩;have h:E_ z a2:=bt_ bw_ e7;have l6:=h.size;have s0:=W_ h c3;have s1:=W_ h c4;have s2:=W_ h g0;have a0:=W_ h g1;have a1:=W_ h g2;have f7:=W_ h g3;obtain⟨⟨⟨l9,n1⟩,⟨m0,n2⟩,⟨m1,n3⟩,⟨m2,n4⟩⟩,n⟩:=(λg k=>(B.below (u.1.T (k.m O))).cells l) a2 h;have n5:=n (a*4);have n6:=n (a*4+1);have n7:=n (a*4+2);have n8:=n (a*4+3);clear n;obtain⟨d2,a9,f3⟩:=b3.shape;rw[length_map] at f3;subst f3;have g9:=Y (Ad.m b3 r_);clear e7 b3))
  have d9:=u.2.T (h.m (Nat.le_of_lt k0))
  have i0:=(B.below (u.1.T (h.m (Nat.le_of_lt f5)))).put l O (v:=(V _ _ _,V r _ _,V _ _ a9)) (c9.1.below d9) (c9.2.below d9) (by
   have i:An ((f.a a).map (Gi (d a)))=(f.a a).map (λa4=>((Gi (d a) a4:Nat):Int)):=(by simp[An]);rw[i]
   exact g9)
  have a4:Hid (((((a2.setCell (J (e.1.size+1+1) (a*4)) (.bool (d a).a)).setCell (J (e.1.size+1+1) (a*4+1)) (V v (d a).g.length w)).setCell (J (e.1.size+1+1) (a*4+2)) (V r (d a).c.length x)).setCell (J (e.1.size+1+1) (a*4+3)) (V d2 (f.a a).length a9)).1[e.1.size+1]? =some (O_ #[V t f.k.length wc,L_ p (c+1) (c+1)] 250)):=by have i:=λg j8 j=>Below.heap_setCell g (J (e.1.size+1+1) j8) j _ (by show e.1.size+1≠e.1.size+1+1;omega);show _=_;rw[i,i,i,i];exact((u.1.T (h.m (Nat.le_of_lt f5))).block _ i3).T N
  have i:=Y i0;generalize ((((a2.setCell (J (e.1.size+1+1) (a*4)) (.bool (d a).a)).setCell (J (e.1.size+1+1) (a*4+1)) (V v (d a).g.length w)).setCell (J (e.1.size+1+1) (a*4+2)) (V r (d a).c.length x)).setCell (J (e.1.size+1+1) (a*4+3)) (V d2 (f.a a).length a9))=j8 at *;go_wp2;go_roundw;case rel=>exact⟨a+1,_,_,g_,O,i,a4⟩
  case measure=>exact z_
 have w:a=c+1:=O;have i:=B.out;rw[w] at i;have k1:=W_ i.o a1
 have k:∀b,b<c+1->((range (c+1)).map d).getD b Rj=d b:=λb h=>by simp[getD,h]
 have n:∀b,b<c+1->((range (c+1)).map (λb=>(f.a b).map (Gi (d b)))).getD b []=(f.a b).map (Gi (d b)):=λb h=>by simp[getD,h]
 have s:ch c f.k.length ((range (c+1)).map d) ((range (c+1)).map (λb=>(f.a b).map (Gi (d b)))):=(by refine⟨s_,λb h=>?_,λb h=>?_,λb h=>?_,λb h r T=>?_⟩;rw[n b h,length_map];exact A b h;rw[k b h];exact(M b h).1;rw[k b h];exact(M b h).2.2;rw[n b h] at T;rw[k b h];obtain⟨a4,_,rfl⟩:=mem_map.1 T;exact um _ _);have c8:=Zjq _ c _ _ _ _ _ _ _ _ b7 W T E i.i s;have L:=Y i.o;go_wp2_with fail
 apply c8.m;rintro q z ⟨rfl,u,v⟩;have r:=T_ u (L.T (v.m E));go_wp2;go_ret;exact⟨_,rfl,E,r⟩
def uv b e d a (c:Uq a b true e d):C_ 50 #[P_ b] a (V_ (.tuple #[.pointer none,.int .i64 1,.int .i64 0]) a):=by
 have f:=n_ 1 c;refine dl_ ?_;go_enter func50,ntmps50;go_wp2;apply bodyPost_ret (v:=.tuple #[.pointer none,I 1,I 0]) (by simp[results,results50,go_sem]) rfl
 grind
def Zab e b a d (c:Uq d e false b a)(g:b=2∨b=3):C_ 50 #[P_ e] d λf i=>f=.returned (.tuple #[.pointer none,.int .i64 b,.int .i64 a])/\∃h,i=d.drewN h:=by
 have f:=n_ 1 c;have h:=n_ 2 c;have i:=n_ 3 c
 rcases g with rfl|rfl
 all_goals go_enter func50,ntmps50
 all_goals go_wp2_with fail
 all_goals go_big_quiet (fail)
 all_goals go_wp2
 ·apply bodyPost_ret (v:=.tuple #[.pointer none,I 2,I a]) (by simp[results,results50,go_sem]) rfl
  grind
 apply bodyPost_ret (v:=.tuple #[.pointer none,I 3,I a]) (by simp[results,results50,go_sem]) rfl
 grind
def ig(d b:World)(a:Nat):Prop:=Uq b a true 0 0/\Aa (λc=>c=a) d b
structure On(b:World)(d a:Nat)(c):Prop where
 g:b.1[d]? =some (O_ #[P_ a] 110)
 h:Zmn b a c
structure za(a)(d:World)(c b:Nat)(e):Prop where
 g:d.1[c]? =some (O_ #[P_ b] 110)
 h:Lg a d b e
 i:a<=c
 q:a<=b
section
variable {w:World} {K M:Nat->Prop} {a c rb fb cb m:Nat} {wd:Nat->Bool} {sc ct:Nat->Int} {bins:Int} {size budget:Nat} {s:RS} {b:Nat}
def InX.d(e:InX w K M a c rb fb cb (m+1) wd sc ct bins size budget s b):Aa (λd=>d=a) w ((w.setCell (J a 1) (.bool true)).setCell (J a 0) (.pointer none))/\Uq ((w.setCell (J a 1) (.bool true)).setCell (J a 0) (.pointer none)) a true 0 0:=
 ⟨((Aa.refl (λd=>d=a) w).setCell (p:=(J a 1)) (λ_=>rfl) _).setCell (p:=(J a 0)) (λ_=>rfl) _,hs_ _ a 0 _ 119 _ (hs_ _ a 1 _ 119 _ e.q)⟩
def ZcI(d:InX w K M a c rb fb cb (m+1) wd sc ct bins size budget s b)(o:s.h≠0):C_ 50 #[P_ a] w λf e=>f=.returned (.tuple #[.pointer none,.int .i64 2,.int .i64 b])/\ig w e a:=by
 have⟨g,k⟩:=d.d;have r:=n_ 0 d.q;have t:=n_ 1 d.q;have u:=n_ 2 d.q;have p:=R_ 0 _ _ d.q;have q:=R_ 1 _ _ d.q;have i:=g.g d.r (λf=>d.o f.s);have⟨y,A,E,z,j⟩:=d.v.p g (λh e f=>by rw[f] at e;exact e.elim d.w.1 d.w.2);have h:=tw _ _ _ _ _ _ _ _ _ j.v;have l:decide (s.h=0)=false:=(by simp[o]);rw[l] at h;have e:Hid (ig w _ _):=⟨k,g⟩;have v:=n_ 2 i;have x:=n_ 3 i;refine dl_ ?_;go_enter func50,ntmps50;go_upto_region 7 with fail;generalize (w.setCell (J a 1) (.bool true)).setCell (J a 0) (.pointer none)=B at *;go_wp2_with fail
 apply h.m;rintro f D ⟨rfl,n⟩;obtain rfl:=n.s;go_wp2_with fail
 go_big_quiet (fail);go_wp2;apply bodyPost_ret (v:=.tuple #[.pointer none,I 2,I (b:Nat)]) (by simp[results,results50,go_sem]) rfl;exact⟨rfl,e.1,⟨e.2.os,e.2.tape,e.2.output,e.2.size,e.2.block⟩⟩
def uw A f (e:InX w K M a c rb fb cb (m+1) wd sc ct bins size budget s b)(a5:s.h=0)(N:Is (m+1) s)(X:m+1<=4)(Q:budget<=20)(W:(∃d,d<m+1/\wd d=true)->ZhP A)(L:∀d,f d=Ck A (wd d) (ct d) bins size (s.a d) s.k)(Z:∀d,d<m+1->Qv (f d)/\(f d).a=wd d/\(f d).b<=16)(a0:∀d,d<m+1->∀q∈s.a d,(-1000000000<=q.num/\q.num<=1000000000)/\q.g.size<=8)(a6:∀B∈s.k,0<=B/\B<=99)(a1:2<=size)(a2:size<=32)(R:2<=bins)(S:bins<=16):C_ 50 #[P_ a] w λh j=>∃i g,h=.returned (.tuple #[.pointer (some ⟨i,0,none⟩),.int .i64 0,.int .i64 0])/\za w.1.size j i g (Bw m s.k.length budget ((range (m+1)).map f) ((range (m+1)).map (λd=>(s.a d).map (Gi (f d)))))/\ig w j a:=by
 have⟨p,T⟩:=e.d;have b4:=n_ 0 e.q;have b5:=n_ 1 e.q;have b6:=n_ 2 e.q;have b1:=R_ 0 _ _ e.q;have b2:=R_ 1 _ _ e.q;have v:=p.g e.r (λh=>e.o h.s);have o:=e.v.p p (λi g h=>by rw[h] at g;exact g.elim e.w.1 e.w.2);have r:=Zak _ K M _ _ fb _ m _ _ _ wd _ _ _ s f _ v o N X Q W L Z a0 a6 a1 a2 R S;obtain⟨b8,c0,c3,b9,o⟩:=o;have t:=tw _ _ _ _ _ _ _ _ _ o.v;have U:decide (s.h=0)=true:=(by simp[a5]);rw[U] at t;have n:Hid (ig w _ _):=⟨T,p⟩;have b7:=n_ 2 v;refine dl_ ?_;go_enter func50,ntmps50;go_upto_region 7 with fail;generalize (w.setCell (J a 1) (.bool true)).setCell (J a 0) (.pointer none)=c1 at *;have⟨D,u⟩:=M_ (Bw m s.k.length budget ((range (m+1)).map f) ((range (m+1)).map (λd=>(s.a d).map (Gi (f d)))))
 rw[<- u] at r;have E:=Y u;go_wp2_with fail
 apply t.m;rintro h c2 ⟨rfl,a4⟩;obtain rfl:=a4.s;go_wp2_with fail
 apply r.m;rintro h i ⟨g,rfl,b3,P,x⟩;have k:=n.2.size;have a3:=x.size;have F:Hid (za w.1.size (i.alloc (O_ #[P_ g] 110)) i.1.size g D/\ig w (i.alloc (O_ #[P_ g] 110)) a):=(by have y:Below _ _ (i.alloc (O_ #[P_ g] 110)):=x.alloc a3 _;refine⟨⟨hn_,?_,O,O⟩,?_,n.2.below y⟩;obtain⟨a9,a8,b0,a7,H,G,e⟩:=P;have z:Below _ _ (i.alloc (O_ #[P_ g] 110)):=q_;exact⟨a9,a8,b0,a7,H,G,(e.v.m k).below z,(e.q.m k).below z,e.n,e.l,λl j=>aG k (e.o l j),λl j=>aG k (e.x l j),λl j=>aG k (e.p l j)⟩;exact(y.block _ (Qb n.1).1).T n.1);go_wp2;apply bodyPost_ret (v:=.tuple #[P_ i.1.size,I 0,I 0]) (by simp[results,results50,go_sem]) rfl;rw[<- E];exact⟨_,_,rfl,F⟩
end
def Jl(f:World)(d:Nat->Nat)(e:Nat)(b:World->Prop):Prop:=∀a,Aa (λc=>d c≠e) f a->b a
def Em(d:World)(b c:Nat->Nat):Prop:=∀a,a<d.1.size->b a=99∨c a=b a
section
variable {w w':World} {o a:Nat->Nat} {t:Nat} {Q:World->Prop} {S:Nat->Prop}
def Em.refl w o:Em w o o:=λ_ _=>.inr rfl
def Em.T{d}(g:Em w o a)(i:w.1.size<=w'.1.size)(f:Em w' a d):Em w o d:=λc h=>by
 rcases g c h with b|b
 exact .inl b
 rcases f c O with e|e
 omega;omega
def Jl.b(a:Jl w o t Q):Q w:=a w (Aa.refl _ _)
def Jl.step(g:Jl w o t Q)(c:Aa S w w')(k:∀b,b<w.1.size->S b->o b≠t)(j:Em w o a)(m:t≠99:=by decide):Jl w' a t Q:=λl d=>
 g l ⟨d.os.T c.os,d.tape.T c.tape,d.output.T c.output,aG c.size d.size,λb e n=>by
  have i:o b=t:=O
  have h:¬a b≠t:=by
   rcases j b e with f|f
   omega;omega
  exact(d.block b (Qh e c.size) h).T (c.block b e (λf=>k b e f i))⟩
def Jl.m{a}(c:Jl w o t Q)(d:∀b,Q b->a b):Jl w o t a:=λw' e=>d _ (c w' e)
def Jl.and{a}(c:Jl w o t Q)(d:Jl w o t a):Jl w o t (λb=>Q b/\a b):=λw' b=>⟨c w' b,d w' b⟩
def Jl.block{a b}(d:w.1[a]? =some b)(e:o a=t):Jl w o t (λc=>c.1[a]? =some b):=λ_ f=>f.g d (λc=>c e)
def Jl.all{c d b}(f:Do w c d b)(g:∀a,b.ownBlock=some a->o a=t):Jl w o t (λe=>Do e c d b):=λ_ i=>f.p i (λa _ h _ e=>e (g a h))
end
def za.a{e d E w v y A}(o:za e d E w v)(Z:∀a,e<=a->a<d.1.size->y a=A):Jl d y A (λb=>On b E w v):=λB F=>by
 have P:∀a,(λa=>y a≠A) a->a<d.1.size->a<e:=w_
 have r:∀{D t s q:Nat} {m u},d.ownsRow D t s m q u->(∀a,m.ownBlock=some a->e<=a)->B.ownsRow D t s m q u:=λj c=>F.row j (λa i f=>by
  have p:=P a f (B_ j a i).2
  grind)
 have l:∀{t s q:Nat} {m:_} {u:_},d.ownsRow _ t s m q u->_:=λj=>r j (λa i=>(B_ j a i).1);have n:∀{a G},d.1[a]? =some G->e<=a->B.1[a]? =some G:=λi c=>F.g i (λf=>w_);have⟨U,T,W,Q,L,H,b⟩:=o.h
 have N:Lg e B w v:=by
  refine⟨U,T,W,Q,L,H,⟨n b.v.r o.q,⟨r b.v.v.row b.x,b.v.v.len,λk h=>⟨l (b.v.v.j k h).1,?_⟩⟩,r b.v.j b.p⟩,⟨r b.q.row b.o,b.q.len,λk h=>⟨l (b.q.j k h).1,l (b.q.j k h).2⟩⟩,b.n,b.l,b.o,b.x,b.p⟩
  rcases(b.v.v.j k h).2 with⟨p,z,f,S,X,x,c,g⟩|⟨p,z,f,M,R,x,c,g⟩
  exact .inl ⟨p,z,f,S,X,x,c,n g.r c,l g.row⟩;exact .inr ⟨p,z,f,M,R,x,c,n g.r c,l g.row⟩
 exact⟨n o.g o.i,N.zero⟩
end Go.Proofs.YtfcgnpchbcmdeaaGreat
