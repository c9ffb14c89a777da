import Derived.Test.YtfcgnpchbcmdeaaGreatZobj
import Derived.Test.YtfcgnpchbcmdeaaGreatZobl
namespace Go.Proofs.YtfcgnpchbcmdeaaGreat
set_option linter.all false
set_option maxRecDepth 100000
set_option maxHeartbeats 8000000
open Go.RowKit List Nat World Go.Proofs.Tryz Value IntKind Lib Region
section
variable {m n budget:Nat} {a:List ES} {Bb:List (List Nat)}
def Zh4(f:ch m n a Bb){b}(d:b<m+1) e:(Bb.getD b []).getD e 0<((Ev a Bb (m+1)).getD b Ai).a:=by
 rw[Fy a Bb d];show _<(a.getD b Rj).b+2;rw[Qc]
 rcases Nat.lt_or_ge e (Bb.getD b []).length with c|c
 rw[Qd c];exact f.i b d _ (Qf _)
 grind
def Zoz(f:ch m n a Bb){c}(g:c<n){b}(d:b<m+1):((In a Bb (m+1)).getD b []).getD c false=sO (Ev a Bb (m+1)) Bb b c:=by unfold sO;rw[Mw a Bb d,Fy a Bb d];have e:c<(Bb.getD b []).length:=(f.p b d) ▸ g;unfold oF Cx;rw[Qc,getElem?_map,Qd e,Qc (l:=Bb.getD b []),Qd e];rfl
def Ze9:(Bw m n budget a Bb).h=Ev a Bb (m+1):=Oq _ _ _ _ _
def ZlM:(Bw m n budget a Bb).h.length=m+1:=Ze9 ▸ (Et _ _ _)
def ZlK:(Bw m n budget a Bb).g.map BS.fs=Gd (Hs m (Ev a Bb (m+1)) (In a Bb (m+1)) n budget):=by
  have:=gg (In a Bb (m+1)) Bb n (Ev a Bb (m+1)) (Hs m (Ev a Bb (m+1)) (In a Bb (m+1)) n budget) ⟨Ev a Bb (m+1),[],[]⟩;unfold Bw Fl
  simpa using this
def ZlL{c}(e:c∈Hs m (Ev a Bb (m+1)) (In a Bb (m+1)) n budget){b}(f:b∈c.fs):b<m+1:=by
 have d:b∈Gy (Hs m (Ev a Bb (m+1)) (In a Bb (m+1)) n budget):=by grind [Gy]
 grind [Ox]
def Zkr(g:ch m n a Bb){d}(q:d.Perm (Bw m n budget a Bb).q){c b}(f:c<m+1)(h:b<n):yp d c b (Ir (Bw m n budget a Bb).h ((Bw m n budget a Bb).g.map BS.fs) ((Bw m n budget a Bb).g.map BS.N) b c)=(Bb.getD c []).getD b 0:=by
 have j:=Et a Bb (m+1);have k:∀b,_->∀e,e<(Ev a Bb (m+1)).length->_=sO _ _ e b:=λb h e w=>Zoz g h O;have t:=zh (n:=n) j (Ox m (Ev a Bb (m+1)) _ n _) (Vt m _ (In a Bb (m+1)) n budget) (λl i b=>Zh4 g i b) k;have r:=zg (n:=n) (Gs:=Hs m (Ev a Bb _) _ n budget) (λl i c f=>by rw[j];exact ZlL i f) (λl i b=>Zh4 g O b) k;have s:(Bw m n _ _ _).g.map _=_:=r;rw[Ze9,ZlK,s];have u:=λv=>q.mem_iff.T (t v);unfold yp
 cases l:d.find? (λo=>decide (pw b c o)) with
 | some o=>
  grind
 | none=>
  rw[find?_eq_none] at l
  by_cases i:Ir (Ev a Bb (m+1)) (Gd (Hs m (Ev a Bb (m+1)) (In a Bb (m+1)) n budget)) ((Gd (Hs m (Ev a Bb (m+1)) (In a Bb (m+1)) n budget)).map (λp=>Hi (Ev a Bb (m+1)) Bb p n)) b c=(Bb.getD c []).getD b 0
  exact i;exact absurd (aF (show pw b c _ from⟨rfl,rfl⟩)) (l _ ((u ⟨b,c,(Bb.getD c _).getD b 0⟩).2 ⟨h,f,aF i,rfl⟩))
end
def gt{f:Type}(c:f->List Int) b:∀(a:List f),(∀d∈a,(c d).length<=b)->(a.flatMap c).length<=a.length*b
 |[],_=>s_
 |d::a,e=>by have i:=e d s_;have j:=gt c b a (λh g=>e h (by simp[g]));rw[flatMap_cons,Qe,length_cons,succ_mul];omega
def Za6{h a}(b:Ko h a)(g:∀K∈a.h,Wf K){c}(f:c.Perm a.q):(Hm a c).length<=100000:=by have i:=gt Lc _ _ (λd e=>Ze3 (g d e));have j:=gt _ _ _ (λd e=>(b.x d e).2.2.2.2);have e:=gt xB 3 c (λd _=>x_);have k:=b.j;have l:=b.l;have d:=b.r;rw[<- f.length_eq] at d;unfold Hm;simp only[Qe,length_cons,length_nil,Dv];omega
def St{h}{a:Ga}(b:Ko h a)(m:∀K∈a.h,Wf K)(z:∀K∈a.h,∀x∈K.e.g,-4294967296<=x){c}(k:c.Perm a.q) o s G E F H D t u j (f:RfX j s o h G E F H D t u a.h (a.g.map BS.fs) (a.g.map BS.N) c):C_ 76 #[P_ o] j (U_ (.string (strOfNums (Cb a c))) j):=by
 have B:=Za6 b m k;have r:=hw a c;have q:=(b.h _ (b.mem b.k)).len;have y:Cb a c=Vw h a.h a.g c++Ay (Gp (Vw h a.h a.g c)) 4:=(by unfold Cb Hm Vw;rw[q]);have A:Hm a c=Vw h a.h a.g c:=(by unfold Hm Vw;rw[q]);rw[A] at B r;rw[y];have L:=b.j;refine ZdJ _ _ h _ _ _ _ _ _ _ _ _ c j f (λK hK=>?_) (λd i=>?_) O (p_ b.l) (by rw[k.length_eq];have:=b.r;omega) (λx n=>?_) b.w O r
 ·obtain⟨e,l,rfl⟩:=aM hK;have v:a.h.getD e Ai=a.h[e]:=w_;have g:=f.x e l;have p:=b.q e l;have w:=b.p e l;rw[v] at g p w;refine⟨g,λx n=>⟨z _ hK x n,?_⟩,λN M=>?_,O⟩
  ·rcases m _ hK with f|f
   ·grind
   grind
  rcases m _ hK with f|f
  ·grind
  grind
 ·have g:=b.h d i;have p:=b.i d i;refine⟨g.len,p_ (b.f4 d i),b.n d i,λl=>?_,g.sum,O,λv=>?_⟩
  ·rw[Qc]
   rcases Nat.lt_or_ge l d.fs.length with e|e
   ·rw[Qd e];have:=b.n d i _ (Qf e)
    grind
   grind
  rw[Qc]
  rcases Nat.lt_or_ge v d.N.length with e|e
  ·rw[Qd e];have:=g.le _ (Qf e)
   grind
  grind
 have:=b.z x (k.subset n);have:=b.w;omega
def Gv(e f:World)(c:Nat->Nat)(j h:Nat)(i:Array Value):Prop:=∃b g,Hu f b j g h/\Em e c b/\Aa (λa=>c a<=13∨c a=99) e f/\(∀d,d<4->g[d]? =i[d]?)/\(∀a,e.1.size<=a∨c a=99->b a<=13∨b a=99)/\∀a,f.1.size<=a->b a=99
def Hu.d{b f e c d}(g:Hu b f e d c):Hu b (λa=>if a<b.1.size then f a else 99) e d c:=
 g.u (S:=λ_=>False) (Aa.refl _ _) (λ_ _ a=>a.elim) (λa h=>.inr (by simp[h]))
def Hu.E{f e d N b c}(a:Hu f e d c N)(h:N<=b):Hu f e d c b:=
 a.put (S:=λ_=>False) (Aa.refl _ _) (λ_ _ g=>g.elim) a.v (Em.refl _ _) (λ_ _=>rfl) a.r h
def Gv.b{j k i g c e}(m:Nm j k i g c e){d}(q:c<=d):Gv j k i g d e:=by
 obtain⟨u,l,n,o,h,p,r,s⟩:=m;have t:=h.size;refine⟨_,l,n.d.E q,λb a=>?_,h,p,λb a=>?_,λb a=>w_⟩
 ·rcases o b a with f|f
  exact .inl f
  grind
 grind
def Gv.a{c k b i g d}(l:Hu c b i d g)(e:E_ c k)(j:∀a,c.1.size<=a->b a=99){h}(m:g<=h):Gv c k b i h d:=
 ⟨b,d,(l.u (S:=λ_=>False) (.a e) (λ_ _ f=>f.elim) (Em.refl _ _)).E m,Em.refl _ _,.a e,λ_ _=>rfl,λa f=>.inr (f.elim (j a) id),λa f=>j a (aG e.size f)⟩
def Gv.T{d h r c f m i k l}(n:Em d c f)(o:Aa (λa=>c a<=13∨c a=99) d h)(z:∀b,b<4->l[b]? =k[b]?)(A:∀a,d.1.size<=a∨c a=99->f a<=13∨f a=99)(y:Gv h r f m i l):Gv d r c m i k:=by
 obtain⟨B,w,s,j,t,u,D,v⟩:=y;refine⟨B,w,s,n.T o.size j,o.c t (λa q=>?_),λb p=>(u b p).T (z b p),λa q=>?_,v⟩
 ·by_cases g:a<d.1.size
  ·left
   rcases n a g with e|e
   exact .inr e;omega
  omega
 rcases A a q with e|e
 ·by_cases g:a<h.1.size
  ·rcases j a g with x|x
   omega;omega
  grind
 grind
structure Lo(b:World)(dp c i d f k:Nat)(a:Ga)(n l m o)(j)(g h)(e):Prop where
 dp:b.1[dp]? =some (O_ #[P_ c,P_ d] 137)
 x:On b c i a
 y:RfX b f d k n l m o j g h a.h (a.g.map BS.fs) (a.g.map BS.N) e
structure Oo(e:Nat)(a:Ga)(c:List XS):Prop where
 ok:Ko e a
 q:∀K∈a.h,Wf K
 h:∀K∈a.h,∀f∈K.e.g,-4294967296<=f
 g:c.Perm a.q
 x:Eh c
 i:∀d b,d<e->b<a.h.length->Sp a c b (Da a b) (Iq a b) d=yp c b d (Ir a.h (a.g.map BS.fs) (a.g.map BS.N) d b)
section
variable {w w':World} {dp gb db yb base n:Nat} {D:Ga} {vF vB vC vX:Value} {kvs:List (Value×Value)} {bvs cvs:List Value} {a:List XS}
def Lo.below(b:Lo w dp gb db yb base n D vF vB vC vX kvs bvs cvs a)(c:E_ w w'):Lo w' dp gb db yb base n D vF vB vC vX kvs bvs cvs a:=
 ⟨(c.block _ (Qb b.dp).1).T b.dp,b.x.below c,b.y.u (.a c)⟩
def Lo.cells(b:Lo w dp gb db yb base n D vF vB vC vX kvs bvs cvs a):w.cell? (J dp 0)=some (P_ gb)/\w.cell? (J dp 1)=some (P_ yb)/\w.cell? (J yb 0)=some (I n)/\w.cell? (J yb 1)=some vF/\w.cell? (J yb 2)=some vB:=
 ⟨G_ 0 _ 137 (0,0) b.dp,G_ 1 _ 137 (0,0) b.dp,G_ 0 _ 142 (0,0) b.y.v,G_ 1 _ 142 (0,0) b.y.v,G_ 2 _ 142 (0,0) b.y.v⟩
def Zcr N t g h u i x G l y E o m A z F wc v (p:Lo w dp gb db yb base n D vF vB vC vX kvs bvs cvs a)(r:Oo n D a):C_ 77 #[P_ N,P_ dp,.agg #[I 8,I t,I g,V l o m,I h,I u,I i,V y A z,V E F wc,Q_ v,I x,I G]] w (U_ (.bool true) w):=by
 have L:=Y (r.ok);have c:K (∀f,Below _ w f->_):=λf P=>p.below P;clear p r;refine dl_ ?_;go_enter func77,ntmps77;go_upto_region 3 with fail;generalize s:w.alloc (O_ #[I 8,I t,I g,V l o m,I h,I u,I i,V y A z,V E F wc,Q_ v,I x,I G] 93)=B;have b:E_ w B:=(by rw[<- s];exact q_);clear s;have⟨M,j,k,_,_⟩:=(c B b).cells;have e:=Zc8 _ _ n _ _ (c _ b).x L;clear j k;go_wp2_with fail
 apply e.m;rintro R Q ⟨rfl,q⟩;have d:=b.T (q.m b.size);have⟨_,j,k,_,_⟩:=(c Q d).cells;have H:=Y d;clear d q b e M;go_wp2;go_ret;exact⟨s_,H⟩
def zl S c y l m z o x M p B H r q F E L wc A (s:Lo w dp gb db yb base n D vF vB vC vX kvs bvs cvs a)(i:Oo n D a)(X:c≠8)(Z:c≠9)(U:c≠10)(W:c≠11):C_ 77 #[P_ S,P_ dp,.agg #[I c,I y,I l,V p r q,I m,I z,I o,V B F E,V H L wc,Q_ A,I x,I M]] w (U_ (.bool true) w):=by
 have b:=T_ (i.ok) i;have g:K (∀d,Below _ w d->_):=λd h=>s.below h;clear s i;refine dl_ ?_;go_enter func77,ntmps77;go_upto_region 26 with fail;generalize v:w.alloc (O_ #[I c,I y,I l,V p r q,I m,I z,I o,V B F E,V H L wc,Q_ A,I x,I M] 93)=G;have e:E_ w G:=(by rw[<- v];exact q_);clear v;have⟨P,_,_,_,_⟩:=(g G e).cells;have j:=Zaw _ _ n _ _ (g _ e).x b.1 b.2.q a b.2.g b.2.x;have k:=Y (λd h=>St b.1 b.2.q b.2.h b.2.g _ _ _ _ _ _ _ _ _ d (g d h).y);generalize strOfNums (Cb D a)=a0 at *;go_wp2_with fail
 apply j.m;rintro R T ⟨rfl,t⟩;have f:=e.T (t.m e.size);have⟨_,Q,_,_,_⟩:=(g T f).cells;clear t e j P;go_wp2_with fail
 apply (k _ f).m;rintro R a1 ⟨rfl,u⟩;have N:=Y (f.T (u.m f.size));clear u f Q k;go_wp2;go_ret;exact⟨s_,N⟩
end
def Dq.u{e k a h l i g S}(b:Dq e a 0 h l i g)(j:Aa S e k)(o:¬S a)(n:a<e.1.size):Dq k a 0 h l i g:=by have f:=λp=>cb_ (w:=e) (a:=(J a p)) (j.block _ n o);exact⟨b.le,λm=>Qh (b.lt m) j.size,λd c=>(f _).T (b.v d c),λd c=>(f _).T (b.z d c),λd c=>(f _).T (b.q d c)⟩
section
variable {w w':World} {o f:Nat->Nat} {t g yb d e m:Nat} {wd:Nat->Bool} {sc ct:Nat->Int} {bins:Int} {size budget:Nat} {a b:ByteArray} {c:Bool}
def Nn(w:World)(o:Nat->Nat)(t yb d e m:Nat)(wd:Nat->Bool)(sc ct:Nat->Int)(bins:Int)(size budget:Nat)(a:ByteArray)(c:Bool):Prop:=
 o yb=t/\o d=t/\d≠yb/\d<w.1.size/\Dq w d 0 (m+1) wd sc ct/\∃b g f,pg w yb d (m+1) e bins size budget b g f c/\(c=false->b=a/\g=(Pq (Ny m wd sc a)).1/\f=(Pq (Ny m wd sc a)).2)
def Nn.lt(b:Nn w o t yb d e m wd sc ct bins size budget a c):yb<w.1.size:=by obtain⟨_,_,_,_,_,g,i,h,f,_⟩:=b;exact(Qb f).1
def Nn.u{S}(j:Nn w o t yb d e m wd sc ct bins size budget a c)(i:Aa S w w')(p:∀b,b<w.1.size->S b->o b≠t)(z:Em w o f)(E:t≠99):Nn w' f t yb d e m wd sc ct bins size budget a c:=by
 have q:=j.lt;obtain⟨k,l,u,h,v,r,D,B,A,x⟩:=j
 have n:∀b,b<w.1.size->o b=t->f b=t:=λb y g=>by rcases z b y with s|s<;>omega
 exact⟨n _ q k,n _ h l,u,Qh h i.size,v.u i (λg=>p _ h g l) h,r,D,B,i.g A (λg=>p _ q g k),x⟩
def feedY(A:Up m wd sc ct bins size budget)(q:Nn w o t yb d e m wd sc ct bins size budget a c)(z:t≠99)(M:a.size+b.size<=200000000000000):C_ 125 #[P_ yb,Q_ b] w λg w'=>g=.returned (.tuple #[.int .i64 (yu m wd sc (Zh m wd sc a b c) c).1,.int .i64 (yu m wd sc (Zh m wd sc a b c) c).2])/\Nn w' (Dc w w' o t) t yb d e m wd sc ct bins size budget (Zh m wd sc a b c) c/\Aa (λu=>o u=t) w w':=by
 have v:=q;have H:=q.lt;obtain⟨x,B,r,k,y,f,n,l,j,D⟩:=q;have N:=A.j
 cases c with
 | true=>
  apply (xt _ _ _ _ _ _ _ n l _ b w j).m;rintro g w' ⟨rfl,rfl⟩;have i:Zh m wd sc a b true=a:=rfl;rw[i];exact⟨rfl,v.u (S:=λ_=>False) (Aa.refl _ _) (λ_ _ g=>g.elim) (Ez _ _ _ _) z,Aa.refl _ _⟩
 | false=>
  obtain⟨rfl,rfl,rfl⟩:=D rfl
  cases h:Ny m wd sc f with
  | error L=>
   obtain⟨n,l⟩:=L;have E:=Mz _ _ _ h;rw[h] at j;apply (Zbm _ _ _ _ _ _ _ n l _ b w j O).m;rintro g w' ⟨rfl,u,rfl⟩;have i:Zh m wd sc f b false=f:=(by unfold Zh;rw[h];rfl);have p:yu m wd sc f false=(n,(l:Int)):=(by unfold yu;rw[h];rfl);have s:E_ w _:=below_drewN y_ u;rw[i,p];exact⟨rfl,v.u (S:=λ_=>False) (.a s) (λ_ _ g=>g.elim) (Ez _ _ _ _) z,.a s⟩
  | ok P=>
   rw[h] at j;have i:Zh m wd sc f b false=f++b:=(by unfold Zh;rw[h];rfl);have p:yu m wd sc (f++b) false=fdA (f++b) (Kk (f++b) (m+1) wd sc ((f++b).size+1) [] 0):=(by unfold yu;rw[ZcU _ _ _ _ O];rfl);rw[i,p];apply (ZgO _ _ _ _ _ _ _ _ b _ _ _ w j y r k O A.sc w_).m;rintro g w' ⟨rfl,F,s⟩;have G:Aa (λu=>_=t) w _:=s.m (λu _ E=>by subst E;exact x);refine⟨rfl,⟨(Eb H).T x,(Eb k).T B,r,Qh k s.size,y.u s r k,f++b,_,_,F,λ_=>⟨rfl,?_,?_⟩⟩,G⟩;rw[ZcU _ _ _ _ O];rfl;rw[ZcU _ _ _ _ O];rfl
end
theorem ZkD a:wrg a≠0:=by unfold wrg;split<;>omega
def ZnT a b (c:(Nv a b 0 2 false).2.2.2=0):1<=(Nv a b 0 2 false).1:=by grind [Nv,Bp,ZkD,Jb,Pf]
def ZeQ e g i h:∀c a b d,(Ux e g i h c a b d).2.2=0->(Ux e g i h c a b d).1.length=b.length+c
 |0,a,b,d,_=>rfl
 | c+1,a,b,d,f=>by
  unfold Ux at f ⊢;simp only at f ⊢
  by_cases j:(gq e d (i a) (h a).toNat (Eg a g)).2.2=0
  rw[aD j] at f ⊢;rw[ZeQ e g i h c (a+1) _ _ f,Qe,length_singleton];omega
  grind
theorem Zj6 a c f e b (d:(fj a c f e b).2.2.2=0):1<=(fj a c f e b).1/\(fj a c f e b).2.1.length=c:=by
 unfold fj at d ⊢;simp only at d ⊢
 by_cases g:Oz a (Nv a b 0 2 false).2.2.1 (Nv a b 0 2 false).2.2.2 44=0
 rw[aD g] at d ⊢;have h:(Nv a b 0 2 false).2.2.2=0:=(by grind [Oz,ZkD]);refine⟨ZnT a b h,?_⟩;rw[ZeQ a c f e c 0 [] _ d];simp
 grind
def Zbz e d i h:∀f b c,(∀a∈b,1<=a.1/\a.2.length=d)->∀a∈(Kk e d i h f b c).1,1<=a.1/\a.2.length=d
 |0,b,c,g=>g
 | f + 1,b,c,g=>by
  unfold Kk
  by_cases j:c<e.size
  ·rw[aD j]
   by_cases k:b.length=200
   ·grind
   rw[aC k];simp only
   by_cases l:(fj e d i h c).2.2.2=0
   ·rw[aD l];refine Zbz e d _ _ f _ _ (λa m=>?_)
    grind [Zj6]
   grind
  grind
def Zg0{b g f e l d}(q:∀a,a<b+1->g a=false->0<=f a/\f a<=3)(p:Bt (b+1) g f RS.start (Ab e) 0=.ok l)(m:d=(Kk e (b+1) g f (e.size+1) [] 0).1)(h:Zen (b+1) l d):ip d/\∀c∈d,c.2.length=b+1:=by
 have j:∀c∈d,1<=c.1/\c.2.length=b+1:=m ▸ (Zbz e _ _ _ _ _ 0 s_);have i:=Uf.a O q _ (Uf.start _) (Is.start (show 1<=b+1 by omega)) p;refine⟨λs o=>⟨⟨(j s o).1,?_⟩,λu r=>?_⟩,λc n=>(j c n).2⟩;exact(i.k _ (by rw[h.1];grind)).2;obtain⟨a,t,rfl⟩:=aM r;have k:a<b+1:=w_;apply i.h a k _;rw[h.2 a k]
 grind
def eS(f:Nat->Bool)(d:Nat->Int)(c:Int)(e:Nat)(b:RS)(a:Nat):ES:=Ck Px (f a) (d a) c e (b.a a) b.k
def esS(c:Nat)(f:Nat->Bool)(b:Nat->Int)(a:Int)(e:Nat)(d:RS):List ES:=(range (c+1)).map (eS f b a e d)
def bbS(e:Nat)(g:Nat->Bool)(d:Nat->Int)(c:Int)(f:Nat)(b:RS):List (List Nat):=(range (e+1)).map (λa=>(b.a a).map (Gi (eS g d c f b a)))
section
variable {w w':World} {o g:Nat->Nat} {t d yb f e m:Nat} {wd:Nat->Bool} {sc ct:Nat->Int} {bins:Int} {size budget:Nat} {a b:ByteArray} {c:Bool}
def whole(m:Nat)(wd:Nat->Bool)(sc:Nat->Int)(a:ByteArray)(c:Bool)(b:RS):Prop:=c=false/\Ny m wd sc a=.ok b/\b.h=0
def clZ(m:Nat)(wd:Nat->Bool)(sc:Nat->Int)(a:ByteArray)(c:Bool):Int×Int:=if c=true then(1,0) else match Ny m wd sc a with
 |.error (d,b)=>(d,b)
 |.ok _=>(2,a.size)
def clC(m:Nat)(wd:Nat->Bool)(sc:Nat->Int)(a:ByteArray)(c:Bool):Bool:=if c=true then true else match Ny m wd sc a with
 |.error _=>false
 |.ok _=>true
def Zo7(w:World)(o:Nat->Nat)(t d m:Nat)(wd:Nat->Bool)(sc ct:Nat->Int)(bins:Int)(size budget:Nat)(a:ByteArray)(c:Bool)(f:Ending)(w':World):Prop:=
 ((∀b,¬whole m wd sc a c b)/\f=.returned (.tuple #[.pointer none,I (clZ m wd sc a c).1,I (clZ m wd sc a c).2])/\Qy w' (Dc w w' o t) t d m wd sc ct bins size budget a (clC m wd sc a c)/\Aa (λe=>o e=t) w w')∨
 (∃b g h,whole m wd sc a c b/\f=.returned (.tuple #[P_ g,I 0,I 0])/\za w.1.size w' g h (Bw m b.k.length budget (esS m wd ct bins size b) (bbS m wd ct bins size b))/\Uq w' d true 0 0/\Aa (λe=>e=d) w w')
def Zm4(e:Up m wd sc ct bins size budget)(u:Qy w o t d m wd sc ct bins size budget a c)(z:t≠99):C_ 50 #[P_ d] w λb w'=>Zo7 w o t d m wd sc ct bins size budget a c b w':=by
 have v:=u;obtain⟨x,y,G⟩:=u;have B:∀k,_->_->_/\_:=λk A L=>⟨(e.sc k A).1,(e.sc k A).2 L⟩
 rcases G with⟨b,n,l,s⟩|⟨b,n,l,f,s⟩|⟨b,h,K,M,U,T,P,N,f,D,Q,R⟩
 subst b;apply (uv _ n l w s).m;rintro b w' ⟨rfl,rfl⟩;exact .inl ⟨λh g=>by simp[whole] at g,rfl,v.u (S:=λ_=>False) (Aa.refl _ _) (λ_ _ b=>b.elim) (Ez _ _ _ _) z,Aa.refl _ _⟩;subst b;apply (Zab _ n l w s (Mz _ _ _ f)).m;rintro b w' ⟨rfl,j,rfl⟩;have i:E_ w _:=below_drewN y_ j;have p:clZ m wd sc a false=(n,(l:Int)):=(by unfold clZ;rw[f];rfl);have q:clC m wd sc a false=false:=(by unfold clC;rw[f];rfl);refine .inl ⟨λh g=>(by have:=g.2.1;grind),by rw[p],?_,.a i⟩;rw[q];exact v.u (S:=λ_=>False) (.a i) (λ_ _ b=>b.elim) (Ez _ _ _ _) z
 subst b;have p:clZ m wd sc a false=(2,(a.size:Int)):=(by unfold clZ;rw[f];rfl);have q:clC m wd sc a false=true:=by unfold clC;rw[f];rfl
 by_cases j:h.h=0
 have g:=Sa (ct:=ct) B e.g e.i (oj_ e.g e.v) e.h f;apply (uw Px (eS wd ct _ _ h) D j (Is.a O B _ (Is.start O) f) e.j e.r g.l (λk=>rfl) g.ok g.num g.k (oj_ e.g e.v) e.h e.g e.i).m;rintro b w' ⟨F,E,rfl,H,r,i⟩;exact .inr ⟨h,F,E,⟨rfl,f,j⟩,rfl,H,r,i⟩;apply (ZcI D j).m;rintro b w' ⟨rfl,r,i⟩;refine .inl ⟨λF g=>by have:=g.2.1;rw[f] at this;injection this with this;subst this;exact j g.2.2,by rw[p],?_,i.m (λE _ g=>by subst g;exact x)⟩;rw[q];exact⟨(Eb y).T x,Qh y i.size,.inl ⟨rfl,0,0,r⟩⟩
def Zo8(w:World)(o:Nat->Nat)(t yb f e m:Nat)(wd:Nat->Bool)(sc ct:Nat->Int)(bins:Int)(size budget:Nat)(a:ByteArray)(c:Bool)(g:Ending)(w':World):Prop:=
 ((∀b,¬whole m wd sc a c b)/\g=.returned (.tuple #[.pointer none,I (clZ m wd sc a c).1,I (clZ m wd sc a c).2])/\Nn w' (Dc w w' o t) t yb f e m wd sc ct bins size budget a (clC m wd sc a c)/\Aa (λd=>o d=t) w w')∨
 (∃b h,whole m wd sc a c b/\g=.returned (.tuple #[P_ h,I 0,I 0])/\ij w w' h b.k.length (Bw m b.k.length budget (esS m wd ct bins size b) (bbS m wd ct bins size b))/\pg w' yb f (m+1) e bins size budget a 0 0 true/\Aa (λd=>d=yb) w w')
def Zin(g:Up m wd sc ct bins size budget)(E:Nn w o t yb f e m wd sc ct bins size budget a c)(N:t≠99)(a6:a.size<=200000000000000):C_ 126 #[P_ yb] w λi w'=>Zo8 w o t yb f e m wd sc ct bins size budget a c i w':=by
 have H:=E;have a1:=E.lt;have W:∀b,_->_->_/\_:=λb h a0=>⟨(g.sc b h).1,(g.sc b h).2 a0⟩;obtain⟨L,X,F,u,M,d,A,x,r,Z⟩:=E
 cases c with
 | true=>
  apply (qq _ _ _ _ _ _ _ A x _ w r).m;rintro i w' ⟨rfl,rfl⟩;exact .inl ⟨λq k=>by simp[whole] at k,rfl,H.u (S:=λ_=>False) (Aa.refl _ _) (λ_ _ i=>i.elim) (Ez _ _ _ _) N,Aa.refl _ _⟩
 | false =>
  obtain⟨rfl,rfl,rfl⟩:=Z rfl
  cases j:Ny m wd sc d with
  | error k=>
   obtain⟨A,x⟩:=k;have v:=Mz _ _ _ j;rw[j] at r;have B:clZ m wd sc d false=(A,(x:Int)):=(by unfold clZ;rw[j];rfl);have D:clC m wd sc d false=false:=(by unfold clC;rw[j];rfl);apply (xp _ _ _ _ _ _ _ A x _ w r O).m;rintro i w' ⟨rfl,n,rfl⟩;have l:E_ w _:=below_drewN y_ n;refine .inl ⟨λq k=>(by have:=k.2.1;grind),by rw[B],?_,.a l⟩;rw[D];exact H.u (S:=λ_=>False) (.a l) (λ_ _ i=>i.elim) (Ez _ _ _ _) N
  | ok q=>
   rw[j] at r;have B:clZ m wd sc d false=(2,(d.size:Int)):=(by unfold clZ;rw[j];rfl);have D:clC m wd sc d false=true:=(by unfold clC;rw[j];rfl);have s:Bt _ _ _ _ _ 0=_:=j;have T:=ZbA (S:=d) (n:=m+1) (wd:=wd) (sc:=sc) O;refine(ZdL yb f m e size _ bins d wd sc ct (λb=>Ck Px (wd b) (ct b) bins size (Bn (Kk d (m+1) wd sc (d.size+1) [] 0).1 b) (Jj (Kk d (m+1) wd sc (d.size+1) [] 0).1)) w r M F u g.j g.sc O g.r (oj_ g.g g.v) g.h g.g g.i g.ct ?_).m ?_
   ·rintro Q rfl v
    rcases T with⟨z,q1,n,p,y,l⟩|⟨z,q1,n,p,y⟩|⟨q1,n,p⟩
    rw[s] at q1;injection q1 with q1;subst q1;have⟨G,P⟩:=Zg0 W s rfl l;refine⟨G,P,λb=>rfl,λb h=>?_⟩;have i:=(Sa (ct:=ct) W g.g g.i (oj_ g.g g.v) g.h s).ok b h;rw[l.1,l.2 b h] at i;exact i;omega;omega
   rintro i w' ⟨U,v,P⟩
   rcases T with⟨z,q1,n,p,y,l⟩|⟨z,q1,n,p,y⟩|⟨q1,n,p⟩
   ·rw[s] at q1;injection q1 with q1;subst q1
    rcases P with⟨G,_⟩|⟨_,a2,rfl,a5⟩
    exact absurd p G;refine .inr ⟨q,a2,⟨rfl,j,n⟩,rfl,?_,U,v⟩;have a7:q.k.length=(Kk d (m+1) wd sc (d.size+1) [] 0).1.length:=by rw[l.1,length_map]
    have Q:∀b,b<m+1->Ck Px (wd b) (ct b) bins size (Bn (Kk d (m+1) wd sc (d.size+1) [] 0).1 b) (Jj (Kk d (m+1) wd sc (d.size+1) [] 0).1)=eS wd ct bins size q b:=λb h=>by unfold eS;rw[l.1,l.2 b h];rfl
    have a3:yt m (λb=>Ck Px (wd b) (ct b) bins size (Bn (Kk d (m+1) wd sc (d.size+1) [] 0).1 b) (Jj (Kk d (m+1) wd sc (d.size+1) [] 0).1))=esS m wd ct bins size q:=by unfold yt esS;exact map_congr_left (λb h=>Q b (by simpa using h))
    have a4:Tg m (Kk d (m+1) wd sc (d.size+1) [] 0).1 (λb=>Ck Px (wd b) (ct b) bins size (Bn (Kk d (m+1) wd sc (d.size+1) [] 0).1 b) (Jj (Kk d (m+1) wd sc (d.size+1) [] 0).1))=bbS m wd ct bins size q:=by
     unfold Tg bbS;refine map_congr_left (λb h=>?_)
     have R:b<m+1:=by simpa using h
     unfold zt;show List.map (Gi (Ck Px (wd b) (ct b) bins size (Bn (Kk d (m+1) wd sc (d.size+1) [] 0).1 b) (Jj (Kk d (m+1) wd sc (d.size+1) [] 0).1))) (Bn (Kk d (m+1) wd sc (d.size+1) [] 0).1 b)=_;rw[Q b R,l.2 b R];rfl
    grind
   ·rw[s] at q1;injection q1 with q1;subst q1
    rcases P with⟨_,rfl⟩|⟨G,_⟩
    rw[p,y];refine .inl ⟨λz k=>by have:=k.2.1;rw[j] at this;injection this with this;subst this;exact n k.2.2,by rw[B],?_,v.m (λQ _ k=>by subst k;exact L)⟩;rw[D];exact⟨(Eb a1).T L,(Eb u).T X,F,Qh u v.size,M.u v F u,d,0,0,U,λi=>by cases i⟩;omega
   grind
end
def ue.a{h g k m q l i s v t p n u o}(a:ue h g k m q l i s v t p n u o):∃K c,InX h K c k m l q i s v t p n u o RS.start 0/\(∀b,K b∨c b->g<=b/\b<h.1.size)/\g<=k/\g<=m:=by
 have r:=a.r.v;unfold RB at r;refine⟨λb=>g<=b/\∃f d,h.1[b]? =some (O_ f d)/\(d=3∨d=261∨d=263),λb=>b=l∨b=i,⟨a.q,a.r.r,⟨N_,N_,N_,λ_=>N_,?_⟩,?_,?_⟩,?_,a.y,a.r.y.1⟩
 ·refine⟨a.r.v,rn_,rn_,rn_,⟨_,a.r.u,?_,λw x=>?_⟩,λ_ _=>rn_,Vh.a _ a.r.fs ⟨a.r.y.2.1,?_⟩ (λb f d c e j=>⟨c,f,d,e,w_⟩),λ_ _ _ _ _=>.inl rfl,λ_ _=>.inl rfl,.inl rfl,.inr rfl,?_,?_,?_,?_,?_,?_⟩;simp[madeCells]
  ·rw[<- Array.getElem?_toList,Sq]
   grind
  ·have⟨f,c,_⟩:=a.r.fs
   grind
  intro b c;simp[ownBlock] at c;intro b c;simp[ownBlock] at c;intro b c;simp[ownBlock] at c;intro w b _ c;simp[ownBlock] at c
  ·rintro b ⟨_,f,d,e,j⟩;refine⟨(Qb e).1,?_⟩;rintro(c|c)
   ·grind
   rw[c,a.r.u] at e;grind
  rintro b (c|c)
  ·grind
  rw[c];exact(Qb a.r.u).1
 refine⟨?_,?_⟩;rintro⟨_,f,d,e,j⟩;rw[a.q] at e;grind;rintro(c|c);have:=a.q;grind;have:=a.q;rw[c,a.r.u] at this;simp at this;refine⟨?_,?_⟩;rintro⟨_,f,d,e,j⟩;rw[a.r.r] at e;grind;rintro(c|c);have:=a.r.r;grind;have:=a.r.r;rw[c,a.r.u] at this;simp at this;rintro b (c|c|c)
 ·grind
 rw[c];exact⟨a.r.y.2.2.1,(Qb r).1⟩;rw[c];exact⟨a.r.y.2.2.2,(Qb a.r.u).1⟩
section
variable {w:World} {o:Nat->Nat} {t m:Nat} {wd:Nat->Bool} {sc ct:Nat->Int} {bins:Int} {size budget:Nat}
def Up.E(a:Iz (m+1) bins size budget wd sc ct=true):Up m wd sc ct bins size budget:=by
 have⟨_,b,c,d,e,g,_,h,j⟩:=Mo a;refine⟨b,λi f=>?_,λi f k=>?_,c,d,e,O,O⟩
 ·grind [Mr]
 grind [Mr]
def Zl5 c k q (s:Dq w c k (m+1) wd sc ct)(x:Iz (m+1) bins size budget wd sc ct=true):C_ 31 #[.agg #[V (some (J c k)) (m+1:Nat) q,I bins,I size,I budget]] w λh b=>∃a,h=.returned (.tuple #[.pointer (some ⟨a,0,none⟩),.int .i64 0])/\w.1.size<=a/\Qy b (Dc w b o t) t a m wd sc ct bins size budget ⟨#[]⟩ false/\E_ w b:=by apply (ZdP c _ _ _ _ _ _ _ _ _ w s x).m;rintro h b ⟨a,A,p,z,n,rfl,u,v⟩;have⟨K,l,e,d,i,r⟩:=u.a;have j:=(Qb e.q).1;have y:=(Qb e.r).1;exact⟨a,rfl,i,⟨Mh i j,j,.inr (.inr ⟨rfl,RS.start,K,l,A,z,p,n,rfl,e,λf g=>⟨(d f g).2,Mh (d f g).1 (d f g).2⟩,Mh r y⟩)⟩,v⟩
def Zl6 c j k (n:Dq w c j (m+1) wd sc ct)(q:Iz (m+1) bins size budget wd sc ct=true):C_ 123 #[.agg #[V (some (J c j)) (m+1:Nat) k,I bins,I size,I budget]] w λf b=>∃a e d,f=.returned (.tuple #[.pointer (some ⟨a,0,none⟩),.int .i64 0])/\w.1.size<=a/\Nn b (Dc w b o t) t a e d m wd sc ct bins size budget ⟨#[]⟩ false/\E_ w b:=by apply (Zbr c _ _ _ _ _ _ _ _ _ w n q).m;rintro f b ⟨a,e,d,rfl,i,r,s,l,g,h,p⟩;have u:=(Qb i).1;exact⟨a,e,d,rfl,g,⟨Mh g u,Mh l h,s,h,r,⟨#[]⟩,0,0,i,λ_=>⟨rfl,rfl,rfl⟩⟩,p⟩
end
section
variable {w w':World} {dp gb db yb base n:Nat} {D:Ga} {vF vB vC vX:Value} {kvs:List (Value×Value)} {bvs cvs:List Value} {a:List XS}
def Zgn x g (l:Oo n D a):∃q p:Int,∀d,Lo d dp gb db yb base n D vF vB vC vX kvs bvs cvs a->(C_ 44 #[P_ gb,I x,I g] d (U_ (.tuple #[.int .i64 q,.int .i64 p]) d))/\(C_ 138 #[P_ yb,I x,I g] d (U_ (.tuple #[.int .i64 q,.int .i64 p]) d)):=by
 have b:=l.ok;have t:=(b.h _ (b.mem b.k)).len;have B:=b.w;have A:=b.j
 by_cases e:0<=x/\x<(n:Int)/\0<=g/\g<(D.h.length:Int)
 ·obtain⟨f,v⟩:∃f:Nat,x=f:=⟨x.toNat,O⟩;obtain⟨i,u⟩:∃i:Nat,g=i:=⟨g.toNat,O⟩;subst v u;have o:f<n:=O;have r:i<D.h.length:=O;refine⟨_,0,λd j=>⟨we _ _ i f n _ d j.x b r o l.g l.x,?_⟩⟩;have w:a.length<=1000000:=(by rw[l.g.length_eq];have:=b.r;omega);have s:=lu yb n f i _ _ _ a d j.y.view ⟨s_,by simp;have:=b.l;omega,λc e=>?_,λc e f=>?_,λc e=>?_,λc e=>?_⟩ o O w;rw[l.i f i o r];exact s
  all_goals
   simp only[length_map] at e;have k:=b.mem e
  have h:(D.g.map BS.N).getD c []=(D.g.getD c Db).N:=w_;rw[h];exact(b.h _ k).len
  ·have h:(D.g.map BS.N).getD c []=(D.g.getD c Db).N:=w_;rw[h,Qc]
   rcases Nat.lt_or_ge f (D.g.getD c Db).N.length with m|m
   ·rw[Qd m];have y:=(b.h _ k).le _ (Qf m);have z:=b.i _ k
    grind
   grind
  have h:(D.g.map BS.fs).getD c []=(D.g.getD c Db).fs:=w_;rw[h];have:=b.f4 _ k;omega;have h:(D.g.map BS.fs).getD c []=(D.g.getD c Db).fs:=w_;rw[h];exact b.n _ k
 refine⟨0,1,λd j=>⟨Zc7 _ _ n x g _ d j.x e O b.k t O,?_⟩⟩;exact(Zbo _ n x g _ d j.y.view.i e).m (λ_ _ c=>⟨c.1,c.2 ▸ y_⟩)
def Zcq a0 N B E P F x g G R U L H T S W wc Q (b:Lo w dp gb db yb base n D vF vB vC vX kvs bvs cvs a)(M:Oo n D a):C_ 77 #[P_ a0,P_ dp,.agg #[I 9,I N,I B,V G L H,I E,I P,I F,V R T S,V U W wc,Q_ Q,I x,I g]] w (U_ (.bool true) w):=by
 have⟨A,y,q⟩:=Zgn (dp:=dp) (gb:=gb) (db:=db) (yb:=yb) (base:=base) (vF:=vF) (vB:=vB) (vC:=vC) (vX:=vX) (kvs:=kvs) (bvs:=bvs) (cvs:=cvs) x g M;have z:K (∀c,Below _ w c->_):=λc d=>b.below d;have X:K (∀c,_->Calls _ _ _ c λh _=>_/\_/\_):=λc d=>(q c (b.below d)).1.m (λ_ _ b=>⟨b.1,d.T (b.2.m d.size),b.2⟩);have Z:K (∀c,_->Calls _ _ _ c λh _=>_/\_/\_):=λc d=>(q c (b.below d)).2.m (λ_ _ b=>⟨b.1,d.T (b.2.m d.size),b.2⟩);clear b M q;refine dl_ ?_;go_enter func77,ntmps77;go_upto_region 6 with fail;generalize k:w.alloc (O_ #[I 9,I N,I B,V G L H,I E,I P,I F,V R T S,V U W wc,Q_ Q,I x,I g] 93)=f;have i:E_ w f:=(by rw[<- k];exact q_);have l:D_ f w.1.size 10 (I x):=by rw[<- k];simp[go_sem]
 have m:D_ f w.1.size 11 (I g):=(by rw[<- k];simp[go_sem]);clear k;have⟨o,_,_,_,_⟩:=(z f i).cells;go_cut [8,9] (λh r t=>h=I A/\r=I y/\K (E_ f t))
 case first=>
  go_region_held3 (λw'=>D_ w' dp 0 (P_ gb)/\D_ w' w.1.size 10 (I x)/\D_ w' w.1.size 11 (I g)) (first|exact⟨o,l,m⟩|exact⟨Ag a5 o,Ag a5 l,Ag a5 m⟩) (first|(go_at_call 44;apply (X _ i.drew).m;rintro h s ⟨rfl,e,r⟩;have a5:Below f.1.size _ _:=y_.drew.T r))
  all_goals go_wp2
  all_goals go_meet
  all_goals exact⟨rfl,rfl,a5⟩
 obtain⟨rfl,rfl,j⟩:=hcut;have u:=Ag j l;have v:=Ag j m;have e:=i.T (j.m i.size);have⟨_,p,_,_,_⟩:=(z wc e).cells;clear o l m i j;generalize wc=s at *;go_upto_region 7 with fail;go_cut [10,11] (λh r t=>h=I A/\r=I y/\K (E_ s t))
 case first=>
  go_region_held3 (λw'=>D_ w' dp 1 (P_ yb)/\D_ w' w.1.size 10 (I x)/\D_ w' w.1.size 11 (I g)) (first|exact⟨p,u,v⟩|exact⟨Ag a5 p,Ag a5 u,Ag a5 v⟩) (first|(go_at_call 138;apply (Z _ e.drew).m;rintro h a1 ⟨rfl,t,r⟩;have a5:Below s.1.size _ _:=y_.drew.T r))
  all_goals go_wp2
  all_goals go_meet
  all_goals exact⟨rfl,rfl,a5⟩
 obtain⟨rfl,rfl,r⟩:=hcut;have t:=Y (e.T (r.m e.size));clear p u v e r;go_wp2_with fail
 apply (Jf _ _).m;rintro h a3 ⟨rfl,a1⟩;obtain rfl:=a1.s;go_wp2_with fail
 apply (Jf _ _).m;rintro h a4 ⟨rfl,a2⟩;obtain rfl:=a2.s;go_wp2;go_ret;exact⟨s_,t⟩
end
def Nm.a{e j t g b o k m n}(p:Em e g b)(q:Aa (λa=>g a<=13∨g a=99) e j)(A:∀d,d<4->n[d]? =m[d]?)(B:∀a,e.1.size<=a->b a<=13∨b a=99)(D:∀a,a<e.1.size->g a=99->b a<=13∨b a=99)(z:Nm j t b o k n):Nm e t g o k m:=by
 obtain⟨i,y,u,l,v,w,G,x⟩:=z;have F:=q.size
 have s:∀a,b a<=13∨b a=99->i a<=13∨i a=99:=λa c=>by
  by_cases h:a<j.1.size
  ·rcases c with f|f
   ·rcases l a h with r|r
    omega;omega
   exact x a h f
  grind
 refine⟨i,y,u,p.T F l,q.c v (λa c=>?_),λd r=>(w d r).T (A d r),λa c=>s a (B a c),λa c E=>s a (D a c E)⟩
 by_cases h:a<e.1.size
 ·left
  rcases p a h with f|f
  exact .inr f;omega
 omega
def zb.a{g h b e c d f}(q:zb g h b e c f d)(r:∀a,f.ownBlock=some a->b a=99):Nm g h b e (c+1) d:=by obtain⟨s,o,i,j,k,l,m,t,n⟩:=q;exact⟨s,o,i,j,k.m (λa _ p=>p.imp id (r a)),l,m,n⟩
section
variable {w w':World} {dp gb db yb base n:Nat} {D:Ga} {vF vB vC vX:Value} {kvs:List (Value×Value)} {bvs cvs:List Value} {a:List XS}
def BdQ(e:Nat)(i:World)(a:List Int)(b:List ByteArray)(h:Int)(j:Ending)(w':World):Prop:=∃c f d g,j=.returned (.tuple #[.slice c a.length f,.slice d b.length g,I h])/\Ad w' e (V c a.length f) a/\Bi w' e (V d b.length g) b/\E_ i w'
def zr x (A:Oo n D a):∃i j r,i.length<=1000/\j.length<=1000/\∀c,Lo c dp gb db yb base n D vF vB vC vX kvs bvs cvs a->(C_ 27 #[P_ gb,I x] c λd w'=>BdQ c.1.size c i j r d w')/\(C_ 139 #[P_ yb,I x] c λd w'=>BdQ 0 c i j r d w'):=by
 have q:=A.ok;have F:=q.j
 by_cases s:0<=x/\x<(D.h.length:Int)
 ·obtain⟨b,z⟩:∃b:Nat,x=b:=⟨x.toNat,O⟩;subst z;have g:b<D.h.length:=O;have E:=q.y b g;refine⟨bdI (D.h.getD b Ai).e,bdS (D.h.getD b Ai).e,0,?_,?_,λc e=>⟨?_,?_⟩⟩;unfold bdI;grind;unfold bdS;grind;apply (vx _ _ b n _ c e.x q g).m;rintro d w' ⟨h,p,rfl,f⟩;obtain⟨k,m,rfl⟩:=f.x.shape;obtain⟨l,o,rfl⟩:=f.B.a;exact⟨k,m,l,o,rfl,f.x,f.B,f.A⟩;apply (ZcP b e.y g).m;rintro d w' ⟨rfl,B,rfl⟩;have⟨f,h⟩:=e.y.z.j b g;have t:=e.y.x b g;have w:bdI (D.h.getD b Ai).e=(D.h.getD b Ai).e.g:=(by unfold bdI;split;rename_i k;exact(t.2.2.1 k).s;rfl);have y:bdS (D.h.getD b Ai).e=(D.h.getD b Ai).e.c:=by unfold bdS;split;rfl;rename_i k;exact(t.2.2.2 (by simpa using k)).s
  rw[<- w] at f;rw[<- y] at h;have⟨k,m,u⟩:=f.shape;have⟨l,o,v⟩:=h.a;rw[u] at f;rw[v] at h;have p:E_ c _:=below_drewN y_ B;exact⟨k,m,l,o,by rw[u,v],Ad.below (base:=0) (Ce f r_) p,Bi.below (base:=0) (Ce h r_) p,p⟩
 refine⟨[],[],1,r_,r_,λc e=>⟨?_,?_⟩⟩;apply (Zc5 _ _ x _ c e.x s O).m;rintro d w' ⟨rfl,rfl⟩;exact⟨none,0,none,0,rfl,Ad.nil _ _,Bi.nil _ _,y_⟩;apply (Zaj x e.y.view.i s).m;rintro d w' ⟨rfl,rfl⟩;exact⟨none,0,none,0,rfl,Ad.nil _ _,Bi.nil _ _,y_⟩
def uk{o v r a3} e7 c6 c7 e8 c8 x f9 d1 f0 f7 d3 d2 f2 f1 f8 wc e9 (d4:Hu w o v a3 r)(N:∀b,w.1.size<=b->o b=99)(g7:r<=10000000)(M:Lo w dp gb db yb base n D vF vB vC vX kvs bvs cvs a)(e2:Oo n D a):C_ 77 #[P_ v,P_ dp,.agg #[I 10,I e7,I c6,V d1 d3 d2,I c7,I e8,I c8,V f0 f2 f1,V f7 f8 wc,Q_ e9,I x,I f9]] w λd w'=>d=.returned (.bool true)/\Nm w w' o v (r+2) a3:=by
 have⟨a0,L,b5,d8,e0,a6⟩:=zr (dp:=dp) (gb:=gb) (db:=db) (yb:=yb) (base:=base) (vF:=vF) (vB:=vB) (vC:=vC) (vX:=vX) (kvs:=kvs) (bvs:=bvs) (cvs:=cvs) x e2;have q:=T_ d4 N;have Z:K (∀k,Below _ w k->_):=λk y=>M.below y;have⟨b8,b9⟩:=Z_ (λk y=>(a6 k (M.below y)).1) (λk y=>(a6 k (M.below y)).2);have⟨B,d9⟩:=Y_ a0.length;have⟨i,e1⟩:=Y_ L.length;have e:=x4_ d9 e1 d8 e0;clear M e2 a6 d4 N d9 e1 d8 e0;refine dl_ ?_;go_enter func77,ntmps77;go_upto_region 10 with fail;generalize b0:w.alloc (O_ #[I 10,I e7,I c6,V d1 d3 d2,I c7,I e8,I c8,V f0 f2 f1,V f7 f8 wc,Q_ e9,I x,I f9] 93)=E;have h:E_ w E:=(by rw[<- b0];exact q_);have T:D_ E w.1.size 10 (I x):=(by rw[<- b0];simp[go_sem]);clear b0;have⟨a4,_,_,_,_⟩:=(Z E h).cells
 go_cut [12,13,14] (λd f j c=>∃l m g p,d=.slice l B m/\f=.slice g i p/\j=I b5/\K (Ad c w.1.size (V l B m) a0/\Bi c w.1.size (V g i p) L/\E_ E c))
 case first=>
  go_region_held3 (λw'=>D_ w' dp 0 (P_ gb)/\D_ w' w.1.size 10 (I x)) (first|exact⟨a4,T⟩|exact⟨Ag aA a4,Ag aA T⟩) (first|(go_at_call 27;apply (b8 _ h.drew).m;rintro d b1 ⟨l,a5,g,u,rfl,a7,a8,c⟩;have aA:Below E.1.size _ _:=y_.drew.T c))
  all_goals go_wp2
  all_goals go_meet
  all_goals exact⟨l,a5,g,u,by rw[e.1],by rw[e.2.1],rfl,by rw[<- e.1];exact Ce a7 h.size,by rw[<- e.2.1];exact Ce a8 h.size,aA⟩
 obtain⟨l,a5,g,u,rfl,rfl,rfl,p⟩:=hcut;have b2:=Ag p.2.2 T;have z:=h.T (p.2.2.m h.size);have⟨_,m,_,_,_⟩:=(Z wc z).cells;have X:=T_ p.1 p.2.1;clear a4 T h p;generalize wc=b1 at *;go_upto_region 11 with fail;go_cut [15,16,17] (λd f j c=>∃s A t F,d=.slice s B A/\f=.slice t i F/\j=I b5/\K (Ad c 0 (V s B A) a0/\Bi c 0 (V t i F) L/\E_ b1 c))
 case first=>
  go_region_held3 (λw'=>D_ w' dp 1 (P_ yb)/\D_ w' w.1.size 10 (I x)) (first|exact⟨m,b2⟩|exact⟨Ag aA m,Ag aA b2⟩) (first|(go_at_call 139;apply (b9 _ z.drew).m;rintro d f3 ⟨s,c9,t,d0,rfl,a7,a8,c⟩;have aA:Below b1.1.size _ _:=y_.drew.T c))
  all_goals go_wp2
  all_goals go_meet
  all_goals exact⟨s,c9,t,d0,by rw[e.1],by rw[e.2.1],rfl,by rw[<- e.1];exact a7,by rw[<- e.2.1];exact a8,aA⟩
 obtain⟨s,c9,t,d0,rfl,rfl,rfl,j⟩:=hcut;have G:=T_ (X.1.below j.2.2) (X.2.below j.2.2);have W:=Y (z.T (j.2.2.m z.size));have c0:=Sx _ 0 _ _ _ _ G.1 j.1 (p_ e.2.2.1);have b7:=Y j.2.1;clear m b2 z j X b8 b9;generalize wc=f3 at *;go_wp2_with fail
 apply c0.m;rintro d f4 ⟨rfl,g9,e5⟩;have A:E_ f3 f4:=e5 ▸ (below_drewN y_ _);have U:=Y (W.T (A.m W.size));have H:=T_ (G.1.below A) (G.2.below A);have c1:=xy _ 0 _ _ _ _ H.2 (b7.below A) (p_ e.2.2.2);clear e5 A c0 G b7 W;go_wp2_with fail
 apply c1.m;rintro d f5 ⟨rfl,h0,e6⟩;have P:E_ f4 f5:=e6 ▸ (below_drewN y_ _);have F:=Y (U.T (P.m U.size));have f:=T_ (H.1.below P) (H.2.below P);have d5:=q.1.u (S:=λ_=>False) (.a F) (λ_ _ d=>d.elim) (Em.refl _ _);have e3:=λb c=>q.2 b (B_ f.1 b c).1;have e4:=λb c=>q.2 b (B_ f.2 b c).1;have b3:=d5.a (Ce f.1 r_:Ad _ 0 _ _) e3 (p_ e.2.2.1) O;clear e6 P c1 H U d5;go_wp2_with fail
 apply b3.m;rintro d f6 ⟨rfl,Q⟩;obtain⟨g5,g2,c2,c3,a1,c4,g1,c5,a2⟩:=Q
 have d7:∀b,(slice g i u).ownBlock=some b->(slice l B a5).ownBlock≠some b:=λb c d=>by
  have⟨b4,R⟩:=Ac f.1 d;have⟨b6,a9⟩:=Ac f.2 c
  grind
 have d6:Bi f6 0 (V g i u) L:=a1.row (Ce f.2 r_) (λb c d=>w_);have a9:=λb c=>c5 b (B_ f.2 b c).2 (e4 b c) (d7 b c);have b4:=c2.g d6 a9 (p_ e.2.2.2) O
 have b6:K (∀R,zb f6 R g5 v (r+1) (V g i u) g2->Nm w R o v (r+2) a3):=λR g6=>by
  have g3:=g6.a a9;have g8:=F.size;have g4:=(Aa.a (S:=λb=>o b<=13∨o b=99) F).c a1 (λb c=>w_);refine Nm.a (λb c=>c3 b O) g4 c4 (λb c=>?_) (λb c N=>a2 b O N) g3
  by_cases g0:b<f5.1.size
  exact a2 b g0 (q.2 b c)
  grind
 clear c2 c3 a1 c4 g1 c5 a2 d6 a9 b3 d7 e3 e4 f F q Z;go_wp2_with fail
 apply b4.m;rintro d R ⟨rfl,Q⟩;have g0:=Y (b6 _ Q);clear Q b4 b6;go_wp2_with fail
 apply (Jf _ _).m;rintro d g8 ⟨rfl,g3⟩;obtain rfl:=g3.s;go_wp2_with fail
 apply (Jf _ _).m;rintro d h1 ⟨rfl,g4⟩;obtain rfl:=g4.s;go_wp2;go_ret;exact⟨s_,g0⟩
end
def Mk.row{i e f b j}(k:Mk i e f b b j)(p:e<=f)(v:b<=1000):∃d:List Value,d.length=b/\i.ownsRow e 25 1 (L_ f b b) b d/\(∀a,a<b->Ad i e (d.getD a Ii) (j.getD a []))/\∀g a,g<a->a<b->∀h,(d.getD g Ii).ownBlock=some h->(d.getD a Ii).ownBlock≠some h:=by
 have⟨c,l,m,q,r⟩:=k.n;have o:c.toList.length=b:=(by simp[m]);have s:∀a,a<b->c[a]? =some (c.toList.getD a Ii):=w_;refine⟨c.toList,o,⟨O,.inr ⟨f,b,c,rfl,p,l,x_,m_,O,w_⟩⟩,λa n=>?_,λg a t n h u=>?_⟩
 ·grind
 grind
section
variable {w w':World} {dp gb db yb base n:Nat} {D:Ga} {vF vB vC vX:Value} {kvs:List (Value×Value)} {bvs cvs:List Value} {a:List XS}
def pu{z v u A} b7 W X b8 Z x c6 a1 c0 c4 a3 a2 c2 c1 c5 wc b9 (a5:Hu w z v A u)(B:∀b,w.1.size<=b->z b=99)(d3:u<=10000000)(r:Lo w dp gb db yb base n D vF vB vC vX kvs bvs cvs a)(b3:Oo n D a):C_ 77 #[P_ v,P_ dp,.agg #[I 11,I b7,I W,V a1 a3 a2,I X,I b8,I Z,V c0 c2 c1,V c4 c5 wc,Q_ b9,I x,I c6]] w λe w'=>e=.returned (.bool true)/\Nm w w' z v (u+5) A:=by
 have N:=b3.ok;have q:=Y N;have p:=T_ a5 B;have t:K (∀U,Below _ w U->_):=λU d4=>r.below d4;have⟨k,E⟩:=Y_ (D.g.length);have G:=Y E;have e9:k<=4:=(by rw[<- E];exact N.l);have⟨d0,e5,b4⟩:=r.y.r.shape;rw[length_map,length_map,E] at b4;subst b4;clear r b3 a5 B E N;refine v_ ?_;go_upto_region 18 with fail;generalize b6:w.alloc (O_ #[I 11,I b7,I W,V a1 a3 a2,I X,I b8,I Z,V c0 c2 c1,V c4 c5 wc,Q_ b9,I x,I c6] 93)=c3;have s:E_ w c3:=(by rw[<- b6];exact q_);clear b6;have⟨d2,_,_,_,_⟩:=(t c3 s).cells;have R:=qd _ _ n _ _ (t _ s).x q;go_wp2_with fail
 apply R.m;rintro e d ⟨d8,rfl,b1,L,a7⟩;have M:=s.T (a7.m s.size);rw[G] at L;have⟨Q,b5,b2,a8,a6⟩:=L.row b1 O;have c:=x4_ b5 b2 a8 a6;have o:=T_ M s.size;have⟨_,e3,_,_,e4⟩:=(t d M).cells;rw[G];clear d2 R L s a7 M b1 b5 b2 a8 a6;go_upto_region 21 with fail;go_loopw [21,22] (λg f h=>∃(i b:Nat),g=.bool true/\f=.int .i64 i/\i<=k/\K (h=d.drewN b)) (λ_ f _=>k-(intOf f).toNat)
 exact⟨0,0,s_,rfl,r_,rfl⟩;obtain⟨i,b,rfl,rfl,f0,T⟩:=hrel;have d6:=T.out;subst d6;clear T
 by_cases P:i<k
 ·have f1:=F_ i k;have f:E_ d _:=below_drewN y_ b;have l:=o.1.T (f.m o.1.size);have m:=t _ l;have⟨_,e7,_,_,e8⟩:=m.cells;have y:=c.2.1;have g:=c.2.2.1 i P;have e1:_=some (Q.getD i Ii):=Ag f (Pd y (by rw[Qc,Qd (c.1 ▸ P)];rfl));have⟨d9,e6,c9,d7,F,e2,_,a0,_,_⟩:=m.y.r.at (i:=i) (by rw[length_map,length_map,G];exact P);have d5:d0=some ⟨d9,0,none⟩:=(by injection F);subst d5;have b0:(D.g.map BS.fs|>.map An).getD i []=(Zw D).getD i []:=(by grind [Xr]);have j:=m.y.r.j i w_;rw[a0] at j;rw[b0] at e2 j;have a9:((Zw D).getD i []).length<=1000000:=(by have h:i<D.g.length:=w_;rw[Xr h,Aj];have:=q.f4 _ (q.mem h);omega);have⟨H,d1,a4⟩:=g.shape;rw[a4] at e1 g
  have c7:K (∀e,C_ 140 #[V H ((Zw D).getD i []).length d1,V c9 ((Zw D).getD i []).length d7] ((d.drewN b).drewN e) λc8 w'=>c8=.returned (.bool true)/\∃h,w'=(d.drewN b).drewN h):=λe=>by
   have h:Below (d.drewN b).1.size (d.drewN b) _:=below_drewN y_ e;apply (Sx _ _ _ _ _ _ ((g.below f).below h) (j.below h) a9).m
   grind [drewN_drewN]
  clear g j m a0 F b0 a4 y l a9;generalize ((Zw D).getD i []).length=f2 at *;generalize h:d.drewN b=e0 at *;have c8:=Y h;clear h f;go_upto_region 23 with fail;go_quiet (first|(go_at_call 140;exact(c7 _).m (λ_ _ r=>⟨r.1,r.2⟩)));go_wp2;go_roundw;exact⟨i+1,_,rfl,g_,O,by rw[<- c8];exact drewN_drewN _ _ _⟩;exact z_
 have d9:¬i<(k:Int):=O;have f:E_ d _:=below_drewN y_ b;have l:=o.1.T (f.m o.1.size);have a0:=o.2;have a4:=p.1.u (S:=λ_=>False) (.a l) (λ_ _ e=>e.elim) (Em.refl _ _);have y:(d.drewN b).ownsRow 0 25 1 (L_ d8 k k) Q.length Q:=by rw[c.1];exact(Aa.a (S:=λ_=>False) f).row (Ce c.2.1 r_) (λ_ _=>id)
 have F:=a4.e (Ls:=λh=>(Zw _).getD h []) y (λj g=>p.2 j (aG a0 (B_ c.2.1 j g).1)) (λh m=>by
  have H:=c.2.2.1 h (by rw[<- c.1];exact m)
  exact⟨Ad.below (base:=0) (Ce H r_) f,λj g=>p.2 _ (aG a0 (B_ H _ g).1)⟩) (λh=>by
  rcases Nat.lt_or_ge h D.g.length with m|m
  rw[Xr m,Aj];have:=q.f4 _ (q.mem m);omega
  grind [Zw]) (λi h a9 m j g=>c.2.2.2 i h a9 (by rw[<- c.1];exact m) j g) (p_ c.1) d3 (λj g=>p.2 j (aG l.size g))
 rw[c.1] at F
 have m:K (∀h,Nm (d.drewN b) h z v (u+k+1) A->Nm w h z v (u+5) A):=λh d7=>by obtain⟨d5,d1,a9,b0,c7,c8,H,c9⟩:=d7;exact Nm.a (Em.refl _ _) (.a l) (λ_ _=>rfl) (λj g=>.inr (p.2 _ g)) (λj _ B=>.inr B) ⟨d5,d1,a9.E O,b0,c7,c8,H,c9⟩
 clear a4 y f l p t c o q;generalize d.drewN b=e0 at *;go_wp2_with fail
 apply F.m;rintro e h ⟨rfl,g⟩;have j:=Y (m _ g);clear g F m;go_wp2;go_ret;exact⟨rfl,j⟩
end
def Gv.E{e f d c N a b}(h:Gv e f d c N b)(o:N<=a):Gv e f d c a b:=by obtain⟨p,g,i,j,k,l,m,n⟩:=h;exact⟨p,g,i.E o,j,k,l,m,n⟩
section
variable {w w' wr:World} {dp gb db yb base n:Nat} {D:Ga} {vF vB vC vX:Value} {kvs:List (Value×Value)} {bvs cvs:List Value} {a:List XS}
def rr{k c j l} i B t u E v x d y G M A z L H N wc F (g:Hu w k c l j)(f:∀s,w.1.size<=s->k s=99)(r:j<=10000000)(e:Lo w dp gb db yb base n D vF vB vC vX kvs bvs cvs a)(h:Oo n D a):C_ 77 #[P_ c,P_ dp,.agg #[I i,I B,I t,V y A z,I u,I E,I v,V G L H,V M N wc,Q_ F,I x,I d]] w λb w'=>b=.returned (.bool true)/\Gv w w' k c (j+5) l:=by
 by_cases p:i=8
 subst p;exact(Zcr c _ _ _ _ _ x d _ _ _ _ _ _ _ _ _ _ e h).m (λ_ _ b=>⟨b.1,.a g b.2 f O⟩)
 by_cases q:i=9
 subst q;exact(Zcq c _ _ _ _ _ x d _ _ _ _ _ _ _ _ _ _ e h).m (λ_ _ b=>⟨b.1,.a g b.2 f O⟩)
 by_cases m:i=10
 subst m;exact(uk _ _ _ _ _ x d _ _ _ _ _ _ _ _ _ _ g f r e h).m (λ_ _ b=>⟨b.1,.b b.2 O⟩)
 by_cases o:i=11
 subst o;exact(pu _ _ _ _ _ x d _ _ _ _ _ _ _ _ _ _ g f r e h).m (λ_ _ b=>⟨b.1,.b b.2 O⟩);exact(zl c _ _ _ _ _ _ x d _ _ _ _ _ _ _ _ _ _ e h p q m o).m (λ_ _ b=>⟨b.1,.a g b.2 f O⟩)
def Gv.part{c g d a f b}(h:Gv w w' c g d f)(i:Jl w c a b)(n:13<a)(o:a≠99):b w':=by obtain⟨q,l,j,k,e,_⟩:=h;exact i _ (e.m (λp _ m=>O))
def Zcp{d c b e f} H L r s M t x i u P S y v R Q T wc N (g:Gv w wr d c b f)(B:b<=10000000)(F:Jl w d e (λj=>Lo j dp gb db yb base n D vF vB vC vX kvs bvs cvs a))(z:13<e)(A:e≠99)(G:Oo n D a):C_ 77 #[P_ c,P_ dp,.agg #[I H,I L,I r,V u y v,I s,I M,I t,V P R Q,V S T wc,Q_ N,I x,I i]] wr λh w'=>h=.returned (.bool true)/\Gv w w' d c (b+5) f:=by have E:=g.part F z A;obtain⟨W,U,k,l,m,o,p,q⟩:=g;exact(rr _ _ _ _ _ _ x i _ _ _ _ _ _ _ _ _ _ k q B E G).m (λ_ _ h=>⟨h.1,Gv.T l m o p h.2⟩)
def ZkX{d c g F e}(B:Gv w wr d c g e)(a0:g<=9000000)(x:Jl w d F (λi=>Lo i dp gb db yb base n D vF vB vC vX kvs bvs cvs a))(u:13<F)(v:F≠99)(y:Oo n D a):C_ 42 #[P_ c,P_ dp] wr λA w'=>A=.returned (.bool true)/\Gv w w' d c (g+6000) e:=by
 have G:K (∀(_ N P:_) (i:_) (o:_),Gv w i d c o e->_):=λW N P i o E S=>Zcp W 0 0 0 0 0 N P none none none 0 0 0 0 0 0 ⟨#[]⟩ E S x u v y;have⟨Q,R,U⟩:=(B.part x u v).y.z.view.1;subst U
 have z:K (∀i o,Gv w i d c o e->i.cell? (J dp 1)=some (P_ yb)/\i.cell? (J yb 0)=some (I n)/\i.cell? (J yb 1)=some (V Q D.h.length R)):=λi o E=>by
  have⟨_,r,s,t,_⟩:=(E.part x u v).cells
  grind
 have T:=y.ok.j;have a6:=y.ok.w;have b:K (Gv w _ d c (g+30*(8-8)) e):=B;have⟨p,M⟩:=M_ D.h.length;rw[<- M] at z T;clear x u v y B M;generalize wr=a9 at *;refine v_ ?_;go_upto_region 2 with fail;go_loopw [5] (λf j=>∃h:Nat,8<=h/\h<=13/\f=.int .i64 h/\K (Gv w j d c (g+30*(h-8)) e)) (λf _=>13-(intOf f).toNat)
 grind
 clear b;obtain⟨h,a5,a4,rfl,b⟩:=hrel
 by_cases a3:h<=12
 ·have H:(h:Int)<=12:=O;have m:K (Gv w _ d c (g+_+5*0) e):=b;clear b;generalize wr=Z at *;go_upto_region 5 with fail;go_loopw [6] (λj k=>∃f:Nat,f<=6/\j=.int .i64 ((f:Int)-1)/\K (Gv w k d c (g+30*(h-8)+5*f) e)) (λj _=>6-(intOf j+1).toNat)
  grind
  clear m;obtain⟨f,s,rfl,b⟩:=hrel
  by_cases r:f<=5
  ·have L:(f:Int)-1<=4:=O;have l:=G (h:Nat) ((f:Int)-1) 0 _ _ b O;have j:i64.wrap (f-1+1)=(f+1:Nat)-1:=(by rw[As O O];omega);have t:f-1+1=((f+1:Nat):Int)-1:=O;go_wp2_with fail
   apply l.m;rintro A X ⟨rfl,q⟩;have k:K (Gv w _ d c (_+5*(f+1)) e):=q;clear q l b;go_wp2;go_roundw;exact⟨f+1,O,w_,k⟩;exact z_
  have j:f=6:=O;subst j;have k:K (Gv w wr d c (g+30*(h+1-8)) e):=w_;clear b;go_wp2;go_roundw;exact⟨h+1,O,O,g_,k⟩;exact z_
 have gk:¬(h:Int)<=12:=O;have m:K (Gv w _ d c (g+150+25*0) e):=b.E O;clear b;generalize wr=Z at *;go_upto_region 11 with fail;go_loopw [8] (λj k=>∃f:Nat,f<=n+1/\j=.int .i64 f/\K (Gv w k d c (g+150+25*f) e)) (λj _=>n+1-(intOf j).toNat)
 grind
 clear m;obtain⟨f,a7,rfl,b⟩:=hrel;have⟨r,s,t⟩:=z _ _ b
 by_cases a8:f<=n
 ·have H:f<=(n:Int):=O;have m:K (Gv w _ d c (_+_+5*0) e):=b;clear b;go_upto_region 14 with fail;clear r s t;generalize wr=b0 at *;go_loopw [9] (λk l=>∃j:Nat,j<=p+1/\k=.int .i64 j/\K (Gv w l d c (g+150+25*f+5*j) e)) (λk _=>p+1-(intOf k).toNat)
  grind
  clear m;obtain⟨j,a1,rfl,b⟩:=hrel;have⟨r,s,t⟩:=z _ _ b
  by_cases a2:j<=p
  ·have L:j<=(p:Int):=O;have l:=G 9 (f:Nat) (j:Nat) _ _ b O;go_wp2_with fail
   apply l.m;rintro A X ⟨rfl,q⟩;have k:K (Gv w _ d c (_+5*(j+1)) e):=q;clear q l b r s t;go_wp2;go_roundw;exact⟨j+1,O,g_,k⟩;exact z_
  have L:¬j<=(p:Int):=O;have k:K (Gv w wr d c (g+150+25*(f+1)) e):=b.E O;clear b;go_wp2;go_roundw;exact⟨f+1,O,g_,k⟩;exact z_
 have H:¬f<=(n:Int):=O;have j:K (Gv w _ d c (g+6000) e):=b.E O;clear b;go_wp2;go_ret;exact⟨rfl,j⟩
end
def Znk:(prog.info? 96).map (λa=>(a.zero,a.size,a.bytes))=some (some (.pointer none),1,8):=k_
def Zlu:(prog.info? 208).map (λa=>(a.zero,a.size,a.bytes))=some (some (.pointer none),1,8):=k_
structure Ur(e b:World)(f j m n:Nat)(i:Array Value)(h:Value)(g)(k l)(c)(d):Prop where
 y:e.1.size<=c
 o:b.1[c]? =some (O_ #[k,l] m)
 v:WB b f (i.setIfInBounds j d)
 row:b.ownsRow 0 n 1 d (g.length+1) (g++[P_ c])
 q:∀a,d.ownBlock=some a->h.ownBlock=some a∨e.1.size<=a
 u:Aa (λa=>a=f∨h.ownBlock=some a) e b
def WB.o{d a f}(h:WB d a f){e b l k:Nat}{c m}(j:d.ownsRow e b l c k m)(o:b≠90):c.ownBlock≠some a:=λg=>by
 have⟨n,i⟩:=Ac j g;rw[h] at i
 grind
def ir b a:C_ 127 #[P_ b,.pointer none,.pointer none] a (V_ (.bool true) a):=by refine dl_ ?_;go_enter func127,ntmps127;go_wp2;go_ret;exact⟨rfl,rfl⟩
def Zbb(a:World)(d f:Nat) b c:∀e g,[c][e]? =some g->((a.alloc (O_ b d)).alloc (O_ #[c] f)).cell? (((J (a.1.size+1) 0):Addr).add e)=some g:=by have:=one_new (a.alloc (O_ b d)) #[c] f;rw[show(a.alloc (O_ b d)).1.size=a.1.size+1 by simp] at this;exact this
def Ur.E{a g}{d j k e:Nat}{n l m h i f}(p:WB a d n)(t:a.ownsRow 0 e 1 l f.length f)(u:e≠90)(s:g.ownsRow 0 e 1 m (f.length+1) (f++[P_ a.1.size]))(o:((a.alloc (O_ #[h,i] k)).alloc (O_ #[P_ a.1.size] e)).grownBy g l.ownBlock)(w:∀b,m.ownBlock=some b->l.ownBlock=some b∨a.1.size<=b):WB g d n/\Ur a (g.setCell (J d j) m) d j k e n l f h i a.1.size m:=by
 have x:=p.o t u;have y:=p.lt;have v:Aa (λb=>b=d∨_) a _:=(((Aa.refl _ a).alloc _).alloc _).grown o (λb c _=>.inr c);have q:=((p.alloc _).alloc _).grown o (λc=>x c.s);have A:g.1[a.1.size]? =some (O_ #[h,i] k):=(by have r:((a.alloc (O_ #[h,i] k)).alloc (O_ #[P_ a.1.size] e)).1[_]? =_:=(hc_ s_).T (ha_ a _);refine(o.block _ (Qb r).1 (λc=>?_)).T r;have:=(B_ t _ c.s).2;omega);have r:=q.o s u;refine⟨q,x_,?_,q.set j _,?_,w,v.setCell (λ_=>.inl rfl) _⟩
 ·grind [Below.heap_setCell]
 exact(Aa.setCell (S:=λb=>b=d) (Aa.refl _ _) (λ_=>rfl) _).row s (λb z c=>r w_)
def iu c l p g a f b (e:WB b c g)(d:g[2]? =some a)(i:b.ownsRow 0 96 1 a f.length f)(F:f.length<=10000000):C_ 127 #[P_ c,P_ l,P_ p] b λj k=>j=.returned (.bool true)/\∃h o,Ur b k c 2 137 96 g a f (P_ l) (P_ p) h o:=by
 have⟨w,x,y,z,A⟩:=info_parts Znk;have⟨s,k,_⟩:=y4_ e i (e.o i C) e.lt;have t:b.cell? (J c 2)=some a:=(by rw[e.cell];exact d);have u:=λj=>e.frozen j;have q:=Y d;clear e i d;refine dl_ ?_;go_enter func127,ntmps127;go_wp2_with (at_builtin;apply Dh rfl _ _ 82 rfl 0 96 w _ 1 8 underlying82 x y z A rfl C a _ f rfl (ra_ (ra_ k _) _) _ 1 1 _ rfl rfl (Zbb b 137 96 _ _) (by intro m h;simp only[mem_cons,not_mem_nil,or_false] at h;subst h;rfl) C m_ O r_)
 rintro o B ⟨m,d,v,_,H,G,rfl⟩;have⟨h,n⟩:=Ur.E (j:=2) s k C m d (λD r=>w_);have r:K (Ur b _ c 2 _ 96 g a _ _ _ _ _):=n;have D:B.cell? (J c 2)=some a:=(by rw[h.cell];exact q);have E:=λj=>h.frozen j;clear m d v h n t u;go_wp2;go_ret;exact⟨rfl,_,_,r⟩
structure RP where
 d:Nat
 ib:Nat
 c:Nat
 n:Nat
 e:Nat
 m:Nat
 a:Nat->Bool
 sc:Nat->Int
 ct:Nat->Int
 k:Int
 size:Nat
 b:Nat
 T:ByteArray
 u:Bool
def ptR(a:RP):Value:=P_ a.d
def ptD(a:Nat):Value:=P_ a
structure ZhV(c:World)(b:Nat->Nat)(d)(a:RP):Prop where
 o:c.1[a.d]? =some (O_ #[P_ a.ib,P_ a.c] 210)
 e:b a.d=16
 cf:Up a.m a.a a.sc a.ct a.k a.size a.b
 x:Qy c b d a.ib a.m a.a a.sc a.ct a.k a.size a.b a.T a.u
 y:Nn c b (d+1) a.c a.n a.e a.m a.a a.sc a.ct a.k a.size a.b a.T a.u
def ZkR(q:World)(l:Nat->Nat)(i:Nat):Prop:=∃j h r e c a o m n p k f g b,Jl q l 17 (λd=>Lo d i j h r e c a o m n p k f g b)/\Oo c a b
structure Dx(m:Nat->Prop)(c)(b)(o)(f)(l k)(h i)(e:List RP)(g:List Nat):Prop where
 p:Hu c b o f l
 D:∀a,c.1.size<=a->b a=99
 z:f[1]? =some h
 B:c.ownsRow 0 208 1 h (e.map ptR).length (e.map ptR)
 E:∀a,h.ownBlock=some a->b a=14
 q:f[2]? =some i
 u:c.ownsRow 0 96 1 i (g.map ptD).length (g.map ptD)
 w:∀a,i.ownBlock=some a->b a=15
 v:∀j d,e[j]? =some d->ZhV c b (100+2*j) d
 r:∀d∈e,d.T.size<=k
 x:∀n∈g,ZkR c b n
 y:∀a,m a->a<c.1.size/\b a=98
def De(a:Nat->Prop)(c d:World):Prop:=Aa (λb=>¬a b) c d
def De.a{c a b}(d:E_ a b):De c a b:=Aa.a d
def De.T{a b c d}(e:De a b c)(f:De a c d):De a b d:=Aa.T e f
section
variable {w w':World} {o a:Nat->Nat} {g N h L L' t:Nat} {c f:Array Value} {v1 v2 i v2':Value} {d:List RP} {e:List Nat} {r:RP} {S b:Nat->Prop}
def ZhV.u(c:ZhV w o t r)(h:Aa S w w')(g:∀b,b<w.1.size->S b->o b≠16/\o b≠t/\o b≠t+1)(f:Em w o a)(j:100<=t):ZhV w' a t r:=by have i:=(Qb c.o).1;exact⟨h.g c.o (λd=>(g _ i d).1 c.e),f.at i c.e C,c.cf,c.x.u h (λb e d=>(g b e d).2.1) f O,c.y.u h (λb e d=>(g b e d).2.2) f O⟩
def ZkR.u{c}(k:ZkR w o c)(s:Aa S w w')(p:∀b,b<w.1.size->S b->o b≠17)(n:Em w o a):ZkR w' a c:=by obtain⟨j,i,y,f,r,d,v,t,u,x,q,g,h,e,l,m⟩:=k;exact⟨j,i,y,f,r,d,v,t,u,x,q,g,h,e,l.step s p n,m⟩
def Ji{i h d:Nat}{e j}(f:w.ownsRow 0 i 1 e h j)(g:∀b,e.ownBlock=some b->o b=d)(p:Aa S w w')(n:∀b,b<w.1.size->S b->o b≠d)(m:Em w o a)(l:d≠99):w'.ownsRow 0 i 1 e h j/\∀b,e.ownBlock=some b->a b=d:=
 ⟨p.row f (λb c k=>n b (B_ f b c).2 k (g b c)),λb c=>m.at (B_ f b c).2 (g b c) l⟩
def Dx.k(h:Dx b w o g c N L v1 v2 d e)(j:Em w o a)(k:w.1.size<=w'.1.size):∀f,b f->f<w'.1.size/\a f=98:=λf i=>⟨Qh (h.y f i).1 k,j.at (h.y f i).1 (h.y f i).2 C⟩
def Dx.A(h:Dx b w o g c N L v1 v2 d e)(l:Aa S w w')(j:∀a,a<w.1.size->S a->o a≠98):De b w w':=l.m (λa i f k=>j a i f (h.y a k).2)
def Dx.l(i:Dx b w o g c N L v1 v2 d e)(v:Gv w w' o g h c):(∃a f,Dx b w' a g f h L v1 v2 d e)/\De b w w':=by obtain⟨a,f,s,l,k,n,F,t⟩:=v;have q:∀{m},13<m->m≠99->∀j,j<w.1.size->(o j<=13∨o j=99)->o j≠m:=O;have⟨A,B⟩:=Ji i.B i.E k (q C C) l C;have⟨D,E⟩:=Ji i.u i.w k (q C C) l C;refine⟨⟨a,f,s,t,(n 1 C).T i.z,A,B,(n 2 C).T i.q,D,E,λz r y=>(i.v z r y).u k (λj _ p=>O) l O,i.r,λu x=>(i.x u x).u k (λj _ p=>O) l,i.k l k.size⟩,i.A k (λj _ p=>O)⟩
def Dx.part{l r n}(f:Dx b w o g c N L v1 v2 d e)(u:d[l]? =some r)(j:Aa (λh=>o h=100+2*l∨o h=100+2*l+1) w w')(k:Em w o a)(y:∀h,w'.1.size<=h->a h=99)(G:ZhV w' a (100+2*l) n)(i:n.d=r.d)(s:L<=L')(E:n.T.size<=L'):Dx b w' a g c N L' v1 v2 (d.set l n) e/\De b w w':=by
 have F:=(List.getElem?_eq_some_iff.1 u).1
 have v:(d.set l n).map ptR=d.map ptR:=by
  apply ext_getElem?
  grind [ptR]
 have⟨z,A⟩:=Ji f.B f.E j (λh _ i=>O) k C;have⟨B,D⟩:=Ji f.u f.w j (λh _ i=>O) k C;refine⟨⟨f.p.u j (λh _ i=>O) k,y,f.z,v ▸ z,A,f.q,B,D,λx p m=>?_,λp m=>?_,λq t=>(f.x q t).u j (λh _ i=>O) k,f.k k j.size⟩,f.A j (λh _ i=>O)⟩
 ·rw[getElem?_set] at m;split at m
  ·grind
  exact(f.v x p m).u j (λh _ i=>O) k O
 rcases mem_or_eq_of_mem_set m with i|i
 exact aG (f.r p i) s
 grind
end
end Go.Proofs.YtfcgnpchbcmdeaaGreat
