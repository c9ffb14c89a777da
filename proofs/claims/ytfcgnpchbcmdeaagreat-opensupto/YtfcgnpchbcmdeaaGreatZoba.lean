import Derived.Test.YtfcgnpchbcmdeaaGreatZoay
import Derived.Test.YtfcgnpchbcmdeaaGreatZoap
namespace Go.Proofs.YtfcgnpchbcmdeaaGreat
set_option linter.all false
set_option maxRecDepth 100000
set_option maxHeartbeats 4000000
open Go.RowKit List Nat World Go.Proofs.Tryz Value IntKind Lib Region
def Am.shape{g d b a}(f:Am g d b a):∃c e,b=.slice c a.length e:=by
 rcases f.2 with⟨rfl,k⟩|⟨j,h,i,rfl,_⟩
 ·grind
 grind
structure Ho where
 n:Nat
 L:List Cm
 v:Value
def Ho.o(a:Ho):Nat×List Cm:=(a.n,a.L)
def Tk(a:Ho):List Value:=[I a.n,a.v]
structure fz(d)(b)(e)(a:List Ho):Prop where
 row:Wl d b 399 2 e (a.map Tk)
 j:∀c∈a,Am d b c.v c.L
def fz.nil b a:fz b a (N_) []:=⟨Wl.nil _ _ _ _,s_⟩
def fz.below{e f base d a}(b:fz e base d a)(c:E_ e f):fz f base d a:=⟨b.row.below c,λh g=>(b.j h g).below c⟩
def fz.a{d b c a}(e:fz d b c a):d.ownsRow b 399 2 c a.length (a.map Tk).flatten:=by
 have:=e.row.row
 grind
def fz.shape{g e d a}(f:fz g e d a):∃b c,d=.slice b a.length c:=by
 have⟨b,c,h⟩:=f.row.shape
 grind
def fz.upto{g d c i e b a}(f:fz g d (V c i e) a)(k:b<=a.length):fz g d (V c b e) (a.take b):=
 ⟨map_take ▸ (f.row.upto w_),λj h=>f.j j (aL h)⟩
def Uk:Ho:=⟨0,[],N_⟩
def fz.at{e g f a}(h:fz e g f a){i}(l:i<a.length):∃b c,f=L_ b a.length c/\a.length<=c/\e.cell? (J b (i*2))=some (I (a.getD i Uk).n)/\e.cell? (J b (i*2+1))=some (a.getD i Uk).v/\a.getD i Uk∈a:=by have⟨b,c,k,m,_,_,_,d⟩:=h.row.at (i:=i) w_;have j:(a.map Tk).getD i []=Tk (a.getD i Uk):=w_;rw[j] at d;exact⟨b,c,w_,w_,d 0 O _ rfl,d 1 O _ rfl,w_⟩
def fz.E{c f a h v' b p}(d:fz c a h b)(l:Am c a p.v p.L)(i:c.grownBy f h.ownBlock)(m:f.ownsRow a 399 2 v' (b.length+1) ((b.map Tk).flatten++Tk p)):fz f a v' (b++[p]):=by
 refine⟨?_,λe j=>?_⟩;rw[map_append];exact d.row.E w_ rfl
 have k:Am c a e.v e.L:=by
  rcases mem_append.1 j with g|g
  exact d.j e g
  grind
 exact Am.grown k d.row.row C i
def LvB(d:World)(b a:Nat)(c:Value):Prop:=d.1[b]? =some (O_ #[I a,c] 399)
def LvB.cells{b a d e}(c:LvB b a d e):b.cell? (J a 0)=some (I d)/\b.cell? (J a 1)=some e/\b.frozen? (J a 0)=false/\b.frozen? (J a 1)=false/\a<b.1.size:=
 ⟨G_ 0 _ 399 (0,0) c,G_ 1 _ 399 (0,0) c,R_ 0 _ 399 c,R_ 1 _ 399 c,(Qb c).1⟩
def LvB.fill{c a d M g b}(e:LvB c a d g):LvB ((c.setCell (J a 0) (I (M:Nat))).setCell (J a 1) b) a M b:=by have f:=hs_ c _ 0 _ _ (I (M:Nat)) e;exact ht_ 1 _ _ b f
def LvB.a{c a} d e:Aa (λb=>b=a) c ((c.setCell (J a 0) d).setCell (J a 1) e):=((Aa.refl (λb=>b=a) _).setCell (p:=(J a 0)) (λ_=>rfl) _).setCell (p:=(J a 1)) (λ_=>rfl) _
def LvB.q{a h c f i g n b}(k:LvB a f i n)(d:Am a c g b)(m:Aa (λe=>e=f) a h):Am h c g b:=m.row d (λe l j=>Ah d l k C j)
def fz.box{c i e a j b p d}(f:fz c e b d)(k:LvB c a j p)(h:Aa (λn=>n=a) c i)(m:∀g,b.ownBlock=some g->g≠a):fz i e b d:=⟨f.row.p h m,λo l=>k.q (f.j o l) h⟩
def Km:∀(b a:List (List Cm)),Av (b++a)=Av b+Av a
 |[],a=>by simp[Av]
 |c::b,a=>by simp only[cons_append,Av,Km b a];omega
structure Wh(c)(a:List Ho):Prop where
 e:a.Pairwise λb d=>d.n<b.n
 ok:Gk (a.map Ho.L)
 k:∀b∈a,b.n<=c
def Wh.nil a:Wh a []:=⟨Pairwise.nil,Gk.nil,s_⟩
def Wh.take{d c}(a:Wh d c) g:Wh d (c.take g):=
 ⟨a.e.sublist (take_sublist _ _),⟨λb e=>a.ok.j b w_,λb e=>a.ok.len b w_⟩,λh f=>a.k h (aL f)⟩
def Wh.E{i f e}{p:Ho}(d:Wh i e)(o:Be p.L)(q:p.L.length<=32)(r:∀h∈e,p.n<h.n)(n:i<=f)(s:p.n<=f):Wh f (e++[p]):=by
 refine⟨pairwise_append.2 ⟨d.e,pairwise_singleton _ _,λk l b m=>?_⟩,⟨λg c=>?_,λg c=>?_⟩,λh j=>?_⟩
 ·grind
 ·rw[map_append] at c
  rcases mem_append.1 c with a|a
  exact d.ok.j g a
  grind
 ·rw[map_append] at c
  rcases mem_append.1 c with a|a
  exact d.ok.len g a
  grind
 rcases mem_append.1 j with a|a
 have:=d.k h a;omega
 grind
def Wh.at{e b}(c:Wh e b){a}(d:a∈b):Be a.L/\a.L.length<=32:=⟨c.ok.j _ (mem_map.2 ⟨a,d,rfl⟩),c.ok.len _ (mem_map.2 ⟨a,d,rfl⟩)⟩
def bz{a:List Ho}{b}(c:b<a.length):a.take (b+1)=a.take b++[a.getD b Uk]:=by rw[Qi c];grind
structure SkI(h:Nat)(f)(e)(i)(a)(g b)(c):Prop where
 ok:Wh f a
 ge:∀d∈a,b<=d.n
 j:Be c
 len:c.length<=32
 o:Av (a.map Ho.L)+Ae c=i
 le:g<=a.length
 l:(g=a.length/\e=skT h b c (a.map Ho.o).reverse)∨((∀d∈a,b<d.n)/\e=(b,c)::(a.map Ho.o).reverse)
 k:b<=f+1
def SkI.c{i f e j b c d h}(a:SkI i f e j b (c+1) d h)(p:(b.getD c Uk).n≠d):SkI i f e j b c d h:=by
 refine⟨a.ok,a.ge,a.j,a.len,a.o,p_ a.le,.inr ?_,a.k⟩
 rcases a.l with⟨k,g⟩|g
 ·have l:b.getD c Uk∈b:=w_;have o:=a.ge _ l;have m:b=b.take c++[b.getD c Uk]:=(by rw[<- bz O,k,take_length]);refine⟨λr q=>?_,?_⟩
  ·have n:=a.ok.e
   grind
  grind [skT,Ho.o]
 exact g
def SkI.b{d j i h b a f e}(c:SkI d j i h b (a+1) f e)(r:(b.getD a Uk).n=f)(u:2<=d)(v:d<=32)(w:h<=1000000000000):SkI d j i h (b.take a) a (f+1) (Eo (Bf (b.getD a Uk).L e) d)/\Be (Bf (b.getD a Uk).L e):=by
 have s:=c.le;have k:b.getD a Uk∈b:=w_;have⟨n,x⟩:=c.ok.at k
 rcases c.l with⟨m,p⟩|p
 ·have o:b=b.take a++[b.getD a Uk]:=(by rw[<- bz O,m,take_length]);have l:=c.o;rw[o,map_append,Km] at l;simp only[map_cons,map_nil,Av] at l;have A:=Fv (Ls:=(b.take a).map _) (λq g=>(c.ok.take a).ok.j q g);have g:=Hb n c.j O;have y:=Ja (Bf (b.getD a Uk).L e) (size:=(d:Int)) O;refine⟨⟨c.ok.take a,λz t=>?_,g.sub (Hz g _),O,?_,w_,.inl ⟨w_,?_⟩,?_⟩,g⟩
  ·have q:=c.ok.e
   grind
  rw[Gg,Fa];omega
  ·grind [skT,Ho.o]
  have:=c.ok.k _ k;omega
 grind
def SkI.a{i g d j a b e}(h:SkI i g d j a 0 b e):(∀c∈a,b<c.n)/\d=(b,e)::(a.map Ho.o).reverse:=by
 rcases h.l with⟨f,c⟩|c
 have:a=[]:=eq_nil_of_length_eq_zero f.s;subst this;exact⟨s_,c⟩;exact c
def bJ(c a b:Int):Int->List Cm->List Int
 |_,[]=>[]
 |f,d::e=>if f<=min (By a c d.g) b then d.v::bJ c a b (min (By a c d.g) b+1) e else bJ c a b f e
theorem Wm c a b f d e:bJ c a b f (d::e)=if f<=min (By a c d.g) b then d.v::bJ c a b (min (By a c d.g) b+1) e else bJ c a b f e:=rfl
theorem gh g e b:∀d a,b<a->bJ g e b a d=[]
 |[],a,c=>rfl
 |h::f,a,c=>by unfold bJ;rw[aC O];exact gh _ _ b f a c
def Zh1{tot bins j}:∀b a,(∀c∈b,By bins tot c.g<=j)->bJ tot bins j a b=Fo tot bins a b
 |[],a,d=>rfl
 | c::e,a,d=>by
  have f:=d c s_;have g:=Zh1 (tot:=tot) (bins:=bins) (j:=j) e
  grind [Wm,Fo]
def ul c b d:∀e f,f<=d+1->e.Pairwise (λa g=>a.v<g.v)->bJ c b (d+1) f e=if e.findIdx (λa=>decide (d+1<=By b c a.g))<e.length/\(bJ c b d f e).getLast?≠some (e.getD (e.findIdx (λa=>decide (d+1<=By b c a.g))) e0).v then bJ c b d f e++[(e.getD (e.findIdx (λa=>decide (d+1<=By b c a.g))) e0).v] else bJ c b d f e
 |[],f,j,h=>by simp[bJ]
 | a ::g,f,j,h=>by
  have i:=pairwise_cons.1 h
  by_cases m:d+1<=By b c a.g
  ·grind [Wm,gh]
  have k:(a::g).findIdx (λa=>decide (d+1<=By b c a.g))=g.findIdx (λa=>decide (d+1<=By b c a.g))+1:=(by simp[findIdx_cons,m]);rw[k];have l:(a::g).getD (g.findIdx (λa=>decide (d+1<=By b c a.g))+1) e0=g.getD _ e0:=rfl;rw[l];have p:min (By b c a.g) (d+1)=By b c a.g:=O;have q:min (By b c a.g) d=By b c a.g:=O
  by_cases o:f<=By b c a.g
  ·have n:=ul c b d g (By b c a.g+1) O i.2
   grind [Wm]
  have n:=ul c b d g f j i.2
  grind [Wm]
def Zg2 c a h d f e k j i b (r:a<=maxLen)(o:El b c a k j i)(q:Iz a d f e k j i=false):C_ 31 #[.agg #[V c a h,I d,I f,I e]] b (U_ (.tuple #[.pointer none,.int .i64 1]) b):=by
 have g:K (Below _ b (b.alloc (O_ #[V c a h,I d,I f,I e] 37))):=q_;have⟨n,m⟩:=Z_ (o.below g) q;refine dl_ ?_;go_enter func31,ntmps31;go_wp2_with fail
 generalize b.alloc (O_ #[V c a h,I d,I f,I e] 37)=t at *;apply (Xj c a _ _ _ _ _ _ _ _ r n).m;rintro s u ⟨rfl,p⟩;rw[m];have l:=Y (g.T (p.m g.size));go_wp2;go_ret2
 exact⟨rfl,l⟩
def Ys:List Int->Nat
 |[]=>0
 |b::a=>b.toNat+256*Ys a
def Zr:∀b:List Int,(∀a∈b,0<=a/\a<256)->Ys b<256^b.length
 |[],_=>by simp[Ys]
 |f::e,c=>by have:=Zr e (λa d=>c a (by simp[d]));have:=c f s_;simp only[Ys,length_cons,Nat.pow_succ];omega
def Po c:∀a∈Ab c,0<=a/\a<256:=λa b=>by simp only[Ab,mem_map] at b;obtain⟨d,_,rfl⟩:=b;have:=d.toNat_lt;omega
def ru{a:ByteArray}{b}(c:b<a.size):(Ab a).drop b=((a[b]'c).toNat:Int)::(Ab a).drop (b+1):=by
 have d:b<(Ab a).length:=by simpa [Ab] using c
 rw[aN d];simp[Ab];rfl
def Tw a i (r:a.size<=7):C_ 181 #[Q_ a] i (V_ (.int .i64 (Ys (Ab a):Nat)) i):=by
 refine dl_ ?_;go_enter func181,ntmps181;go_wp2_with fail
 go_loopw [3,4] (λe b f=>∃(c d:Nat),e=I c/\b=I ((d:Int)-1)/\d<=a.size/\K (c=Ys ((Ab a).drop d))/\K (i=f)) (λ_ b _=>(intOf b+1).toNat)
 case atStart=>exact⟨0,a.size,rfl,g_,x_,by show _=_;rw[drop_of_length_le (by simp[Ab])];rfl,rfl⟩
 obtain⟨c,d,rfl,rfl,q,e,k⟩:=hrel;have m:=k.out;subst m;clear k
 cases d with
 | zero=>
  have b:¬((0:Nat):Int)-1≥0:=O;go_wp2;go_ret;exact⟨by rw[e];rfl,rfl⟩
 | succ b=>
  have h:b<a.size:=O;have s:c<256^6:=(by have:=Zr ((Ab a).drop (b+1)) (λf g=>Po a f (mem_of_mem_drop g));rw[e];refine Qh this (Nat.pow_le_pow_right C ?_);rw[length_drop];simp[Ab];omega);have j:K (Ys ((Ab a).drop b)=(a[b]'h).toNat+256*c):=(by show _=_;rw[ru h,e];simp[Ys]);have⟨f,g⟩:=Y_ ((a[b]'h).toNat);rw[g] at j;have p:f<256:=(by rw[<- g];exact UInt8.toNat_lt _);have l:((b+1:Nat):Int)-1=b:=O;rw[l];have n:(b:Int)≥0:=O;have o:=F_ b _;clear e;go_upto_region 5 with fail;refine J_ ?_;exact⟨f+256*c,b,g_,g_,O,j.s,True.intro⟩
def Ei(a:ByteArray):Bool:=(Ab a).all Fz&&decide (a.size<=8)
def ZgS(b:ByteArray) h (u:b.size<=1000000):C_ 243 #[Q_ b] h (V_ (.bool (Ei b)) h):=by
 refine dl_ ?_;go_enter func243,ntmps243;go_wp2_with fail
 go_loopw [3] (λa d=>∃c:Nat,a=I c/\c<=b.size/\K (Ei b=(((Ab b).drop c).all Fz&&decide (b.size<=8)))/\K (h=d)) (m1_ b.size)
 case atStart=>exact⟨0,rfl,r_,rfl,rfl⟩
 obtain⟨c,rfl,t,g,n⟩:=hrel;have p:=n.out;subst p;clear n
 by_cases l:c<b.size
 ·have q:=F_ c _;have j:=ru l;obtain⟨a,k⟩:=Y_ ((b[c]'l).toNat);have f:K (Ei b=(Fz a&&(((Ab b).drop (c+1)).all Fz&&decide (b.size<=8)))):=(by show _=_;rw[g,j,k,all_cons,Bool.and_assoc]);clear j g;go_upto_region 5 with fail;clear k
  cases e:Fz a
  ·obtain⟨m,y,z,A,B⟩:¬(97<=a/\a<=122)/\¬a=32/\¬a=44/\¬a=10/\¬a=34:=(by simp[Fz,Ft] at e;omega);have d:K (Ei b=false):=(by rw[f,e];rfl);have s:((a:Int) !=32)=true:=t_;have v:((a:Int) !=44)=true:=t_;have w:((a:Int) !=10)=true:=t_;have x:((a:Int) !=34)=true:=t_;clear e f
   by_cases r:a<97
   ·have i:(a:Int)<97:=O;go_wp2;go_ret;exact⟨by rw[d];rfl,rfl⟩
   have i:¬(a:Int)<97:=O;have o:(a:Int)>122:=O;go_wp2;go_ret;exact⟨by rw[d];rfl,rfl⟩
  have d:K (Ei b=(((Ab b).drop (c+1)).all Fz&&decide (b.size<=8))):=(by rw[f,e];rfl);have m:(97<=a/\a<=122)∨a=32∨a=44∨a=10∨a=34:=(by simp[Fz,Ft] at e;omega);clear e f
  rcases m with⟨r,s⟩|rfl|rfl|rfl|rfl
  ·have i:¬(a:Int)<97:=O;have o:¬(a:Int)>122:=O;refine J_ ?_;exact⟨c+1,g_,O,d,True.intro⟩
  all_goals
   refine J_ ?_;exact⟨c+1,g_,O,d,True.intro⟩
 have a:¬c<(b.size:Int):=O;have d:K (Ei b=decide ((b.size:Int)<=8)):=(by show _=_;rw[g,drop_of_length_le (by simp[Ab];omega)];simp;omega);clear g;go_wp2;go_ret;exact⟨by rw[d];rfl,rfl⟩
end Go.Proofs.YtfcgnpchbcmdeaaGreat
