import Derived.Test.YtfcgnpchbcmdeaaGreatZoak
import Derived.Test.YtfcgnpchbcmdeaaGreatZoah
namespace Go.Proofs.YtfcgnpchbcmdeaaGreat
set_option linter.all false
set_option maxRecDepth 100000
set_option maxHeartbeats 4000000
open Go.RowKit List Nat World Go.Proofs.Tryz Value IntKind Lib Region
def Uz(b:Nat) a:C_ 212 #[.func (.func b) #[] #[]] a λc d=>c=.returned (.func (.func 266) #[] #[.pointer (some ⟨a.1.size,0,none⟩)])/\d=a.alloc (O_ #[.func (.func b) #[] #[]] 261):=by refine er_ ?_;exact⟨rfl,rfl⟩
def Iv(d:World)(K:Nat->Prop)(g h i:Value)(j:Bool)(m k f l:Int):Prop:=
 (j=true/\∃a b c:Nat,g=.func (.func 209) #[] #[]/\h=.func (.func 210) #[] #[P_ a,P_ b]/\i=.func (.func 266) #[] #[P_ c]/\K a/\K b/\K c/\d.1[a]? =some (O_ #[I k] 3)/\d.1[b]? =some (O_ #[I f] 3)/\d.1[c]? =some (O_ #[.func (.func 213) #[] #[]] 261))∨
 (j=false/\∃e a b c:Nat,g=.func (.func 214) #[] #[P_ e]/\h=.func (.func 216) #[] #[P_ a,P_ b]/\i=.func (.func 266) #[] #[P_ c]/\K e/\K a/\K b/\K c/\d.1[e]? =some (O_ #[I m] 3)/\d.1[a]? =some (O_ #[I f] 3)/\d.1[b]? =some (O_ #[I l] 3)/\d.1[c]? =some (O_ #[.func (.func 218) #[] #[]] 261))
def Hx(a:World) b c (d:a.1.size=c):(a.alloc b).1[c]? =some b:=by subst d;exact ha_ a b
def Zof(b:World)(c d e:Obj):∃a,a=((b.alloc c).alloc d).alloc e/\a.1[b.1.size]? =some c/\a.1[b.1.size+1]? =some d/\a.1[b.1.size+1+1]? =some e/\E_ b a/\a.1.size=b.1.size+1+1+1:=
 ⟨_,rfl,(hc_ u_).T ((hc_ s_).T (Hx _ _ _ rfl)),(hc_ s_).T (Hx _ _ _ s_),Hx _ _ _ s_,(q_.alloc s_ _).alloc u_ _,s_⟩
def ZoG{k c:World}{a s t u v}(o:H_ c a #[t,u,v] s)(j:k.1.size<=a)(p:E_ k c)(e:Obj)(f g h:Value):∃d,d=(((c.alloc e).setCell (J a 0) f).setCell (J a 1) g).setCell (J a 2) h/\(D_ d a 0 f/\D_ d a 1 g/\D_ d a 2 h)/\K (E_ k d)/\d.1[c.1.size]? =some e/\∀b l,b≠a->c.1[b]? =some l->d.1[b]? =some l:=by
 have q:=(Qb o).1;have r:=ht_ 2 _ _ h (ht_ 1 _ _ g (ht_ 0 _ _ f ((hb_ c e a q).T o)));have m:∀b,b≠a->((((c.alloc e).setCell (J a 0) f).setCell (J a 1) g).setCell (J a 2) h).1[b]? =(c.alloc e).1[b]?:=λb i=>(Below.heap_setCell _ _ _ _ i).T ((Below.heap_setCell _ _ _ _ i).T (Below.heap_setCell _ _ _ _ i));exact⟨_,rfl,c3_ r,(((p.alloc p.size e).setCell j f).setCell j g).setCell j h,(m _ O).T hn_,λb l i n=>((m b i).T (hc_ (Qb n).1)).T n⟩
def Za1 c b a:C_ 160 #[I c,I b] a λk g=>∃o p q,k=.returned (.agg #[o,p,q])/\(∀f i,Iv g (λd=>a.1.size<=d) o p q true f c b i)/\E_ a g:=by
 refine v_ ?_;go_upto_region 1 with fail;obtain⟨h,l,r,s,d,n,x⟩:=Zof a (O_ #[I c] 3) (O_ #[I b] 3) (O_ #[.nilFunc,.nilFunc,.nilFunc] 263);rw[<- l];obtain⟨w,m,j,u,t,e⟩:=ZoG d O n (O_ #[.func (.func 213) #[] #[]] 261) (.func (.func 209) #[] #[]) (.func (.func 210) #[] #[P_ a.1.size,P_ (a.1.size+1)]) (.func (.func 266) #[] #[P_ h.1.size]);have v:K (∀f i,Iv w _ _ _ _ true f c b i):=λ_ _=>.inl ⟨rfl,a.1.size,a.1.size+1,h.1.size,rfl,rfl,rfl,x_,O,O,e _ _ O r,e _ _ O s,t⟩;have i:=T_ m j;have f:(h.alloc (O_ #[.func (.func 213) #[] #[]] 261)).1[_]? =_:=(hc_ O).T d;obtain⟨E,F,G⟩:=c3_ f;have H:=λy=>R_ y _ _ f;obtain⟨D,_⟩:=c3_ d;clear l r s d n x m j t e f
 go_wp2_with (go_at_call 212;apply (Uz _ _).m;rintro k g ⟨rfl,rfl⟩)
 rw[<- i.1];obtain⟨z,A,B⟩:=i.2;exact bodyPost_ret (v:=.agg _) (by simp[results,results160,go_sem,z,A,B]) rfl ⟨_,_,_,rfl,v,u⟩
def Ca:Nat->Int
 |0=>1
 |a+1=>Ca a*10
def oj:∀a,a<=3->1<=Ca a/\Ca a<=1000
 |0,_=>by simp[Ca]
 |1,_=>by simp[Ca]
 |2,_=>by simp[Ca]
 |3,_=>by simp[Ca]
 |a+4,b=>O
def qn(d:Nat) l p b (X:d<=3):C_ 161 #[I d,I l,I p] b λe v=>∃D E F,e=.returned (.agg #[D,E,F])/\(∀s,Iv v (λa=>b.1.size<=a) D E F false (Ca d) s l p)/\E_ b v:=by
 refine v_ ?_;go_wp2_with fail
 obtain⟨k,y,H,L,c,i,n⟩:=Zof b (O_ #[I l] 3) (O_ #[I p] 3) (O_ #[.nilFunc,.nilFunc,.nilFunc] 263);obtain⟨G,z,h,r⟩:=na_ k #[I 1] 3;rw[n] at r;have g:=x4_ ((h.block _ O).T H) ((h.block _ O).T L) ((h.block _ O).T c) (bt_ i h);rw[<- y,<- z];clear y z H L c i n h;go_loopw [9] (λf j=>∃a:Nat,a<=d/\f=I a/\K (j.1[b.1.size+1+1+1]? =some (O_ #[I (Ca a)] 3))/\K (G.grownBy j (some (b.1.size+1+1+1)))) (λf _=>d-(intOf f).toNat)
 exact⟨0,r_,rfl,r,Az _ _⟩;clear r;obtain⟨a,U,rfl,f,q⟩:=hrel;have a5:=n_ 0 f;have a6:=λt=>R_ t _ 3 f
 by_cases W:a<d
 ·have⟨u,w⟩:=oj a O;have o:K (Ca (a+1)=_*_):=rfl;generalize Ca a=j at *;have s:_=j*10:=As O O;have m:K ((wr.setCell _ _).1[_+1+1]? =some (O_ #[I (j*10)] 3 _)):=ht_ 0 _ 3 _ f;refine J_ ?_;exact⟨a+1,O,g_,o ▸ m,Bd q _ _⟩
 obtain rfl:a=d:=O;have n:=g.2.2.2.size;have Z:=(Qb f).1;have o:∀j u,j<b.1.size+1+1+1->G.1[j]? =some u->wr.1[j]? =some u:=λj u B e=>(q.block _ (Qb e).1 (λe=>w_)).T e;have c:=o _ _ O g.2.2.1;have i:=g.2.2.2.grown q O (λj B=>by simp at B;omega);generalize wr=k at *;obtain⟨Q,A,x,N,M,m⟩:=ZoG c O i (O_ #[.func (.func 218) #[] #[]] 261) (.func (.func 214) #[] #[P_ (b.1.size+1+1+1)]) (.func (.func 216) #[] #[P_ b.1.size,P_ (b.1.size+1)]) (.func (.func 266) #[] #[P_ k.1.size])
 have P:K (∀s,Iv Q _ _ _ _ false (Ca a) s l p):=λ_=>.inr ⟨rfl,b.1.size+1+1+1,b.1.size,b.1.size+1,k.1.size,rfl,rfl,rfl,O,x_,O,O,m _ _ O f,m _ _ O (o _ _ O g.1),m _ _ O (o _ _ O g.2.1),M⟩;have w:=T_ A x;have s:(k.alloc (O_ #[.func (.func 218) #[] #[]] 261)).1[_]? =_:=(hc_ O).T c;obtain⟨a1,a2,a3⟩:=c3_ s;have a4:=λt=>R_ t _ _ s;obtain⟨a0,_⟩:=c3_ c;clear o c i n A x M m s;go_wp2_with (go_at_call 212;apply (Uz _ _).m;rintro e v ⟨rfl,rfl⟩)
 rw[<- w.1];obtain⟨R,S,T⟩:=w.2;exact bodyPost_ret (v:=.agg _) (by simp[results,results161,go_sem,R,S,T]) rfl ⟨_,_,_,rfl,P,N⟩
def Iv.map{K s A B x y z D w u t v}(E:Iv A K x y z D w u t v)(F:∀e g f,K e->A.1[e]? =some (O_ g f)->f=3∨f=261->s e/\B.1[e]? =some (O_ g f)):Iv B s x y z D w u t v:=by
 have d {e g f}:=F e g f
 rcases E with⟨i,m,n,o,j,k,l,p,q,r,a,b,c⟩|⟨i,G,m,n,o,j,k,l,H,p,q,r,h,a,b,c⟩
 have a:=d p a (.inl rfl);have b:=d q b (.inl rfl);have c:=d r c (.inr rfl);exact .inl ⟨i,m,n,o,j,k,l,a.1,b.1,c.1,a.2,b.2,c.2⟩;have h:=d H h (.inl rfl);have a:=d p a (.inl rfl);have b:=d q b (.inl rfl);have c:=d r c (.inr rfl);exact .inr ⟨i,G,m,n,o,j,k,l,h.1,a.1,b.1,c.1,h.2,a.2,b.2,c.2⟩
def Iv.a{n K a b c o m h d l}(p:Iv n K a b c o m h d l):∃i e j f k g,a=.func i #[] e/\b=.func j #[] f/\c=.func k #[] g:=by grind [Iv]
structure Gh(f)(g j l k:Nat)(p:Nat->Bool)(n i:Nat->Int)(h o):Prop where
 q:∃b:Array Value,f.1[j]? =some (O_ b 263)/\b.size=l*3/\(∀a,a<k->∃c d e,b[a*3]? =some c/\b[a*3+1]? =some d/\b[a*3+2]? =some e/\Iv f (λm=>g<=m) c d e (p a) (Ca (n a).toNat) (i a) h o)
section
variable {w w':World} {base a fb n k:Nat} {wd:Nat->Bool} {sc ct:Nat->Int} {bins size:Int}
def Gh.map(b:Gh w base fb n k wd sc ct bins size)(d:∀(k:Nat) e,w.1[k]? =some e->w'.1[k]? =some e)(o:a<=base):Gh w' a fb n k wd sc ct bins size:=by obtain⟨c,j,l,m⟩:=b;refine⟨c,d _ _ j,l,λq p=>?_⟩;have⟨s,t,u,f,g,h,i⟩:=m q p;exact⟨s,t,u,f,g,h,i.map λk c v r b _=>⟨aG o r,d _ _ b⟩⟩
def Gh.below(c:Gh w base fb n k wd sc ct bins size)(b:E_ w w'):=c.map (λ_ _ a=>(b.block _ (Qb a).1).T a) x_
def Gh.cells(l:Gh w base fb n k wd sc ct bins size)(p:k<n):(∃d e f,w.cell? (J fb (k*3))=some d/\w.cell? (J fb (k*3+1))=some e/\w.cell? (J fb (k*3+2))=some f)/\∀a,w.frozen? (J fb a)=false:=by obtain⟨b,g,o,_⟩:=l;have c:∀a,a<b.size->∃m,w.cell? (J fb a)=some m:=λa q=>⟨b[a],by rw[cell_of_row w fb _ b 263 (0,0) g];grind⟩;obtain⟨d,h⟩:=c (k*3) O;obtain⟨e,i⟩:=c (k*3+1) O;obtain⟨f,j⟩:=c (k*3+2) O;exact⟨⟨d,e,f,h,i,j⟩,λa=>fr_ w fb a b 263 g⟩
def Gh.put(l:Gh w base fb n k wd sc ct bins size)(B:k<n){b c d}(v:Iv w (λa=>base<=a) b c d (wd k) (Ca (sc k).toNat) (ct k) bins size):Gh (((w.setCell (J fb (k*3)) b).setCell (J fb (k*3+1)) c).setCell (J fb (k*3+2)) d) base fb n (k+1) wd sc ct bins size:=by
 obtain⟨j,s,t,u⟩:=l
 have m:∀a e g,base<=a->w.1[a]? =some (O_ e g)->g=3∨g=261->base<=a/\(((w.setCell (J fb (k*3)) b).setCell (J fb (k*3+1)) c).setCell (J fb (k*3+2)) d).1[a]? =some (O_ e g):=λa e g E l D=>by grind [Below.heap_setCell]
 refine⟨_,(ht_ (k*3+2) _ _ d (ht_ (k*3+1) _ _ c (hs_ w _ (k*3) _ _ b s))),by simp[t],λi A=>?_⟩
 by_cases r:i=k
 subst r;exact⟨b,c,d,w_,w_,w_,v.map m⟩;have⟨x,y,z,o,p,e,q⟩:=u i O;have h:∀f,f≠k*3->f≠k*3+1->f≠k*3+2->(((j.setIfInBounds (k*3) b).setIfInBounds (k*3+1) c).setIfInBounds (k*3+2) d)[f]? =j[f]?:=w_;exact⟨x,y,z,(h _ O O O).T o,(h _ O O O).T p,(h _ O O O).T e,q.map m⟩
end
def jw o s b v d f t g e h c (T:Dq c o s b g e h)(b3:1<=b)(b4:b<=4)(W:∀x,x<b->g x=false->0<=e x/\e x<=3):C_ 96 #[.agg #[V (some (J o s)) b v,I d,I f,I t]] c λu i=>∃a,u=.returned (.slice (some ⟨a,0,none⟩) b b)/\c.1.size<=a/\Gh i c.1.size a b b g e h d f/\E_ c i:=by
 have b7:∀F:World,(Instr.makeSlice 155 (I b) (I b)).run prog F=.ok (L_ F.1.size b b) (F.alloc (O_ (madeCells #[.nilFunc,.nilFunc,.nilFunc] (b*3)) 263)):=λ_=>mk_ 3;have B:=Y T;refine dl_ ?_;go_enter func96,ntmps96;go_wp2_with fail
 have a1:K (Gh ((c.alloc (O_ #[V (some (J o s)) b v,I d,I f,I t] 37)).alloc (O_ (madeCells #[.nilFunc,.nilFunc,.nilFunc] (b*3)) 263)) c.1.size (c.1.size+1) b 0 g e h d f):=⟨_,Hx _ _ _ s_,by simp[madeCells],λx b5=>O⟩;have a0:K (((c.alloc (O_ #[V (some (J o s)) b v,I d,I f,I t] 37)).alloc (O_ (madeCells #[.nilFunc,.nilFunc,.nilFunc] (b*3)) 263)).1[c.1.size]? =_):=(hc_ s_).T (ha_ c _);have Z:K (Below _ c ((c.alloc (O_ #[V (some (J o s)) b v,I d,I f,I t] 37)).alloc (O_ (madeCells #[.nilFunc,.nilFunc,.nilFunc] (b*3)) 263))):=q_.alloc s_ _;generalize ((c.alloc (O_ #[V (some (J o s)) b v,I d,I f,I t] 37)).alloc (O_ (madeCells #[.nilFunc,.nilFunc,.nilFunc] (b*3)) 263))=c2 at *
 go_loopw [13] (λj i=>∃a:Nat,a<=b/\j=I a/\K (Gh i c.1.size (c.1.size+1) b a g e h d f)/\K (i.1[c.1.size]? =some (O_ #[V (some (J o s)) b v,I d,I f,I t] 37))/\K (E_ c i)) (m1_ b)
 case atStart=>grind
 obtain⟨a,b6,rfl,G,z,y⟩:=hrel;have U:=(Qb z).1
 by_cases w:a<b
 ·have⟨N,R,S⟩:=k3_ y (B.v a w) (B.z a w) (B.q a w);have P:∀{m j k l} {n:World},Iv n (λi=>(wr.alloc m).1.size<=i) j k l (g a) (Ca (e a).toNat) (h a) d f->Iv n (λi=>c.1.size<=i) j k l (g a) (Ca (e a).toNat) (h a) d f:=λq=>q.map λa a2 b8 X q _=>⟨by have:=y.size;simp at X;omega,q⟩
  have H:K (∀m,C_ (if g a=true then 160 else 161) (if g a=true then #[I (h a),I d] else #[I (e a),I d,I f]) (wr.alloc m) λu n=>∃j k l,u=.returned (.agg #[j,k,l])/\Iv n (λi=>c.1.size<=i) j k l (g a) (Ca (e a).toNat) (h a) d f/\E_ wr n):=λm=>by
   cases i:g a
   have⟨D,E⟩:=W a w i;have:=qn (e a).toNat d f (wr.alloc m) O;rw[show((e a).toNat:Int)=e a by omega] at this;exact this.m λu n ⟨j,k,l,q,r,A⟩=>⟨j,k,l,q,i ▸ P (i ▸ r _),bt_ q_ A⟩;exact(Za1 (h a) d (wr.alloc m)).m λu n ⟨j,k,l,q,r,A⟩=>⟨j,k,l,q,i ▸ P (i ▸ r _ _),bt_ q_ A⟩
  have Q:K (∀m,_/\_):=λm=>k2_ (q_ (o:=m)) (n_ 1 z) (n_ 2 z)
  cases i:g a
  all_goals
   rw[i] at N;simp only[i,if_true,Bool.false_eq_true,if_false] at H;obtain⟨L,M⟩:=Q (O_ #[.bool (g a),I (e a),I (h a)] 51);rw[i] at L M;go_wp2_with fail
   apply (H _).m;rintro u n ⟨j,k,l,rfl,r,A⟩;have D:=Y (G.below A);obtain⟨a6,a3,a7,a4,a8,a5,rfl,rfl,rfl⟩:=r.a;have E:=x3_ (D.put w (i ▸ r)) ((A.block _ U).T z) (bt_ y A);obtain⟨⟨b9,c0,c1,a9,b0,b1⟩,b2⟩:=D.cells w;clear r A D L M N R S;refine J_ ?_;exact⟨a+1,O,g_,E.1,(Below.heap_setCell _ _ _ _ s_).T ((Below.heap_setCell _ _ _ _ s_).T ((Below.heap_setCell _ _ _ _ s_).T E.2.1)),((E.2.2.setCell (p:=(J (c.1.size+1) (a*3))) s_ _).setCell (p:=(J (c.1.size+1) (a*3+1))) s_ _).setCell (p:=(J (c.1.size+1) (a*3+2))) s_ _⟩
 obtain rfl:a=b:=O;go_wp2;go_ret;exact⟨_,rfl,O,G,y⟩
def part0:Ch:=⟨0,false,0,0,0,N_⟩
def ql d a b (f:a<=4):C_ 97 #[L_ d a a] b λc e=>c=.returned (.pointer (some ⟨b.1.size+1,0,none⟩))/\e=(b.alloc (O_ (madeCells #[N_] a) 251)).alloc (O_ #[L_ d a a,N_,L_ b.1.size a a,I 0,.bool false,N_,I 0,.bool false,I 0,I 0,I 0,N_] 256):=by have e:∀c:World,(Instr.makeSlice 248 (I a) (I a)).run prog c=.ok (L_ c.1.size a a) (c.alloc (O_ (madeCells #[N_] a) 251)):=λ_=>mk_ 1;refine dl_ ?_;go_enter func97,ntmps97;go_wp2;go_ret;exact⟨s_,rfl⟩
def Gh.base{j base b e g f k h d c i}(a:Gh j b e g f k h d c i)(l:base<=b):Gh j base e g f k h d c i:=a.map (λ_ _ a=>a) l
structure cq(d:World)(b g c f e a:Nat)(m)(k j)(h l i):Prop where
 r:d.1[g]? =some (O_ #[L_ c a a,I i,P_ f,I 0] 158)
 v:RB d f (L_ c a a) (N_) (L_ e a a) 0 false (N_) part0
 u:d.1[e]? =some (O_ (madeCells #[N_] a) 251)
 fs:Gh d b c a a m k j h l
 y:b<=g/\b<=c/\b<=f/\b<=e
def ZaW c f a k h i d o m r b (l:Dq b c f a o m r)(D:1<=a)(v:a<=4)(L:∀e,e<a->o e=false->0<=m e/\m e<=3):C_ 57 #[.agg #[V (some (J c f)) a k,I h,I i,I d]] b λs n=>∃g j t q,s=.returned (.pointer (some ⟨g,0,none⟩))/\cq n b.1.size g j t q a o m r h i d/\E_ b n:=by
 have u:K (Below _ b (b.alloc (O_ #[V (some (J c f)) a k,I h,I i,I d] 37))):=q_;have E:=l.lt O;have w:K (Dq (b.alloc (O_ #[V (some (J c f)) a k,I h,I i,I d] 37)) c f a o m r):=(by have j:=λn=>u.cell (p:=(J c n)) E;exact⟨l.le,λ_=>t_,λe g=>(j _).T (l.v e g),λe g=>(j _).T (l.z e g),λe g=>(j _).T (l.q e g)⟩);have y:=Y L;have A:(b.alloc (O_ #[V (some (J c f)) a k,I h,I i,I d] 37)).cell? (J b.1.size 3)=some (I d):=s_;have H:(b.alloc (O_ #[V (some (J c f)) a k,I h,I i,I d] 37)).1.size=b.1.size+1:=s_;have z:=Y H;refine dl_ ?_;go_enter func57,ntmps57;go_wp2_with fail
 generalize b.alloc (O_ #[V (some (J c f)) a k,I h,I i,I d] 37)=N at *;apply (jw c _ a _ _ _ _ _ _ _ _ w D v y).m;rintro s g ⟨j,rfl,F,G,t⟩;have B:=W_ t A;have q:=x3_ G F t;have M:b.1.size<g.1.size:=oj_ t.size z.out;have x:=Y (λn=>ql j a n v);go_wp2_with fail
 go_region_held3 (λn=>D_ n b.1.size 3 (I d)) (exact X_ B) (first|(go_at_call 97;apply (x _).m;rintro s n ⟨rfl,rfl⟩))
 all_goals go_wp2
 all_goals go_ret
 have n:E_ g (((g.alloc (O_ (madeCells #[N_] a) 251)).alloc (O_ #[L_ j a a,N_,L_ g.1.size a a,I 0,.bool false,N_,I 0,.bool false,I 0,I 0,I 0,N_] 256)).alloc (O_ #[L_ j a a,I d,P_ (g.1.size+1),I 0] 158)).drew:=((q_.alloc s_ _).alloc u_ _).drew;refine⟨g.1.size+1+1,j,g.1.size+1,g.1.size,rfl,⟨Hx _ _ _ s_,(hc_ s_).T (Hx _ _ _ s_),(hc_ u_).T ((hc_ s_).T (Hx _ _ _ rfl)),(q.1.base O).below n,O,p_ q.2.1,O,O⟩,?_⟩;exact(u.T (q.2.2.m O)).T (n.m O)
structure ue(d:World)(a b c i k g j:Nat)(n)(l h)(e m f):Prop where
 q:d.1[b]? =some (O_ #[P_ c,.bool false,I 0,I 0] 119)
 r:cq d a c i k g j n l h e m f
 y:a<=b
def Mo{c a e d h g f}(i:Iz c a e d h g f=true):1<=c/\c<=4/\2<=a/\a<=16/\a<=e/\e<=32/\0<=d/\d<=20/\∀b,b<c->Mr (h b) (g b) (f b)=true:=by grind [Iz,Vj]
def cq.below{m n base l g i e h o j f c k d}(a:cq m base l g i e h o j f c k d)(b:E_ m n):cq n base l g i e h o j f c k d:=
 ⟨(b.block _ (Qb a.r).1).T a.r,a.v.below b a.v.lt,(b.block _ (Qb a.u).1).T a.u,a.fs.below b,a.y⟩
def cq.base{m base b l g i e h n j f c k d}(a:cq m b l g i e h n j f c k d)(o:base<=b):cq m base l g i e h n j f c k d:=
 ⟨a.r,a.v,a.u,a.fs.base o,p_ a.y⟩
def ZdP d e b n f k g l j m c (h:Dq c d e b l j m)(G:Iz b f k g l j m=true):C_ 31 #[.agg #[V (some (J d e)) b n,I f,I k,I g]] c λv i=>∃a q w x u,v=.returned (.tuple #[.pointer (some ⟨a,0,none⟩),.int .i64 0])/\ue i c.1.size a q w x u b l j m f k g/\E_ c i:=by
 have⟨P,Q,_,_,_,_,_,_,a2⟩:=Mo G
 have M:K (∀a,a<b->l a=false->0<=j a/\j a<=3):=λa i a3=>by grind [Mr]
 have T:=h.lt O;have A:K (Below _ c (c.alloc (O_ #[V (some (J d e)) b n,I f,I k,I g] 37))):=q_;have z:K ((c.alloc (O_ #[V (some (J d e)) b n,I f,I k,I g] 37)).1[_]? =_):=ha_ c _
 have B:K (∀t,E_ c t->Dq t d e b l j m):=λt D=>by have o:=λq=>D.cell (p:=(J d q)) T;exact⟨h.le,λ_=>p_ D.size,λa i=>(o _).T (h.v a i),λa i=>(o _).T (h.z a i),λa i=>(o _).T (h.q a i)⟩
 have L:=Y G;have W:=h.le;refine dl_ ?_;go_enter func31,ntmps31;go_wp2_with fail
 generalize c.alloc (O_ #[V (some (J d e)) b n,I f,I k,I g] 37)=a4 at *;apply (Xj _ b _ _ _ _ _ _ _ _ W (.inr ⟨d,e,rfl,B _ A⟩)).m;rintro v a5 ⟨rfl,E⟩;rw[L];have U:=(Qb z).1;have o:=(E.block _ U).T z;have X:=n_ 0 o;have Z:=n_ 1 o;have a0:=n_ 2 o;have a1:=n_ 3 o;have r:=Y (A.T (E.m O));have H:=r.size;go_wp2_with fail
 apply (ZaW d _ b _ _ _ _ _ _ _ _ (B _ r) P Q M).m;rintro v y ⟨q,w,x,u,rfl,R,S⟩;have⟨N,s⟩:=Z_ (R.base H) (r.T (S.m H));go_wp2;go_ret2
 have F:Below _ y (y.alloc (O_ #[P_ q,.bool false,I 0,I 0] 119)):=q_;exact⟨y.1.size,q,w,x,u,rfl,⟨hn_,N.below F,s.size⟩,s.T (F.m s.size)⟩
structure RS where
 k:List Int
 a:Nat->List VS
 h:Int
 A:Bool
 row:List VS
 p:Ch
 g:List Int
def RS.start:RS:=⟨[],λ_=>[],0,false,[],part0,[]⟩
def Hn(a:Ch)(b:List Int):VS:=⟨decide (a.g=0),Sr a,strOfNums b⟩
def Ar(f:Bool)(e:Int)(b:Ch)(c:List Int)(d:Int):Option (Ch×List Int):=
 if f=true then(Cl b.g c d).map (λa=>({b with g:=a.1},a.2)) else(Dk e b d).map (λa=>(a,c))
def Aw:VS:=⟨false,0,⟨#[]⟩⟩
def He(d:Nat)(a:RS)(c:List VS):RS:=
 if c.length=d then⟨a.k++[a.h],λb=>if b<d then a.a b++[c.getD b Aw] else a.a b,0,false,[],part0,[]⟩
 else {a with row:=c,p:=part0,g:=[]}
def Cr(c:Nat)(g:Nat->Bool)(f:Nat->Int)(a:RS)(b:Int):Except Int RS:=
 if a.k.length=200 then .error 3
 else if a.A=false then
  match Aq a.h b with
  |none=>.error 2
  |some none=>.ok {a with A:=true}
  |some (some h)=>.ok {a with h:=h}
 else
  match Ar (g a.row.length) (Ca (f a.row.length).toNat) a.p a.g b with
  |some (e,d)=>.ok {a with p:=e,g:=d}
  |none=>if b=Eg a.row.length c/\Ep a.p.g=true then .ok (He c a (a.row++[Hn a.p a.g])) else .error 2
structure Gt(a:Ch):Prop where
 c:0<=a.unit
 d:a.unit<=1000
 b:0<=a.num
 h:0<=a.dig
 i:a.dig<=5
 e:a.num+a.unit<=Ca a.dig.toNat*1000
def Zea a (b:a<=5):1<=Ca a/\Ca a<=100000:=by
 have:a=0∨a=1∨a=2∨a=3∨a=4∨a=5:=O
 rcases this with rfl|rfl|rfl|rfl|rfl|rfl<;>decide
def Gt.le{b}(a:Gt b):b.num<=100000000:=by have c:=a.e;have d:=a.c;have e:=(Zea b.dig.toNat (oj_ a.h a.i)).2;omega
theorem Gt.part0:Gt part0:=⟨C,C,C,C,C,C⟩
def Md{a}(b:Cc a=true):48<=a/\a<=57:=by simpa [Cc] using b
def Gt.step{e}(x:1<=e)(t:e<=1000){b a c}(r:Gt b)(p:Dk e b c=some a):Gt a:=by
 obtain⟨f,g,l,h,i,m⟩:=r
 have w:∀a,If e b c=some a->Gt a:=λa hq=>by
  unfold If at hq;split at hq
  ·rename_i d;obtain⟨n,o⟩:=Md d;injection hq with hq;subst hq;have j:0<=(c-48)*e:=Int.mul_nonneg O O;have q:(c-48)*e<=9*e:=Int.mul_le_mul_of_nonneg_right O O;refine⟨w_,t,j,w_,w_,?_⟩
   grind [Ca]
  cases hq
 have y:∀a,Qm b c=some a->Gt a:=λa hq=>by
  unfold Qm at hq;split at hq;injection hq with hq;subst hq;exact⟨f,g,l,h,i,m⟩
  cases hq
 have z:∀a,Mx b c=some a->Gt a:=λa hq=>by
  unfold Mx at hq;split at hq;injection hq with hq;subst hq;exact⟨f,g,l,h,i,m⟩
  cases hq
 have v:∀a,Lj b c=some a->Gt a:=λa hq=>by
  unfold Lj at hq;split at hq
  ·rename_i d;obtain⟨d,s⟩:=d;obtain⟨n,o⟩:=Md d;injection hq with hq;subst hq;have j:0<=(c-48)*_:=Int.mul_nonneg O f;have q:(c-48)*_<=9*_:=Int.mul_le_mul_of_nonneg_right O f;refine⟨f,g,?_,?_,?_,?_⟩
   ·grind
   ·grind
   ·grind
   show b.num*10+(c-48)*b.unit+b.unit<=Ca (b.dig+1).toNat*1000;have k:(b.dig+1).toNat=b.dig.toNat+1:=O
   grind [Ca]
  cases hq
 have u:∀a,Iw b c=some a->Gt a:=λa hq=>by
  unfold Iw at hq;split at hq
  ·rename_i d;obtain⟨d,s⟩:=d;obtain⟨n,o⟩:=Md d;injection hq with hq;subst hq;have k:0<=b.unit/10:=O;have j:0<=(c-48)*_:=Int.mul_nonneg O k;have q:(c-48)*_<=9*_:=Int.mul_le_mul_of_nonneg_right O k;refine⟨k,?_,?_,h,i,?_⟩
   ·grind
   ·grind
   grind
  cases hq
 unfold Dk at p;split at p
 ·grind [Qm]
 grind [Lj]
def Gt.g{b}(a:Gt b) c:Gt {b with g:=c}:=⟨a.c,a.d,a.b,a.h,a.i,a.e⟩
def Zdr c b a d:Dk c {b with e:=d} a=(Dk c b a).map (λe=>{e with e:=d}):=by grind [Qm,If,Lj,Mx,Iw,Dk]
def ym{d a c b}(e:Cl d a c=some b)(f:a.length<=8):b.2.length<=8:=by grind [Lw,dy,Nx,Cl]
structure Is(c)(a:RS):Prop where
 k:a.k.length<=200
 h:∀b,b<c->(a.a b).length=a.k.length
 d:0<=a.h
 e:a.h<=99
 row:a.row.length<c
 num:Gt a.p
 g:a.g.length<=8
def Is.start{a}(b:1<=a):Is a RS.start:=⟨C,λ_ _=>rfl,C,C,b,Gt.part0,C⟩
def rg{c b a}(d:Aq c b=some (some a)):1<=a/\a<=99:=by grind [Aq]
structure Vh(h)(K)(c d)(m:Nat->Bool)(k j:Nat->Int)(i l):Prop where
 q:∃b:Array Value,h.1[c]? =some (O_ b 263)/\b.size=d*3/\K c/\∀a,a<d->∃e f g,b[a*3]? =some e/\b[a*3+1]? =some f/\b[a*3+2]? =some g/\Iv h K e f g (m a) (Ca (k a).toNat) (j a) i l
def Vh.p{S K m w' e i n j d c k}(b:Vh m K e i n j d c k)(l:Aa S m w')(g:∀a,K a->¬S a):Vh w' K e i n j d c k:=by obtain⟨r,t,u,f,v⟩:=b;refine⟨r,l.g t (g _ f),u,f,λx w=>?_⟩;obtain⟨y,z,A,o,p,q,s⟩:=v x w;exact⟨y,z,A,o,p,q,s.map λa _ _ h b _=>⟨h,l.g b (g a h)⟩⟩
def Vh.a{g h e f m k j i l} K (d:Gh g h e f f m k j i l)(u:K e)(hK:∀b a c,h<=b->g.1[b]? =some (O_ a c)->(c=3∨c=261)->K b):Vh g K e f m k j i l:=by obtain⟨a,r,s,t⟩:=d;refine⟨a,r,s,u,λx v=>?_⟩;obtain⟨z,A,B,n,o,p,q⟩:=t x v;exact⟨z,A,B,n,o,p,q.map λb a c y d w=>⟨hK b a c y d w,d⟩⟩
structure Qx(d)(K e:Nat->Prop)(o n i c)(t)(r q)(p s)(g:RS)(l h m)(f:Nat->Value):Prop where
 v:RB d o (L_ n c c) l (L_ i c c) g.h g.A h {g.p with e:=m}
 x:Ad d 0 l g.k
 or:Kq d 0 h g.row
 w:Ax d 0 m g.g
 u:∃j:Array Value,d.1[i]? =some (O_ j 251)/\j.size=c/\∀a,a<c->j[a]? =some (f a)
 y:∀a,a<c->Kq d 0 (f a) (g.a a)
 fs:Vh d K n c t r q p s
 B:∀a k,a<c->k<c->a≠k->(f a).ownBlock=none∨(f a).ownBlock≠(f k).ownBlock
 D:∀a,a<c->(f a).ownBlock=none∨(f a).ownBlock≠h.ownBlock
 E:e o
 G:e i
 L:∀b,l.ownBlock=some b->e b
 N:∀b,h.ownBlock=some b->e b
 F:∀b,m.ownBlock=some b->e b
 H:∀a b,a<c->(f a).ownBlock=some b->e b
 z:∀b,K b->b<d.1.size/\¬e b
 M:∀b,e b->b<d.1.size
def RdM(n:World)(K a:Nat->Prop)(g e c f:Nat)(o:Nat->Bool)(i d:Nat->Int)(b j:Int)(h:RS):Prop:=∃k m p l,Qx n K a g e c f o i d b j h k m p l
def Kq.p{S e w' c a b}(f:Kq e c a b)(h:Aa S e w')(g:∀d,a.ownBlock=some d->¬S d):Kq w' c a b:=h.row f g
def Ad.p{S e w' c a b}(f:Ad e c a b)(h:Aa S e w')(g:∀d,a.ownBlock=some d->¬S d):Ad w' c a b:=h.row f g
def Ax.p{S e w' c a b}(f:Ax e c a b)(h:Aa S e w')(g:∀d,a.ownBlock=some d->¬S d):Ax w' c a b:=h.row f g
def RB.p{S h w' a f e d i b g c}(j:RB h a f e d i b g c)(l:Aa S h w')(k:¬S a):RB w' a f e d i b g c:=l.g j k
section
variable {w:World} {K M:Nat->Prop} {rb fb cb n:Nat} {wd:Nat->Bool} {sc ct:Nat->Int} {bins size:Int} {s:RS} {a c d:Value} {b:Nat->Value}
def Qx.p{S w'}(e:Qx w K M rb fb cb n wd sc ct bins size s a c d b)(h:Aa S w w')(i:∀f,K f∨M f->¬S f):Qx w' K M rb fb cb n wd sc ct bins size s a c d b:=by
 obtain⟨p,l,m,o⟩:=e.u
 exact⟨e.v.p h (i _ (.inr e.E)),e.x.p h (λf g=>i _ (.inr (e.L f g))),e.or.p h (λf g=>i _ (.inr (e.N f g))),e.w.p h (λf g=>i _ (.inr (e.F f g))),
  ⟨p,h.g l (i _ (.inr e.G)),m,o⟩,λk j=>(e.y k j).p h (λf g=>i _ (.inr (e.H k f j g))),e.fs.p h (λf g=>i _ (.inl g)),e.B,e.D,e.E,e.G,e.L,e.N,e.F,e.H,
  λf g=>⟨Qh (e.z f g).1 h.size,(e.z f g).2⟩,λf g=>Qh (e.M f g) h.size⟩
def RdM.p{S w'}(e:RdM w K M rb fb cb n wd sc ct bins size s)(h:Aa S w w')(g:∀f,K f∨M f->¬S f):RdM w' K M rb fb cb n wd sc ct bins size s:=by obtain⟨a,c,d,b,e⟩:=e;exact⟨a,c,d,b,e.p h g⟩
def Qx.k(e:Qx w K M rb fb cb n wd sc ct bins size s a c d b):fb≠rb:=by obtain⟨h,_,_,g,_⟩:=e.fs;intro f;exact(e.z _ g).2 (f ▸ e.E)
def Qx.A(f:Qx w K M rb fb cb n wd sc ct bins size s a c d b){i}(m:i<n):∃e g h,w.cell? (J fb (i*3))=some e/\Iv w K e g h (wd i) (Ca (sc i).toNat) (ct i) bins size:=by
 obtain⟨j,k,_,_,l⟩:=f.fs
 grind [cell_of_row]
end
def ZfG(d:World)(K b:Nat->Prop)(k i g j:Nat)(o:Nat->Bool)(m h:Nat->Int)(f n:Int)(l:RS)(e:World):Prop:=
 (∃c,RdM e K c k i g j o m h f n l/\(∀a,c a->b a∨d.1.size<=a))/\Aa b d e
section
variable {w:World} {K M:Nat->Prop} {rb fb cb n:Nat} {wd:Nat->Bool} {sc ct:Nat->Int} {bins size:Int} {s:RS} {b c a:Value} {d:Nat->Value}
def Qx.e(i:Qx w K M rb fb cb n wd sc ct bins size s b c a d){e f:Nat}{g}(j:H_ w e g f)(k:f≠256):e≠rb:=λh=>by
 subst h;have:=i.v
 grind [RB]
def Qx.g{q}(g:Qx w K M rb fb cb n wd sc ct bins size s b c a d)(h:Aa (λf=>f=rb∨some f=a.ownBlock) w q){p bs i wt fl}(t:RB q rb (L_ fb n n) b (L_ cb n n) wt fl c {p with e:=i})(y:Ax q 0 i bs)(G:i.ownBlock=a.ownBlock∨∃f,i.ownBlock=some f/\w.1.size<=f):
  Qx q K (λf=>M f∨i.ownBlock=some f) rb fb cb n wd sc ct bins size {s with p:=p,g:=bs,h:=wt,A:=fl} b c i d:=by
 have r:∀{o:Nat} {size n u z},w.ownsRow 0 o size u n z->o≠256->o≠5->∀f,u.ownBlock=some f->¬(f=rb∨some f=a.ownBlock):=λ{o size n u z} t j D f l e=>by
  obtain⟨x,m⟩:=Ac t l
  rcases e with e|e
  exact g.e m j e;obtain⟨k,E⟩:=Ac g.w e.s
  grind
 obtain⟨x,v,A,B⟩:=g.u
 have F:¬(cb=rb∨some cb=a.ownBlock):=λe=>by
  rcases e with e|e
  exact g.e v C e;obtain⟨k,E⟩:=Ac g.w e.s
  grind
 have H:∀f,i.ownBlock=some f->M f∨w.1.size<=f:=λf e=>by
  rcases G with j|⟨k,j,D⟩
  exact .inl (g.F f (j ▸ e))
  grind
 refine⟨t,g.x.p h (r g.x C C),g.or.p h (r g.or C C),y,⟨x,h.g v F,A,B⟩,λm k=>(g.y m k).p h (r (g.y m k) C C),g.fs.p h ?_,g.B,g.D,.inl g.E,.inl g.G,λf e=>.inl (g.L f e),λf e=>.inl (g.N f e),λf e=>.inr e,λm f k e=>.inl (g.H m f k e),λf e=>?_,λf e=>?_⟩
 ·intro f l e
  rcases e with e|e
  exact(g.z f l).2 (e ▸ g.E);exact(g.z f l).2 (g.F f e.s)
 ·have j:=g.z f e;refine⟨Qh j.1 h.size,λE=>?_⟩
  grind
 rcases e with e|e
 exact Qh (g.M f e) h.size;exact(B_ y f e).2
def zd(w:World)(K M:Nat->Prop)(rb fb cb n:Nat)(wd:Nat->Bool)(sc ct:Nat->Int)(bins size:Int)(s:RS)(b c:Value)(d:Nat->Value)(f:Option (Ch×List Int))(h:Ending)(g:World):Prop:=
 h=.returned (.bool f.isSome)/\(∃e i,Qx g K e rb fb cb n wd sc ct bins size {s with p:=(f.getD (s.p,s.g)).1,g:=(f.getD (s.p,s.g)).2} b c i d/\(∀a,M a->e a)/\(∀a,e a->M a∨w.1.size<=a))/\Aa M w g
def ZjX(g:Qx w K M rb fb cb n wd sc ct bins size s b c a d) i h u (y:H_ w u #[I h] 3)(z:0<=h)(D:h<=1000)(j:Gt s.p):C_ 214 #[.pointer (some (J rb 6)),.int .u8 i,P_ u] w λe v=>zd w K M rb fb cb n wd sc ct bins size s b c d (Ar false h s.p s.g i) e v:=by
 have B:=j.le;apply (ZbB rb _ _ b _ _ _ c _ i h w g.v (G_ 0 _ 3 _ y) z O j.c (gh_ j.d) j.b w_ j.h (gh_ j.i)).m;rintro e v ⟨k,l,o⟩;rw[Zdr] at k l;have m:Aa (λf=>f=_∨some f=a.ownBlock) w _:=(Aa.refl _ w).grown o (λf hk _=>.inl (by injection hk with hk;exact hk.s))
 have q:=g.w.p ((Aa.refl (λf=>f=rb) w).grown o (λf hk _=>w_)) (λf hk e=>by
  obtain⟨t,r⟩:=Ac g.w hk
  exact g.e r C e)
 have t:=m.m (λf _ e=>by
  rcases e with e|e
  exact e ▸ g.E
  exact g.F f e.s)
 have x:Ar false h _ s.g i=(Dk h s.p i).map _:=rfl;unfold zd;rw[x]
 cases r:Dk h s.p i with
 | none=>
  rw[r] at k l;refine⟨k,⟨_,a,g.g (p:=s.p) (bs:=s.g) m l q (.inl rfl),λf e=>.inl e,λf e=>?_⟩,t⟩
  rcases e with e|e
  exact .inl e;exact .inl (g.F f e)
 | some A=>
  rw[r] at k l;refine⟨k,⟨_,a,g.g (p:=A) (bs:=s.g) m l q (.inl rfl),λf e=>.inl e,λf e=>?_⟩,t⟩
  rcases e with e|e
  exact .inl e;exact .inl (g.F f e)
def Zg1(h:Qx w K M rb fb cb n wd sc ct bins size s b c a d) g v (A:s.g.length<=8):C_ 209 #[.pointer (some (J rb 6)),.int .u8 g] w λe x=>zd w K M rb fb cb n wd sc ct bins size s b c d (Ar true v s.p s.g g) e x:=by
 apply (yj _ 0 _ _ _ _ _ _ _ _ g w ⟨h.v,h.w⟩ O O).m;rintro e x ⟨i,⟨q,⟨j,k⟩,m⟩,o⟩
 have u:=Aa.m o (λf _ e=>by
  rcases e with e|e
  exact e ▸ h.E
  exact h.F f e.s)
 have y:Ar true v _ s.g g=(Cl _ _ g).map (λl=>({s.p with g:=l.1},_)):=rfl
 have r:∀f,(M f∨q.ownBlock=some f)->M f∨w.1.size<=f:=λf e=>by
  rcases e with e|e
  exact .inl e
  rcases m with l|⟨z,l,t⟩
  exact .inl (h.F f (l ▸ e))
  grind
 unfold zd;rw[y];have z:Cl ({s.p with e:=a}:_).g s.g g=Cl s.p.g _ g:=rfl;rw[z] at i j k
 cases t:Cl s.p.g s.g g with
 | none=>
  rw[t] at i j k;exact⟨i,⟨_,q,h.g (p:=s.p) (bs:=s.g) o j k m,λf e=>.inl e,r⟩,u⟩
 | some l=>
  rw[t] at i j k;exact⟨i,⟨_,q,h.g (p:={s.p with g:=l.1}) (bs:=l.2) o j k m,λf e=>.inl e,r⟩,u⟩
end
def Ah{e:World}{f b l j:Nat}{d m}(h:e.ownsRow f b l d j m){k a c g}(i:d.ownBlock=some k)(p:H_ e a g c)(r:b≠c):k≠a:=λo=>by
 have⟨n,q⟩:=Ac h i
 grind
def xx{f:World}{g h a b q r o p:Nat}{e d s t}(k:f.ownsRow g a q e o s)(j:f.ownsRow h b r d p t)(n:a≠b){c}(m:e.ownBlock=some c):d.ownBlock≠some c:=λi=>by have⟨u,l⟩:=Ac j i;exact Ah k m l n rfl
section
variable {w:World} {K M:Nat->Prop} {rb fb cb n:Nat} {wd:Nat->Bool} {sc ct:Nat->Int} {bins size:Int} {s:RS} {b c d:Value} {a:Nat->Value}
def Qx.i(f:Qx w K M rb fb cb n wd sc ct bins size s b c d a):∃e,w.1[rb]? =some (O_ e 256):=⟨_,f.v⟩
def Qx.h(e:Qx w K M rb fb cb n wd sc ct bins size s b c d a):cb≠rb:=by have⟨g,f,_⟩:=e.u;exact e.e f C
def wn{M:Nat->Prop}{d b:Value}{c}(g:∀a,d.ownBlock=some a->M a)(f:b.ownBlock=d.ownBlock∨∃a,b.ownBlock=some a/\c<=a):∀a,(M a∨b.ownBlock=some a)->M a∨c<=a:=λa e=>w_
def Qx.l{w' vW' ws' wt fl}(g:Qx w K M rb fb cb n wd sc ct bins size s b c d a)(h:Aa (λf=>f=rb∨b.ownBlock=some f) w w')(k:RB w' rb (L_ fb n n) vW' (L_ cb n n) wt fl c {s.p with e:=d})(r:Ad w' 0 vW' ws')(B:vW'.ownBlock=b.ownBlock∨∃f,vW'.ownBlock=some f/\w.1.size<=f):
  Qx w' K (λf=>M f∨vW'.ownBlock=some f) rb fb cb n wd sc ct bins size {s with k:=ws',h:=wt,A:=fl} vW' c d a/\(∀f,(M f∨vW'.ownBlock=some f)->M f∨w.1.size<=f)/\Aa M w w':=by
 have⟨E,A⟩:=g.i;have⟨x,q,u,v⟩:=g.u;have z:=wn g.L B
 have m:∀{p size n:Nat} {t D},w.ownsRow 0 p size t n D->p≠256->p≠3->∀f,t.ownBlock=some f->¬(f=rb∨b.ownBlock=some f):=λk o y f i e=>by
  rcases e with e|e
  exact Ah k i A o e;exact xx k g.x y i e
 refine⟨⟨k,r,g.or.p h (m g.or C C),g.w.p h (m g.w C C),⟨x,h.g q ?_,u,v⟩,λl j=>(g.y l j).p h (m (g.y l j) C C),g.fs.p h ?_,g.B,g.D,.inl g.E,.inl g.G,λf e=>.inr e,λf e=>.inl (g.N f e),λf e=>.inl (g.F f e),λl f j e=>.inl (g.H l f j e),λf e=>?_,λf e=>?_⟩,z,h.m (λf _ e=>?_)⟩
 ·intro e
  rcases e with e|e
  exact g.h e;exact Ah g.x e q C rfl
 ·intro f i e
  rcases e with e|e
  exact(g.z f i).2 (e ▸ g.E);exact(g.z f i).2 (g.L f e)
 ·have o:=g.z f e;refine⟨Qh o.1 h.size,λF=>?_⟩
  grind
 ·rcases e with e|e
  exact Qh (g.M f e) h.size;exact(B_ r f e).2
 rcases e with e|e
 exact e ▸ g.E;exact g.L f e
def Qx.putRow{w' vr' row' p bs wv' wt fl}(g:Qx w K M rb fb cb n wd sc ct bins size s b c d a)(l:Aa (λf=>f=rb∨c.ownBlock=some f) w w')(m:RB w' rb (L_ fb n n) b (L_ cb n n) wt fl vr' {p with e:=wv'})(v:Kq w' 0 vr' row')(u:vr'.ownBlock=c.ownBlock∨vr'.ownBlock=none∨∃f,vr'.ownBlock=some f/\w.1.size<=f)(E:Ax w' 0 wv' bs)(G:wv'.ownBlock=none∨wv'=d):
  Qx w' K (λf=>M f∨vr'.ownBlock=some f) rb fb cb n wd sc ct bins size {s with row:=row',p:=p,g:=bs,h:=wt,A:=fl} b vr' wv' a/\(∀f,(M f∨vr'.ownBlock=some f)->M f∨w.1.size<=f)/\Aa M w w':=by
 have⟨L,t⟩:=g.i;have⟨B,q,z,A⟩:=g.u
 have D:∀f,(M f∨vr'.ownBlock=some f)->M f∨w.1.size<=f:=by
  rcases u with h|h|h
  exact wn g.N (.inl h)
  ·grind
  grind
 have y:∀{o size n:Nat} {x H},w.ownsRow 0 o size x n H->o≠256->o≠308->∀f,x.ownBlock=some f->¬(f=rb∨c.ownBlock=some f):=λm h r f k e=>by
  rcases e with e|e
  exact Ah m k t h e;exact xx m g.or r k e
 refine⟨⟨m,g.x.p l (y g.x C C),v,E,⟨B,l.g q ?_,z,A⟩,λi j=>(g.y i j).p l ?_,g.fs.p l ?_,g.B,λi j=>?_,.inl g.E,.inl g.G,λf e=>.inl (g.L f e),λf e=>.inr e,λf e=>?_,λi f j e=>.inl (g.H i f j e),λf e=>?_,λf e=>?_⟩,D,l.m (λf _ e=>?_)⟩
 ·intro e
  rcases e with e|e
  exact g.h e;exact Ah g.or e q C rfl
 ·intro f k e
  rcases e with e|e
  exact Ah (g.y i j) k t C e
  rcases g.D i j with h|h
  ·grind
  grind
 ·intro f k e
  rcases e with e|e
  exact(g.z f k).2 (e ▸ g.E);exact(g.z f k).2 (g.N f e)
 ·rcases u with h|h|⟨N,h,r⟩
  rw[h];exact g.D i j
  ·grind
  cases F:(a i).ownBlock with
  |none=>exact .inl rfl
  | some f=>
   refine .inr λe=>?_;rw[h] at e;injection e with e;have:=(B_ (g.y i j) f F).2;omega
 ·rcases G with h|h
  ·grind
  exact .inl (g.F f (h ▸ e))
 ·have h:=g.z f e;refine⟨Qh h.1 l.size,λF=>?_⟩
  grind
 ·rcases e with e|e
  exact Qh (g.M f e) l.size;exact(B_ v f e).2
 rcases e with e|e
 exact e ▸ g.E;exact g.N f e
def upd{a:Type}(c:Nat->a)(d:Nat)(x:a):Nat->a:=λb=>if b=d then x else c b
def Pe{c} b a (x:c):upd b a x a=x:=aD rfl
def Qs{e} b {c a}(x:e)(d:a≠c):upd b c x a=b a:=aC d
def Qx.j{w' i v' col'}(g:Qx w K M rb fb cb n wd sc ct bins size s b c d a)(r:i<n)(p:Aa (λf=>f=cb∨(a i).ownBlock=some f) w w')(H:∃v:Array Value,w'.1[cb]? =some (O_ v 251)/\v.size=n/\∀h,h<n->v[h]? =some (upd a i v' h))(Q:Kq w' 0 v' col')(N:v'.ownBlock=(a i).ownBlock∨∃f,v'.ownBlock=some f/\w.1.size<=f):Qx w' K (λf=>M f∨v'.ownBlock=some f) rb fb cb n wd sc ct bins size {s with a:=upd s.a i col'} b c d (upd a i v')/\(∀f,(M f∨v'.ownBlock=some f)->M f∨w.1.size<=f)/\Aa M w w':=by
 have⟨S,L⟩:=g.i;have⟨v,y,_⟩:=g.u;have G:=wn (λf e=>g.H i f r e) N
 have B:∀{A size n:Nat} {u R},w.ownsRow 0 A size u n R->A≠251->A≠308->∀f,u.ownBlock=some f->¬(f=cb∨(a i).ownBlock=some f):=λD j F f k e=>by
  rcases e with e|e
  exact Ah D k y j e;exact xx D (g.y i r) F k e
 have z:∀{q:Value},(q.ownBlock=none∨(a i).ownBlock=none∨q.ownBlock≠(a i).ownBlock)->(∀f,q.ownBlock=some f->f<w.1.size)->q.ownBlock=none∨q.ownBlock≠v'.ownBlock:=w_;have E:∀{q u:Value},(q.ownBlock=none∨q.ownBlock≠u.ownBlock)->u.ownBlock=none∨u.ownBlock≠q.ownBlock:=w_;refine⟨⟨g.v.p p ?_,g.x.p p (B g.x C C),g.or.p p ?_,g.w.p p (B g.w C C),H,λh l=>?_,g.fs.p p ?_,λh t l x P=>?_,λh l=>?_,.inl g.E,.inl g.G,λf e=>.inl (g.L f e),λf e=>.inl (g.N f e),λf e=>.inl (g.F f e),λh f l e=>?_,λf e=>?_,λf e=>?_⟩,G,p.m (λf _ e=>?_)⟩
 ·intro e
  rcases e with e|e
  ·grind
  exact Ah (g.y i r) e L C rfl
 ·intro f k e
  rcases e with e|e
  exact Ah g.or k y C e
  rcases g.D i r with j|j
  ·grind
  grind
 ·by_cases e:h=i
  ·grind [upd]
  rw[Qs _ _ e];show Kq w' 0 (a h) (upd s.a i col' h);rw[Qs _ _ e];apply (g.y h l).p p;intro f k m
  rcases m with m|m
  exact Ah (g.y h l) k y C m
  rcases g.B h i l r e with j|j
  ·grind
  grind
 ·intro f k e
  rcases e with e|e
  exact(g.z f k).2 (e ▸ g.G);exact(g.z f k).2 (g.H i f r e)
 ·by_cases o:h=i
  ·subst o;have m:t≠h:=O;rw[Pe,Qs _ _ m];refine E (z ?_ (λf k=>(B_ (g.y t x) f k).2))
   rcases g.B t h x l m with j|j
   exact .inl j
   grind
  rw[Qs _ _ o]
  by_cases m:t=i
  ·subst m;rw[Pe];refine z ?_ (λf k=>(B_ (g.y h l) f k).2)
   rcases g.B h t l x o with j|j
   exact .inl j
   grind
  rw[Qs _ _ m];exact g.B h t l x P
 ·by_cases o:h=i
  ·subst o;rw[Pe];refine E (z ?_ (λf k=>(B_ g.or f k).2))
   rcases g.D h l with j|j
   ·grind
   grind
  rw[Qs _ _ o];exact g.D h l
 ·by_cases o:h=i
  subst o;rw[Pe] at e;exact .inr e;rw[Qs _ _ o] at e;exact .inl (g.H h f l e)
 ·have j:=g.z f e;refine⟨Qh j.1 p.size,λm=>?_⟩
  grind
 ·rcases e with e|e
  exact Qh (g.M f e) p.size;exact(B_ Q f e).2
 rcases e with e|e
 exact e ▸ g.G;exact g.H i f r e
end
def Kg{n w e f a K A z}(P:e.guard=none) y x o (U:e.op=.call {callee:=.builtin .append,args:=#[y,x],argTypes:=#[o,o]}) k g (l:TypeInfo) t c s (a2:n.underlying o=some (.slice g))(Q:n.info? g=some l)(a5:l.zero=some t)(a0:l.size=c)(M:l.bytes=s)(a6:t.cells.size=c)(a1:0<c) h d q (Z:f.eval y=h)(W:a.ownsRow k g c h d q) r b u (m:List Value)(a4:f.eval x=.slice (some r) b u)(R:m.length=b*c)(T:∀v p,m[v]? =some p->a.cell? (r.add v)=some p)(F:∀p∈m,p.oneCell'=true)(S:0<b)(H:d+b<=maxLen)(N:(d+b)*s<=140737488355328)(L:k<=a.1.size)(E:∀i j,Hid (j.ownsRow k g c i (d+b) (q++m)/\a.grownBy j h.ownBlock/\(i.ownBlock=h.ownBlock∨i.ownBlock=some a.1.size/\Below a.1.size a j)/\j.ownsRow k g c h d q/\∃D B,i=L_ D (d+b) B)->K (f.put e.dst i) j):if wanted e (yielded w f.tmps)=true then Oper.wp n e f a K A else z:=by
 have a3:wanted e (yielded w f.tmps)=true:=(by simp[wanted,P]);rw[aD a3];have⟨i,j,X,G⟩:=Rg (P:=n) a k o e.type g l t c s a2 Q a5 a0 M a6 a1 h d q W r b u m R T F S H N L;unfold Oper.wp;simp only[execOp,U,resolve,invoke,builtin,Sem.run_bind,Sem.run_pure,Result.andThen_ok,map_toArray,map_cons,map_nil,Z,a4,X];exact E _ _ G
def Zni:(prog.info? 3).map (λa=>(a.zero,a.size,a.bytes))=some (some (I 0),1,8):=k_
def tg{d h f}{c g:Value}(i:(d.alloc f).drew.grownBy h c.ownBlock) b {e}:Aa (λa=>a=b∨c.ownBlock=some a) d (h.setCell (J b e) g):=
 ((((Aa.refl (λa=>a=b∨c.ownBlock=some a) d).alloc f).drew).grown i (λ_ a _=>.inr a)).setCell (p:=(J b e)) (λ_=>.inl rfl) g
def Zfl{b h:World}{d}{f a:Value}(g:a.ownBlock=f.ownBlock∨a.ownBlock=some (b.alloc d).drew.1.size/\Below (b.alloc d).drew.1.size (b.alloc d).drew h):a.ownBlock=f.ownBlock∨∃e,a.ownBlock=some e/\b.1.size<=e:=by
 rcases g with c|⟨c,_⟩
 exact .inl c;exact .inr ⟨_,c,s_⟩
def Aa.c{c g d h i}(a:Aa c d h)(b:Aa g h i)(n:∀f,g f->c f∨d.1.size<=f):Aa c d i:=
 ⟨b.os.T a.os,b.tape.T a.tape,b.output.T a.output,aG a.size b.size,λe k l=>(b.block e (Qh k a.size) (λm=>by rcases n e m with j|j;exact l j;omega)).T (a.block e k l)⟩
def Xx{b:World}{d n m a k e:Nat}{p o q f}(c:b.ownsRow 0 d n p m q)(h:b.1[a]? =some (O_ f e))(j:d≠e):=
 ((Aa.refl (λl=>l=a) b).setCell (p:=(J a k)) (λ_=>rfl) o).row c (λ_ i g=>Ah c i h j g)
def Kq.a{h d b a}(f:Kq h d b a):∃c e,b=.slice c a.length e:=by
 rcases f.2 with⟨rfl,g⟩|⟨k,j,i,rfl,_⟩
 exact⟨none,0,by rw[g]⟩;exact⟨_,_,rfl⟩
def Zk:∀(c:List VS) (b:Nat),b<c.length->∀a,a<3->(Ku c)[b*3+a]? =(Iy (c.getD b Aw))[a]?
 |[],b,d=>by simp at d
 |f::c,0,_=>λa e=>by simp only[Ku];rw[show 0*3+a=a by omega,getElem?_append_left (by simpa [Iy] using e)];rfl
 |f::c,b+1,d=>λa e=>by simp only[Ku];rw[getElem?_append_right (by simp[Iy];omega),show(b+1)*3+a-(Iy f).length=b*3+a by simp[Iy];omega];exact Zk c b (by simpa using d) a e
def Kq.at{c j f q l b}(h:Kq c j (V f q l) b){k}(o:k<b.length):∃a,f=some ⟨a,0,none⟩/\a<c.1.size/\c.cell? (J a (k*3))=some (.bool (b.getD k Aw).a)/\c.cell? (J a (k*3+1))=some (I (b.getD k Aw).num)/\c.cell? (J a (k*3+2))=some (Q_ (b.getD k Aw).g):=by
 have i:=h
 rcases h.2 with⟨g,t⟩|⟨a,u,s,g,_⟩
 omega;injection g with e1 e2 e3;subst e1 e2 e3
 have e:=λd r n p=>by have:=World.ownsRow.cells i (g:=a) rfl (k*3+d) r ((Zk b k o d n).T p);have m:((J a 0):Addr).add (k*3+d)=(J a (k*3+d)):=(by unfold Addr.add;split<;>simp_all);rw[m] at this;exact this
 exact⟨a,rfl,(B_ i a rfl).2,e 0 _ O rfl,e 1 _ O rfl,e 2 _ O rfl⟩
def Kq.E{c a b L x}(d:c.ownsRow a 308 3 b (L.length+1) (Ku L++Iy x)):Kq c a b (L++[x]):=by
 unfold Kq;rw[Wz,Qe]
 simpa [Ku] using d
def Sd(a:RS)(c:Nat):RS:={a with k:=a.k++[a.h],a:=λb=>if b<c then a.a b++[a.row.getD b Aw] else a.a b}
def ZcL a:Sd a 0={a with k:=a.k++[a.h]}:=by unfold Sd;have:(λb=>if b<0 then a.a b++[a.row.getD b Aw] else a.a b)=a.a:=(by funext b;rw[aC O]);rw[this]
def ZcK b a:{Sd b a with a:=upd (Sd b a).a a (b.a a++[b.row.getD a Aw])}=Sd b (a+1):=by
 unfold Sd
 have:upd (λc=>if c<a then b.a c++[b.row.getD c Aw] else b.a c) a (b.a a++[b.row.getD a Aw])=λc=>if c<a+1 then b.a c++[b.row.getD c Aw] else b.a c:=by
  funext c
  by_cases e:c=a
  subst e;rw[Pe,aD O];rw[Qs _ _ e]
  by_cases d:c<a
  rw[aD d,aD O];rw[aC d,aC O]
 simp only[this]
def Zm3{h:World}{e d c i}(m:∃b:Array Value,h.1[e]? =some (O_ b 251)/\b.size=d/\∀a,a<d->b[a]? =some (i a))(p:c<d) g:∃b:Array Value,(h.setCell (J e c) g).1[e]? =some (O_ b 251)/\b.size=d/\∀a,a<d->b[a]? =some (upd i c g a):=by
 obtain⟨b,j,k,l⟩:=m;refine⟨_,hs_ h _ c _ _ g j,by simp[k],λa n=>?_⟩
 by_cases f:a=c
 subst f;rw[Array.getElem?_setIfInBounds_self_of_lt O,Pe];rw[aH (λo=>f o.s),Qs _ _ f];exact l a n
def Ziw b a:(Sd b a).a a=b.a a:=by unfold Sd;simp
section
variable {w:World} {K M:Nat->Prop} {rb fb cb n:Nat} {wd:Nat->Bool} {sc ct:Nat->Int} {bins size:Int} {s:RS} {c d a:Value} {b:Nat->Value}
def ZcT(E:Qx w K M rb fb cb n wd sc ct bins size s c d a b)(b8:s.row.length=n)(d4:n<=4)(d6:s.k.length<=200)(b7:∀q,q<n->(s.a q).length<=200):C_ 222 #[P_ rb] w λh w'=>h=.returned (.tuple #[])/\ZfG w K M rb fb cb n wd sc ct bins size {s with k:=s.k++[s.h],a:=λq=>if q<n then s.a q++[s.row.getD q Aw] else s.a q,h:=0,A:=false,row:=[]} w':=by
 obtain⟨W,X,a1⟩:=E.or.a;rw[b8] at a1;subst a1;obtain⟨_,a9,c6,b0,c7,c8⟩:=E.v.head;have u:=Y E;refine v_ ?_;go_upto_region 0 with fail;refine Af (λw'=>w'.cell? _=some _/\w'.cell? _=some _) 15 k_ ⟨a9,b0⟩ (λhHeld=>?_);refine K_ ?_;refine on_ 10 λKK hK=>?_;go_simp;refine hK _ _ ⟨by go_keep,by go_keep⟩ (λhHeld=>?_);try simp only[Act.put,sA,sB,sC]
 refine on_ 11 λKK hK=>?_;refine aq_ [I s.h] (ra_ (Y E.x) _) ?_;intro e0 G b3;obtain⟨Q,o,P,_,l,j,rfl⟩:=b3;have x:=RB.grown (w:=w.drew.alloc _) ((hb_ w _ _ u.v.lt).T u.v) o (λh=>Ah u.x h.s u.v C rfl);have d0:=x.part.2.2.2.2.2.2;have r:=Y (u.l (w':=G.setCell _ _) (vW':=V _ _ _) (ws':=s.k++[s.h]) (wt:=s.h) (fl:=s.A) (tg o _) (x.k _) (Ad.E (Xx Q x C)) (Zfl P));refine hK _ _ ⟨x.head.2.1,x.head.2.2.2.1⟩ (λhHeld=>?_);refine K_ ?_;refine le_ ?_
 have A:Hid (Qx (G.setCell (J rb 1) (L_ l (s.k.length+1) j)) K (λk=>M k∨(L_ l (s.k.length+1) j).ownBlock=some k) rb fb cb n wd sc ct bins size (Sd s 0) (L_ l (s.k.length+1) j) (V W n X) a b/\(∀k,(M k∨(L_ l (s.k.length+1) j).ownBlock=some k)->M k∨w.1.size<=k)/\Aa M w (G.setCell (J rb 1) (L_ l (s.k.length+1) j))):=(by rw[ZcL];exact r);have c9:=A.1.v.head.2.2.2.2.2;generalize G.setCell (J rb 1) (L_ l (s.k.length+1) j)=e2 at *;have D:∃H:_,H=(λk=>M k∨(L_ l (s.k.length+1) j).ownBlock=some k):=⟨_,rfl⟩;obtain⟨H,D⟩:=D;rw[<- D] at A;generalize L_ l (s.k.length+1) j=c3 at *;go_wp2_with fail
 go_loopw [24] (λf e=>∃(k:Nat) (g:Nat->Value) (L:Nat->Prop),k<=n/\f=I k/\Hid (Qx e K L rb fb cb n wd sc ct bins size (Sd s k) c3 (V W n X) a g)/\Hid ((∀k,L k->M k∨w.1.size<=k)/\Aa M w e)) (m1_ n)
 exact⟨0,b,H,r_,rfl,A.1,(D ▸ A.2)⟩;obtain⟨k,T,L,d3,rfl,g,m⟩:=hrel
 by_cases i:k<n
 ·obtain⟨d8,rfl,d5,c0,c1,c2⟩:=g.or.at (k:=k) (by show k<s.row.length;omega);have a7:Hid ((Sd s k).row.getD k Aw=s.row.getD k _):=rfl;rw[a7] at c0 c1 c2;generalize b9:s.row.getD k Aw=e at *;go_upto_region 4 with fail;have a0:Below _ wr (wr.alloc (O_ #[.bool e.a,I e.num,Q_ e.g] 308)):=q_;have f:=Y (g.p (Aa.a (S:=λ_=>False) a0) (λ_ _=>id));have U:=Y (m.2.below a0);have a6:Hid ((T k).ownBlock≠some wr.1.size):=λh=>p_ (B_ (g.y k i) _ h).2
  have a8:Hid (wr.1.size<(wr.alloc (O_ #[.bool e.a,I e.num,Q_ e.g] 308)).1.size):=show _<_ by simp
  have a3:(wr.alloc (O_ #[_,I e.num,Q_ e.g] 308)).cell? _=some (.bool e.a):=G_ 0 _ _ _ hn_;have a4:(wr.alloc (O_ #[.bool e.a,_,Q_ e.g] 308)).cell? _=some (I e.num):=G_ 1 _ _ _ hn_;have a5:(wr.alloc (O_ #[.bool e.a,I e.num,_] 308)).cell? _=some (Q_ e.g):=G_ 2 _ _ _ hn_;have d2:=b7 k i;generalize wr.alloc (O_ #[.bool e.a,I e.num,Q_ e.g] 308)=y at *;have c4:=f.v.head.2.2.1;have c5:y.cell? (J cb k)=some (T k):=by obtain⟨t,v,_,z⟩:=f.u;exact(G_ k _ _ _ v).T (z k i)
  refine Af (λw'=>w'.cell? _=some _/\w'.cell? _=some _/\w'.cell? _=some _/\w'.cell? _=some _/\w'.cell? _=some _) 18 k_ ⟨c4,c5,a3,a4,a5⟩ (λhHeld=>?_);refine K_ ?_;refine on_ 15 λKK hK=>?_;go_simp;refine hK _ _ ⟨by go_keep,by go_keep,by go_keep,by go_keep,by go_keep⟩ (λhHeld=>?_);try simp only[Act.put,sA,sB,sC]
  refine on_ 16 λKK hK=>?_;refine aq_ (Iy e) (ra_ (by have:=f.y k i;rw[Ziw] at this;exact this) _) ?_ (h1:=by simp[Iy,oneCell']);intro e1 a2 b4;obtain⟨Q,o,P,_,d9,d7,rfl⟩:=b4;have b6:∃t:Array Value,a2.1[cb]? =some (O_ t 251)/\t.size=n/\∀S,S<n->t[S]? =some (T S):=by obtain⟨t,v,B,z⟩:=f.u;refine⟨t,?_,B,z⟩;rw[o.block cb (by simp;have:=f.M cb f.G;omega) (λh=>Ah (f.y k i) h.s v C rfl)];exact(hc_ (f.M _ f.G)).T v
  obtain⟨b2,B,b1,Z⟩:=b6;have d1:=λF=>R_ F _ _ B;have b5:=a8.out;have N:=λF=>(cb_ (w:=y.drew.alloc _) (a:=(J wr.1.size F)) (o.block _ t_ (λh=>a6 h.s))).T (Below.cell (B:=y.1.size) (w:=y) (p:=(J wr.1.size F)) ((y_.drew).alloc s_ _) b5);have r:=Y (f.j (w':=a2.setCell _ _) (v':=V _ _ _) (col':=s.a k++[e]) i (tg o _) (Zm3 ⟨b2,B,b1,Z⟩ i _) (Kq.E (Xx Q B C)) (Zfl P));rw[<- b9,ZcK] at r;refine hK _ _ ⟨((RB.grown (w:=y.drew.alloc _) ((hc_ f.v.lt).T f.v) o (λh=>Ah (f.y k i) h.s f.v C rfl)).head.2.2.1),((G_ k _ _ _ B).T (Z k i)),(N _).T a3,(N _).T a4,(N _).T a5⟩ (λhHeld=>?_);refine K_ ?_;refine le_ ?_;refine J_ ?_
  exact⟨k+1,_,_,O,g_,r.1,λz R=>(by rcases r.out.2.1 z R with v|v;exact m.1 z v;exact .inr (p_ U.size)),U.c r.2.2 m.1⟩
 obtain rfl:k=n:=O;have f:=g.v.head;have y:=g.v.part.2.2.2.2.2.2;obtain⟨_,_,_,f,h,t⟩:=f
 have e:=Y (g.putRow (w':=((wr.setCell _ _).setCell _ _).setCell _ _) (vr':=N_) (row':=[]) (p:=s.p) (bs:=s.g) (wv':=a) (wt:=0) (fl:=false)
  ((((Aa.refl _ wr).setCell (p:=(J rb 3)) (λ_=>.inl rfl) _).setCell (p:=(J rb 4)) (λ_=>.inl rfl) _).setCell (p:=(J rb 5)) (λ_=>.inl rfl) _)
  (((g.v.i 0).j false).h _) (Kq.nil _ _) (.inr (.inl rfl))
  (Xx (Xx (Xx g.w g.v C) (g.v.i 0) C) ((g.v.i 0).j false) C) (.inr rfl))
 go_wp2;go_end0;refine⟨rfl,⟨_,⟨_,_,_,_,e.1⟩,λz R=>?_⟩,m.2.c e.2.2 m.1⟩
 rcases e.out.2.1 z R with v|v
 exact m.1 z v;exact .inr (p_ m.2.size)
end
def Fp(b:List Cm)(c:Int)(a:Nat):List Cm:=replicate a (Lp c)++b.drop a
def dc a c {b}(d:b<=a.length):(Fp a c b).length=a.length:=by simp[Fp];omega
def ZcY b c {a}(d:a<b.length):Fp b c a=replicate a (Lp c)++b.getD a e0::b.drop (a+1):=by unfold Fp;grind [drop_eq_getElem_cons]
def vk c b a:Fp c b (a+1)=replicate a (Lp b)++⟨b,0,0,0⟩::c.drop (a+1):=by unfold Fp;rw[replicate_succ'];simp[Lp]
def mi{f:World}{c d j i a h:Nat}{l k m}(e:f.ownsRow c d j l i m)(n:a<c):=
 ((Aa.refl (λb=>b=a) f).setCell (p:=(J a h)) (λ_=>rfl) k).row e (λb g d=>p_ (B_ e b g).1)
def Zf7{a b}{x:Cm}{d}(e:a.length=d) c:(flat (a++x::b)).set (d*4) (I c)=flat (a++⟨c,x.y,x.g,x.h⟩::b):=by have:=Xa (B:=b) (x:=x) e (show 0<4 by omega) (I c);rw[Nat.add_zero] at this;rw[this,Cq];rfl
def ZjJ{i:World}{f b h a:Nat}{e j}(g:i.ownsRow f b h e a j)(m:0<a):∃d c,e=L_ d a c:=by
 rcases g.2 with⟨_,l⟩|⟨d,c,k,b,_⟩
 omega
 grind
def fm j k b l m f (c:Ee f j b)(d:Ee f k b):C_ 173 #[V j b.length l,V k b.length m] f (U_ (.bool true) f):=by
 have A:=c.1;have⟨h,i⟩:=Z_ c d;clear c d;refine v_ ?_;go_wp2_with fail
 go_loopw [5] (λe g=>∃a:Nat,a<=b.length/\e=I a/\E_ f g) (m1_ b.length)
 exact⟨0,r_,rfl,y_⟩;obtain⟨a,z,rfl,g⟩:=hrel
 by_cases e:a<b.length
 ·rcases h.out.below g with⟨_,n|⟨s,B,rfl,c⟩⟩;omega;rcases i.out.below g with⟨_,n|⟨t,D,rfl,d⟩⟩;omega;have o:=c.v a e;have p:=c.y a e;have q:=c.g a e;have r:=c.h a e;have v:=d.v a e;have w:=d.y a e;have x:=d.g a e;have y:=d.h a e;clear c d h i;generalize b.getD a e0=E at *;have u:=F_ a b.length;go_wp2_with fail
  go_big_quiet (fail);refine J_ ?_;exact⟨a+1,O,g_,by grind [below_drewN]⟩
 have n:¬a<(b.length:Int):=O;go_wp2;go_ret;exact⟨rfl,g⟩
end Go.Proofs.YtfcgnpchbcmdeaaGreat
