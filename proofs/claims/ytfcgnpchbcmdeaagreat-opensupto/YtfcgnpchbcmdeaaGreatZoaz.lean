import Derived.Test.YtfcgnpchbcmdeaaGreatZoaw
import Derived.Test.YtfcgnpchbcmdeaaGreatZoba
namespace Go.Proofs.YtfcgnpchbcmdeaaGreat
set_option linter.all false
set_option maxRecDepth 100000
set_option maxHeartbeats 8000000
open Go.RowKit List Nat World Go.Proofs.Tryz Value IntKind Lib Region
def pg(h:World)(e d f c:Nat)(i j k:Int)(a:ByteArray)(l g:Int)(b:Bool):Prop:=h.1[e]? =some (O_ #[L_ d f c,I i,I j,I k,Q_ a,I l,I g,.bool b] 278)
def pg.cells{b a g h f j k l d m i e}(c:pg b a g h f j k l d m i e):(b.cell? (J a 0)=some (L_ g h f)/\b.cell? (J a 1)=some (I j)/\b.cell? (J a 2)=some (I k)/\b.cell? (J a 3)=some (I l)/\b.cell? (J a 4)=some (Q_ d))/\b.cell? (J a 5)=some (I m)/\b.cell? (J a 6)=some (I i)/\b.cell? (J a 7)=some (.bool e):=
 ⟨⟨G_ 0 _ 278 (0,0) c,G_ 1 _ 278 (0,0) c,G_ 2 _ 278 (0,0) c,G_ 3 _ 278 (0,0) c,G_ 4 _ 278 (0,0) c⟩,G_ 5 _ 278 (0,0) c,G_ 6 _ 278 (0,0) c,G_ 7 _ 278 (0,0) c⟩
def xt b f h e j k l m i c d a (g:pg a b f h e j k l c m i true):C_ 125 #[P_ b,Q_ d] a (V_ (.tuple #[.int .i64 1,.int .i64 0]) a):=by
 have n:=g.cells.2.2.2;refine v_ ?_;go_wp2;go_ret2
 exact⟨rfl,rfl⟩
def Zbm c i m h o p q b d e f a (j:pg a c i m h o p q e b d false)(k:b≠0):C_ 125 #[P_ c,Q_ f] a λg n=>g=.returned (.tuple #[.int .i64 b,.int .i64 d])/\∃l,n=a.drewN l:=by
 have⟨_,g,l,n⟩:=j.cells;have r:=bne_iff_ne.2 k;refine v_ ?_;go_upto_region 4 with fail;go_quiet (fail);go_wp2;go_ret2
 exact⟨rfl,_,rfl⟩
def fdA(b:ByteArray)(a:List (Int×List VS)×Nat×Int):Int×Int:=if a.2.2≠0/\a.2.1<b.size then(a.2.2,a.2.1) else(0,0)
def RfP(i:World)(b f g e:Nat)(j k l:Int)(d:ByteArray)(a:Int×Int)(c:World):Prop:=pg c b f g e j k l d a.1 a.2 false/\Aa (λh=>h=b) i c
def ZgO a h b y E F G d e p m b7 k (l:pg k a h b y E F G d 0 0 false)(u:Dq k h 0 b p m b7)(X:h≠a)(N:h<k.1.size)(c3:b<=4)(c4:∀i,i<b->0<=m i/\(p i=false->m i<=3))(W:(d++e).size<=1000000000000000):C_ 125 #[P_ a,Q_ e] k λL f=>L=.returned (.tuple #[.int .i64 (fdA (d++e) (Kk (d++e) b p m ((d++e).size+1) [] 0)).1,.int .i64 (fdA (d++e) (Kk (d++e) b p m ((d++e).size+1) [] 0)).2])/\RfP k a h b y E F G (d++e) (fdA (d++e) (Kk (d++e) b p m ((d++e).size+1) [] 0)) f:=by
 have⟨⟨_,_,_,_,R⟩,q,n,b6⟩:=l.cells;have b8:=R_ 4 _ _ l;have d2:d.size+(e.size:Int)<=1000000000000000:=w_;have⟨g,T⟩:=M_ (d++e);rw[<- T] at W ⊢;have⟨a0,P⟩:=M_ (k.setCell (J a 4) (Q_ g));have o:Aa (λj=>j=a) k a0:=P ▸ ((Aa.refl (λj=>j=a) k).setCell (p:=(J a 4)) (λ_=>rfl) _);have s:pg a0 a h b y E F G g 0 0 false:=P ▸ (ht_ 4 _ _ _ l);have a4:Dq _ _ 0 b p m _:=⟨u.le,λc0=>Qh (u.lt c0) o.size,λi z=>by rw[<- u.v i z];simp[cell?,o.block h N X],λi z=>by rw[<- u.z i z];simp[cell?,o.block h N X],λi z=>by rw[<- u.q i z];simp[cell?,o.block h N X]⟩;have c2:=Qh N o.size;have b5:=Y (λf c=>tq b _ y g E F G _ _ _ f (a4.below c) (Qh c2 c.size) c3 c4 W)
 generalize Kk g b p m (g.size+1) [] 0=c at *;have Q:=T_ P T;have w:=T_ s o;clear l u a4 P T s o W;refine v_ ?_;go_upto_region 6 with fail;rw[<- Q.2,<- Q.1];clear Q R q n b6 b8;have a6:=w.1.cells.1;refine Af (λf=>f.cell? _=some _/\f.cell? _=some _/\f.cell? _=some _/\f.cell? _=some _/\f.cell? _=some _) 9 k_ a6 (λhHeld=>?_);refine K_ ?_;refine on_ 8 λKK hK=>?_;go_simp;apply (b5 _ y_.drew).m;rintro L c8 ⟨b2,c7,c9,rfl,d1,a8,_,_,_,a5⟩;have U:Below a0.1.size _ _:=y_.drew.T a5;have t:pg _ _ _ b _ _ _ _ g 0 0 _:=(U.block _ (Qb w.1).1).T w.1;have a9:=w.2.below U;have f:=x3_ a8 t a9;have c1:=t.cells.1;clear a8 t a9 a5 U w a6;go_simp;refine hK _ _ c1 (λhHeld=>?_);clear hK KK
 try simp only[Act.put,setIfInBounds_toArray,set_cons_succ,set_cons_zero]
 refine le_ ?_;have⟨_,x,r,_⟩:=f.1.cells;have⟨⟨_,_,_,_,R⟩,q,n,_⟩:=f.2.1.cells;have S:=R_ 5 _ _ f.2.1
 by_cases B:c.2.2=0
 ·have v:K (fdA g c=_):=aC (λl=>l.1 B);have c6:(c.2.2 !=0)=false:=(by rw[B];rfl);rw[B] at r;go_upto_region 7 with fail;go_quiet (fail);go_upto_region 10 with fail;go_quiet (fail);go_wp2;go_ret2
  rw[v];exact⟨rfl,f.2.1,(f.2.2.drewN _).drewN _⟩
 have c6:=bne_iff_ne.2 B
 by_cases a7:c.2.1<g.size
 ·have v:K (fdA g c=_):=aD ⟨B,a7⟩
  have c5:b2≠_:=λL=>by have s:=f.1;have t:=f.2.1;unfold Fi at s;unfold pg at t;rw[L,t] at s;simp at s
  go_upto_region 7 with fail;go_quiet (fail);have⟨D,A⟩:=M_ (c8.drewN nq);have M:pg D a h b y E F G g 0 0 false:=A ▸ f.2.1;have a1:Fi D b2 g c.2.1 c.2.2 c7:=A ▸ (f.1.drew _);have b0:Aa (λj=>j=a) k D:=A ▸ (f.2.2.drewN _);rw[<- A];clear x r R q n S f A;have⟨_,x,r,_⟩:=a1.cells;have⟨_,q,n,_⟩:=M.cells;have S:=R_ 5 _ _ M;have H:=ht_ 5 _ _ (I c.2.2) M;have Z:Aa _ _ (D.setCell _ (I c.2.2)):=(Aa.refl (λj=>j=a) _).setCell (p:=(J a 5)) (λ_=>rfl) _;have b4:=a1.p Z c5;go_upto_region 9 with fail;generalize D.setCell (J a 5) (I c.2.2)=b3 at *;clear x r q n S;have⟨_,x,r,_⟩:=b4.cells;have n:=n_ 6 H;have b9:=R_ 6 _ _ H;have a3:=ht_ 6 _ _ (I ((c.2.1:Nat):Int)) H
  have b1:Aa _ _ (b3.setCell _ (I ((c.2.1:_):_))):=(Aa.refl (λj=>j=a) _).setCell (p:=(J a 6)) (λ_=>rfl) _;go_upto_region 10 with fail;generalize b3.setCell (J a 6) (I ((c.2.1:Nat):Int))=d3 at *;have j:pg _ _ _ b _ _ _ _ g _ _ _:=a3;have⟨_,q,d0,_⟩:=j.cells;have a2:=T_ j ((b0.T Z).T b1);clear x r n b9 H a3 b0 Z b1 a1 b4 M j;go_quiet (fail);go_wp2;go_ret2
  rw[v];exact⟨rfl,a2.1,a2.2.drewN _⟩
 have v:K (fdA g c=_):=aC (λl=>a7 l.2);go_upto_region 7 with fail;go_quiet (fail);go_upto_region 10 with fail;go_quiet (fail);go_wp2;go_ret2
 rw[v];exact⟨rfl,f.2.1,(f.2.2.drewN _).drewN _⟩
def ZcU a d f e (i:1<=d):fdA a (Kk a d f e (a.size+1) [] 0)=Pq (Bt d f e RS.start (Ab a) 0):=by
 rcases ZbA (S:=a) (wd:=f) (sc:=e) i with⟨j,b,_,c,_,_⟩|⟨j,b,_,c,k⟩|⟨b,h,c⟩
 rw[b];exact aC (λg=>g.1 c);rw[b];exact aC (λg=>O);rw[b];exact aD ⟨h,c⟩
structure Up(c)(e:Nat->Bool)(sc ct:Nat->Int)(b:Int)(d f:Nat):Prop where
 j:c+1<=4
 sc:∀a,a<c+1->0<=sc a/\(e a=false->sc a<=3)
 ct:∀a,a<c+1->e a=true->1<=ct a
 g:2<=b
 i:b<=16
 v:b<=d
 h:d<=32
 r:f<=20
def Dc(d e:World)(b:Nat->Nat)(c:Nat)(a:Nat):Nat:=if a<d.1.size then b a else if a<e.1.size then c else 99
def Ez b e a d:Em b a (Dc b e a d):=λf c=>.inr (by unfold Dc;rw[aD c])
def Mh{c d e b a}(f:c.1.size<=a)(g:a<d.1.size):Dc c d e b a=b:=by unfold Dc;grind
theorem Eb{c f b e a}(d:a<c.1.size):Dc c f b e a=b a:=by unfold Dc;rw[aD d]
def InX.u{s t K c e g o l j n u q k h r i p m S}(b:InX s K c e g o l j n u q k h r i p m)(f:Aa S s t)(d:∀a,K a∨c a∨a=e∨a=g->¬S a):InX t K c e g o l j n u q k h r i p m:=
 ⟨f.g b.q (d _ (.inr (.inr (.inl rfl)))),f.g b.r (d _ (.inr (.inr (.inr rfl)))),b.v.p f (λa w=>d a (w.elim .inl (λv=>.inr (.inl v)))),b.w,b.x⟩
section
variable {w w':World} {o e:Nat->Nat} {t d yb g f m:Nat} {wd:Nat->Bool} {sc ct:Nat->Int} {bins:Int} {size budget:Nat} {a b:ByteArray} {c:Bool}
def Ny(m:Nat)(wd:Nat->Bool)(sc:Nat->Int)(a:ByteArray):Except (Int×Nat) RS:=Bt (m+1) wd sc RS.start (Ab a) 0
def Qy(w:World)(o:Nat->Nat)(t d m:Nat)(wd:Nat->Bool)(sc ct:Nat->Int)(bins:Int)(size budget:Nat)(a:ByteArray)(c:Bool):Prop:=
 o d=t/\d<w.1.size/\((c=true/\∃f e,Uq w d true f e)∨(c=false/\∃f e,Ny m wd sc a=.error (f,e)/\Uq w d false f e)∨
 (c=false/\∃h K g i l k j,Ny m wd sc a=.ok h/\InX w K g d i l k j (m+1) wd sc ct bins size budget h a.size/\(∀b,K b∨g b->b<w.1.size/\o b=t)/\o i=t))
def Qy.u{S}(A:Qy w o t d m wd sc ct bins size budget a c)(i:Aa S w w')(u:∀b,b<w.1.size->S b->o b≠t)(D:Em w o e)(M:t≠99):Qy w' e t d m wd sc ct bins size budget a c:=by
 obtain⟨l,j,B⟩:=A
 have n:∀b,b<w.1.size->o b=t->e b=t:=λb h f=>by
  rcases D b h with g|g
  omega;omega
 refine⟨n _ j l,Qh j i.size,?_⟩
 rcases B with⟨f,s,r,p⟩|⟨f,s,r,q,p⟩|⟨f,H,K,x,L,G,z,y,q,v,h,E⟩
 exact .inl ⟨f,s,r,i.g p (λg=>u _ j g l)⟩;exact .inr (.inl ⟨f,s,r,q,i.g p (λg=>u _ j g l)⟩);have F:=(Qb v.r).1;refine .inr (.inr ⟨f,H,K,x,L,G,z,y,q,v.u i (λb k g=>?_),λb k=>⟨Qh (h b k).1 i.size,n b (h b k).1 (h b k).2⟩,n _ F E⟩)
 grind
def Zh(m:Nat)(wd:Nat->Bool)(sc:Nat->Int)(a b:ByteArray)(c:Bool):ByteArray:=if c=true then a else match Ny m wd sc a with
 |.error _=>a
 |.ok _=>a++b
def yu(m:Nat)(wd:Nat->Bool)(sc:Nat->Int)(a:ByteArray)(c:Bool):Int×Int:=if c=true then(1,0) else Pq (Ny m wd sc a)
theorem ZcD a b:Ab (a++b)=Ab a++Ab b:=by unfold Ab;rw[ByteArray.data_append];simp
def feedX(q:Up m wd sc ct bins size budget)(y:Qy w o t d m wd sc ct bins size budget a c)(D:t≠99)(a7:a.size+b.size<=200000000000000):C_ 32 #[P_ d,Q_ b] w λe w'=>e=.returned (.tuple #[.int .i64 (yu m wd sc (Zh m wd sc a b c) c).1,.int .i64 (yu m wd sc (Zh m wd sc a b c) c).2])/\Qy w' (Dc w w' o t) t d m wd sc ct bins size budget (Zh m wd sc a b c) c/\Aa (λg=>o g=t) w w':=by
 have z:=y;obtain⟨A,B,Q⟩:=y;have H:∀v,_->_->_/\_:=λv E a1=>⟨(q.sc v E).1,(q.sc v E).2 a1⟩;have W:=q.j
 rcases Q with⟨e,k,j,s⟩|⟨e,k,j,i,s⟩|⟨e,x,K,a5,a4,a2,P,N,i,L,F,X⟩
 subst e;apply (Zaq b _ k j w s).m;rintro e w' ⟨rfl,rfl⟩;have l:Zh m wd sc a b true=a:=rfl;rw[l];exact⟨rfl,z.u (S:=λ_=>False) (Aa.refl _ _) (λ_ _ e=>e.elim) (Ez _ _ _ _) D,Aa.refl _ _⟩;subst e;have g:=Mz _ _ _ i;apply (ZcV b _ k j w s g).m;rintro e w' ⟨rfl,h,rfl⟩;have l:Zh m wd sc a b false=a:=(by unfold Zh;rw[i];rfl);have p:yu m wd sc a false=(k,(j:Int)):=(by unfold yu;rw[i];rfl);have f:E_ w _:=below_drewN y_ h;rw[l,p];exact⟨rfl,z.u (S:=λ_=>False) (.a f) (λ_ _ e=>e.elim) (Ez _ _ _ _) D,.a f⟩
 subst e;have l:Zh m wd sc a b false=a++b:=by unfold Zh;rw[i];rfl
 have r:Ny m wd sc (a++b)=Bt (m+1) wd sc x (Ab b) a.size:=(by grind [Ny,ZcD,Kl,Cf]);have p:yu m wd sc (a++b) false=Pq (Bt (m+1) wd sc x (Ab b) a.size):=(by unfold yu;rw[r];rfl);rw[l,p];apply (ZiM b L (Is.a O H _ (Is.start O) i) O W H O).m;rintro e w' ⟨rfl,n,u⟩;have a0:=(Qb L.r).1
 have Z:=u.m (λg _ h=>by
  rcases h with f|f|f
  exact(F g (.inr f)).2;subst f;exact A
  grind)
 refine⟨rfl,⟨(Eb B).T A,Qh B u.size,?_⟩,Z⟩
 cases h:Bt (m+1) wd sc x (Ab b) a.size with
 | error f=>
  obtain⟨k,j⟩:=f;rw[h] at n;exact .inr (.inl ⟨rfl,k,j,by rw[r,h],n⟩)
 | ok a3=>
  rw[h] at n;obtain⟨M,T,a6⟩:=n;have a8:(a++b).size=_:=ByteArray.size_append;refine .inr (.inr ⟨rfl,a3,K,M,a4,a2,P,N,by rw[r,h],w_,λg U=>?_,(Eb a0).T X⟩)
  have G:g<w'.1.size:=by
   have⟨a9,b1,b2,b0,R⟩:=T.v
   rcases U with f|f
   exact Qh (F g (.inl f)).1 u.size;exact R.M g f
  refine⟨G,?_⟩
  by_cases R:g<w.1.size
  ·grind [Eb]
  exact Mh O G
end
def eb{c e a d}(f:e=min (a+d) c){b:List Int}(g:b.length=c):(b.drop a).take (e-a)=(b.drop a).take d:=by grind [take_of_length_le]
def Zbs e9 f2 (d T U a:Nat) j f o (a6:Cn o e9 d j)(c6:Cn o f2 d f)(k6:d<=1000)(j7:d<=T)(j8:d<=U)(e3:2<=a)(h7:a<=32):C_ 289 #[V e9 d T,V f2 d U,I a] o λr p=>∃n,r=.returned n/\Am p o.1.size n (Ds a j f)/\E_ o p:=by
 have⟨d3,d4⟩:=Z_ a6 c6;have b1:=T_ a6.1 c6.1;have f8:K (Ds a j f=skF a [] (skB a d [] j f)):=(by show _=_;rw[<- Zg8 e3 j f (by rw[a6.1,c6.1]),a6.1]);rw[f8];refine v_ ?_;go_wp2_with fail
 go_loopw [7,8] (λh e g=>∃(b D:Nat) (c:List Ho),e=.int .i64 b/\b<=d+a/\K (fz g o.1.size h c/\Wh b c/\Av (c.map Ho.L)<=1000*(b:Int)/\c.length<=b/\d-b<=D/\skB a D (c.map Ho.o).reverse (j.drop b) (f.drop b)=skB a d [] j f)/\E_ o g) (λ_ e _=>d+a-(intOf e).toNat)
 exact⟨0,d,[],rfl,r_,⟨fz.nil _ _,Wh.nil _,by simp[Av],s_,O,rfl⟩,y_⟩;obtain⟨b,D,c,rfl,j9,A,b8⟩:=hrel;have c3:=b8.size
 by_cases k0:b<d
 ·rcases d3.out with⟨_,_,g8|⟨g2,i4,rfl,h2,_⟩⟩;omega;rcases d4.out with⟨_,_,g8|⟨g3,i5,rfl,F,_⟩⟩;omega;have⟨s,a5⟩:=M_ (min (b+a) d);go_upto_if 27 with fail
  go_cut [9] (λn e=>n=.int .i64 s/\e=wr)
  case first=>
   by_cases R:b+a<=d
   ·have H:s=b+a:=O;have e:¬d<b+(a:Int):=O;subst H;go_wp2;go_meet
    exact⟨g_,rfl⟩
   have H:s=d:=O;clear a5;subst H;go_wp2;go_meet
   exact⟨rfl,rfl⟩
  obtain⟨rfl,h9⟩:=hcut;obtain rfl:=h9.s;have k3:b<=(s:Int):=O;have k4:s<=(T:Int):=O;have k5:s<=(U:Int):=O;have k7:¬T=b:=O;have k8:¬U=b:=O
  have g9:K (∀e:World,E_ o e->C_ 115 #[V (some (J g2 (i4+b))) (s-b) (T-b),V (some (J g3 (i5+b))) (s-b) (U-b)] e λr p=>∃n,r=.returned n/\Am p e.1.size n (Kh ((j.drop b).take a) ((f.drop b).take a))/\E_ e p):=by intro e g;have h:=(Tq d3 g h2).part (fr:=b) (m:=s-b) O;have k:=(Tq d4 g F).part (fr:=b) (m:=s-b) O;rw[eb a5 b1.1] at h;rw[eb a5 b1.2] at k;apply (Sv _ _ _ _ _ _ _ _ e h k O O).m;rintro r p ⟨n,M,rfl,l,q,m⟩;refine⟨n,rfl,?_,m⟩;unfold Kh;rw[ZbS l];exact q
  have⟨E,a4,e5,e1,d8,t⟩:=A.out;have h4:((j.drop b).take a).length<=a:=t_;have e4:=ic (vs:=(j.drop b).take a) (ws:=(f.drop b).take a) O;obtain⟨L,d7⟩:∃L,D=L+1:=⟨D-1,O⟩;have⟨a0,P⟩:=M_ (skT a 0 (Kh ((j.drop b).take a) ((f.drop b).take a)) (c.map Ho.o).reverse);have d1:K (skB a L a0 (j.drop (b+a)) (f.drop (b+a))=skB a d [] j f/\d-(b+a)<=L):=by refine⟨?_,O⟩;rw[<- t,d7,P];simp only[skB];rw[aC t_,drop_drop,drop_drop]
  have⟨e8,c4⟩:=Y_ (Av (c.map Ho.L)+Ae (Kh ((j.drop b).take a) ((f.drop b).take a)));have j6:e8<=1000*(b+a:Nat):=O;have f9:K (SkI _ _ a0 _ c _ 0 _):=⟨a4,λ_ _=>r_,e4.1,O,c4,x_,.inl ⟨rfl,P⟩,O⟩;obtain⟨Q,R,rfl⟩:=E.shape;have d2:=Y E;clear E a4 e5 d8 t h4 e4 c4 d7 P A a5;generalize Kh ((j.drop b).take a) ((f.drop b).take a)=e7 at *;go_upto_region 8 with fail;go_cut [10] (λn e=>∃x y,n=.pointer (some ⟨x,0,none⟩)/\wr.1.size<=x/\K (LvB e x 0 y/\Am e wr.1.size y e7/\E_ wr e))
  case first=>
   go_region_held3 (λ_=>True) (trivial) (first|(go_at_call 115;refine(g9.out _ (by repeat(first|assumption|with_reducible apply Below.drew|(refine Below.alloc ?_ O _)))).m ?_;rintro r f0 ⟨y,rfl,g,e⟩;obtain⟨k,l,rfl⟩:=g.shape;(try(have b4:LvB _ _ 0 _:=(e.block _ s_).T hn_;obtain⟨f3,f4,i9,j0,_⟩:=b4.cells))))
   all_goals go_wp2
   all_goals go_meet
   exact⟨_,_,rfl,by have:=e.size;simpa using this,hn_,g.alloc _,(y_.drew.T e).alloc (by have:=e.size;simpa using this) _⟩;have h:=e.size;simp at h;refine⟨_,_,rfl,x_,b4.fill (M:=0),b4.q (g.m s_) (LvB.a _ _),?_⟩;exact((q_.drew.T (e.m s_)).setCell x_ _).setCell x_ _
  obtain⟨x,i6,rfl,d9,Z⟩:=hcut;obtain⟨d0,i0⟩:∃d0,d0=wr:=⟨wr,rfl⟩;subst i0;have f5:=Y Z.2.2;have a9:=x3_ (d2.below Z.2.2) Z.1 (Z.2.1.m c3)
  have f7:K (∀d z,(slice Q d R).ownBlock=some z->z≠x):=λd z S=>by have:=(B_ d2.row.row z (by cases Q<;>exact S)).2;omega
  go_wp2_with fail
  go_loopw [7,11] (λe m f=>∃(l k:Nat) (g:List Ho) (h:List Cm) (y:Value),m=.int .i64 ((l:Int)-1)/\e=.slice Q g.length R/\g.length<=b/\l<=g.length/\K (fz f o.1.size (.slice Q g.length R) g/\LvB f x k y/\Am f o.1.size y h/\SkI a b a0 e8 g l k h)/\K (E_ d0 f)) (λ_ m _=>(intOf m+1).toNat)
  exact⟨c.length,0,c,e7,i6,g_,rfl,e1,x_,⟨a9.1,a9.2.1,a9.2.2,f9⟩,f5⟩;obtain⟨l,k,g,h,y,rfl,rfl,h6,h5,q,X⟩:=hrel
  by_cases b9:l=0
  ·subst b9;have⟨N,H,B,m⟩:=q.out;have⟨a1,P⟩:=m.a;obtain⟨e,w,rfl⟩:=B.shape;have⟨c8,c9,_,_,e0⟩:=H.cells;have G:=b8.T (X.m c3);have p:K (∀u,fz (wr.alloc u) _ _ _/\Am (wr.alloc u) _ _ h):=λu=>⟨N.below q_,B.alloc _⟩;have r:K (Wh (b+a) (g++[⟨k,h,V e h.length w⟩])/\Av ((g++[(⟨k,h,V e h.length w⟩:Ho)]).map Ho.L)<=1000*(b+a:Nat)/\((g++[(⟨k,h,V e h.length w⟩:Ho)]).map Ho.o).reverse=a0):=(by refine⟨m.ok.E m.j m.len a1 O (by have:=m.k;simp only;omega),?_,?_⟩;have c4:=m.o;rw[map_append,Km];simp only[map_cons,map_nil,Av];omega;rw[P,map_append,reverse_append];rfl);generalize b0:h.length=a7 at *;go_wp2_with (at_builtin;refine ap_ [I (k:Nat),V e a7 w] (p _).1.a ?_)
   rintro b5 b6 ⟨a8,v,_,_,b3,b2,a2⟩;have n:=T_ ((p _).1.E (p:=⟨k,h,V e a7 w⟩) (p _).2 v a8) (G.T ((y_.alloc G.size _).grown v t_ (λa3 W=>(B_ (p default).1.row.row a3 W).1)));subst a2;refine J_ ?_;exact⟨b+a,L,_,g_,O,⟨n.1,r.1,r.2.1,t_,d1.2,r.2.2 ▸ d1.1⟩,n.2⟩
  obtain⟨i,rfl⟩:∃i,l=i+1:=⟨l-1,O⟩;have⟨z,g7,S,h3,g4,v,G⟩:=q.1.at (i:=i) O;injection S with hq1 _ hq3;subst hq1 hq3;have⟨c8,c9,j2,j3,e0⟩:=q.2.1.cells;have m:=q.2.2.2;have b3:(i+1:Nat)-1=(i:Int):=O;rw[b3];have j4:=F_ i g.length
  by_cases e2:(g.getD i Uk).n=k
  ·have H:(((g.getD i Uk).n:_)==(k:Int))=_:=beq_iff_eq.2 O;have⟨h1,N⟩:=m.b e2 e3 h7 O;have k2:=(m.ok.at G).2;have⟨d5,a1,c5,b6,_,_⟩:=(q.1.j _ G).d O;rw[c5] at v;have⟨e,w,h8,h0,_,_⟩:=q.2.2.1.d (p_ m.len);subst h8;have k1:=m.len;have b0:K (∀a2,Calls _ _ _ _ λr p=>∃n,_/\Am _ wr.1.size n _/\E_ wr _):=λa2=>(dv _ _ _ h a1 w _ (b6.drewN a2) (h0.drewN a2) (m.ok.at G).1 m.j).m (λr p ⟨n,u,B,W⟩=>⟨n,u,B,(below_drewN y_ a2).T W⟩);have i1:=Me (g.getD i Uk).L h;have u:K (_/\(Bf (g.getD i Uk).L h).length<=64):=⟨N,O⟩;have b2:=Y h1;have j5:=m.k;generalize (g.getD i Uk).n=W,(g.getD i Uk).L=B at *;generalize l0:B.length=e6,k9:h.length=a7 at *;go_upto_region 12 with fail;go_quiet (fail)
   go_upto_region 13 with fail;refine Af (λp=>D_ p x 0 (I (k:Nat))/\D_ p x 1 (V e a7 w)/\D_ p z (i*2+1) (V d5 e6 a1)) 14 k_ ⟨c8,c9,v⟩ (λhHeld=>?_);refine K_ ?_;refine on_ 10 λKK hK=>?_;go_simp;apply (b0 _).m;rintro r f0 ⟨iZ,rfl,c1,p⟩;obtain⟨g1,g6,rfl,b5,c0,_⟩:=c1.d (p_ u.2);have a8:=Y (mf _ _ _ a _ b5 u.1 c0 (p_ u.2));have c2:=p.size;generalize (Bf B h).length=i3 at *;go_simp;refine hK _ _ ⟨(W_ p c8),(W_ p c9),((p.cell (aJ _ _ v)).T v)⟩ (λhHeld=>?_);try simp only[Act.put,tA,tB,tC]
   refine on_ 12 λKK hK=>?_;go_simp;apply a8.m;rintro r f1 ⟨i7,rfl,a3,b7⟩;obtain⟨g0,g5,rfl⟩:=a3.shape;have F:=p.T (b7.m c2);have d6:LvB _ _ k _:=(F.block _ e0).T q.2.1;have⟨f3,f4,i9,j0,_⟩:=d6.cells;have j1:=(F.cell (aJ _ _ v)).T v;have n:K (_/\_/\Am f1 o.1.size _ _):=⟨q.1.below F,d6,a3.m O⟩;have f6:=Y (X.T (F.m X.size));generalize (Eo (Bf B h) a).length=i2 at *;go_simp;refine hK _ _ ⟨f3,f4,j1⟩ (λhHeld=>?_);refine K_ ?_;refine la1_ λKK hK=>?_;go_simp;apply hK _ _;try simp only[Act.put,tA,tB,tC]
   refine Fn k_ ?_ _;go_wp2;go_roundw
   case rel=>
    refine⟨i,k+1,g.take i,_,V g0 i2 g5,g_,by rw[length_take,Nat.min_eq_left O],by rw[length_take];omega,by rw[length_take];omega,⟨?_,n.2.1.fill (M:=k+1),n.2.1.q n.2.2 (LvB.a _ _),b2⟩,((f6.setCell d9 _).setCell d9 _)⟩;rw[length_take,Nat.min_eq_left O];exact(n.1.box n.2.1 (LvB.a _ _) (λW c7=>f7 _ W c7)).upto O
   exact z_
  have H:(((g.getD i Uk).n:_)==(k:Int))=_:=aO O;have b2:=Y (m.c e2);generalize (g.getD i Uk).n=W at *;go_upto_region 12 with fail;go_quiet (fail);refine J_ ?_;exact⟨i,k,g,h,y,g_,rfl,h6,O,⟨q.1.below (below_drewN y_ _),q.2.1,q.2.2.1.below (below_drewN y_ _),b2⟩,below_drewN X _⟩
 have Z:¬b<(d:Int):=O;obtain⟨E,a4,e5,e1,d8,t⟩:=A;obtain⟨Q,R,rfl⟩:=E.shape
 have w:K (skF a [] (skB a d [] j f)=skF a [] (c.map Ho.o).reverse):=by
  show _=_;rw[<- t]
  cases D with
  |zero=>rfl
  |succ e=>simp only[skB];rw[aD (by simp;have:=b1.out;omega)]
 have g:K (_/\_/\Av (c.map Ho.L)<=2000000):=⟨E,a4,O⟩;obtain⟨q,P⟩:∃q,q=wr:=⟨wr,rfl⟩;subst P;go_wp2_with fail
 go_loopw [12,13] (λh m f=>∃(l:Nat) (e:List Cm),m=.int .i64 ((l:Int)-1)/\l<=c.length/\K (Am f o.1.size h e/\Be e/\e.length<=32/\Ae e+Av ((c.take l).map Ho.L)<=2000000/\skF a e ((c.take l).map Ho.o).reverse=skF a [] (c.map Ho.o).reverse)/\E_ q f) (λ_ m _=>(intOf m+1).toNat)
 exact⟨c.length,[],g_,x_,⟨Am.nil _ _,Be.nil,s_,by rw[take_length];have:=g.2.2;simpa [Ae] using this,by rw[take_length]⟩,y_⟩;obtain⟨l,e,rfl,h5,A,h⟩:=hrel;have H:=h.size
 by_cases b9:l=0
 ·subst b9;have n:K (Am wr o.1.size u12 (skF a [] (skB a d [] j f))/\E_ o wr):=(by have⟨u,_,_,_,k⟩:=A.out;rw[w,<- k];exact⟨u,b8.T (h.m c3)⟩);go_wp2;go_ret;exact⟨_,rfl,n.1,n.2⟩
 obtain⟨i,rfl⟩:∃i,l=i+1:=⟨l-1,O⟩;have⟨z,g7,S,h3,g4,v,G⟩:=(g.1.below h).at (i:=i) O;injection S with hq1 _ hq3;subst hq1 hq3;obtain⟨F,s,a2,k,t⟩:=A;have⟨m,a0⟩:=g.2.1.at G;have⟨d5,a1,c5,b6,_,_⟩:=((g.1.below h).j _ G).d O;rw[c5] at v;have⟨X,x,L,y,_,_⟩:=F.d O;subst L;rw[bz O,map_append] at k t;rw[Km] at k;rw[reverse_append] at t;simp only[map_cons,map_nil,Av,reverse_cons,reverse_nil,nil_append,singleton_append,skF] at k t;have a5:=Fv (Ls:=(c.take i).map _) (λW c7=>(g.2.1.take i).ok.j W c7);have N:=Hb s m O;have W:=Ja (Bf e (c.getD i Uk).L) (size:=(a:Int)) O;have i1:=Me e (c.getD i Uk).L
 have a7:Ae (Eo (Bf e (c.getD i Uk).L) a)=Ae e+Ae (c.getD i Uk).L:=(by rw[Gg,Fa]);have b0:=Y (dv _ _ _ _ x a1 _ y b6 s m);have u:K (Be (Bf e (c.getD i Uk).L)/\(Bf e (c.getD i Uk).L).length<=64/\Be (Eo (Bf e (c.getD i Uk).L) a)/\(Eo (Bf e (c.getD i Uk).L) a).length<=32/\Ae (Eo (Bf e (c.getD i Uk).L) a)+Av ((c.take i).map Ho.L)<=2000000/\skF a (Eo (Bf e (c.getD i Uk).L) a) ((c.take i).map Ho.o).reverse=skF a [] (c.map Ho.o).reverse):=⟨N,O,(N.sub (Hz N a)),O,O,t⟩;have b3:(i+1:Nat)-1=(i:Int):=O;rw[b3];generalize (c.getD i Uk).L=B at *;generalize B.length=e6 at *;go_wp2_with fail
 apply b0.m;rintro r f0 ⟨iZ,rfl,c1,p⟩;have c2:=p.size;obtain⟨g1,g6,rfl,b5,c0,_⟩:=c1.d (p_ u.2.1);have a8:=Y (mf _ _ _ a _ b5 u.1 c0 (p_ u.2.1));generalize (Bf e B).length=i3 at *;go_wp2_with fail
 apply a8.m;rintro r f1 ⟨i7,rfl,a3,b7⟩;have n:K (Am _ o.1.size _ _/\_):=⟨a3.m O,h.T ((p.T (b7.m c2)).m H)⟩;refine J_ ?_;exact⟨i,_,g_,O,⟨n.1,u.2.2⟩,n.2⟩
def Zhk{b:List Cm}{c a}(d:a<c):(b.take c).getD a e0=b.getD a e0:=w_
theorem bh{b a c d}(e:0<a):(d<=By b a c)↔d*a<=b*c:=by unfold By;exact Int.le_ediv_iff_mul_le e
def Zc1{L:List Cm}{m A bins tot k}(e:m<=L.length)(c:A<=m)(g:0<tot)(f:∀a,a<A->bins*(L.getD a e0).g<k*tot)(h:A<m->k*tot<=bins*(L.getD A e0).g):(L.take m).findIdx (λb=>decide (k<=By bins tot b.g))=A:=by
 have d:(L.take m).length=m:=w_
 by_cases b:A<m
 ·rw[findIdx_eq O]
  grind [bh]
 grind [bh]
def Be.e{a}(b:Be a):=b.step.imp (λc=>c.1)
def Zct d c b:∀g a,1<=a->(bJ d c b a g).length<=(b+1-a).toNat
 |[],a,e=>by simp[bJ]
 | h ::f,a,e=>by
  rw[Wm];split
  ·rename_i i;have:=Zct d c b f (min (By c d h.g) b+1) O
   grind
  exact Zct _ _ b f a e
def Zbi k n b t f e (u:Le e k n b)(v:b.length≠0)(y:b.length<=4194304)(l:(b.length:Int)<=f):C_ 288 #[V (some (J k n)) b.length t,I f] e λc d=>∃a,c=.returned a/\Ad d e.1.size a (Bm b f)/\E_ e d:=by
 have p:=Y u;obtain⟨d,i⟩:∃d,b.length=d+1:=⟨b.length-1,O⟩
 have o:K (Bm b _=(b.take d).map _):=show _=_ by unfold Bm;rw[aC v,aD l,i];rfl
 have q:=Y i;rw[i] at y l ⊢;have H:d+1<=f:=O;refine v_ ?_;go_wp2_with fail
 go_loopw [5,6] (λj g h=>∃(a:Nat),g=.int .i64 a/\a<=d/\K (Ad h e.1.size j ((b.take a).map (λc=>c.v)))/\E_ e h) (λ_ g _=>d-(intOf g).toNat)
 exact⟨0,rfl,r_,Ad.nil _ _,y_⟩;obtain⟨a,rfl,m,h,g⟩:=hrel
 by_cases L:a<d
 ·have x:a<b.length:=p_ q;have E:=W_ g (p.v a x)
  have r:K ((b.take (a+1)).map (λc=>c.v)=(b.take a).map (λc=>c.v)++[(b.getD a e0).v]):=by
   show _=_
   grind [Qi]
  have z:((b.take a).map (λc=>c.v)).length<=1000000000:=w_;generalize (b.take a).map (λc=>c.v)=M,(b.getD a e0).v=D at *;have F:0<=(a:Int):=O;have G:a<(d:Int)+1:=O;have s:a+1<(d:Int)+1:=O;have A:=g.size;go_wp2_with (at_builtin;refine Bx rfl (.tmp 22) _ rfl _ _ _ D rfl (h.alloc _) _ 1 rfl ?_ z ?_ ?_)
  ·simp[go_sem]
  simp;omega;intro Q B j;have w:E_ e B:=(by have⟨N,c,P⟩:=j.out;exact g.T ((y_.alloc A _).grown c t_ (λa m=>(h.lt a m).1)));have c:=Y j.1;refine J_ ?_;exact⟨a+1,g_,O,r ▸ c,w⟩
 have j:a=d:=O;have c:K (Ad wr e.1.size u5 (Bm b f)):=(by rw[o,<- j];exact h);have s:¬a+1<(d:Int)+1:=O;go_wp2;go_ret;exact⟨_,rfl,c,g⟩
def Zie{p:Prop}(h:p:=by
 clear A t;have X:f.length<=1000000000:=p_ m.out;go_wp2_with (at_builtin;refine Bx rfl (.tmp 76) _ rfl _ _ f n rfl (q.alloc _) _ 1 rfl ?_ X ?_ ?_)
 omega;intro d1 a0 s;have U:E_ h a0:=(by have⟨v,u,x⟩:=s.out;exact w.T ((y_.alloc b2 _).grown u t_ (λk y=>(q.lt k y).1)));have x:=s.1;have⟨u,v,Z⟩:=x.shape;subst Z;have p:=Y x;clear s x;refine J_ ?_
 exact⟨j+1,u,v,g_,O,by show _=slice u (bJ d b ((j:Int)+1) 1 (a.take c)).length v;rw[l],by show Ad _ _ (V u (bJ d b ((j:Int)+1) 1 (a.take c)).length v) (bJ d b ((j:Int)+1) 1 (a.take c));rw[l];exact p,U⟩):p:=h
def Zif{p:Prop}(h:p:=by
 refine J_ ?_
 exact⟨j+1,_,o,g_,O,by show _=slice _ (bJ d b ((j:Int)+1) 1 (a.take c)).length o;rw[l,m],by show Ad _ _ (V _ (bJ d b ((j:Int)+1) 1 (a.take c)).length o) (bJ d b ((j:Int)+1) 1 (a.take c));rw[l,m];exact q,w⟩):p:=h
def xm H Q a a5 b h (g:Le h H Q a)(r:Be a)(a9:a.length<=4194304)(d7:2<=b)(c5:b<=16)(b1:b<(a.length:Int)):C_ 288 #[V (some (J H Q)) a.length a5,I b] h λD c=>∃n,D=.returned n/\Ad c h.1.size n (Bm a b)/\E_ h c:=by
 have a6:a.length≠0:=O;have a1:=Y g;obtain⟨c,F⟩:∃c,a.length=c+1:=⟨a.length-1,O⟩;have a4:K (C_ 176 #[V (some (J H Q)) (c+1) a5] h (V_ (.int .i64 (Ae a)) h)):=(by rw[<- F];exact yl _ a _ h ⟨a9,.inr ⟨H,Q,rfl,g⟩⟩);have N:Ae a=(a.getD c e0).g:=(by unfold Ae;grind);have e7:1<=Ae a:=(by have:=r.at (show c<a.length by omega);rw[N];omega);have d0:=(Ec r).2;have c3:K (∀k,k<_->0<=(a.getD k e0).g/\_):=λk y=>⟨p_ (r.at y),Nd r y⟩
 have a2:K (∀D∈a.take c,By b (Ae a) D.g<=b-1):=λD c6=>by
  obtain⟨i,W,rfl⟩:=aM c6;rw[length_take] at W;have d:(a.take c)[i]' O=a.getD i e0:=w_;have f:=(r.lt (i:=i) (j:=c) O O).2.2;have l:=r.at (show c<a.length by omega);rw[d];have e:(a.getD i e0).g<Ae a:=p_ N
  have:¬b<=By b (Ae a) (a.getD i e0).g:=λL=>by rw[bh O] at L;have:=Int.mul_lt_mul_of_pos_left e (show 0<b by omega);omega
  omega
 have c0:K (Bm a b=bJ (Ae a) b (b-1) 1 (a.take c)):=show _=_ by unfold Bm;rw[aC a6,aC O,F,Zh1 _ _ a2];rfl
 have R:=Y F;have c2:K ((a.take c).Pairwise _):=r.e.sublist (take_sublist _ _)
 have c1:K (∀j:_,j<=b->j*Ae a<=_):=λj a8=>by rw[N];exact Int.mul_le_mul_of_nonneg_right a8 O
 rw[F] at a9 b1 ⊢;have e2:¬c+1<=b:=O;clear g r a6 F b1 N a2;generalize Ae a=d at *;refine v_ ?_;go_wp2_with fail
 apply a4.m;rintro D e8 ⟨rfl,b3⟩;obtain rfl:=b3.s;clear b3 a4;go_wp2_with fail
 go_loopw [5,8] (λl e f=>∃(j:Nat) (P:Option Addr) (o:Nat),e=.int .i64 ((j:Int)+1)/\(j:Int)+1<=b/\l=.slice P (bJ d b j 1 (a.take c)).length o/\K (Ad f h.1.size (.slice P (bJ d b j 1 (a.take c)).length o) (bJ d b j 1 (a.take c)))/\E_ h f) (λ_ e _=>(b-intOf e).toNat)
 exact⟨0,none,0,rfl,O,by rw[show bJ d b ((0:Nat):Int) 1 (a.take c)=[] from gh _ _ _ _ _ C];rfl,by rw[show bJ d b ((0:Nat):Int) 1 (a.take c)=[] from gh _ _ _ _ _ C];exact Ad.nil _ _,y_⟩;obtain⟨j,P,o,rfl,a8,rfl,q,w⟩:=hrel
 by_cases d8:(j:Int)+1<b
 ·have b2:=w.size;have a3:=ul d b j _ 1 O c2;have M:=Zct d b j (a.take c) 1 O;have e3:(bJ d b j 1 (a.take c)).length<=16:=O;have S:=Y a3;clear a3 M;generalize bJ d b j 1 (a.take c)=f at *;go_wp2_with fail
  rename_i e9;go_loopw [9] (λl m=>∃e:Nat,l=.int .i64 e/\e<=c/\K (∀i,i<e->b*(a.getD i e0).g<((j:Int)+1)*d)/\m=wr) (λl _=>c-(intOf l).toNat)
  exact⟨0,rfl,r_,λi W=>O,rfl⟩;obtain⟨e,rfl,c4,G,c7⟩:=hrel;subst c7;have T:e<a.length:=(by rw[R];omega);have⟨d2,d3⟩:=k2_ w (a1.v e T) (a1.g e T);have a7:=c3 e T;have b4:0<=b*_:=Int.mul_nonneg O a7.1;have b5:b*_<=_*1000000000000:=Int.mul_le_mul c5 O a7.1 O;have b6:0<=(j+1)*d:=Int.mul_nonneg O O;have b7:((j:Int)+1)*_<=16*_:=Int.mul_le_mul O d0 O O;have d4:0<=(e:Int):=O;have d5:e<(c:Int)+1:=O;have e5:_=b*(a.getD e e0).g:=As O O;have e6:_=((j:_)+1)*d:=As O O
  by_cases L:b*(a.getD e e0).g<((j:Int)+1)*d
  ·have E:e<c:=by
    by_cases g:e=c
    rw[g] at L;have:=c1 ((j:Int)+1) O;omega;omega
   have l:K (∀i,i<e+1->b*(a.getD i e0).g<(j+1)*d):=λi W=>by
    by_cases g:i=e
    rw[g];exact L;exact G i O
   generalize (a.getD e e0).g=b8,(a.getD e e0).v=n at *;refine J_ ?_;exact⟨e+1,g_,O,l,trivial⟩
  have p:=Zc1 (L:=a) (m:=c) (A:=e) (bins:=b) (tot:=d) (k:=(j:Int)+1) (by rw[R];omega) c4 O G (λ_=>O);have z:=S.out;rw[p,length_take,show min c a.length=c by rw[R];omega] at z
  by_cases E:e<c
  ·rw[Zhk E] at z;generalize (a.getD e e0).g=b8,(a.getD e e0).v=n at *;have t:=Y z;clear z S p G b4 b5 b6 b7;generalize M:f.length=c9 at *;have m:=Y M;clear M
   cases c9 with
   | zero=>
    have A:=eq_nil_of_length_eq_zero m;have l:K (bJ d b (j+1) 1 (a.take c)=f++[n]):=(by show _=_;rw[t,aD ⟨E,by rw[A];simp⟩]);exact Zie
   | succ B=>
    obtain⟨e4,rfl,_,_,d6,_⟩:=q.b m (k:=B) O;have b0:f.getLast? =some (f.getD B 0):=by rw[getLast?_eq_getElem?,m,Nat.add_sub_cancel,Qc,Qd (by rw[m];omega)];rfl
    rw[b0] at t;clear b0;generalize f.getD B 0=b9 at *;have d9:(((B:Int)+1)==0)=_:=aO O;have e1:(((B+1:Nat):Int)-1).toNat=B:=O
    by_cases A:b9=n
    have l:K (bJ d b (j+1) 1 (a.take c)=f):=(by show _=_;rw[t,aC (λg=>g.2 (by rw[A]))]);have c8:(b9 !=n)=false:=(by rw[A];simp);clear A t;exact Zif;have l:K (bJ d b (j+1) 1 (a.take c)=f++[n]):=(by show _=_;rw[t,aD ⟨E,λg=>A (by injection g)⟩]);have c8:=bne_iff_ne.2 A;exact Zie
  have l:K (bJ d b (j+1) 1 (a.take c)=f):=(by show _=_;rw[z,aC (λg=>E g.1)]);have m:K (f.length=_):=rfl;clear z S p G b4 b5 b6 b7;generalize (a.getD e e0).g=b8,(a.getD e e0).v=n at *;exact Zif
 have e:j=b-1:=O;have p:K (Ad wr h.1.size (V P (bJ d b j 1 (a.take c)).length o) (Bm a b)):=(by rw[c0,<- e];exact q);clear q e;generalize bJ d b j 1 (a.take c)=f at *;go_wp2;go_ret;exact⟨_,rfl,p,w⟩
def Zbh e a i c b (k:Ee b e a)(j:Be a)(m:2<=c)(n:c<=16):C_ 288 #[V e a.length i,I c] b λg f=>∃d,g=.returned d/\Ad f b.1.size d (Bm a c)/\E_ b f:=by
 by_cases d:a.length=0
 ·have f:Bm a c=[]:=(by unfold Bm;rw[aD d]);rw[f,d];refine v_ ?_;go_wp2_with fail
  go_loopw [5,6] (λh g l=>h=.slice none 0 0/\g=I 0/\l=b) (λ_ _ _=>0)
  grind
  obtain⟨rfl,rfl,g⟩:=hrel;subst g;go_wp2;go_ret;exact⟨_,rfl,Ad.nil _ _,y_⟩
 obtain⟨h,l|⟨f,p,rfl,g⟩⟩:=k;exact absurd l d
 by_cases o:(a.length:Int)<=c
 exact Zbi f _ a _ _ b g d h o;exact xm f _ a _ _ b g j h m n O
def Wc(b:List Nat):Nat->Nat×Int
 |0=>(0,-1)
 |a+1=>if(Wc b a).2<(b.count a:Int) then(a,(b.count a:Int)) else Wc b a
def ZcN{B:List Nat}{r}(b:r<B.length) a:(B.take (r+1)).count a=(B.take r).count a+(if B.getD r 0=a then 1 else 0):=by
 rw[Qi b,count_append,Qc,Qd b]
 grind
def Zfg b:∀a,(Wc b a).1<=a/\ -1<=(Wc b a).2/\(Wc b a).2<=b.length
 |0=>by simp[Wc]
 | a+1=>by
  have:=Zfg b a
  grind [Wc]
def Zbq o (e j f:Nat) b h (y:Ad h 0 (V o e j) (An b))(v:b.length=e)(L:e<=200)(F:f<=1000):C_ 240 #[V o e j,I f] h (V_ (.int .i64 (Wc b f).1) h):=by
 have⟨r,g⟩:=Z_ y v;refine v_ ?_;go_wp2_with fail
 go_loopw [5,6,7] (λd i c k=>∃a:Nat,c=.int .i64 a/\a<=f/\d=.int .i64 ((Wc b a).1:Nat)/\i=.int .i64 (Wc b a).2/\k=h) (λ_ _ c _=>f-(intOf c).toNat)
 exact⟨0,rfl,r_,rfl,rfl,rfl⟩;obtain⟨a,rfl,G,rfl,rfl,z⟩:=hrel;subst z
 by_cases H:a<f
 ·have u:a<(f:Int):=O;have D:K (Wc b (a+1)=if _<_ then _ else _):=rfl;have x:=Zfg b a;rw[g] at x;generalize Wc b a=s at *;obtain⟨B,n⟩:=s;simp only at *;go_wp2_with fail
  rename_i Q;go_loopw [8,9] (λi d k=>∃c:Nat,d=.int .i64 c/\c<=e/\i=.int .i64 ((b.take c).count a:Nat)/\(b.take c).count a<=c/\k=wr) (λ_ d _=>e-(intOf d).toNat)
  grind
  obtain⟨c,rfl,M,rfl,w,A⟩:=hrel;subst A
  by_cases l:c<e
  ·obtain⟨P,rfl,_,_,t,_⟩:=r.b (by rw[Aj];exact g) l;rw[Br] at t;have p:=ZcN (B:=b) (r:=c) (g ▸ l) a;have q:=Y p;generalize b.getD c 0=i,(b.take c).count a=k at *;have E:=F_ c e
   by_cases m:i=a
   ·subst m;have d:K ((b.take (c+1)).count i=k+1):=w_;refine J_ ?_;exact⟨c+1,g_,O,by rw[d];go_num,by rw[d];omega,trivial⟩
   have d:K ((b.take (c+1)).count a=k):=(by show _=_;rw[q,aC m];rfl);have N:((i:_)==(a:Int))=_:=aO O;refine J_ ?_;exact⟨c+1,g_,O,by rw[d],by rw[d];omega,trivial⟩
  have t:c=b.length:=p_ g.out;have i:K ((b.take c).count a=b.count a):=w_;have q:¬c<(e:Int):=O;rw[i] at w;rw[i];have m:b.count a<=e:=O;generalize b.count a=k at *
  by_cases p:n<(k:Int)
  ·have d:K (Wc b (a+1)=(a,(k:Int))):=w_;refine J_ ?_;exact⟨a+1,g_,O,by rw[d],by rw[d],trivial⟩
  have d:K (Wc b (a+1)=(B,n)):=w_;refine J_ ?_;exact⟨a+1,g_,O,by rw[d],by rw[d],trivial⟩
 have u:¬a<(f:Int):=O;have c:a=f:=O;subst c;go_wp2;go_ret;exact⟨rfl,rfl⟩
theorem No b {c a}(d:a<c):(Bz b c).getD a 0=(b.count a:Int):=by
 unfold Bz
 grind
def ZaY b e:∀a,a+1<=e->(Wc b (a+1)).2=maxOf ((Bz b e).take (a+1))/\(Wc b (a+1)).1<a+1/\(b.count (Wc b (a+1)).1:Int)=(Wc b (a+1)).2/\∀c,c<(Wc b (a+1)).1->(b.count c:Int)<(Wc b (a+1)).2
 | 0,i=>by
  have d:Wc b 1=(0,(b.count 0:Int)):=by grind [Wc]
  grind [maxOf_one,No]
 | a +1,i=>by
  have⟨g,j,k,l⟩:=ZaY b e a O;rw[maxOf_step _ (a+1) O (by rw[Co];omega),No b O,<- g];have d:Wc b (a+1+1)=if _<_ then _ else _:=rfl;rw[d]
  by_cases h:(Wc b (a+1)).2<(b.count (a+1):Int)
  ·rw[aD h];refine⟨by simp only;omega,by simp only;omega,rfl,λc f=>?_⟩;simp only at f ⊢;have m:=nrS_le b (a+1)
   grind
  grind
 where
 nrS_le (b:List Nat):∀a c,c<a->(b.count c:Int)<=(Wc b a).2
  |0,c,f=>O
  | a+1,c,f=>by
   have d:Wc b (a+1)=if _<_ then _ else _:=rfl;rw[d]
   by_cases g:c=a
   ·grind
   have:=nrS_le b a c O
   grind
def ZlV a {c}(h:0<c):Xt a c=(Wc a c).1:=by
 obtain⟨b,rfl⟩:∃b,c=b+1:=⟨c-1,O⟩;have⟨d,e,g,i⟩:=ZaY a (b+1) b x_;have f:_=Bz a (b+1):=aI (by rw[Co];exact x_);unfold Xt;rw[f] at d;rw[<- d];have:=idxOf_hit (Bz a (b+1)) (b+1) (Wc a (b+1)).1 (Wc a (b+1)).2 e (by rw[Co];omega) (by rw[No a e];exact g) (λk j=>by rw[No a O];grind)
 grind
def Zkj{x a:ByteArray}(c:¬x=a):(x.toList==a.toList)=false:=by
 rw[beq_eq_false_iff_ne,toList_data,toList_data];intro b;apply c
 cases x;cases a
 simp at b;rw[b]
def uz{a:List Int}{b}(d:b<a.length) c:(a.take (b+1)).countP c=(a.take b).countP c+(if c (a.getD b 0)=true then 1 else 0):=by
 rw[Qi d,countP_append,Qc,Qd d]
 grind
def ZcZ{a:List ByteArray}{c b}(f:b<a.length)(g:a.getD b ⟨#[]⟩=c)(h:∀d,d<b->a.getD d ⟨#[]⟩≠c):a.findIdx (λe=>decide (e=c))=b:=by grind [findIdx_eq]
def Zc0{a:List ByteArray}{c}(e:∀b,b<a.length->a.getD b ⟨#[]⟩≠c):a.findIdx (λd=>decide (d=c))=a.length:=w_
def ZjR M S T m e o g (w:Ad g M S e.g)(x:Bi g M T e.c)(F:Qv e)(Q:e.a=true->e.g=[])(R:e.a=false->e.c=[]):C_ 239 #[.agg #[.bool e.a,S,T,I m],.agg #[.bool o.a,I o.num,Q_ o.g]] g (U_ (.int .i64 (Gi e o:Nat)) g):=by
 obtain⟨l,b,c⟩:=e;obtain⟨z,f,h⟩:=o;simp only at w x Q R ⊢;have a2:=F.p;have a3:=F.u;simp only at a2 a3;obtain⟨r,u,rfl⟩:=w.shape;obtain⟨s,v,rfl⟩:=x.a;have⟨p,y⟩:=M_ ((g.alloc (O_ #[.bool l,V r b.length u,V s c.length v,I m] 227)).alloc (O_ #[.bool z,I f,Q_ h] 335));have t:E_ g p:=y ▸ (q_.alloc s_ _);have A:H_ p g.1.size #[.bool l,V r b.length u,V s c.length v,I m] 227:=(by grind [Below.heap_alloc,heap_alloc_new]);have B:H_ p (g.1.size+1) #[.bool z,I f,Q_ h] 335:=by have e:=ha_ (g.alloc (O_ #[.bool l,V r b.length u,V s c.length v,I m] 227)) (O_ #[.bool z,I f,Q_ h] 335);rw[show(g.alloc (O_ #[.bool l,V r b.length u,V s c.length v,I m] 227)).1.size=g.1.size+1 by simp,<- y] at e;exact e
 have⟨q,U,W,L⟩:=y4_ t (w.below t) (x.below t) y;have a5:=n_ 0 A;have a6:=n_ 1 A;have a7:=n_ 2 A;have a8:=n_ 0 B;have a9:=n_ 1 B;have b0:=n_ 2 B;clear w x F y A B t;refine v_ ?_;go_upto_region 1 with fail;rw[<- L];clear L
 cases z with
 | true=>
  have j:K (Gi ⟨l,b,c⟩ ⟨true,f,h⟩=b.length+c.length+1):=by
   show _=_
   grind [Gi,ES.b,Kr]
  go_wp2;go_ret;rw[j];exact⟨g_,q⟩
 | false =>
  cases l with
  | true=>
   have Z:=Q rfl;subst Z;have j:K (Gi ⟨true,[],_⟩ ⟨false,f,_⟩=c.findIdx (λa=>decide (a=h))):=rfl;go_wp2_with fail
   go_loopw [6] (λk n=>∃(a i:Nat),k=.int .i64 a/\a<=c.length/\K (∀d,d<a->c.getD d ⟨#[]⟩≠h)/\n=p.drewN i) (λk _=>c.length-(intOf k).toNat)
   exact⟨0,0,rfl,r_,λd P=>O,rfl⟩;obtain⟨a,i,rfl,a1,E,G⟩:=hrel;subst G
   by_cases n:a<c.length
   ·obtain⟨a4,rfl,_,a0⟩:=W.d rfl n ⟨#[]⟩;have N:=F_ a c.length
    by_cases k:c.getD a ⟨#[]⟩=h
    ·have D:=Y (ZcZ n k E);have X:((c.getD a ⟨#[]⟩).toList==h.toList)=true:=(by rw[k];simp);generalize c.getD a ⟨#[]⟩=H at *;clear k;go_upto_region 8 with fail;go_quiet (fail);go_wp2;go_ret;rw[j,D];exact⟨rfl,below_drewN (below_drewN q _) _⟩
    have X:=Zkj k
    have D:K (∀d,d<a+1->c.getD d ⟨#[]⟩≠h):=λd P=>by
     by_cases H:d=a
     rw[H];exact k;exact E d O
    generalize c.getD a ⟨#[]⟩=H at *;clear k;go_upto_region 8 with fail;go_quiet (fail);refine J_ ?_;exact⟨a+1,i+nq,g_,O,D,s_⟩
   have k:a=c.length:=O;have D:=Y (Zc0 (λd P=>E d O));have N:¬a<(c.length:Int):=O;go_wp2;go_ret;rw[j,D];exact⟨s_,below_drewN q _⟩
  | false=>
   have X:=R rfl;subst X;have j:K (Gi ⟨false,_,[]⟩ ⟨false,_,h⟩=b.countP (λd=>decide (d<f))):=rfl;go_wp2_with fail
   go_loopw [7,8] (λn k D=>∃(a i:Nat),k=.int .i64 a/\a<=b.length/\n=.int .i64 ((b.take a).countP (λd=>decide (d<f)):Nat)/\(b.take a).countP (λd=>decide (d<f))<=a/\D=p.drewN i) (λ_ k _=>b.length-(intOf k).toNat)
   exact⟨0,0,rfl,r_,s_,s_,rfl⟩;obtain⟨a,i,rfl,a1,rfl,P,G⟩:=hrel;subst G
   by_cases n:a<b.length
   ·obtain⟨a4,rfl,_,_,a0,_⟩:=U.b rfl n;have N:=F_ a b.length;have E:K ((b.take _).countP (λd=>decide (d<f))=_):=uz n _;generalize b.getD a 0=H,(b.take a).countP (λd=>decide (d<f))=D at *
    by_cases Z:H<f
    ·have k:K ((b.take (a+1)).countP (λd=>decide (d<f))=D+1):=w_;go_upto_region 15 with fail;go_quiet (fail);refine J_ ?_;exact⟨a+1,i+nq,g_,O,by rw[k];go_num,by rw[k];omega,s_⟩
    have k:K ((b.take (a+1)).countP (λd=>decide (d<f))=D):=(by show _=_;rw[E,aC w_];rfl);go_upto_region 15 with fail;go_quiet (fail);refine J_ ?_;exact⟨a+1,i+nq,g_,O,by rw[k],by rw[k];omega,s_⟩
   have k:a=b.length:=O;subst k;rw[take_length] at P;rw[take_length];go_wp2;go_ret;rw[j];exact⟨rfl,below_drewN q _⟩
def lr:Int×List VS:=(0,[])
def Wk(d:World)(i:Option Addr)(f g:Nat)(c:List (Int×List VS)):Prop:=
 c.length=f/\(f=0∨∃h,i=some ⟨h,0,none⟩/\∀a,a<f->d.cell? (J h (a*2))=some (I (c.getD a lr).1)/\∃e j,d.cell? (J h (a*2+1))=some (L_ e g j)/\(c.getD a lr).2.length=g/\∀b,b<g->d.cell? (J e (b*3))=some (.bool ((c.getD a lr).2.getD b Aw).a)/\d.cell? (J e (b*3+1))=some (I ((c.getD a lr).2.getD b Aw).num)/\d.cell? (J e (b*3+2))=some (Q_ ((c.getD a lr).2.getD b Aw).g))
def Wk.below{a j c f g b}(d:Wk a c f g b)(l:E_ a j):Wk j c f g b:=by
 refine⟨d.1,d.2.imp id ?_⟩;rintro⟨o,k,m⟩;refine⟨o,k,λp n=>?_⟩;have⟨s,r,q,t,u,v⟩:=m p n;have w:∀h i,_=some i->_:=λh i e=>(l.cell (aJ a h e)).T e
 grind
def sf:∀(c:List Lt) (b:Nat),b<c.length->∀a,a<2->(Ra c)[b*2+a]? =(Rz (c.getD b ⟨0,[],N_⟩))[a]?
 |[],b,d=>by simp at d
 |f::c,0,_=>λa e=>by grind [Ra,Rz]
 |f::c,b+1,d=>λa e=>by simp only[Ra];rw[getElem?_append_right (by simp[Rz];omega),show(b+1)*2+a-(Rz f).length=b*2+a by simp[Rz];omega];exact sf c b (by simpa using d) a e
def Gw.view{g q y n o p b}(j:Gw g q (V p n y) b)(D:b.length=n)(A:∀c∈b,c.fs.length=o)(N:0<o):Wk g p n o (b.map Lt.o):=by
 subst D;refine⟨length_map _,?_⟩
 rcases j.row.2 with⟨s,t⟩|⟨x,H,L,s,_,P,R,_⟩
 exact .inl t;refine .inr ?_;injection s with e1 e2 e3;subst e1;refine⟨x,rfl,λd G=>?_⟩;have B:(b.map Lt.o).getD d lr=Lt.o (b.getD d ⟨0,[],N_⟩):=w_
 have v:b.getD d ⟨0,[],N_⟩∈b:=w_;rw[B];generalize F:b.getD d ⟨0,[],N_⟩=c at *
 have w:∀a e,a<2->(Rz c)[a]? =some e->g.cell? (J x (d*2+a))=some e:=λa e f k=>by rw[World.ownsRow.cellAt j.row (d*2+a) O,sf b d G a f,F];exact k
 have u:=A c v;have f:=j.j c v;refine⟨w 0 _ O rfl,?_⟩
 rcases f.2 with⟨_,t⟩|⟨i,r,M,z,_⟩
 omega;have l:=w 1 _ O rfl;rw[z] at l;rw[u] at l;refine⟨i,r,l,u,λh Q=>?_⟩
 have E:g.ownsRow q 335 3 (L_ i c.fs.length r) c.fs.length (Ku c.fs):=by
  have m:=f;unfold pn at m
  grind
 have m:∀a e,a<3->(Iy (c.fs.getD h Aw))[a]? =some e->g.cell? (J i (h*3+a))=some e:=λa e f k=>by rw[World.ownsRow.cellAt E (h*3+a) O,Zk c.fs h O a f];exact k
 exact⟨m 0 _ O rfl,m 1 _ O rfl,m 2 _ O rfl⟩
def Zbn r d m l b e h (g:Bi h r (V l d m) b)(p:b.length=d)(y:d<=1000):C_ 244 #[V l d m,Q_ e] h (V_ (.bool (containsS b e)) h):=by
 have⟨q,i⟩:=Z_ g p;clear g p;refine v_ ?_;go_wp2_with fail
 go_loopw [5] (λf j=>∃a:Nat,f=.int .i64 a/\a<=d/\K (∀c,c<a->b.getD c ⟨#[]⟩≠e)/\j=h) (λf _=>d-(intOf f).toNat)
 exact⟨0,rfl,r_,λc o=>O,rfl⟩;obtain⟨a,rfl,x,k,u⟩:=hrel;subst u
 by_cases n:a<d
 ·obtain⟨z,rfl,_,w⟩:=q.d i n ⟨#[]⟩;have t:=F_ a d
  by_cases f:b.getD a ⟨#[]⟩=e
  ·have j:K (containsS b e=true):=by
    apply (containsS_iff b e).2;rw[<- f,Qc,Qd (i ▸ n)]
    grind
   have s:((b.getD a ⟨#[]⟩).toList==e.toList)=true:=(by rw[f];simp);generalize b.getD a ⟨#[]⟩=v at *;clear f;go_wp2;go_ret;exact⟨by rw[j];rfl,rfl⟩
  have s:=Zkj f
  have j:K (∀c,c<a+1->b.getD c ⟨#[]⟩≠e):=λc o=>by
   by_cases g:c=a
   rw[g];exact f;exact k c O
  generalize b.getD a ⟨#[]⟩=v at *;clear f;refine J_ ?_;exact⟨a+1,g_,O,j,trivial⟩
 have j:K (containsS b e=false):=by
  show _=_;rw[<- Bool.not_eq_true,containsS_iff];intro f;have⟨c,o,s⟩:=aM f;have t:=i.out;apply k c O
  grind
 have t:¬a<(d:Int):=O;go_wp2;go_ret;exact⟨by rw[j];rfl,rfl⟩
def Te(c:List (Int×List VS))(a:Nat)(d:ByteArray):Int:=((c.filter (λb=>!(b.2.getD a Aw).a&&decide ((b.2.getD a Aw).g=d))).map Prod.fst).sum
def Zb1{a:List (Int×List VS)}{b}(f:b<a.length) c d:Te (a.take (b+1)) c d=Te (a.take b) c d+(if(!((a.getD b lr).2.getD c Aw).a&&decide (((a.getD b lr).2.getD c Aw).g=d))=true then(a.getD b lr).1 else 0):=by
 have e:a.getD b lr=a[b]:=w_;unfold Te
 grind [Qi]
def Zfy{b:List (Int×List VS)}(f:∀e∈b,0<=e.1/\e.1<=99) c d:∀a,a<=b.length->0<=Te (b.take a) c d/\Te (b.take a) c d<=99*a
 |0,_=>by simp[Te]
 | a+1,g=>by
  have h:=Zfy f c d a O;rw[Zb1 O]
  grind
def Zbv q e m y b c d j (l:Wk j q e m c)(B:b<m)(u:∀v∈c,0<=v.1/\v.1<=99)(T:e<=1000):C_ 290 #[V q e y,I b,Q_ d] j λa f=>a=.returned (.int .i64 (Te c b d))/\∃i,f=j.drewN i:=by
 have⟨k,p⟩:=Z_ l (λa f=>Zfy u b d a (l.1 ▸ f));clear l u;refine v_ ?_;go_wp2_with fail
 go_loopw [7,8] (λg f h=>∃(a i:Nat),f=.int .i64 a/\a<=e/\g=.int .i64 (Te (c.take a) b d)/\h=j.drewN i) (λ_ f _=>e-(intOf f).toNat)
 exact⟨0,0,rfl,r_,rfl,rfl⟩;obtain⟨a,i,rfl,S,rfl,D⟩:=hrel;subst D
 by_cases s:a<e
 ·have A:=F_ a e;have Q:=F_ b m
  rcases k.out.2 with R|⟨X,rfl,t⟩
  omega;have⟨G,P,N,H,_,r⟩:=t a s;have⟨L,_,M⟩:=r b B;clear r;have o:=Y (Zb1 (k.1 ▸ s) b d);have U:=p a O;have n:=Y (p (a+1) O);clear t;generalize Te (c.take a) b d=h,(c.getD a lr).2.getD b Aw=F,(c.getD a lr).1=x at *;obtain⟨E,W,w⟩:=F;simp only at *
  cases E with
  | true=>
   have f:K (Te (c.take (a+1)) b d=h):=(by show _=_;rw[o,aC s_];omega);refine J_ ?_;exact⟨a+1,_,g_,O,by rw[f],by first|rfl|simp⟩
  | false=>
   by_cases g:w=d
   ·have f:K (Te (c.take (a+1)) b d=h+x):=w_;have z:(w.toList==d.toList)=true:=(by rw[g];simp);have Z:_=h+x:=As (oj_ f.out n.out) (oj_ f.out n.out);clear g;refine J_ ?_;exact⟨a+1,_,g_,O,by rw[f],by first|rfl|simp⟩
   have f:K (Te (c.take (a+1)) b d=h):=(by show _=_;rw[o,aC (by simp[g])];omega);have z:=Zkj g;clear g;refine J_ ?_;exact⟨a+1,_,g_,O,by rw[f],by first|rfl|simp⟩
 have A:¬a<(e:Int):=O;have f:a=c.length:=p_ k.1;go_wp2;go_ret;exact⟨rfl,_,rfl⟩
def Ke d e b a g h j i c (m:b<=1000)(l:a<=1000):C_ 189 #[.agg #[.bool j,V d b g,V e a h,I i]] c (U_ (.int .i64 (b+a+2:Nat)) c):=by have f:Below _ c (c.alloc (O_ #[.bool j,V d b g,V e a h,I i] 227)):=q_;have k:=Y f;clear f;refine dl_ ?_;go_enter func189,ntmps189;go_wp2;go_ret;exact⟨g_,k⟩
def Zbt d i k j l e m g o f n b c x h (a:World)(A:D_ a d 0 (P_ i))(B:D_ a d 1 (L_ k e m))(s:D_ a k b (L_ j g o))(z:D_ a j c (I x))(t:D_ a i 1 (L_ l f n))(u:D_ a l (b*4+3) (I h))(v:b<e)(w:c<g)(y:b<f):C_ 292 #[P_ d,I c,I b] a λp r=>p=.returned (.bool (x !=h))/\∃q,r=a.drewN q:=by
 have p:=F_ b e;have q:=F_ c g;have r:b<(f:Int):=O;refine dl_ ?_;go_enter func292,ntmps292;go_wp2_with fail
 go_quiet (fail);go_wp2;go_ret;exact⟨rfl,_,rfl⟩
theorem Ag{b e}(f:E_ b e){a d}(c:b.cell? a=some d):e.cell? a=some d:=(f.cell (aJ b a c)).T c
def NuV(e:World)(d:Option Addr)(b:List Nat):Prop:=∀a,a<b.length->∃c,d=some ⟨c,0,none⟩/\e.cell? (J c a)=some (I (b.getD a 0:Nat))
def NuV.below{c d b a}(f:NuV c b a)(g:E_ c d):NuV d b a:=λj i=>by have⟨k,e,h⟩:=f j i;exact⟨k,e,Ag g h⟩
def Ad.e{c d e n b a}(f:Ad c d (V b n e) (An a))(h:a.length=n):NuV c b a:=λk j=>by
 obtain⟨l,i,_,_,g⟩:=f.b (by rw[Aj];exact h) (k:=k) O;rw[Br] at g
 grind
def LiV(g:World)(f:Value)(a:List (List Nat)):Prop:=(∃h c,f=.slice h a.length c)/\∀b,b<a.length->∃e c d i,f=L_ e a.length c/\g.cell? (J e b)=some (V d (a.getD b []).length i)/\NuV g d (a.getD b [])
def LiV.below{e f d a}(b:LiV e d a)(c:E_ e f):LiV f d a:=⟨b.1,λn m=>by
 have⟨o,h,g,i,j,k,l⟩:=b.2 n m
 exact⟨o,h,g,i,j,Ag c k,l.below c⟩⟩
def FeV(d:World)(f:Value)(b:List KS):Prop:=(∃g e,f=.slice g b.length e)/\∀a,a<b.length->∃c e h j i k,f=L_ c b.length e/\d.cell? (J c (a*4))=some (.bool (b.getD a Ai).e.a)/\
  d.cell? (J c (a*4+1))=some (V h (b.getD a Ai).e.g.length j)/\d.cell? (J c (a*4+2))=some (V i (b.getD a Ai).e.c.length k)/\d.cell? (J c (a*4+3))=some (I (b.getD a Ai).d)
def FeV.below{d e c a}(b:FeV d c a)(r:E_ d e):FeV e c a:=⟨b.1,λg f=>by
 have⟨s,j,h,k,i,l,m,n,o,p,q⟩:=b.2 g f
 grind [Ag]⟩
def Ue(a:KS):Prop:=a.e.g.length<=1000/\a.e.c.length<=1000/\(a.e.a=true->a.e.g=[])/\(a.e.a=false->a.e.c=[])
def Ue.a{a}(b:Ue a):a.e.g.length+a.e.c.length+2=a.a:=by
 unfold KS.a ES.b Kr
 cases c:a.e.a
 rw[b.2.2.2 c];simp;rw[b.2.2.1 c];simp
structure DkV(b:World)(c f)(a):Prop where
 h:b.cell? (J c 0)=some (I (f:Nat))
 i:∃e,b.cell? (J c 1)=some e/\FeV b e a
 x:∀d,d<a.length->Ue (a.getD d Ai)
def DkV.below{f g d e c}(a:DkV f d e c)(b:E_ f g):DkV g d e c:=by have⟨j,h,i⟩:=a.i;exact⟨Ag b a.h,⟨j,Ag b h,i.below b⟩,a.x⟩
structure MkV(b:World)(f d g)(c)(a):Prop where
 j:b.cell? (J f 0)=some (P_ d)
 k:∃h,b.cell? (J f 1)=some h/\LiV b h a
 i:DkV b d g c
 len:a.length=c.length
 u:∀e,e<a.length->(a.getD e []).length=g
def MkV.below{h i f e g d c}(a:MkV h f e g d c)(b:E_ h i):MkV i f e g d c:=by have⟨l,j,k⟩:=a.k;exact⟨Ag b a.j,⟨l,Ag b j,k.below b⟩,a.i.below b,a.len,a.u⟩
def MkV.drewN{g e c f b a}(h:MkV g e c f b a) d:MkV (g.drewN d) e c f b a:=h.below (below_drewN y_ d)
def sO(c:List KS)(b:List (List Nat))(a d:Nat):Bool:=decide ((b.getD a []).getD d 0≠(c.getD a Ai).d)
def MkV.a{g m q i e d}(c:MkV g m q i e d){a b}(h:a<e.length)(l:b<i):C_ 292 #[P_ m,I b,I a] g λk j=>k=.returned (.bool (sO e d a b))/\∃f,j=g.drewN f:=by
 have⟨L,r,v⟩:=c.k;have⟨M,s,w⟩:=c.i.i;have f:a<d.length:=c.len ▸ h;obtain⟨x,n,z,E,rfl,j,o⟩:=v.2 a f;obtain⟨H,D,y,B,A,F,rfl,_,_,_,t⟩:=w.2 a h;rw[c.u a f] at j;obtain⟨u,rfl,p⟩:=o b ((c.u a f) ▸ l);have G:=Zbt _ _ x u _ _ n i _ _ _ a b _ _ g c.j r j p s t f l h;have k:(((d.getD a []).getD b 0:Nat) !=((e.getD a Ai).d:Int))=sO e d a b:=by grind [sO]
 grind
def DkV.A{b h n a}(k:DkV b h n a){i}(m:i<a.length):∃c j d f e g,b.cell? (J h 1)=some (L_ c a.length j)/\b.cell? (J c (i*4))=some (.bool (a.getD i Ai).e.a)/\b.cell? (J c (i*4+1))=some (V d (a.getD i Ai).e.g.length f)/\b.cell? (J c (i*4+2))=some (V e (a.getD i Ai).e.c.length g)/\b.cell? (J c (i*4+3))=some (I (a.getD i Ai).d):=by
 have⟨s,p,l⟩:=k.i;obtain⟨r,o,d,f,e,g,rfl,q⟩:=l.2 i m
 grind
def Bn(a:List (Int×List VS))(b:Nat):List VS:=a.map (λc=>c.2.getD b Aw)
def Jj(a:List (Int×List VS)):List Int:=a.map Prod.fst
def ip(c:List (Int×List VS)):Prop:=∀a∈c,(1<=a.1/\a.1<=99)/\∀b∈a.2,(-1000000000<=b.num/\b.num<=1000000000)/\b.g.size<=8
def Zdd{a:List (Int×List VS)}{b i}(d:b<a.length):Ba (Bn (a.take (b+1)) i) (Jj (a.take (b+1)))=Ba (Bn (a.take b) i) (Jj (a.take b))++(if((a.getD b lr).2.getD i Aw).a=true then[] else[(((a.getD b lr).2.getD i Aw).num,(a.getD b lr).1)]):=by have c:a.getD b lr=a[b]:=w_;unfold Bn Jj;rw[Qi d,map_append,map_append,c];exact Vs _ _ _ _ s_
def Zlq{a:List VS}{b}{Q:VS->Prop}(d:∀c∈a,Q c)(e:Q Aw):Q (a.getD b Aw):=w_
def Zld{b}(c:ip b) f:∀a∈Bn b f,(-1000000000<=a.num/\a.num<=1000000000)/\a.g.size<=8:=λa e=>by obtain⟨g,d,rfl⟩:=mem_map.1 e;exact Zlq (Q:=λa=>(-1000000000<=a.num/\a.num<=1000000000)/\a.g.size<=8) (c g d).2 C
def ZnS{b}(c:ip b):∀a∈Jj b,1<=a/\a<=99:=λa e=>by obtain⟨f,d,rfl⟩:=mem_map.1 e;exact(c f d).1
def xu a9 (k a4 c9 c g:Nat) f E D B z a d (H:Wk d a9 k a4 a)(d5:c<a4)(t:ip a)(e5:k<=200)(b9:2<=g)(c0:g<=32)(d3:2<=f)(d4:f<=16):C_ 237 #[.agg #[V D B z,I f,I g,I E],V a9 k c9,I c] d λe h=>∃b r,e=.returned (.agg #[.bool false,.slice b (Ey (Bn a c) (Jj a) f g).length r,.slice none 0 0,.int .i64 0])/\Ad h d.1.size (V b (Ey (Bn a c) (Jj a) f g).length r) (Ey (Bn a c) (Jj a) f g)/\E_ d h:=by
 have⟨y,c7⟩:=Z_ H t;have⟨F,W⟩:=ez_ (Ey (Bn a c) (Jj a) f g);rw[W.out];have⟨j,u⟩:=M_ ((d.alloc (O_ #[V D B z,I f,I g,I E] 37)).alloc (O_ #[.bool false,N_,N_,I 0] 227));have b0:E_ d j:=u ▸ (q_.alloc s_ _);have e8:d.1.size+2<=j.1.size:=by rw[u];simp
 have c2:H_ j d.1.size #[V D B z,I f,I g,I E] 37:=(by rw[u];exact(hc_ s_).T hn_);have c3:H_ j (d.1.size+1) #[.bool false,N_,N_,I 0] 227:=by have e:=ha_ (d.alloc (O_ #[V D B z,I f,I g,I E] 37)) (O_ #[.bool false,N_,N_,I 0] 227);rw[show(d.alloc (O_ #[V D B z,I f,I g,I E] 37)).1.size=d.1.size+1 by simp,<- u] at e;exact e
 have w:=x3_ b0 c2 c3;have a8:=Y u;clear H t u b0 c2 c3;refine dl_ ?_;go_enter func237,ntmps237;go_upto_region 4 with fail;rw[<- a8];clear a8;go_loopw [7,8,9] (λl m h i=>∃b:Nat,h=.int .i64 b/\b<=k/\K (Ad i j.1.size l ((Ba (Bn (a.take b) c) (Jj (a.take b))).map Prod.fst)/\Ad i j.1.size m ((Ba (Bn (a.take b) c) (Jj (a.take b))).map Prod.snd)/\Bl l m)/\E_ j i) (λ_ _ h _=>k-(intOf h).toNat)
 case atStart=>exact⟨0,rfl,r_,⟨Ad.nil _ _,Ad.nil _ _,.inl rfl⟩,y_⟩
 obtain⟨b,rfl,o,l,n⟩:=hrel;have d7:=n.size
 by_cases a0:b<k
 ·have b5:b<a.length:=y.1 ▸ a0;have b4:=w.1.T (n.m O)
  rcases(y.below b4).2 with b3|⟨Z,rfl,x⟩
  omega;have⟨a2,c8,c6,U,_,a5⟩:=x b a0;have⟨G,a3,_⟩:=a5 c d5;have h:=Zdd (i:=c) b5;have q:=Kb (Bn (a.take b) c) (Jj (a.take b));have d6:(Ba (Bn (a.take b) c) (Jj (a.take b))).length<=200:=(by unfold Bn at q ⊢;rw[length_map,length_take] at q;omega);clear q x a5;generalize (a.getD b lr).2.getD c Aw=b8 at *;generalize (a.getD b lr).1=v at *;obtain⟨c1,a1,d1⟩:=b8;simp only at G a3 h;have c4:=F_ b k;have c5:=F_ c a4
  cases c1 with
  | true=>
   have T:K (Ba (Bn (a.take (b+1)) c) (Jj (a.take (b+1)))=Ba (Bn (a.take b) c) (Jj (a.take b))):=(by show _=_;rw[h];simp);clear h;go_wp2;go_roundw;case rel=>exact⟨b+1,g_,O,T ▸ l,n⟩
   case measure=>exact z_
  | false=>
   have T:K (Ba (Bn (a.take (b+1)) c) (Jj (a.take (b+1)))=Ba (Bn (a.take b) c) (Jj (a.take b))++[(a1,v)]):=(by show _=_;rw[h];simp);clear h;generalize Ba (Bn (a.take b) c) (Jj (a.take b))=d0 at *;have⟨P,Q,M⟩:=y3_ l.1 l.2.1 l.2.2;clear l;go_wp2_with (at_builtin;refine Bx rfl (.tmp 26) _ rfl _ _ _ a1 rfl (P.alloc _) _ 1 rfl ?_ ?_ ?_ ?_)
   omega;omega;intro a7 b7 r;have A:=r.2.1;have b6:=A.size;simp at b6;have⟨R,S⟩:=Z_ r.1 (Ad.kept (Q.alloc _) A M.a)
   have N:=Y (Bl.b M (Q.alloc (O_ #[I a1] 3)) (by
    rcases r.out.2.2 with e|e
    exact .inl e
    exact .inr (by simpa using e.1)))
   have a6:=(y_.alloc d7 _).grown A t_ (λb o=>(P.lt b o).1)
   have b2:D_ b7 Z (b*2) (I v):=by
    rcases y.out.2 with b3|⟨i,e,x⟩
    omega;injection e with e;injection e with e1;subst e1;have:=aJ _ _ (x b a0).1;exact(a6.cell (p:=(J Z (b*2))) (by show Z<_;simp at this;omega)).T a2
   clear r A P Q M a2 U G a3;go_wp2_with (at_builtin;refine Bx rfl (.tmp 38) _ rfl _ _ _ v rfl (S.alloc _) _ 1 rfl ?_ ?_ ?_ ?_)
   ·simp[go_sem]
   simp;omega;simp;omega;intro b1 L s;have X:=s.2.1
   have i:K (Ad L j.1.size a7 ((Ba (Bn (a.take (b+1)) c) (Jj (a.take (b+1)))).map Prod.fst)/\Ad L j.1.size b1 ((Ba (Bn (a.take (b+1)) c) (Jj (a.take (b+1)))).map Prod.snd)/\Bl a7 b1):=by
    rw[T];simp only[map_append,map_cons,map_nil];refine⟨Ad.kept (R.alloc _) X N.s.a,s.1,?_⟩
    exact(Bl.b N.s (R.alloc (O_ #[I v] 3)) (by
     rcases s.out.2.2 with e|e
     exact .inl e
     exact .inr (by simpa using e.1))).s
   have m:=(y_.alloc O _).grown X t_ (λb o=>(S.lt b o).1);clear s X R S N b2;go_wp2;go_roundw;case rel=>exact⟨b+1,g_,O,i,n.T (a6.T m)⟩
   case measure=>exact z_
 have e7:¬b<(k:Int):=O;have b3:a.take b=a:=aI (p_ y.1);rw[b3] at l;have q:=Kb (Bn a c) (Jj a);have d6:(Ba (Bn a c) (Jj a)).length<=200:=(by unfold Bn at q ⊢;rw[length_map,y.1] at q;omega);obtain⟨b4,b5,_⟩:=l;have t:=c7.out
 obtain⟨U,d0,rfl,X,S,_⟩:=b4.d (λv a3=>by
  obtain⟨p,h,rfl⟩:=mem_map.1 a3;have⟨⟨i,m,e⟩,_⟩:=Sn _ _ p h
  have:=Zld t c i m;omega)
 obtain⟨G,d1,rfl,Z,T,_⟩:=b5.d (λv a3=>by
  obtain⟨p,h,rfl⟩:=mem_map.1 a3;have⟨_,H⟩:=Sn _ _ p h
  have:=ZnS t _ H;omega)
 have b6:((Ba (Bn a c) (Jj a)).map Prod.fst).length=(Ba (Bn a c) (Jj a)).length:=s_;have b7:((Ba (Bn a c) (Jj a)).map Prod.snd).length=(Ba (Bn a c) (Jj a)).length:=s_;rw[b6] at X S ⊢;rw[b7] at Z T ⊢;have a7:K (∀A,C_ 289 _ (wr.drewN A) λe h=>∃i,e=.returned i/\Am h wr.1.size i _/\E_ wr h):=λA=>(Zbs U G _ d0 d1 _ _ _ _ (X.below (below_drewN y_ A)) (Z.below (below_drewN y_ A)) O S T b9 c0).m (λe h ⟨i,m,r,s⟩=>⟨i,m,r,(below_drewN y_ A).T s⟩);have a2:=Sl b9 c0 ((Ba (Bn a c) (Jj a)).map Prod.fst) ((Ba (Bn a c) (Jj a)).map Prod.snd) t_;have P:K (_/\_/\F=Bm _ _):=⟨a2.1,a2.2,W.out.s⟩
 have x:=x3_ ((n.block _ O).T w.2.1) ((n.block _ O).T w.2.2) (w.1.T (n.m O));clear b4 b5 X Z S T b6 b7 b3 t a2 q W w;generalize Ds g ((Ba (Bn a c) (Jj a)).map Prod.fst) ((Ba (Bn a c) (Jj a)).map Prod.snd)=Q at *;generalize (Ba (Bn a c) (Jj a)).length=f1 at *;have M:=n_ 1 x.1;have N:=n_ 2 x.1;go_upto_region 9 with fail;refine Af (λh=>h.cell? _=some _/\h.cell? _=some _) 9 k_ ⟨M,N⟩ λhHeld=>?_;refine K_ ?_;refine on_ 4 λKK hK=>?_;go_simp;apply (a7 1).m;rintro e a5 ⟨f7,rfl,b8,s⟩;obtain⟨c8,d2,rfl,b1,_,_⟩:=b8.d (p_ P.2.1);have a6:K (C_ 288 #[V c8 Q.length d2,I f] a5 λe h=>∃i,e=.returned i/\Ad h a5.1.size i F/\E_ a5 h):=by rw[P.2.2];exact Zbh _ Q _ _ _ b1 P.1 d3 d4
 have c5:=Ag s M;have c6:=Ag s N;clear b8 b1 a7;generalize Q.length=f0 at *;go_simp;refine hK _ _ ⟨c5,c6⟩ λhHeld=>?_;clear hK KK;try simp only[Act.put,tA,tB,tC]
 refine on_ 7 λKK hK=>?_;go_simp;apply a6.m;rintro e L ⟨f6,rfl,a1,b2⟩;obtain⟨R,r,rfl⟩:=a1.shape;have m:=s.T (b2.m s.size);have h:=(m.block _ O).T x.2.1;have e9:=s.size;have i:K (_/\Ad _ d.1.size _ F/\_):=⟨h,a1.m O,x.out.2.2.T (m.m O)⟩;have d8:=G_ 0 _ _ _ h;have d9:=G_ 1 _ _ _ h;have e0:=G_ 2 _ _ _ h;have e2:=G_ 3 _ _ _ h;have f2:=R_ 0 _ _ h;have f3:=R_ 1 _ _ h;have f4:=R_ 2 _ _ h;have f5:=R_ 3 _ _ h;have e3:=Ag m M;have e4:=Ag m N;simp only[getElem?_toArray,getElem?_cons_zero,getElem?_cons_succ] at d8 d9 e0 e2;clear a1 b2 s m a6 h c5 c6 M N x;generalize e6:F.length=c1 at *;go_simp;refine hK _ _ ⟨e3,e4⟩ λhHeld=>?_;clear hK KK
 refine K_ ?_;refine le_ ?_;go_wp2;apply bodyPost_ret (v:=.agg #[.bool false,V R c1 r,N_,I 0]) (by simp[results,results237,go_sem, *]) rfl;have c4:=Aa.e L (d.1.size+1) (.bool false) (V R c1 r) (N_) (I 0);exact⟨R,r,rfl,c4.row i.2.1 (λb o e=>Ah i.2.1 o i.1 C e),i.2.2.T (c4.b i.2.2.size (λb o=>O))⟩
end Go.Proofs.YtfcgnpchbcmdeaaGreat
