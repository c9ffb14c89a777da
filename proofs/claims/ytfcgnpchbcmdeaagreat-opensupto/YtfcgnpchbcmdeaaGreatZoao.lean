import Derived.Test.YtfcgnpchbcmdeaaGreatZoan
import Derived.Test.YtfcgnpchbcmdeaaGreatZoap
namespace Go.Proofs.YtfcgnpchbcmdeaaGreat
set_option linter.all false
set_option maxRecDepth 100000
set_option maxHeartbeats 4000000
open Go.RowKit List Nat World Go.Proofs.Tryz Value IntKind Lib Region
def WB.row{b}{d m c a f e:Nat}{i g n h}(j:WB b d i)(l:b.ownsRow c a f g e h)(k:a≠90):(b.setCell (J d m) n).ownsRow c a f g e h:=Al l j k
def WB.apart{d}{a e b l k:Nat}{f c m}(h:WB d a f)(j:d.ownsRow e b l c k m)(o:b≠90):some a≠c.ownBlock:=λg=>by
 have⟨n,i⟩:=Ac j g.s;rw[h] at i
 grind
def WB.all{c a e f p j d k g h}(m:WB c a k)(i:Wi f p j d)(n:d c h)(r:f≠90):d (c.setCell (J a e) g) h:=
 i.p (S:=λb=>b=a) n ((Aa.refl (λb=>b=a) c).setCell (p:=(J a e)) (λ_=>rfl) g) (λb q _ o l=>by
  subst l;rw[m] at o
  grind)
structure OwC(k:World)(d h:Nat)(g:Array Value)(ty c e:Nat)(f b a:Value)(j i:List Value):Prop where
 r:k.ownsRow 0 c 1 b j.length j
 y:k.ownsRow 0 e 1 a i.length i
 n:b.ownBlock=none∨b.ownBlock≠f.ownBlock
 o:a.ownBlock=none∨a.ownBlock≠f.ownBlock
 u:a.ownBlock=none∨a.ownBlock≠b.ownBlock
 l:some d≠f.ownBlock
 p:some d≠b.ownBlock
 q:some d≠a.ownBlock
 v:g[h]? =some b
 z:g[h+1]? =some a
 ty:ty≠90/\c≠90/\e≠90/\ty≠c/\c≠e
structure rj(j b:World)(c:Nat)(f:Array Value)(i h:Nat)(d:Value)(g:Nat)(e:Nat->List Value)(a:Nat):Prop where
 row:b.ownsRow 0 i h d g (e a)
 u:Aa (λa=>a=c∨d.ownBlock=some a) j b
 v:WB b c f
structure OwS(l a:World)(b:Nat)(g:Array Value)(k j:Nat)(f:Nat->List Value)(e:World->Value->Prop)(d:Value)(i h:Nat)(m:List Value):Prop where
 n:rh l a k j f e d i h m (λc=>c=b∨d.ownBlock=some c)
 v:WB a b g
structure OwN(g c:World)(h:Nat)(n:Array Value)(o p:Nat)(m:World->Value->Prop)(j k e:Value)(l i:List Value)(f:Value)(d:List Value):Prop where
 v:WB c h n
 x:c.ownsRow 0 o 1 f (l.length+4) (l++d)
 w:c.ownsRow 0 p 1 e i.length i
 all:∀b∈d,m c b/\∀a,b.ownBlock=some a->j.ownBlock=some a∨g.1.size<=a
 u:Aa (λa=>a=h∨j.ownBlock=some a∨k.ownBlock=some a∨e.ownBlock=some a) g c
 z:∀a,f.ownBlock=some a->k.ownBlock=some a∨g.1.size<=a
 A:∀b∈d,∀a,b.ownBlock=some a->e.ownBlock≠some a
 B:∀b∈d,∀a,b.ownBlock=some a->f.ownBlock≠some a
 lt:∀b∈d,∀a,b.ownBlock=some a->a<c.1.size
section
variable {w W w' z:World} {g i ty e f n m j k q u size:Nat} {y:Int} {R r:Nat->List Value} {A:World->Value->Prop} {c:Array Value} {v h b l s x t D:Value} {vs d L B p:List Value} {a:Option Addr} {o:Obj}
def OwC.E(k:WB w g c)(m:w.ownsRow 0 ty size v n L)(j:w.ownsRow 0 e 1 h vs.length vs)(l:w.ownsRow 0 f 1 b d.length d)(q:b.ownBlock=none∨b.ownBlock≠v.ownBlock)(o:c[i]? =some h)(p:c[i+1]? =some b)(a:ty≠90/\e≠90/\f≠90/\ty≠e/\e≠f:=by decide):OwC w g i c ty e f v h b vs d:=
 ⟨j,l,Ao m j a.2.2.2.1,q,Ao j l a.2.2.2.2,k.apart m a.1,k.apart j a.2.1,k.apart l a.2.2.1,o,p,a⟩
def Za9(j:Value)(r:Nat->List Value)(a:WB w g c)(k:w.ownsRow 0 ty size v n (r 0))(u:w.ownsRow 0 e 1 h vs.length vs)(t:w.ownsRow 0 f 1 b d.length d)(s:b.ownBlock=none∨b.ownBlock≠v.ownBlock)(p:c[i]? =some h)(q:c[i+1]? =some b)(m:c[12]? =some D)(l:ty≠90/\e≠90/\f≠90/\ty≠e/\e≠f:=by decide)(x:i+1<12:=by decide):K (OwC w g i (c.setIfInBounds 12 j) ty e f v h b vs d)/\K (rj w (w.setCell (J g 12) j) g (c.setIfInBounds 12 j) ty size v n r 0)/\w.cell? (J g 12)=some D/\(∀o,w.frozen? (J g o)=false)/\(w.setCell (J g 12) j).cell? (J g 12)=some j:=by
 refine⟨{(OwC.E a k u t s p q l) with v:=?_,z:=?_},⟨?_,(Aa.refl _ w).setCell (p:=(J g 12)) (λ_=>.inl rfl) _,a.set _ _⟩,by rw[a.cell];exact m,λo=>a.frozen o,?_⟩
 ·grind
 ·grind
 exact a.row k l.1;rw[(a.set 12 j).cell];grind
def rj.ptr(b:rj w W g c ty size (V a n u) n r k)(i:k<n):∃q,a=some ⟨q,0,none⟩:=by
 rcases b.row.2 with⟨_,h⟩|⟨q,d,e,f,_⟩
 omega
 grind
def rj.next(a:rj w W g c ty 1 (L_ q n u) n (Se L x) k)(f:n=L.length)(e:k<n)(d:some g≠(L_ q n u).ownBlock):(∃b,W.cell? (J q k)=some b)/\(∀o,W.frozen? (J q o)=false)/\K (rj w (W.setCell (J q k) x) g c ty 1 (L_ q n u) n (Se L x) (k+1)):=by refine⟨?_,λo=>World.ownsRow.frozenAt a.row o,?_,a.u.setCell (p:=(J q k)) (λ_=>.inr rfl) _,a.v.h (p:=(J q k)) (λb=>d (by rw[b];rfl)) _⟩;rw[World.ownsRow.cellAt a.row k O];exact⟨_,Qd (by rw[ZiN _ _ O];omega)⟩;rw[<- ZiO _ _ O];exact(World.ownsRow.stored a.row k _).1
def rj.E(a:rj w W g c ty size v n r n)(b:Wi ty size R A)(d:r n=R n)(e:n<=maxLen):OwS w W g c ty size R A v n 0 [v]:=
 ⟨.start b (d ▸ a.row) e a.u,a.v⟩
def OwS.E(a:OwS w W g c ty size R A v n j B)(d:Wi ty size R A)(f:some g≠v.ownBlock)(b:K (w'.ownsRow 0 ty size l (n+m) (R n++R m)/\(W.alloc o).grownBy w' v.ownBlock/\(l.ownBlock=v.ownBlock∨l.ownBlock=some (W.1.size+1)/\Below (W.1.size+1) (W.alloc o) w')/\w'.ownsRow 0 ty size v n (R n)/\∃g e,l=L_ g (n+m) e))(h:j<=m:=by decide)(k:n+m<=maxLen:=by unfold maxLen;omega):K (OwS w w' g c ty size R A v n m (B++[l])):=
 ⟨a.n.E d o h b (λ_ i=>.inr i) k,(a.v.alloc _).grown b.2.1 f⟩
def OwC.row(a:OwC w g i c ty e f v h b vs d)(j:OwS w W g c ty size R A v n m p):W.ownsRow 0 e 1 h vs.length vs/\W.ownsRow 0 f 1 b d.length d:=
 ⟨j.n.u.row a.r (λk o l=>by have:=a.p;have:=a.n;grind),j.n.u.row a.y (λk o l=>by have:=a.q;have:=a.o;grind)⟩
def OwS.F(z:Wi ty size R A)(j:OwC w g i c ty e f v h b vs d)(a:OwS w W g c ty size R A v n m p)(E:K (w'.ownsRow 0 e 1 l (vs.length+4) (vs++p)/\(W.alloc o).grownBy w' h.ownBlock/\(l.ownBlock=h.ownBlock∨l.ownBlock=some (W.1.size+1)/\Below (W.1.size+1) (W.alloc o) w')/\w'.ownsRow 0 e 1 h vs.length vs/\∃g B,l=L_ g (vs.length+4) B)):w'.cell? (J g i)=some h/\(∀o,w'.frozen? (J g o)=false)/\K (OwN w (w'.setCell (J g i) l) g (c.setIfInBounds i l) e f A v h b vs d l p):=by
 obtain⟨D,y,Q,_,_⟩:=E;have⟨F,G⟩:=j.row a;have x:=((Aa.refl _ _).alloc _).grown y (λk q _=>q);have Z:=x.size;have a0:=a.n.u.size;have u:=(a.v.alloc o).grown y j.p;have⟨H,L,M,a1,a2⟩:=j.ty;have S:=j.n;have X:=j.o;refine⟨(u.cell i).T j.v,u.frozen,u.set _ _,u.row D L,u.row (World.ownsRow.kept (ra_ G _) y j.u) M,λs r=>⟨u.all z (z.p (a.n.all s r).1 x λk N _ U q=>?_) H,(a.n.all s r).2.2⟩,?_,λk t=>?_,λs r k t q=>?_,λs r k t q=>?_,λs r k t=>?_⟩
 ·have⟨P,T⟩:=Ac F q
  grind
 exact((a.n.u.m (λk _ q=>w_)).T (x.m (λk _ q=>.inr (.inr (.inl q))))).setCell (p:=(J g i)) (λ_=>.inl rfl) _
 ·grind
 ·have:=(B_ j.y k q).2;have:=(a.n.all s r).2.2 k t
  grind
 ·have:=a.n.lt s r k t;have:=(a.n.all s r).2.2 k t;have:=B_ j.r k
  grind
 have:=a.n.lt s r k t;simp[World.setCell];omega
def OwN.cell(a:OwC w g i c ty e f v h b vs d)(k:OwN w W g (c.setIfInBounds i l) e f A v h b vs d l p)(m:i+1=j:=by rfl):W.cell? (J g j)=some b:=by subst m;rw[k.v.cell,aH O];exact a.z
def OwN.E(D:Wi ty size R A)(B:OwC w g i (c.setIfInBounds 12 (I y)) ty e f v h b vs d)(a:OwN w W g ((c.setIfInBounds 12 (I y)).setIfInBounds i l) e f A v h b vs d l p)(G:E_ W z)(S:p.length=4){E:Nat}{H:Prop}(P:K (w'.ownsRow 0 f 1 s (d.length+4) (d++[t,t,t,t])/\z.grownBy w' b.ownBlock/\(s.ownBlock=b.ownBlock∨s.ownBlock=some E/\H)/\w'.ownsRow 0 f 1 b d.length d/\∃g L,s=L_ g (d.length+4) L))(a3:W.1.size<=E:=by first|omega|simp)(Q:i+1=j:=by rfl):w'.cell? (J g j)=some b/\(∀o,w'.frozen? (J g o)=false)/\K (Yv w (w'.setCell (J g j) s) g i c e f A t v h b vs d y l s p):=by
 obtain⟨M,F,a2,_,_⟩:=P;have x:=((Aa.refl _ _).below G).grown F (λk m _=>m);have a4:=x.size;have a5:=a.u.size;subst Q;have u:=(a.v.below G a.v.lt).grown F B.q;have⟨T,U,X,a6,a7⟩:=B.ty;refine⟨(u.cell _).T (by rw[aH O];exact B.z),u.frozen,u.set _ _,u.row (x.row a.x λk r m=>?_) U,u.row M X,S,λq n=>⟨u.all D (D.p (a.all q n).1 x λk Z N _ m=>a.A q n _ N m) T,(a.all q n).2⟩,?_,a.z,λk r=>?_,λq n k r m=>?_,a.B,λq n k r=>?_⟩
 ·have⟨N,a0⟩:=Ac a.x r;have⟨Z,a1⟩:=Ac a.w m
  grind
 exact(a.u.T (x.m (λk _ m=>.inr (.inr (.inr m))))).setCell (p:=(J g (i+1))) (λ_=>.inl rfl) _
 ·grind
 ·have:=a.lt q n k r;have:=a.A q n k r
  grind
 have:=a.lt q n k r;simp[World.setCell];omega
end
def Yv.a{w z x e i g o p f j q t r v k m u s l}(a:Yv z x e i g o p f j q t r v k m u s l)(n:Aa (λb=>b=e) w z):Yv w x e i g o p f j q t r v k m u s l:=
 have A:=n.size
 ⟨a.v,a.x,a.w,a.len,λy h=>⟨(a.all y h).1,λb c=>((a.all y h).2 b c).imp id λd=>O⟩,(n.m λ_ _ d=>.inl d).T a.u,λb c=>(a.z b c).imp id λd=>O,λb c=>(a.y b c).imp id λd=>O,a.A,a.B,a.lt⟩
def rj.a{r f j o b d i e c a}(k:rj r f j o 98 4 (L_ b d i) d (λa=>flat (Fp e c a)) a)(q:d=e.length)(y:a<d)(x:some j≠(L_ b d i).ownBlock):(∃g:Cm,f.cell? (J b (a*4))=some (I g.v)/\f.cell? (J b (a*4+1))=some (I g.y)/\f.cell? (J b (a*4+2))=some (I g.g)/\f.cell? (J b (a*4+3))=some (I g.h))/\(∀n,f.frozen? (J b n)=false)/\K (rj r ((((f.setCell (J b (a*4)) (I c)).setCell (J b (a*4+1)) (I 0)).setCell (J b (a*4+2)) (I 0)).setCell (J b (a*4+3)) (I 0)) j o 98 4 (L_ b d i) d (λa=>flat (Fp e c a)) (a+1)):=by
 have g:(Fp e c a).length=d:=(by rw[dc e c O,q]);have h:(replicate a (Lp c)).length=a:=s_;have m:Am f 0 (L_ b d i) (Fp e c a):=(by unfold Am;rw[g];exact k.row);rw[ZcY e c O] at m g;have⟨s,t,u,v,_⟩:=m.at g.s h;refine⟨⟨_,s,t,u,v⟩,λn=>World.ownsRow.frozenAt k.row n,?_,?_,?_⟩;have:=(((m.store g.s s_ (Zf7 h c)).store (g.s.T s_) s_ (Zl h 0)).store (g.s.T s_) s_ (Zm h 0)).store (g.s.T s_) s_ (Zn h 0);rw[<- vk] at this;unfold Am at this;rw[dc e c O,<- q] at this;exact this
 exact(((k.u.setCell (p:=J b (a*4)) (λ_=>.inr rfl) _).setCell (p:=J b (a*4+1)) (λ_=>.inr rfl) _).setCell (p:=J b (a*4+2)) (λ_=>.inr rfl) _).setCell (p:=J b (a*4+3)) (λ_=>.inr rfl) _;have l:j≠b:=λw=>x (by rw[w];rfl);exact(((k.v.h (p:=J b (a*4)) l _).h (p:=J b (a*4+1)) l _).h (p:=J b (a*4+2)) l _).h (p:=J b (a*4+3)) l _
def xh d n N P B h D M f b (r:WB b d n)(a9:n[4]? =some P)(b0:n[5]? =some B)(Z:n[12]? =some (I f))(y:Am b 0 N h)(a3:b.ownsRow 0 29 1 P D.length D)(H:b.ownsRow 0 3 1 B M.length M)(e0:h.length<=4194304)(e1:D.length<=100000000)(e2:M.length<=100000000)(c6:0<=f/\f<=100000000):C_ 174 #[.pointer (some (J d 4)),N] b λg Q=>g=.returned (.tuple #[])/\∃b7 a5 a,Yv b Q d 4 n 29 3 (λl=>Gq l (-(f+1))) (I (-(f+1))) N P B D M (f+1) b7 a5 a:=by
 obtain⟨p,q,rfl⟩:∃p q,N=.slice p h.length q:=by
  rcases y.2 with⟨rfl,c⟩|⟨g,a,e,rfl,_⟩
  exact⟨none,0,by rw[c]⟩;exact⟨_,a,rfl⟩
 have b9:b.cell? (J d 12)=some (I f):=(by rw[r.cell];exact Z);have W:=r.frozen;obtain⟨e3,e4⟩:=c6;have⟨e,b4⟩:=Y_ (-(f+1));have d1:i64.wrap (-(f+1))=e:=(As O O).T b4;have⟨o,A⟩:=M_ ((b.setCell (J d 12) (I (f+1))).alloc (O_ #[I e,I 0,I 0,I 0] 98));have a1:=r.set 12 (I (f+1));have a2:WB o d (n.setIfInBounds 12 (I (f+1))):=A ▸ (a1.alloc _);have a7:K (Aa (λa=>a=d) b o):=A ▸ (((Aa.refl (λa=>a=d) _).setCell (p:=(J d 12)) (λ_=>rfl) _).alloc _);have L:∀{a4 b5 k:Nat} {b6:_} {b8:_},b.ownsRow 0 a4 b5 b6 k b8->a4≠90->o.ownsRow 0 a4 b5 b6 k b8:=λb2 c5=>a7.row b2 (λa z g=>by subst g;exact r.apart b2 c5 z.s);have a0:=L y C
 have i:=Y (OwC.E (i:=4) a2 a0 (L a3 C) (L H C) (Ao y H C) (by rw[aH C];exact a9) (by rw[aH C];exact b0));have b3:(b.setCell (J d 12) (I (f+1))).1.size=b.1.size:=(by simp[World.setCell]);have S:K (H_ o b.1.size #[I e,I 0,I 0,I 0] 98):=by rw[A,<- b3];exact hn_
 have E:K (¬(b.1.size=d∨(slice p h.length q).ownBlock=some b.1.size∨P.ownBlock=some b.1.size∨B.ownBlock=some b.1.size)):=λg=>by
  have:=r.lt
  rcases g with g|g|g|g
  omega;exact Nat.lt_irrefl _ (B_ y _ g).2;exact Nat.lt_irrefl _ (B_ a3 _ g).2;exact Nat.lt_irrefl _ (B_ H _ g).2
 have R:K (∀l,Aa (λa=>a=d∨(slice p h.length q).ownBlock=some a) o l->l.cell? (J b.1.size 0)=some (I e)/\l.cell? (J b.1.size 1)=some (I 0)/\l.cell? (J b.1.size 2)=some (I 0)/\l.cell? (J b.1.size 3)=some (I 0)):=λl d6=>
  have a:=d6.g S (λg=>E (g.imp id .inl))
  n4_ (n_ 0 a) (n_ 1 a) (n_ 2 a) (n_ 3 a)
 have j:K (rj o o d (n.setIfInBounds 12 (I (f+1))) 98 4 (V p h.length q) h.length (λa=>flat (Fp h e a)) 0):=⟨by simpa [Fp] using a0,Aa.refl _ _,a2⟩;have c1:(b.setCell (J d 12) (I (f+1))).cell? (J d 12)=some (I (f+1)):=(by rw[a1.cell];have:=(Qb Z).1;simp[this]);rw[b4];clear r y a3 H a9 b0 Z a1 a2 L a0;generalize b1:h.length=k at *;have a6:=Y b1.s;clear b1;refine v_ ?_;go_wp2_with fail
 rw[<- A];clear A b9 W c1 d1 b3;go_loopw [5] (λc s=>∃a:Nat,a<=k/\c=.int .i64 a/\K (rj o s d (n.setIfInBounds 12 (I (f+1))) 98 4 (.slice p k q) k (λa=>flat (Fp h e a)) a)) (λc _=>k-(intOf c).toNat)
 case atStart=>exact⟨0,r_,rfl,j⟩
 clear j;obtain⟨a,d9,rfl,j⟩:=hrel;have⟨u,v,w,x⟩:=R _ j.u
 by_cases z:a<k
 ·obtain⟨T,rfl⟩:=j.ptr z;have⟨⟨U,s,t,F,G⟩,Q,c⟩:=j.a a6 z i.l;clear j;refine J_ ?_;exact⟨a+1,z,g_,c⟩
 obtain rfl:a=k:=O;have T:=Y (j.E Gq.mark (by show flat (Fp h e a)=_;unfold Fp;rw[drop_eq_nil_of_le (by rw[<- a6];exact x_),append_nil]) m_);clear j;go_wp2_with (at_builtin;refine ap_ [I e,I 0,I 0,I 0] (T.n.row.alloc _) ?_)
 intro f1 e7 c;have F:=T.E Gq.mark (m:=1) i.l c;obtain⟨d2,c7,rfl⟩:=c.2.2.2.2;clear c T u v w x;have⟨u,v,w,x⟩:=R _ F.n.u;go_wp2_with (at_builtin;refine ap_ [I e,I 0,I 0,I 0,I e,I 0,I 0,I 0] (F.n.row.alloc _) ?_)
 intro f2 e8 c;have G:=F.E Gq.mark (m:=2) i.l c;obtain⟨d3,c8,rfl⟩:=c.2.2.2.2;clear c F u v w x;have⟨u,v,w,x⟩:=R _ G.n.u;go_wp2_with (at_builtin;refine ap_ [I e,I 0,I 0,I 0,I e,I 0,I 0,I 0,I e,I 0,I 0,I 0] (G.n.row.alloc _) ?_)
 intro f3 e9 c;have t:=G.E Gq.mark (m:=3) i.l c;obtain⟨d4,c9,rfl⟩:=c.2.2.2.2;clear c G u v w x;have c0:=(t.v.cell 4).T i.v;have W:=t.v.frozen;go_wp2_with (at_builtin;refine ap_ [V p a q,L_ d2 (a+1) c7,L_ d3 (a+2) c8,L_ d4 (a+3) c9] ((i.row t).1.alloc _) ?_)
 intro b7 d7 c;have⟨c2,a8,s⟩:=t.F Gq.mark i c;obtain⟨d5,d0,rfl⟩:=c.2.2.2.2;clear c t c0 W;go_upto_region 10 with fail;generalize d7.setCell (J d 4) (L_ d5 (D.length+4) d0)=f0 at *;have U:=s.cell i;have X:=n_ 0 (s.u.g S E);clear c2 a8;refine Af (λQ=>Q.cell? _=some B/\Q.cell? _=some (I e)) 17 k_ ⟨U,X⟩ (λhHeld=>?_);refine K_ ?_;refine on_ 13 λKK hK=>?_;go_simp;refine hK _ _ ⟨X_ U,X_ X⟩ (λhHeld=>?_);clear hK KK;try simp only[Act.put,tA_,tB_,tC_]
 refine on_ 14 λKK hK=>?_;refine aq_ [I e,I e,I e,I e] ((World.ownsRow.drew s.w).alloc _) ?_;intro a5 d8 c;obtain⟨c3,a8,Q⟩:=s.E Gq.mark i (y_.drew.alloc x_ _) rfl c;have c4:=n_ 0 ((Below.heap_setCell d8 (J d 5) a5 b.1.size λg=>E (.inl g)).s.T (Q.u.g S E));obtain⟨e6,e5,rfl⟩:=c.2.2.2.2;clear c s U X;refine hK _ _ ⟨c3,c4⟩ (λhHeld=>?_);clear hK KK;refine K_ ?_;refine le_ ?_;go_wp2;go_end0;exact⟨rfl,_,_,_,Q.a a7⟩
def Zj4{i:World}{c a h g:Nat}{b j}(e:i.ownsRow 0 a h b g j)(m:∀f,b.ownBlock=some f->c<=f):i.ownsRow c a h b g j:=
 ⟨e.1,e.2.imp id λ⟨d,k,l,a,_,n⟩=>⟨d,k,l,a,m d (by rw[a];rfl),n⟩⟩
def li l e h r p q t j n g c (F:WB c l h)(D:h[4]? =some p)(E:h[5]? =some q)(B:h[12]? =some (I g))(G:e<=c.1.size)(v:Am c e r t)(w:c.ownsRow e 29 1 p j.length j)(H:Ad c e q n)(L:t.length<=4194304)(M:j.length<=100000000)(N:n.length<=100000000)(P:0<=g/\g<=100000000):C_ 174 #[.pointer (some (J l 4)),r] c λb k=>b=.returned (.tuple #[])/\∃i s o,WB k l (((h.setIfInBounds 12 (I (g+1))).setIfInBounds 4 i).setIfInBounds 5 s)/\k.ownsRow e 29 1 i (j.length+4) (j++o)/\Ad k e s (n++replicate 4 (-(g+1)))/\o.length=4/\(∀f∈o,Gq k (-(g+1)) f/\∀a,f.ownBlock=some a->e<=a)/\Aa (λa=>a=l∨some a=r.ownBlock∨some a=p.ownBlock∨some a=q.ownBlock) c k/\(i.ownBlock=p.ownBlock∨∃a,i.ownBlock=some a/\c.1.size<=a):=by
 have u:∀{b R Q:Nat} {f:Value} {S:List Value},c.ownsRow e b R f Q S->∀a,(f.ownBlock=some a∨c.1.size<=a)->e<=a:=λA a b=>b.elim (λb=>(B_ A a b).1) (aG G);have x:c.ownsRow e 3 1 q (n.map (int .i64)).length (n.map (int .i64)):=(by rw[length_map];exact H);apply (xh l h r p q t j _ g c F D E B (Ce v r_) (Ce w r_) (Ce x r_) L M (by rw[length_map];exact N) P).m;rintro b k ⟨rfl,i,s,o,d⟩;refine⟨rfl,i,s,o,d.v,Zj4 d.x λa m=>u w a (d.z a m),?_,d.len,λf y=>⟨(d.all f y).1,λa m=>u v a ((d.all f y).2 a m)⟩,d.u.m λa _ b=>b.imp id λb=>b.imp Eq.s λb=>b.imp Eq.s Eq.s,?_⟩
 ·have:=Zj4 d.w λa m=>u x a (d.y a m);unfold Ad
  simpa using this
 obtain⟨z,T,rfl⟩:=ZjJ d.x O;exact(d.z z rfl).imp Eq.s λb=>⟨z,rfl,b⟩
def Pc{h:World}{b c a f e:Nat}{g i}(d:h.ownsRow c a f g e i)(m:b<=c):h.ownsRow b a f g e i:=by
 refine⟨d.1,?_⟩
 rcases d.2 with o|⟨l,j,k,a,n,p⟩
 exact .inl o;exact .inr ⟨l,j,k,a,aG m n,p⟩
def Am.view{c n m b}(j:Am c n m b)(l:b.length<=4194304):∃g i,m=.slice g b.length i/\Ee c g b/\(g=none->i=0):=by
 have h:=j
 rcases j.2 with⟨rfl,k⟩|⟨d,o,r,rfl,_,p,_⟩
 exact⟨none,0,by rw[k],⟨l,.inl k⟩,λ_=>rfl⟩;refine⟨_,o,rfl,⟨l,.inr ⟨d,0,rfl,?_⟩⟩,λe=>by cases e⟩
 have s:∀a,a<b.length->D_ c d (a*4) (I (b.getD a e0).v)/\D_ c d (a*4+1) (I (b.getD a e0).y)/\D_ c d (a*4+2) (I (b.getD a e0).g)/\D_ c d (a*4+3) (I (b.getD a e0).h)/\∀q,c.frozen? (J d q)=false:=λa f=>by have e:b=b.take a++b.getD a e0::b.drop (a+1):=(by grind [drop_eq_getElem_cons,take_append_drop]);rw[e] at h;exact Am.at (n:=b.length) (by rw[<- e] at h ⊢;exact h) (by rw[<- e]) t_
 refine⟨λ_=>(Qb p).1,λa f=>?_,λa f=>?_,λa f=>?_,λa f=>?_⟩
 ·grind
 ·grind
 ·grind
 grind
def Hp(e:World)(c:Nat)(b:Array Value)(h:List (List Cm))(i:Int):Prop:=
 ∃ k j m f d g,
  WB e c b/\b.size=13/\b[0]? =some k/\b[4]? =some j/\b[5]? =some m/\b[12]? =some (I i)/\
  e.ownsRow (c+1) 29 1 k f.length f/\e.ownsRow (c+1) 29 1 j d.length d/\Ad e (c+1) m g/\Bl k j/\
  f.length=h.length/\d.length=g.length/\g.length<=4*i/\f.length<=i/\
  (∀a,a<h.length->Am e (c+1) (f.getD a (N_)) (h.getD a []))/\
  (∀a,a<d.length->Gq e (g.getD a 0) (d.getD a (N_))/\∀l,(d.getD a (N_)).ownBlock=some l->c+1<=l)
def Hp.lt{c b e d f}(a:Hp c b e d f):b<c.1.size:=by obtain⟨_,_,_,_,_,_,a,_⟩:=a;exact a.lt
def Hp.below{e l h g f k}(m:Hp e h g f k)(a:E_ e l):Hp l h g f k:=by obtain⟨H,E,F,D,G,B,i,t,u,v,w,x,y,z,A,n,o,p,q,r,s,j⟩:=m;have d:Aa (λ_=>False) e _:=.a a;exact⟨H,E,F,D,G,B,i.below a i.lt,t,u,v,w,x,d.row y (λ_ _=>id),d.row z (λ_ _=>id),d.row A (λ_ _=>id),n,o,p,q,r,λc b=>(s c b).below a,λc b=>⟨(j c b).1.below a,(j c b).2⟩⟩
def sj{d:Type} b (x c:d){a}(e:a<b.length+1):(b++[x]).getD a c=if a<b.length then b.getD a c else x:=w_
def si{e:Type}(b d:List e) c a:(b++d).getD a c=if a<b.length then b.getD a c else d.getD (a-b.length) c:=w_
def Rq(d e:World):Prop:=∀(c:Nat) b a,d.1[c]? =some (O_ b a)->a≠90->a≠29->a≠3->e.1[c]? =some (O_ b a)
def Rq.a{b c}(d:E_ b c):Rq b c:=λe _ _ a _ _ _=>(d.block e (Qb a).1).T a
def Rq.T{a b c}(j:Rq a b)(k:Rq b c):Rq a c:=λh d i l e f g=>k h d i (j h d i l e f g) e f g
def Zd3 c R a9 p c1 c0 f t g (b4:Hp t c R a9 p)(z:E_ t g)(a0:Am g t.1.size c1 f)(Z:Am g t.1.size c0 f)(f1:Bl c1 c0)(b7:f.length<=4194304)(j4:p<=10000000):C_ 114 #[P_ c,c1,c0] g λb d=>b=.returned (.bool true)/\∃e,Hp d c e (a9++[f]) (p+1)/\(∀a,a≠0->a≠4->a≠5->a≠12->e[a]? =R[a]?)/\Below c g d/\g.1.size<=d.1.size/\Rq t d:=by
 have h9:=b4.lt;have h7:=b4.below z;obtain⟨m,a4,a6,j,u,a1,H,y,e3,e4,e5,e6,U,W,b3,d6,d7,d8,d9,e0,e1,e2⟩:=b4;obtain⟨b0,b1,rfl,e7,_⟩:=a0.view b7;obtain⟨Q,S,rfl,e8,_⟩:=Z.view b7;have i1:c+1<=g.1.size:=p_ z.size;have r:=x3_ d7 e1 e2;have s:=x4_ U W b3 H;have a3:Aa (λ_=>False) _ g:=.a z;have h3:=Y (H.below z h9);have h1:K (Am g (c+1) _ f):=Pc a0 O;have N:=Y (λa e=>(B_ a0 a e).1);have d4:K (Am g (c+1) _ f):=Pc Z O;have⟨h0,g4,D,d0⟩:=y4_ (λa e=>B_ Z a e) f1 (a3.row U (λ_ _=>id)) (a3.row W (λ_ _=>id));have M:K (Ad g _ _ _):=a3.row b3 (λ_ _=>id);have L:=x4_ e3 e4 e5 e6;have⟨g6,g7,c9,g9,c3⟩:=y5_ e7 e8 (λa e=>(B_ U a e).2) (λa e=>(B_ W a e).2) d6
 have h6:=n3_ e0 d9 d8;obtain⟨j1,j2,e9⟩:=h6;have c8:=Y e9;have i6:u.length<=100000000:=O;have i3:a1.length<=100000000:=O;have j5:j.length<=100000000:=O;have i4:0<=p:=O;have c4:=Y z;clear h7 e9 z H e3 e4 e5 e6 U W b3 d6 d7 d8 d9 e0 e1 e2 a0 Z f1 e7 e8 a3;refine dl_ ?_;go_enter func114,ntmps114;go_wp2_with fail
 apply (fm _ _ f _ _ g g6 g7).m;rintro b iZ ⟨rfl,b5⟩;have v:=Y b5;have b9:Aa (λ_=>False) g _:=.a b5;have d2:=Y b9;clear b5 b9;go_wp2_with fail
 apply (li c (c+1) R _ a4 a6 f u a1 p iZ (h3.below v O) L.2.1 L.2.2.1 L.2.2.2 (aG i1 v.size) (h1.below v) (d2.row d0 (λ_ _=>id)) (d2.row M (λ_ _=>id)) b7 i6 i3 ⟨i4,O⟩).m;rintro b q ⟨rfl,a5,c2,a2,f6,f7,f8,f9,g0,g1,g2⟩;have⟨F,c6,c7⟩:=y3_ f6 f7 f8;have w:=T_ f9 g0;have⟨d3,h2⟩:=Z_ g1 g2;clear f6 f7 f8 f9 g0 g1 g2;have⟨T,X⟩:=M_ (((R.setIfInBounds 12 (I (p+1))).setIfInBounds 4 a5).setIfInBounds 5 c2);have B:=Y X;rw[<- X] at F;have c5:K (T[0]? =some m):=(by show T[0]? =some m;rw[X,aH C,aH C,aH C];exact L.1);clear X;have⟨d1,E⟩:=Z_ (((Aa.a c4).below (v)).T d3) ((Aa.a v).T d3)
 have a7:=Y (E.row D (λa e b=>by
  rcases b with b|b|b|b
  have:=(B_ D a e).1;omega;have H:=N a b.s;have y:=c9 a e;omega
  ·rcases c3.out with d|d|d
   ·grind
   ·grind
   grind
  rcases Ao M D C with d|d
  ·grind
  grind))
 have h4:q.cell? (J c 0)=some m:=(by rw[F.cell];exact c5);have h5:=λb8=>F.frozen b8;have j3:c+1<=q.1.size:=p_ E.size;go_wp2_with (at_builtin;refine ap_ [V Q f.length S] (ra_ a7 _) ?_)
 rintro j6 n ⟨f4,b6,f3,_,i,l,rfl⟩;have i0:_≠_:=λb=>p_ (B_ D c b.s).1;have⟨a8,g8,x⟩:=y3_ ((F.alloc _).grown b6 i0) f4 (((Aa.refl _ _).alloc _).grown b6 (λa b _=>b.s))
 have g5:K (some i=m.ownBlock∨i=q.1.size+1):=by
  rcases f3 with d|⟨d,_⟩
  exact .inl d;simp[ownBlock] at d;exact .inr d
 have j0:=λb8=>a8.frozen b8;have i9:n.cell? (J c 0)=some m:=(by rw[a8.cell];exact c5);clear f4 b6 f3 h4 h5;go_wp2;go_ret;refine⟨rfl,T.setIfInBounds 0 (L_ i (j.length+1) l),?_,?_,?_,?_,?_⟩
 ·have f2:T.size=13:=(by rw[B];simp[y]);have G:Aa (λa=>a=c∨_) q (n.setCell _ (L_ i (j.length+1) l)):=(x.m (λa _ b=>.inr b)).setCell (p:=(J c 0)) (λ_=>.inl rfl) _
  have P:Aa (λa=>a=c∨some a=(slice b0 f.length b1).ownBlock∨some a=a4.ownBlock∨some a=a6.ownBlock∨some a=m.ownBlock) t (n.setCell (J c 0) (L_ i (j.length+1) l)):=
   (d1.m (λa _ b=>w_)).T (G.m (λa _ b=>w_))
  have g3:∀a k,t.1[a]? =some (O_ k 98)->¬(a=c∨some a=(slice b0 f.length b1).ownBlock∨some a=a4.ownBlock∨some a=a6.ownBlock∨some a=m.ownBlock):=λa k h b=>by
   have e:=(Qb h).1
   rcases b with b|b|b|b|b
   subst b;rw[s.2.2.2] at h;simp at h;have:=N a b.s;omega;have⟨d,o⟩:=Ac s.2.1 b.s;grind;have⟨d,o⟩:=Ac s.2.2.1 b.s;grind;have⟨d,o⟩:=Ac s.1 b.s;grind
  have i7:∀a k,q.1[a]? =some (O_ k 98)->¬(a=c∨some a=m.ownBlock):=λa k h b=>by
   rcases b with b|b
   subst b;rw[F] at h;simp at h;have⟨d,o⟩:=Ac a7 b.s;grind
  have f0:Am q (c+1) (V Q f.length S) f:=E.row d4 (λa e b=>by
   have o:=h0 a e
   rcases b with b|b|b|b
   omega
   ·rcases g4.out with d|d|d
    ·grind
    ·grind
    grind
   have:=g9 a b.s;omega
   rcases Ao M d4 C with d|d
   ·grind
   grind)
  have h8:Am (n.setCell (J c 0) (L_ i (j.length+1) l)) (c+1) (V Q f.length S) f:=G.row f0 (λa e b=>by
   have⟨k,b2⟩:=Ac f0 e
   grind)
  have f5:∀a,a5.ownBlock=some a->some a≠m.ownBlock:=λa e b=>by
   rcases h2.out with d|⟨A,d,i5⟩
   ·rcases c3.out with o|o|o
    ·grind
    ·grind
    grind
   rw[d] at e
   have d5:A=a:=by simpa using e
   have b2:=c9 a b.s;have o:=c4.size;have i2:=v.size;omega
  have i5:(n.setCell (J c 0) (L_ i (j.length+1) l)).ownsRow (c+1) 29 1 a5 _ (u++a2):=mi (x.row c6 (λa e b=>f5 a e b)) O
  have i2:Ad (n.setCell (J c 0) (L_ i (j.length+1) l)) (c+1) c2 (a1++replicate 4 (-(p+1))):=mi (x.row c7 (λa e b=>by
   rcases Ao a7 c7 C with d|d
   ·grind
   grind)) O
  refine⟨L_ i (j.length+1) l,a5,c2,j++[V Q f.length S],u++a2,a1++replicate 4 _,a8.set 0 _,by simp[f2],?_,?_,?_,?_,?_,?_,i2,?_,?_,?_,?_,?_,?_,?_⟩;simp[f2];rw[aH C,B,aH C];simp[y];rw[aH C,B];simp[y];rw[aH C,B,aH C,aH C];simp[y];rw[Qe];exact mi g8 O;rw[Qe,w.1];exact i5
  ·right;right;intro b;have o:_=some i:=b.s
   rcases g5.out with d|d
   exact f5 _ o d;have:=(B_ c6 i o).2;omega
  simp[r.out.1];simp[w.out.1,c8.out];simp;omega;simp;omega
  ·intro o A;rw[Qe] at A;rw[sj _ _ _ (r.1 ▸ A),sj _ _ _ A]
   by_cases d:o<a9.length
   ·rw[aD (r.1 ▸ d),aD d]
    exact P.row (r.2.1 o d) (λa e b=>by
     have⟨k,b2⟩:=Ac (r.2.1 o d) e
     exact g3 a _ b2 b)
   rw[aC (r.1 ▸ d),aC d];exact h8
  intro o A;rw[Qe,w.1] at A;rw[si,si,<- c8]
  by_cases d:o<u.length
  rw[aD d,aD d];exact⟨(r.2.2 o d).1.p P (λa k _ h=>g3 a _ h),(r.2.2 o d).2⟩;rw[aC d,aC d];have d5:(replicate 4 (-(p+1))).getD (o-u.length) 0= -(p+1):=(by rw[getD,getElem?_replicate,aD O];rfl);have b2:a2.getD (o-u.length) (N_)∈a2:=(by rw[getD,Qd (p_ w.1)];exact Qf _);rw[d5];exact⟨(w.2 _ b2).1.p G (λa k _ h=>i7 a _ h),(w.2 _ b2).2⟩
 intro a d h k e;rw[aH O,B,aH O,aH O,aH O]
 ·have d:Aa (λa=>c<=a) g q:=E.m (λa _ b=>by
   show c<=a
   rcases b with b|b|b|b
   omega;have:=N a b.s;omega;have:=(B_ d0 a b.s).1;omega
   have:=(B_ M a b.s).1;omega)
  have h:Aa (λa=>c<=a) q n:=x.m (λa _ b=>by
   show c<=a
   have:=(B_ D a b.s).1;omega)
  have A:Aa _ g (n.setCell _ (L_ i (j.length+1) l)):=(d.T h).setCell (p:=(J c 0)) (λ_=>Qa c) _;exact⟨A.os,A.tape,A.output,A.size,λa e=>A.block a O O⟩
 have H:=E.size;have y:=x.size;simp[World.setCell];omega;have G:Aa (λa=>a=c∨_) q (n.setCell _ (L_ i (j.length+1) l)):=(x.m (λa _ b=>.inr b)).setCell (p:=(J c 0)) (λ_=>.inl rfl) _
 have P:Aa (λa=>a=c∨some a=(slice b0 f.length b1).ownBlock∨some a=a4.ownBlock∨some a=a6.ownBlock∨some a=m.ownBlock) t (n.setCell (J c 0) (L_ i (j.length+1) l)):=
  (d1.m (λa _ b=>w_)).T (G.m (λa _ b=>w_))
 intro a k A h b9 b2 d5;have e:=(Qb h).1;refine P.g h (λb=>?_)
 rcases b with b|b|b|b|b
 subst b;rw[s.2.2.2] at h;grind;have:=N a b.s;omega;have⟨d,o⟩:=Ac s.2.1 b.s;grind;have⟨d,o⟩:=Ac s.2.2.1 b.s;grind;have⟨d,o⟩:=Ac s.1 b.s;grind
def Zfj(a b:Int):Int:=if a<0∨b<=a then 0 else a
def al a b c:C_ 74 #[I a,I b] c (V_ (.int .i64 (Zfj a b)) c):=by
 unfold Zfj
 by_cases d:a<0
 ·rw[aD (.inl d)];refine dl_ ?_;go_enter func74,ntmps74;go_wp2;go_ret;exact⟨rfl,rfl⟩
 by_cases e:b<=a
 ·rw[aD (.inr e)];go_enter func74,ntmps74;go_wp2;go_ret;exact⟨rfl,rfl⟩
 rw[aC O];go_enter func74,ntmps74;go_wp2;go_ret;exact⟨rfl,rfl⟩
def lp b {n}(c:0<n):∃a:Nat,a<n/\Zfj b n=a:=by unfold Zfj;split;exact⟨0,c,rfl⟩;exact⟨b.toNat,O,O⟩
def Nu(b:List Int)(c a:Nat):Value:=if a<b.length then I (b.getD a 0) else if a<c then I (-7-a) else I 0
def ZaM{i:World}{e b a f d}(h:f=replicate (b+8) (I 0))(g:d=a.map (int .i64))(c:a.length=b)(j:i.1[e]? =some (O_ (splice f 0 d).toArray 3)):i.rowIs e 3 (b+8) (Nu a b):=by
 refine⟨_,j,?_,λl k=>?_⟩;simp[splice,h,g,c];subst h g c;have c:(List.map (int .i64) a).length=a.length:=s_;unfold Nu splice
 grind
def ez p a k h b (t:Cn b (some p) a h)(Q:a<=2097152):C_ 112 #[V (some p) a k] b λi c=>i=.returned (.slice (some ⟨b.1.size,0,none⟩) a (a+8))/\c.rowIs b.1.size 3 (a+8) (Nu h (a+8))/\E_ b c:=by
 have⟨T,U,W,X,Z⟩:=info_parts Zjb;have j:=Y t;clear t;have R:∀d:_,(binOp _ _ _ _).run _ d=.ok (.bool false) d:=λd=>run_eql_slice_nil d 25 3 (some p) a k 0 0 underlying25;obtain⟨f,l⟩:∃f:List Value,f=replicate (a+8) (I 0):=⟨_,rfl⟩;obtain⟨g,q⟩:∃g:List Value,g=h.map (int .i64):=⟨_,rfl⟩;have P:∀d:World,(Instr.makeSlice 25 (I (a+8)) (I (a+8))).run prog d=.ok (L_ d.1.size (a+8) (a+8)) (d.alloc (O_ f.toArray 3)):=by intro d;have:=run_make_row' (P:=prog) 25 3 (I 0) 8 underlying25 Zjb rfl .i64 .i64 (a+8) O O d;rw[show((a+8:Nat):Int)=(a:Int)+8 by omega] at this;rw[this,l];congr 3;apply Array.ext;simp[madeCells];intro c v w;simp[madeCells,mod_one]
 have⟨y,n⟩:=Z_ l q;have G:f.length=a+8:=(by rw[l];simp);have r:g.length=a:=(by rw[q];simp[j.out.1]);clear l q;have F:(prog.info? 3).map (·.size)=some 1:=w_
 have s:K (∀d:World,E_ b d->0<g.length->∃o,some p=some o/\∀e c,g[e]? =some c->d.cell? (o.add e)=some c):=λd A u=>by
  refine⟨p,rfl,λe c x=>?_⟩;obtain⟨v,_,w|⟨m,o,i,E,B⟩⟩:=j.out;omega;simp at i;subst i;have z:((J m o):Addr).add e=(J m (o+e)):=(by unfold Addr.add;split<;>simp_all);have D:e<a:=w_;rw[z,A.cell (p:=(J m (o+e))) E,B e D,<- x,n]
  grind
 obtain⟨m,H,B,E⟩:∃m:World,(Builtin.copy_ #[25,25] 3 #[L_ b.1.size (a+8) (a+8),V (some p) a k]).run prog (b.alloc (O_ f.toArray 3))=.ok (I a) m/\K (m.rowIs b.1.size 3 (a+8) (Nu h a))/\E_ b m:=by
  have v:Below _ b (b.alloc (O_ f.toArray 3)):=q_;have w:(b.alloc (O_ f.toArray 3)).1[_]? =_:=ha_ b _
  have z:∀e c,g[e]? =some c->(b.alloc (O_ f.toArray 3)).cell? (p.add e)=some c:=λe c x=>by
   have u:0<g.length:=w_;have⟨o,i,D⟩:=s _ v u
   grind
  have o:=run_copy_row (P:=prog) _ 25 25 3 3 _ 0 (a+8) (a+8) p a k _ 3 g underlying25 F w w_ z t_ (by rw[n];intro c i;simp at i;obtain⟨_,_,rfl⟩:=i;rfl);refine⟨_,by rw[o,r];rfl,?_,below_setRow v x_ _⟩;apply ZaM y n j.1;have:=setRow_heap (b.alloc (O_ f.toArray 3)) b.1.size f.toArray (f.toArray.toList.take 0++g++f.toArray.toList.drop (0+g.length)).toArray 3 (0,0) w;rw[r] at this;rw[this];simp[splice,r]
 clear s;refine dl_ ?_;go_enter func112,ntmps112;go_wp2_with fail
 go_loopw [4] (λe i=>∃c:Nat,a<=c/\c<=a+8/\e=.int .i64 c/\K (i.rowIs b.1.size 3 (a+8) (Nu h c))/\E_ b i) (λe _=>a+8-(intOf e).toNat)
 case atStart=>grind
 obtain⟨c,M,N,rfl,i,o⟩:=hrel
 by_cases w:c<a+8
 ·have z:0<=(c:Int):=O;have D:c<(a:Int)+8:=O;have v:=i.cell w;have L:=i.frozen c
  have x:K ((wr.setCell (J b.1.size c) (I (-7-c))).rowIs b.1.size 3 (a+8) (Nu h (c+1))):=(i.set c _).congr (λe _=>by
   have S:=j.1
   grind [Nu])
  have e:Below _ b (wr.setCell (J b.1.size c) (I (-7-(c:_)))):=o.setCell x_ _;generalize Nu h c c=S at v;go_wp2
  grind [intOf]
 have e:c=a+8:=O;subst e;go_wp2;go_ret;exact⟨rfl,i,o⟩
def Qu(b:List Int)(c a:Nat):Value:=if a<c then I (-9) else Nu b (b.length+8) a
def bp k b o c d g (p:Cn g (some k) b d)(L:b<=2097152)(y:g.rowIs c 3 (b+8) (Nu d (b+8)))(N:0<b->k.block≠c):C_ 113 #[L_ c b (b+8),V (some k) b o] g λf a=>f=.returned (.bool true)/\g.grownBy a (some c):=by
 have j:=Y p;have r:K (g.rowIs c 3 (b+8) (Qu d 0)):=(by have f:=p.1.s;subst f;exact y);have M:∀e:_,(binOp _ _ _ _).run _ e=.ok (.bool false) e:=λe=>run_eql_slice_nil e 25 3 (some k) b o 0 0 underlying25;refine v_ ?_;go_wp2_with fail
 go_loopw [6,7] (λl h i=>∃a:Nat,a<=b+8/\l=.bool true/\h=.int .i64 a/\K (i.rowIs c 3 (b+8) (Qu d a))/\K (g.grownBy i (some c))) (λ_ h _=>b+8-(intOf h).toNat)
 exact⟨0,r_,rfl,rfl,r,grownBy.refl _ _⟩;obtain⟨a,H,rfl,rfl,h,i⟩:=hrel;have x:=h.lt
 by_cases w:a<b+8
 ·have A:0<=(a:Int):=O;have B:a<(b:Int)+8:=O;have m:=h.cell w;have G:=h.frozen a;have n:K (∀e:World,e.rowIs c 3 (b+8) (Qu d a)->(e.setCell (J c a) (I (-9))).rowIs c 3 (b+8) (Qu d (a+1))):=λe t=>(t.set a _).congr (λl _=>by grind [Qu])
  by_cases q:a<b
  ·have l:Qu d a a=I (d.getD a 0):=(by unfold Qu Nu;rw[aC O,aD (j.1 ▸ q)]);rw[l] at m;obtain⟨D,_,E|⟨z,P,f,F,u⟩⟩:=j.out;omega;simp at f;subst f;have v:=i.cell (u a q) w_;have s:a<(b:Int):=O;generalize d.getD a 0=Q at m v;go_wp2_with fail
   go_big_quiet (fail);refine J_ ?_;exact⟨a+1,O,rfl,g_,n _ (h.of_block ((below_drewN y_ _).block c x)),Bd (Im i (Ns (below_drewN y_ _))) _ _⟩
  have l:Qu d a a=I (-7-a):=(by unfold Qu Nu;rw[aC O,aC (p_ j.1),aD (p_ j.1)]);rw[l] at m;have s:¬a<(b:Int):=O;go_wp2_with fail
  go_roundw;exact⟨a+1,O,rfl,g_,n _ h,Bd i _ _⟩;exact z_
 have l:a=b+8:=O;subst l;go_wp2;go_ret;exact⟨rfl,i⟩
def qy{P} b i z A j k d g n f h y c m a (x:P.underlying i=some (.slice j))(u:P.info? j=some k)(q:H_ b d c m)(s:a.length=Nat.min h g*k.size)(v:∀l e,a[l]? =some e->b.cell? (f.add l)=some e)(p:a.length<=c.size)(o:∀e∈a,e.oneCell'=true):(Builtin.copy_ #[i,z] A #[L_ d g n,V (some f) h y]).run P b=.ok (goInt (Nat.min h g)) (b.setRow d (c.toList.take 0++a++c.toList.drop (0+a.length)).toArray):=by have r:=run_loadCells_list (P:=P) b f _ v;have w:=run_storeCells_at P d 0 m _ 0 _ b q (by simpa using p) o;have t:=s.s;simp[Builtin.copy_,run_underlying x,Builtin.lenOf,Builtin.firstCells,sizeOf,typeInfo,u,t,r,w]
def Zjr(c b:Nat):List Cm:=(range b).map λa=>⟨-7-(c+a:Nat),0,0,0⟩
def Zji(a:List Cm)(b:Nat):List Cm:=(a++Zjr a.length b)++replicate (8-b) e0
def ZnY a {b}(c:b<=8):(Zji a b).length=a.length+8:=by simp[Zji,Zjr];omega
def Zna{j g b d}(h:Le j g b d):∀a i,(flat d)[a]? =some i->j.cell? (((J g b):Addr).add a)=some i:=by
 intro a i l;have k:((J g b):Addr).add a=(J g (b+a)):=(by unfold Addr.add;split<;>simp_all);have m:a<d.length*4:=(by grind [Es]);have e:a/4<d.length:=O;have f:=Zas d _ (a%4) e O;rw[show a/4*4+a%4=a by omega,l] at f;rw[k]
 rcases(show a%4=0∨a%4=1∨a%4=2∨a%4=3 by omega) with c|c|c|c
 rw[show b+a=b+a/4*4 by omega,h.v _ e,f,c];rfl;rw[show b+a=b+a/4*4+1 by omega,h.y _ e,f,c];rfl;rw[show b+a=b+a/4*4+2 by omega,h.g _ e,f,c];rfl;rw[show b+a=b+a/4*4+3 by omega,h.h _ e,f,c];rfl
def m9:Cm:=⟨-9,0,0,0⟩
def Zpp(b:List Cm)(a:Nat):List Cm:=replicate a m9++(Zji b 8).drop a
def ZmE a:(binOp .eql 25 (N_) (N_)).run prog a=.ok (.bool true) a:=run_eql_slice_nil a 25 3 none 0 0 0 0 underlying25
def fd a:C_ 112 #[N_] a (V_ (.slice none 0 0) a):=by have b:=ZmE;refine er_ ?_;exact⟨rfl,rfl⟩
def bq b a:C_ 113 #[b,N_] a (V_ (.bool true) a):=by have c:=ZmE;refine er_ ?_;exact⟨rfl,rfl⟩
def Qw(f:World)(g:Nat)(e:Value)(d:Option Addr)(a h:Nat)(c:List Int):Prop:=
 (d=none/\a=0/\h=0/\c=[]/\e=.slice none 0 0)∨∃i b,d=some i/\e=L_ b a (a+8)/\g<=b/\b<f.1.size/\c.length=a/\(∀j∈c,(Lit.int .i64 j).wf=true)/\f.rowIs b 3 (a+8) (Nu c (a+8))
def Qw.below{i j base h b g c k}(a:Qw i base h b g c k)(f:E_ i j):Qw j base h b g c k:=by
 rcases a with a|⟨u,d,m,n,o,e,p,q,l,r,s,t⟩
 exact .inl a;exact .inr ⟨u,d,m,n,o,Qh e f.size,p,q,l,(f.block d e).T r,s,t⟩
def Qw.view{b i f h a j g}(m:Qw b i f h a j g):∃c k,f=.slice c a k/\Cn b c a g:=by
 rcases m with⟨rfl,rfl,rfl,rfl,rfl⟩|⟨v,d,rfl,rfl,s,n,o,p,l,q,t,r⟩
 exact⟨none,0,rfl,rfl,s_,.inl rfl⟩;refine⟨_,_,rfl,o,p,.inr ⟨d,0,rfl,n,λe u=>?_⟩⟩;rw[Nat.zero_add,cell_of_row b d e l 3 (0,0) q,r e O];unfold Nu
 grind
def su c b d j a (e:Cn a c b j)(m:c=none->b=0/\d=0)(l:b<=2097152):C_ 112 #[V c b d] a λg f=>∃h,g=.returned h/\Qw f a.1.size h c b d j/\E_ a f:=by
 cases c with
 | none=>
  obtain⟨rfl,rfl⟩:=m rfl;apply (fd a).m;rintro g f ⟨rfl,rfl⟩;exact⟨_,rfl,.inl ⟨rfl,rfl,rfl,eq_nil_of_length_eq_zero e.1,rfl⟩,y_⟩
 | some i=>
  apply (ez i b d _ a e l).m;rintro g f ⟨rfl,h,k⟩;refine⟨_,rfl,.inr ⟨i,a.1.size,rfl,rfl,x_,?_,e.1,e.2.1,h⟩,k⟩;obtain⟨n,o,_⟩:=h
  grind
def nh c a e h m g b (i:Qw b h g c a e m)(j:Cn b c a m)(x:∀d k,c=some ⟨d,k,none⟩->0<a->d<h)(q:a<=2097152):C_ 113 #[g,V c a e] b λf l=>f=.returned (.bool true)/\b.grownBy l g.ownBlock:=by
 rcases i with⟨rfl,rfl,rfl,rfl,rfl⟩|⟨r,n,rfl,rfl,t,u,v,w,o⟩
 ·apply (bq _ b).m
  grind [Az]
 refine(bp r a e n _ b j q o (λs f=>?_)).m ?_
 ·rcases j.2.2 with i|⟨d,k,l,_,_⟩
  omega
  grind
 rintro f l ⟨rfl,p⟩;exact⟨rfl,p⟩
def Qw.q{b c f g j h k}(i:Qw b c f g j h k){a}(e:f.ownBlock=some a):c<=a/\a<b.1.size/\∃d,b.1[a]? =some (O_ d 3):=by
 rcases i with⟨rfl,rfl,rfl,rfl,rfl⟩|⟨s,l,rfl,rfl,m,n,o,p,d,q,r⟩
 ·cases e
 simp[ownBlock] at e
 grind
def Cn.p{S f w' d c j}(k:Cn f d c j)(i:Aa S f w')(q:∀a b,d=some ⟨a,b,none⟩->0<c->¬S a):Cn w' d c j:=by
 obtain⟨m,n,e⟩:=k;refine⟨m,n,?_⟩
 rcases e with e|⟨a,b,rfl,g,o⟩
 exact .inl e
 by_cases l:c=0
 exact .inl l;refine .inr ⟨a,b,rfl,Qh g i.size,λh p=>?_⟩;rw[cb_ (w:=f) (a:=(J a (b+h))) (i.block a g (q a b rfl O))];exact o h p
def lenOf:Value->Nat
 |.slice _ a _=>a
 |_=>0
def Ad.a{d i h b}(f:Ad d i h b):∃e j,h=.slice e b.length j/\∀a,a<b.length->∃c,e=some ⟨c,0,none⟩/\c<d.1.size/\d.cell? (J c a)=some (I (b.getD a 0)):=by
 rcases f.2 with⟨rfl,o⟩|⟨l,k,n,rfl,p,m,q⟩
 ·grind
 refine⟨some _,k,rfl,λa g=>⟨l,rfl,(Qb m).1,?_⟩⟩;rw[World.ownsRow.cellAt f a (by simp;exact g)];simp[g]
def Am.a{c h f a}(j:Am c h f a):∃e i,f=.slice e a.length i/\∀d g,a=d++[g]->∃b,e=some ⟨b,0,none⟩/\b<c.1.size/\c.cell? (J b (d.length*4))=some (I g.v):=by
 rcases j.2 with⟨rfl,n⟩|⟨m,k,l,rfl,o,p,q⟩
 ·grind
 grind [Am.at]
def cx{d b c a e i}(h:Am d b c e)(g:Ad d b a i):a.ownBlock=none∨a.ownBlock≠c.ownBlock:=by
 rcases g.2 with⟨rfl,_⟩|⟨n,j,l,rfl,_,p,_⟩
 exact .inl rfl
 rcases h.2 with⟨rfl,_⟩|⟨o,k,m,rfl,_,q,_⟩
 exact .inr (by simp[ownBlock]);refine .inr λf=>?_;simp[ownBlock] at f
 grind
def Kp.a{b k d g e f}(j:∀a∈b,1<=a.2/\a.2<=1000)(h:Kp b k d g e f):0<=f/\f<=1000*b.length:=by
 cases g with
 |false=>obtain⟨_,l,_⟩:=h.i rfl;omega
 | true=>
  have⟨_,_,l⟩:=h.h rfl;have i:∀a∈b.take d,_:=λa c=>(j a (aL c)).1;have m:=Yo i e;have n:=Zkv i e;have o:=Ub (ps:=b.take d) (λa c=>(j a (aL c)).2)
  grind
def Jw.a{d c}(g:∀a∈d,1<=a.2/\a.2<=1000)(e:Jw d c):0<=Bv c/\Bv c<=1000*d.length:=by have f:=λa b=>(g a b).1;have i:=yk f e.e;have j:=Ym e.h;have k:=Ub (ps:=d) (λa b=>(g a b).2);have h:=(Qo (M:=c) (λa b=>(e.h a b) ▸ (Yo f _)) 0).2;simp[Bv] at h;omega
def Zc3{M}{x}:(M.length=0/\Ew M x=true)∨∃b a,M=b++[a]/\Ew M x=decide (a.1<x):=by
 rcases eq_nil_or_concat M with c|⟨b,a,c⟩
 subst c;exact .inl ⟨rfl,rfl⟩;rw[concat_eq_append] at c;subst c;exact .inr ⟨b,a,rfl,Vq b a x⟩
def ly a b:Bo 0 (a++[b])=Bo 0 a++[⟨b.1,Bv a,Bv a+b.2,b.2⟩]:=by rw[Yc];simp[Bo]
def kj{b e}(f:E_ b e){a d}(c:b.cell? a=some d):e.cell? a=some d:=(f.cell (aJ b a c)).T c
def Ad.g{e b c h a d f i x g}{m:Prop}(l:Ad e c d i)(k:Bl h d)(j:b.ownsRow c 3 1 a (f.length+1) (f.map (int .i64)++[I x])/\e.grownBy b h.ownBlock/\(a.ownBlock=h.ownBlock∨a.ownBlock=some g/\Below g e b)/\m)(n:e.1.size=g:=by simp):Ad b c a (f++[x])/\Ad b c d i/\Bl a d:=
 ⟨Ad.E j.1,l.kept j.2.1 k.a,k.b l w_⟩
def Kp.step{a d b h c i}(f:Kp a d b h c i)(g:b<a.length):(Ew d a[b].1=false/\((h=false/\K (Kp a d (b+1) false c i))∨(h=true/\((a[b].1==c)=true/\K (Kp a d (b+1) true c (i+a[b].2))∨(a[b].1==c)=false/\K (Kp a d (b+1) true c i)))))∨(Ew d a[b].1=true/\(a[b].1==a[b].1)=true/\((h=false/\K (Kp a d (b+1) true a[b].1 a[b].2))∨(h=true/\(decide (a[b].1<c)=true/\K (Kp a d (b+1) true a[b].1 a[b].2)∨decide (a[b].1<c)=false/\((a[b].1==c)=true/\K (Kp a d (b+1) true c (i+a[b].2))∨(a[b].1==c)=false/\K (Kp a d (b+1) true c i)))))):=by
 cases j:Ew d a[b].1<;>cases h
 exact .inl ⟨rfl,.inl ⟨rfl,f.c g (λ_=>j) nofun⟩⟩
 ·refine .inl ⟨rfl,.inr ⟨rfl,?_⟩⟩
  by_cases e:a[b].1=c
  exact .inl ⟨beq_iff_eq.2 e,f.b g e⟩;exact .inr ⟨aO e,f.c g nofun λ_=>⟨e,λk=>w_⟩⟩
 exact .inr ⟨rfl,s_,.inl ⟨rfl,f.new g j (.inl rfl)⟩⟩;refine .inr ⟨rfl,s_,.inr ⟨rfl,?_⟩⟩
 rcases Int.lt_trichotomy a[b].1 c with e|e|e
 exact .inl ⟨aF e,f.new g j (.inr e)⟩;exact .inr ⟨aE O,.inl ⟨beq_iff_eq.2 e,f.b g e⟩⟩;exact .inr ⟨aE O,.inr ⟨aO O,f.c g nofun λ_=>⟨O,λ_=>O⟩⟩⟩
def Sv a4 a5 m b7 r wc e f k (H:Cn k a4 m e)(L:Cn k a5 r f)(d5:m<=2097152)(d6:r<=2097152):C_ 115 #[V a4 m b7,V a5 r wc] k λn a=>∃h c,n=.returned h/\Ef (Ap e f) c/\Am a k.1.size h (Bo 0 c)/\E_ k a:=by
 have E:=Kz e f;rw[H.1,L.1] at E;have s:=x3_ E H L;clear H L E;refine dl_ ?_;go_enter func115,ntmps115;go_wp2_with fail
 go_loopw [5,6,7] (λc l h a=>∃b:Nat,b<=m/\b<=r/\h=.int .i64 b/\K (Ad a k.1.size c (((Ap e f).take b).map Prod.fst)/\Ad a k.1.size l (((Ap e f).take b).map Prod.snd)/\Bl c l)/\E_ k a) (λ_ _ h _=>m-(intOf h).toNat)
 case atStart=>exact⟨0,r_,r_,rfl,⟨Ad.nil _ _,Ad.nil _ _,.inl rfl⟩,y_⟩
 obtain⟨b,d1,d2,rfl,a,p⟩:=hrel;have Z:=p.size
 by_cases b4:b<m/\b<r
 ·obtain⟨B,D⟩:=b4;have d:b<(Ap e f).length:=p_ s.1;have t:K (((Ap e f).take (b+1)).map Prod.fst=((Ap e f).take b).map Prod.fst++[Gj (e.getD b 0)]/\((Ap e f).take (b+1)).map Prod.snd=((Ap e f).take b).map Prod.snd++[Jx (f.getD b 0)]):=by rw[Qi d,te d,map_append,map_append];exact⟨rfl,rfl⟩
  have X:(((Ap e f).take b).map Prod.fst).length<=2097152:=t_;have a0:(((Ap e f).take b).map Prod.snd).length<=2097152:=t_;rcases s.2.1 with⟨_,_,l|⟨o,a1,rfl,S,l⟩⟩;omega;rcases s.2.2 with⟨_,_,n|⟨R,a2,rfl,U,n⟩⟩;omega;have P:=kj p (l b B);have Q:=kj p (n b D);have N:=F_ b m;have u:=F_ b r;clear l n d;generalize ((Ap e f).take b).map Prod.fst=G,((Ap e f).take b).map Prod.snd=M,e.getD b 0=j,f.getD b 0=q at *;go_upto_if 34 with fail
  go_cut [8] (λh g=>h=.int .i64 (ZfO j)/\wr=g)
  case first=>by_cases i:1000000000<j<;>(go_wp2;go_meet;exact⟨by simp[ZfO,i]<;>omega,rfl⟩)
  obtain⟨rfl,rfl⟩:=hcut;go_upto_if 36 with fail
  go_cut [8] (λh g=>h=.int .i64 (Gj j)/\wr=g)
  case first=>by_cases i:ZfO j< -1000000000<;>(go_wp2;go_meet;exact⟨by simp[ZcG,i]<;>omega,rfl⟩)
  obtain⟨rfl,rfl⟩:=hcut;go_upto_region 12 with fail;go_cut [46] (λh g=>h=.bool (ZfJ q)/\wr=g)
  case first=>
   by_cases i:q<1
   ·go_wp2;go_meet
    exact⟨by simp[ZfJ,i],rfl⟩
   by_cases c:1000<q<;>(go_wp2;go_meet;exact⟨by simp[ZfJ,i,c],rfl⟩)
  obtain⟨rfl,rfl⟩:=hcut;have i:=Y (ZcH q);generalize ZfJ q=x at *;go_upto_if 46 with fail
  go_cut [9] (λh g=>h=.int .i64 (Jx q)/\wr=g)
  case first=>cases x<;>(go_wp2;go_meet;exact⟨by rw[i];rfl,rfl⟩)
  obtain⟨rfl,rfl⟩:=hcut;generalize Gj j=g,Jx q=y at *;go_wp2_with (at_builtin;refine ap_ [I g] (a.1.below q_) ?_)
  intro T W h;have A:=(p.alloc Z _).grown h.2.1 t_ (λw v=>(B_ a.1 w v).1);replace a:=Y ((a.2.1.below q_).g a.2.2 h);have F:=A.size;clear h;go_wp2_with (at_builtin;refine ap_ [I y] (a.2.1.below q_) ?_)
  intro a3 a6 c;have z:=(A.alloc F _).grown c.2.1 t_ (λw v=>(B_ a.2.1 w v).1);replace a:=Y ((a.1.below q_).g a.2.2.s c);clear c;refine J_ ?_;exact⟨b+1,O,O,g_,⟨t.1 ▸ a.2.1,t.2 ▸ a.1,a.2.2.s⟩,z⟩
 go_upto_region 4 with fail;go_cut [26] (λh g=>h=.bool false/\wr=g)
 case first=>
  by_cases d:b<m
  ·have u:=F_ b m;have c:¬b<(r:Int):=O;go_wp2;go_meet
   exact⟨u_,rfl⟩
  have u:¬b<(m:Int):=O;go_wp2;go_meet
  exact⟨u_,rfl⟩
 obtain⟨rfl,rfl⟩:=hcut;rw[aI (p_ s.1)] at a;have y:K (∀t∈Ap e f,_):=λt b6=>(Jg b6).1;have b1:(Ap e f).length<=2097152:=p_ s.1;clear s;have⟨d,P⟩:=ez_ (Ap e f);rw[P] at a y b1
 rename World=>wr1
 go_wp2_with fail
 go_loopw [10,11] (λh o g=>∃c,o=.int .i64 (Bv c)/\K (Jw d c/\Am g k.1.size h (Bo 0 c)/\Ad g k.1.size u5 (d.map Prod.fst)/\Ad g k.1.size u6 (d.map Prod.snd))/\E_ k g) (λh _ _=>d.length-lenOf h)
 case atStart=>exact⟨[],rfl,⟨Jw.nil d,Am.nil _ _,a.1,a.2.1⟩,p⟩
 clear a p Z;obtain⟨c,rfl,a,p⟩:=hrel
 rename World=>wo
 have d0:=a.1.a y;have b5:=a.1.len;have⟨a7,c2,a1,b2⟩:=a.2.2.1.a;have⟨a8,c3,a2,b3⟩:=a.2.2.2.a;have⟨a6,c1,a0,S⟩:=a.2.1.a;rw[length_map] at a1 a2;rw[Pb] at a0
 have B:K (∀g U,(∃h,a7=some ⟨h,0,none⟩/\h<wo.1.size/\wo.cell? (J h g)=some (I d[g].1))/\∃h,a8=some ⟨h,0,none⟩/\h<wo.1.size/\wo.cell? (J h g)=some (I d[g].2)):=λg U=>w_
 have x:K (∀j,(c.length=0/\Ew c j=true)∨∃o h A,c.length=o+1/\a6=some ⟨h,0,none⟩/\h<wo.1.size/\wo.cell? (J h (o*4))=some (I A)/\Ew c j=decide (A<j)):=λj=>by
  rcases Zc3 (M:=c) (x:=j) with i|⟨l,t,o,q⟩
  exact .inl i;have⟨h,n,R,v⟩:=S (Bo 0 l) ⟨t.1,Bv l,Bv l+t.2,t.2⟩ (by rw[o,ly]);exact .inr ⟨l.length,h,t.1,by rw[o];simp,n,R,by rw[Pb] at v;exact v,q⟩
 clear b2 b3 S;subst a1 a2 a0;have⟨a3,D⟩:=ez_ c.length;rw[D] at x a b5 ⊢;go_wp2_with fail
 go_loopw [12,13,14,15] (λq o l h u=>∃(z:Bool) (n i:Int) (g:Nat),q=.bool z/\o=.int .i64 n/\l=.int .i64 i/\h=.int .i64 g/\g<=d.length/\K (Kp d c g z n i)/\E_ wo u) (λ_ _ _ h _=>d.length-(intOf h).toNat)
 case atStart=>exact⟨false,0,0,0,rfl,rfl,rfl,rfl,r_,Kp.start d c,y_⟩
 obtain⟨z,n,i,g,rfl,rfl,rfl,rfl,U,u,l⟩:=hrel;have d3:=u.a y
 by_cases G:g<d.length
 ·obtain⟨⟨b8,rfl,c8,F⟩,b9,rfl,c9,M⟩:=B g G;have T:=x d[g].1;have X:=u.step G;have d4:=y _ (Qf G);have c0:=F_ g d.length;have N:=kj l F;have Q:=kj l M;clear B u x;generalize d[g].2=q,d[g].1=j at *;generalize Ew c j=a9 at *;go_upto_region 24 with fail;go_cut [16] (λh wy=>h=.bool a9/\E_ wr wy)
  case first=>
   clear X
   rcases T with⟨W,rfl⟩|⟨o,h,A,rfl,rfl,R,v,w⟩
   ·have b0:=aF W;subst W;go_big_quiet (fail);go_wp2;go_meet
    exact⟨rfl,below_drewN y_ _⟩
   have c4:=kj l v;replace w:=Y w;clear v;have b0:((o:Int)+1==0)=_:=aO O;have c5:o<(o:Int)+1:=O;have c6:0<=(o:Int):=O;have c7:o+1-1=(o:Int):=O;go_big_quiet (fail);go_wp2;go_meet
   exact⟨by rw[w],below_drewN y_ _⟩
  obtain⟨rfl,v⟩:=hcut
  rename World=>wy
  have w:=bt_ l v;have W:=kj v N;have b0:=kj v Q;clear N Q v l T F M
  rcases X with⟨rfl,⟨rfl,h⟩|⟨rfl,⟨o,h⟩|⟨o,h⟩⟩⟩|⟨rfl,R,⟨rfl,h⟩|⟨rfl,⟨o,h⟩|⟨A,⟨o,h⟩|⟨o,h⟩⟩⟩⟩
  all_goals
   go_wp2_with fail
   go_roundw;case rel=>exact⟨_,_,_,g+1,rfl,rfl,g_,g_,O,h,w⟩
   case measure=>exact z_
 obtain rfl:g=d.length:=O;have F:=bt_ p l;have X:=Int.lt_irrefl d.length;clear B x
 cases z
 ·have⟨o,h⟩:=Z_ (a.1.i u) (a.2.1.below l);go_wp2;go_ret;exact⟨_,rfl,c,P ▸ o,h,F⟩
 have o:=Y (a.1.E u);have M:K ((Bo 0 c).length=a3):=(by show _=_;rw[Pb];exact D);have a9:(Bo 0 c).length<=2097152:=(by rw[M];omega);replace a:=x3_ (a.2.1.below l) (a.2.2.1.below l) (a.2.2.2.below l);have R:=F.size;go_wp2_with (at_builtin;refine ap_ [I n,I (Bv c),I (Bv c+i),I i] (a.1.alloc _) ?_)
 intro T W h;have q:=a.1.alloc (O_ #[I n,I (Bv c),I (Bv c+i),I i] 98);have N:=x3_ (Am.E h.1 (x:=⟨n,Bv c,Bv c+i,i⟩)) (Ad.kept (ra_ a.2.1 _) h.2.1 (cx q (ra_ a.2.1 _))) (Ad.kept (ra_ a.2.2 _) h.2.1 (cx q (ra_ a.2.2 _)));rw[<- ly c (n,i)] at N
 have Q:K (Bv (c++[(n,i)])=Bv c+i):=show _=_ by rw[Tb];simp[Bv]
 have A:=(F.alloc R _).grown h.2.1 t_ (λw v=>(a.1.lt w v).1);obtain⟨b0,v,rfl⟩:=h.2.2.2.2;have w:a3+1<=d.length:=(by have:=o.len;rw[Qe,D] at this;exact this);clear h q;go_wp2;go_roundw;case rel=>exact⟨c++[(n,i)],by rw[Q]<;>go_num,⟨o,N⟩,A⟩
 case measure=>
  have:=M.out;simp[lenOf];omega
def cm(b:List Int)(a:List Cm):Prop:=Be a/\∀c∈a,c.v∈b
def cm.len{U a}(b:cm U a):a.length<=U.length:=b.1.len b.2
def cp(i:List Int)(e:Nat)(j:Array Value)(l:Int)(g:World)(k:Ending)(b:World):Prop:=
 k=.returned (.bool true)/\∃d c f,Hp b e d c f/\(∀h∈c,cm i h)/\f<=l+1/\(∀a,a≠0->a≠4->a≠5->a≠12->d[a]? =j[a]?)/\Below e g b/\Rq g b
def Qw.p{S k w' d b c i e l}(a:Qw k d b c i e l)(j:Aa S k w')(v:∀h,b.ownBlock=some h->¬S h):Qw w' d b c i e l:=by
 rcases a with a|⟨w,f,n,g,o,p,q,r,m,s,t,u⟩
 exact .inl a;exact .inr ⟨w,f,n,g,o,Qh p j.size,q,r,m,j.g s (v f (by rw[g];rfl)),t,u⟩
def Sj{d e c}(a:d.grownBy e c):Aa (λb=>some b=c) d e:=⟨a.os,a.tape,a.output,a.size,λb f g=>a.block b f g⟩
def Ex{h i c f j}(k:Cn h c f j){b}(a:Below b h i)(n:∀d g,c=some ⟨d,g,none⟩->0<f->d<b):Cn i c f j:=
 k.p (S:=λe=>b<=e) ⟨a.os,a.tape,a.output,a.size,λe _ p=>a.block e O⟩ (λd g l m o=>w_)
def Tr{f b d g}(c:Cn f b d g):∀a e,b=some ⟨a,e,none⟩->0<d->a<f.1.size:=λa e i k=>by
 rcases c.2.2 with c|⟨h,m,j,l,_⟩
 omega
 grind
def ZgU{i m f}(d:Ef (Ap i m) f){g:List Int}(p:∀j∈i,Gj j∈g):∀a∈Bo 0 f,a.v∈g:=by
 intro a k
 have⟨_,_,_,c,b,n,_⟩:=lz (λc b=>by
  rw[d.h c b];have⟨h,e,a⟩:=d.sub c b;rw[<- a]
  exact Zku (λo l=>(Jg l).1.1) h e) a k
 have⟨h,e,l⟩:=d.sub c b;have⟨_,_,j,q,o⟩:=Jg e
 grind
def Zd2 f y N i e c5 a9 b3 b5 b4 b0 c6 b1 D s E F k wc c7 x d0 U c9 d (b6:Hp d f y N i)(f3:∀n∈N,cm e n)(i2:i<=9000000)(i0:e.length<=2097152)(b7:Cn d D s U)(b8:Cn d F k c9)(g7:D=none->s=0/\E=0)(g8:F=none->k=0/\wc=0)(r:s<=2097152)(B:k<=2097152)(f6:∀h4∈U,Gj h4∈e):C_ 70 #[P_ f,.agg #[I 2,I c5,I a9,V b3 b5 b4,I b0,I c6,I b1,V D s E,V F k wc,Q_ c7,I x,I d0]] d λa b=>cp e f y i d a b:=by
 have a7:=T_ b6 f3;have⟨w,M,e0,e1,e4⟩:=y5_ b7 b8 g7 g8 f6;have i1:=b6.lt;have⟨u,v⟩:=Z_ (Tr b7) (Tr b8);obtain⟨h3,R,b9,S⟩:=na_ d #[I 2,I c5,I a9,V b3 b5 b4,I b0,I c6,I b1,V D s E,V F k wc,Q_ c7,I x,I d0] 93;have X:=Y b9;have e5:=n_ 7 S;have e6:=n_ 8 S;have i3:h3.1.size=d.1.size+1:=(by rw[R];simp);refine dl_ ?_;go_enter func70,ntmps70;go_wp2_with fail
 rw[<- R];clear R S b9;apply (su _ _ _ _ _ (Ex w X u) e0 r).m;rintro a g9 ⟨j2,rfl,c1,A⟩;obtain⟨h6,h8,rfl,_⟩:=c1.view;have⟨t,h5,Z⟩:=y3_ c1 A (X.T (A.m O));have⟨e7,e8⟩:=k2_ A e5 e6;have i4:d.1.size+1<=g9.1.size:=p_ A.size;go_wp2_with fail
 apply (su _ _ _ _ _ (Ex M Z v) e1 B).m;rintro a c8 ⟨j3,rfl,c2,o⟩;obtain⟨h7,h9,rfl,g1⟩:=c2.view;have⟨_,_,b2,g0⟩:=(t.below o).view;simp only[slice.injEq] at b2;obtain⟨rfl,_,rfl⟩:=b2;have⟨d4,d5,d6,H,d2⟩:=y5_ g0 g1 (t.below o) c2 (Z.T (o.m O));have⟨e9,f0⟩:=k2_ o e7 e8;have i5:=o.size;go_wp2_with fail
 apply (ZbT _ _ _ _ _ _ _ _ _ d4 d5 r B).m;rintro a j4 ⟨j,P,rfl,f4,g3,p⟩;have⟨L,a4,d7,d8,a0⟩:=y5_ f4 g3 (d6.below p) (H.below p) (d2.T (p.m O));have⟨f1,f2⟩:=k2_ p e9 f0;have i6:=p.size;have l:K (∀b,_->_/\b<_):=λb c=>⟨(t.q c).1,(t.q c).2.1⟩;have m:K (∀b,_->_/\b<_):=λb c=>⟨(H.q c).1,(H.q c).2.1⟩;go_wp2_with fail
 apply (nh _ _ _ _ _ _ _ d7 (Ex w a0 u) (λh z a q=>p_ (u h z a q)) r).m;rintro a h0 ⟨rfl,g⟩;have a1:=Y (a0.grown g O (λb c=>p_ (l b c)));have g6:=g.cell f2 (λa=>gh_ (l _ a.s));have g5:=g.cell f1 (λa=>gh_ (l _ a.s));have d9:=Y (d8.p (Sj g) (λb c a=>by have h:=l b a.s;have z:=m b c;omega));have a5:K (Am h0 c8.1.size j (Bo 0 P)):=(Sj g).row a4 (λb c a=>by have h:=l b a.s;have z:=(B_ a4 b c).1;omega);have i7:=g.size;go_wp2_with fail
 apply (nh _ _ _ _ _ _ _ d9 (Ex M a1 v) (λh z a q=>p_ (v h z a q)) B).m;rintro a h1 ⟨rfl,q⟩;have G:=Y (a1.grown q O (λb c=>p_ (m b c)));have j1:=q.cell g6 (λa=>gh_ (m _ a.s));have j0:=q.cell g5 (λa=>gh_ (m _ a.s));have a6:K (Am h1 c8.1.size j (Bo 0 P)):=(Sj q).row a5 (λb c a=>by have h:=m b a.s;have z:=(B_ a5 b c).1;omega);have iZ:=q.size;go_wp2_with fail
 apply (Sv _ _ _ E k wc U c9 _ (Ex w G u) (Ex M G v) r B).m;rintro a h2 ⟨T,Q,rfl,f5,c3,c0⟩;obtain rfl:Q=P:=f5.a L;have e2:K (Am _ d.1.size j _):=Pc (a6.below c0) O;have e3:K (Am _ d.1.size T _):=Pc c3 O
 have d1:K (Bl j T):=by
  by_cases W:j.ownBlock=none
  exact .inl W;right;right;intro a;have⟨b,c⟩:=Option.ne_none_iff_exists'.1 W;have h:=(B_ a6 b c).2;have z:=(B_ c3 b (a.s.T c)).1;omega
 have a2:=Y (G.T (c0.m O));have a3:K (cm e (Bo 0 Q)):=⟨L.j (w.1 ▸ r),ZgU L e4⟩;have g2:(Bo 0 Q).length<=4194304:=p_ a3.len;go_wp2_with fail
 apply (Zd3 f y N i j T _ d h2 a7.1 a2 e2 e3 d1 g2 O).m;rintro a W ⟨rfl,z,g4,f8,f7,i9,f9⟩
 have d3:K (∃z a8 c4,Hp W f z a8 c4/\(∀n∈a8,cm e n)/\c4<=i+1/\(∀h,h≠0->h≠4->h≠5->h≠12->z[h]? =y[h]?)/\Below f d W/\Rq d W):=
  ⟨z,_,i+1,g4,λn a8=>by rcases mem_append.1 a8 with h|h;exact a7.2 n h;simp at h;rw[h];exact a3,Int.le_refl _,f8,(a2.m O).T f7,f9⟩
 go_wp2;go_ret;exact⟨rfl,d3⟩
def cp.a{f g b d e i a}(h:Hp e g b a d)(k:∀j∈a,cm f j)(c:E_ e i):cp f g b d e (.returned (.bool true)) i:=
 ⟨rfl,b,a,d,h.below c,k,O,λ_ _ _ _ _=>rfl,c.m (Nat.le_of_lt h.lt),Rq.a c⟩
def cp.b{c a d g b i h e}(f:E_ b i)(u:a<b.1.size)(l:cp c a d g i e h):cp c a d g b e h:=by obtain⟨m,k,j,t,n,o,p,q,r,s⟩:=l;exact⟨m,k,j,t,n,o,p,q,(f.m O).T r,(Rq.a f).T s⟩
end Go.Proofs.YtfcgnpchbcmdeaaGreat
