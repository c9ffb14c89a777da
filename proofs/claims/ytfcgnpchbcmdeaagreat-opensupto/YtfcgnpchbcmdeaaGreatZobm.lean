import Derived.Test.YtfcgnpchbcmdeaaGreatZobk
namespace Go.Proofs.YtfcgnpchbcmdeaaGreat
set_option linter.all false
set_option maxRecDepth 100000
set_option maxHeartbeats 4000000
open Go.RowKit List Nat World Go.Proofs.Tryz Value IntKind Lib Region
def esD(e:Nat)(g:Nat->Bool)(d:Nat->Int)(c:Int)(f:Nat)(b:RS):List ES:=(range (e+1)).map (λa=>Ck Px (g a) (d a) c f (b.a a) b.k)
def bbD(e:Nat)(g:Nat->Bool)(d:Nat->Int)(c:Int)(f:Nat)(b:RS):List (List Nat):=(range (e+1)).map (λa=>(b.a a).map (Gi (Ck Px (g a) (d a) c f (b.a a) b.k)))
def Zom(a:Nat)(f:Nat->Bool)(d:Nat->Int)(c:Int)(e g:Nat)(b:RS):Ga:=Bw a b.k.length g (esD a f d c e b) (bbD a f d c e b)
section
variable {m:Nat} {wd:Nat->Bool} {sc ct:Nat->Int} {bins:Int} {size budget:Nat} {l:List Int} {s:RS}
theorem Wx{a}(b:a<m+1):(esD m wd ct bins size s).getD a Rj=Ck Px (wd a) (ct a) bins size (s.a a) s.k:=by simp[esD,Qc,b]
theorem Zes{a}(b:a<m+1):(bbD m wd ct bins size s).getD a []=(s.a a).map (Gi (Ck Px (wd a) (ct a) bins size (s.a a) s.k)):=by simp[bbD,Qc,b]
structure ZhY(m)(s):Prop where
 a:Is (m+1) s
 val:Uf (m+1) s
def Zpo(c:∀a,a<m+1->wd a=false->0<=sc a/\sc a<=3)(b:Bt (m+1) wd sc RS.start l 0=.ok s):ZhY m s:=
 ⟨Is.a O c l (Is.start (show 1<=m+1 by omega)) b,Uf.a O c l (Uf.start (m+1)) (Is.start (show 1<=m+1 by omega)) b⟩
def ZhY.b(d:ZhY m s)(c:ua Px m wd ct bins size s):ch m s.k.length (esD m wd ct bins size s) (bbD m wd ct bins size s):=by
 refine⟨by simp[esD],λb a=>?_,λb a=>?_,λb a=>?_,λb a e f=>?_⟩;rw[Zes a,length_map];exact d.a.h b a;rw[Wx a];exact(c.ok b a).1;rw[Wx a];exact(c.ok b a).2.2
 grind [Zes,Wx,um]
def ZhY.q(b:ZhY m s)(f:2<=size)(g:size<=32)(d:2<=bins)(e:bins<=16):∀K∈(Zom m wd ct bins size budget s).h,Wf K:=by intro K hK;rw[show(Zom m wd ct bins size budget s).h=Ev (esD m wd ct bins size s) (bbD m wd ct bins size s) (m+1) from Oq _ _ _ _ _] at hK;unfold Ev at hK;obtain⟨c,a,rfl⟩:=mem_map.1 hK;have a:=mem_range.1 a;unfold kF;rw[Wx a];exact Zjh ((b.a.h c a) ▸ b.a.k) f g d e (b.val.h c a)
end
def ZjM{a d x e g f m y c o}(b:Up a d x e g f m)(u:Ny a d x y=.ok c)(q:o.Perm (Bw a c.k.length m (esS a d e g f c) (bbS a d e g f c)).q)(j:Eh o):Oo c.k.length (Bw a c.k.length m (esS a d e g f c) (bbS a d e g f c)) o:=by
 have w:∀k,_->_->_/\_:=λk h n=>⟨(b.sc k h).1,(b.sc k h).2 n⟩;have r:2<=f:=oj_ b.g b.v;have i:=Zpo w u;have p:=i.b (Sa (ct:=e) w b.g b.i r b.h u);refine⟨ZaQ b.j i.a.k p,i.q r b.h b.g b.i,λK hK A j=>?_,q,j,λB z v l=>?_⟩
 rotate_left
 have l:z<a+1:=(by rw[ZlM] at l;exact l);exact(Zjk b.j i.a.k p q l v).T (Zkr p q l v).s;rw[show(Bw a c.k.length m (esS a d e g f c) (bbS a d e g f c)).h=Ev (esD a d e g f c) (bbD a d e g f c) (a+1) from Oq _ _ _ _ _] at hK;unfold Ev at hK;obtain⟨k,h,rfl⟩:=mem_map.1 hK;have h:=mem_range.1 h;unfold kF at j;rw[Wx h] at j
 cases n:d k with
 | true=>
  rw[n] at j;simp[Ck,Px] at j
 | false=>
  rw[n] at j;obtain⟨t,s,_,rfl⟩:=dl ((i.a.h k h) ▸ i.a.k) r b.h (λt s=>(i.val.h k h t s).1) A (by simpa [Ck] using j);have:=(i.val.h k h t s).1;omega
section
variable {e:Nat->Prop} {w a w2 w3:World} {o:Nat->Nat} {g N L L' i:Nat} {c:Array Value} {v1 v2:Value} {b:List RP} {d:List Nat} {r:RP}
def ZgJ{c b}(d:w.1.size<=a.1.size)(e:a.1.size<=b):Dc w a o c b=99:=by
 unfold Dc
 grind
def Dx.j{f h}(n:Dx e w o g c N L v1 v2 b d)(q:b[i]? =some r){k m}(x:Qy f (Dc w f o (100+2*i)) (100+2*i) r.ib r.m r.a r.sc r.ct r.k r.size r.b k m)(v:Aa (λa=>o a=100+2*i) w f)(p:E_ f h)(F:Nn w2 (Dc h w2 (Dc w f o (100+2*i)) (100+2*i+1)) (100+2*i+1) r.c r.n r.e r.m r.a r.sc r.ct r.k r.size r.b k m)(y:Aa (λa=>Dc w f o (100+2*i) a=100+2*i+1) h w2)(B:L<=L')(D:k.size<=L'):Dx e w2 (Dc h w2 (Dc w f o (100+2*i)) (100+2*i+1)) g c N L' v1 v2 (b.set i {r with T:=k,u:=m}) d/\De e w w2:=by
 have j:=n.v i r q;have E:=(Qb j.o).1;have G:=p.size;have z:=(Aa.a p).T y;have A:Aa (λa=>o a=100+2*i∨o a=100+2*i+1) w w2:=(v.m (λa _ l=>.inl l)).c z (λa l=>by grind [Eb]);have u:Em f (Dc w f o (100+2*i)) (Dc h w2 _ (100+2*i+1)):=λa s=>.inr (Eb O);have t:=(Ez w _ o _).T v.size u;refine n.part q A t (λa s=>ZgJ y.size s) ⟨?_,t.at E j.e C,j.cf,?_,F⟩ rfl B D;exact A.g j.o (λl=>by have H:=j.e;grind);exact x.u z (λa _ l=>O) u O
def Dx.below(f:Dx e w o g c N L v1 v2 b d)(l:E_ w a):Dx e a o g c N L v1 v2 b d:=by have k:Aa (λ_=>False) w _:=.a l;have i:=Em.refl w o;have⟨s,t⟩:=Ji f.B f.E k (λj _ h=>h.elim) i C;have⟨v,x⟩:=Ji f.u f.w k (λj _ h=>h.elim) i C;exact⟨f.p.u k (λj _ h=>h.elim) i,λj p=>f.D j (aG l.size p),f.z,s,t,f.q,v,x,λr u q=>(f.v r u q).u k (λj _ h=>h.elim) i O,f.r,λm n=>(f.x m n).u k (λj _ h=>h.elim) i,f.k i k.size⟩
def Dx.h(j:Dx e w o g c N L v1 v2 b d)(k:b[i]? =some r){h}(l:Aa h w a)(p:∀f,f<w.1.size->h f->o f=100+2*i):Nn a (Dc w a o (100+2*i)) (100+2*i+1) r.c r.n r.e r.m r.a r.sc r.ct r.k r.size r.b r.T r.u:=
 (j.v i r k).y.u l (λf n m=>w_) (Ez _ _ _ _) O
def Fe(w e:World)(o:Nat->Nat)(d:Value)(b c:Nat)(a:Nat):Nat:=if a<w.1.size then o a else if d.ownBlock=some a then b else if a<e.1.size then c else 99
def ka w e o d a c:Em w o (Fe w e o d a c):=λf b=>.inr (by unfold Fe;rw[aD b])
def Ow{w d o c e b a}(f:w.1.size<=a)(g:a<d.1.size)(h:c.ownBlock≠some a):Fe w d o c e b a=b:=by
 unfold Fe
 grind
def Dx.n(j:Dx e w o g c N L v1 v2 b d)(t:b[i]? =some r){p x E yd dp v2'}(b1:whole r.m r.a r.sc r.T r.u p)(a1:za w.1.size a x E (Bw r.m p.k.length r.b (esS r.m r.a r.ct r.k r.size p) (bbS r.m r.a r.ct r.k r.size p)))(Z:Uq a r.ib true 0 0)(H:Aa (λh=>h=r.ib) w a)(a0:ij a w2 yd p.k.length (Bw r.m p.k.length r.b (esS r.m r.a r.ct r.k r.size p) (bbS r.m r.a r.ct r.k r.size p)))(a2:pg w2 r.c r.n (r.m+1) r.e r.k r.size r.b r.T 0 0 true)(v:Aa (λh=>h=r.c) a w2)(k:Ur w2 w3 g 2 137 96 c v2 (d.map ptD) (P_ x) (P_ yd) dp v2'):Dx e w3 (Fe w w3 o v2' 15 17) g (c.setIfInBounds 2 v2') N L v1 v2' (b.set i {r with u:=true}) (d++[dp])/\De e w w3:=by
 have n:=j.v i r t;have c2:=(List.getElem?_eq_some_iff.1 t).1;have c1:=j.p.v.lt;have F:=n.x.1;have G:=n.x.2.1;have b2:=n.y.lt;have⟨M,P,Q,D,c0,_⟩:=n.y;have c3:=H.size;have c4:=v.size;have c5:=k.u.size;have c6:=λh l=>(B_ j.u h l).2;have m:Aa (λh=>_∨_∨_) w _:=((H.m (λh _ f=>.inl f)).c (v.m (S':=λh=>h=r.c) (λh _ f=>f)) (λh f=>.inl (.inr (.inl f)))).c k.u (λh f=>.inl (.inr (.inr f)))
 have a3:∀h,h<w.1.size->(h=r.ib∨h=r.c∨h=g∨v2.ownBlock=some h)->o h=100+2*i∨o h=100+2*i+1∨o h=0∨o h=15:=λh l f=>by
  rcases f with f|f|f|f
  ·grind
  ·grind
  subst f;exact .inr (.inr (.inl j.p.b));exact .inr (.inr (.inr (j.w h f)))
 have q:Em w o (Fe w w3 o v2' 15 17):=ka _ _ _ _ _ _
 have s:∀h,_->Fe w w3 o v2' 15 17 h=_:=λh l=>by unfold Fe;rw[aD l]
 have a8:∀h,w.1.size<=h->h<w2.1.size->Fe w w3 o v2' 15 17 h=17:=λh y X=>Ow y O (λf=>by
  rcases k.q h f with u|u
  ·grind
  omega)
 have a6:Fe w w3 o v2' 15 17 dp=17:=Ow (p_ k.y) ((Qb k.o).1) (λf=>by
  have⟨z,u⟩:=Ac k.row f;rw[k.o] at u
  simp at u)
 have a7:(b.set i {r with u:=true}).map ptR=b.map ptR:=(by apply ext_getElem?;intro A;rw[getElem?_map,getElem?_map,getElem?_set];split;rename_i u;subst u;rw[t];rfl;rfl);have⟨b4,b5⟩:=Ji j.B j.E m (λh l f=>w_) q C;refine⟨⟨j.p.put m (λh l f=>?_) k.v q (λA u=>aH O) (by simp[j.p.r]),λh l=>?_,(aH O).T j.z,a7 ▸ b4,b5,Array.getElem?_setIfInBounds_self_of_lt (by rw[j.p.r];decide),?_,λh l=>?_,λA B hq=>?_,λB hq=>?_,λW a5=>?_,j.k q m.size⟩,j.A m (λh l f=>w_)⟩
 ·rcases f with f|f|f|f
  ·grind
  ·grind
  exact .inl f;exact .inr (p_ (j.w h f))
 unfold Fe;rw[aC O,aC (λf=>p_ (B_ k.row h f).2),aC O];have f:(d++[dp]).map ptD=d.map ptD++[P_ dp]:=(by simp[ptD]);rw[f,Qe];exact k.row
 ·by_cases z:h<w.1.size
  ·rw[s h z]
   rcases k.q h l with f|f
   exact j.w h f;omega
  unfold Fe
  grind
 ·rw[getElem?_set] at hq;split at hq
  ·rename_i u;subst u;injection hq with hq;subst hq;have z:=(Qb n.o).1
   have R:¬(r.n=r.ib∨r.n=r.c∨r.n=g∨v2.ownBlock=some r.n):=λf=>by
    rcases f with f|f|f|f
    ·grind
    exact Q f;rw[f] at P;have:=j.p.b;omega;have:=j.w _ f;omega
   have S:¬(r.ib=g∨v2.ownBlock=some r.ib):=λf=>by
    rcases f with f|f
    rw[f] at F;have:=j.p.b;omega;have:=j.w _ f;omega
   have T:¬(r.c=g∨v2.ownBlock=some r.c):=λf=>by
    rcases f with f|f
    rw[f] at M;have:=j.p.b;omega;have:=j.w _ f;omega
   refine⟨m.g n.o (λf=>?_),(s _ z).T n.e,n.cf,⟨(s _ G).T F,Qh G m.size,.inl ⟨rfl,0,0,k.u.g (v.g Z (λf=>?_)) S⟩⟩,⟨(s _ b2).T M,(s _ D).T P,Q,Qh D m.size,c0.u m R D,r.T,0,0,k.u.g a2 T,λf=>by cases f⟩⟩;have:=a3 _ z f;have:=n.e;omega
   grind
  exact(j.v A B hq).u m (λh l f=>w_) q O
 ·rcases mem_or_eq_of_mem_set hq with f|f
  exact j.r B f;rw[f];exact j.r r (mem_of_getElem? t)
 rcases mem_append.1 a5 with f|f
 exact(j.x W f).u m (λh l f=>w_) q;rw[mem_singleton] at f;subst f;obtain⟨b8,b6,b7,b9,b3,T,U,S,a4,a9,b0⟩:=a0;refine⟨x,E,yd,a.1.size,p.k.length,_,b8,b6,b7,b9,b3,T,U,S,λc7 z=>⟨z.g k.o (λf=>f a6),?_,?_⟩,ZjM n.cf b1.2.1 a9 b0⟩
 ·have hq:=a1.a (λh y X=>a8 h y O);have R:Aa (λh=>_∨_) _ _:=(v.m (λh _ f=>.inl f)).c k.u (λh f=>.inl (.inr f));refine hq.step R (λh l f=>?_) (Em.refl _ _) C _ z
  grind
 have R:=(k.u.m (S':=λh=>h<a.1.size) (λh _ f=>w_)).c z (λh f=>w_);exact a4.u R
end
section
variable {k:Nat->Prop} {w d b e h i:World} {o:Nat->Nat} {g N L j n l yb r q m:Nat} {c:Array Value} {v1 v2 f:Value} {a:List RP} {p:List Nat} {wd:Nat->Bool} {sc ct:Nat->Int} {bins:Int} {size budget:Nat}
def Dx.F(v:Dx k w o g c N L v1 v2 a p)(Z:E_ w d)(x:Qy b (Dc d b o (100+2*a.length)) (100+2*a.length) l m wd sc ct bins size budget ⟨#[]⟩ false)(P:E_ d b)(a9:Nn e (Dc b e (Dc d b o (100+2*a.length)) (100+2*a.length+1)) (100+2*a.length+1) yb r q m wd sc ct bins size budget ⟨#[]⟩ false)(Q:E_ b e)(G:Aa (λs=>s=j) e h)(a5:w.1.size<=j/\j<d.1.size)(y:Ur h i g 1 210 208 c v1 (a.map ptR) (P_ l) (P_ yb) n f)(a0:Up m wd sc ct bins size budget):Dx k i (Fe h i (Dc b e (Dc d b o (100+2*a.length)) (100+2*a.length+1)) f 14 16) g (c.setIfInBounds 1 f) N L f v2 (a++[⟨n,l,yb,r,q,m,wd,sc,ct,bins,size,budget,⟨#[]⟩,false⟩]) p/\De k w i:=by
 have b3:=P.size;have b4:=Q.size;have b5:=G.size;have b6:=y.u.size;have b1:=v.p.v.lt;have a6:=λs u=>(B_ v.B s u).2;have H:Aa (λs=>_∨_) _ _:=((Aa.a Q).c G (λs t=>.inl (.inl t))).c y.u (λs t=>.inl (.inr t));have T:Aa (λs=>_∨_) _ _:=(G.m (λs _ t=>.inl t)).c y.u (λs t=>.inl (.inr t))
 have z:=((Aa.a Z).c (Aa.a (S:=λ_=>False) P) (λs t=>t.elim)).c H (λs t=>by
  rcases t with t|t
  exact .inr O
  exact .inl t)
 have D:∀s,s<w.1.size->(s=g∨v1.ownBlock=some s)->o s=0∨o s=14:=λs u t=>by
  rcases t with t|t
  subst t;exact .inl v.p.b;exact .inr (v.E s t)
 have b2:=v.D j a5.1;have W:∀s,_->Dc d b o (100+2*a.length) s=_:=λs u=>Eb u;have X:∀s,_->Dc b e (Dc d b o (100+2*a.length)) (100+2*a.length+1) s=_:=λs u=>Eb u
 have M:∀s,_->Fe h i _ f 14 16 s=Dc b e (Dc d b o (100+2*a.length)) (100+2*a.length+1) s:=λs u=>by unfold Fe;rw[aD u]
 have S:∀s,s<w.1.size->Fe _ _ _ _ 14 16 s=_:=λs u=>by rw[M s O,X s O,W s O]
 have B:Em w o _:=λs u=>.inr (S s u);have a3:=(Qb y.o).1
 have a4:Fe h i (Dc b e (Dc d b o (100+2*a.length)) (100+2*a.length+1)) f 14 16 n=16:=Ow y.y a3 (λt=>by
  have⟨E,A⟩:=Ac y.row t;rw[y.o] at A
  simp at A)
 have b0:∀s,(s=j∨s=g∨v1.ownBlock=some s)->s<d.1.size/\o s<100:=w_;have⟨a7,a8⟩:=Ji v.u v.w z (λs u t=>p_ (D s u t)) B C;refine⟨⟨v.p.put z (λs u t=>?_) y.v B (λE R=>aH O) (by simp[v.p.r]),λs u=>?_,Array.getElem?_setIfInBounds_self_of_lt (by rw[v.p.r];decide),?_,λs u=>?_,(aH O).T v.q,a7,a8,λE F A=>?_,λF A=>?_,λU a1=>(v.x U a1).u z (λs u t=>p_ (D s u t)) B,v.k B z.size⟩,v.A z (λs u t=>p_ (D s u t))⟩
 ·rcases t with t|t
  exact .inl t;exact .inr (p_ (v.E s t))
 unfold Fe;rw[aC O,aC (λt=>p_ (B_ y.row s t).2),aC O];rw[map_append,Qe];exact y.row
 ·by_cases a2:s<h.1.size
  ·rcases y.q s u with t|t
   rw[S s (a6 s t)];exact v.E s t;omega
  unfold Fe
  grind
 ·by_cases R:E<a.length
  rw[getElem?_append_left R] at A;exact(v.v E F A).u z (λs u t=>p_ (D s u t)) B O;have a2:E=a.length:=w_;subst a2;simp at A;subst A;refine⟨y.o,a4,a0,?_,?_⟩;exact x.u H (λs u t=>w_) (λs u=>.inr w_) O;exact a9.u T (λs u t=>w_) (λs u=>.inr (M s O)) O
 rcases mem_append.1 A with t|t
 exact v.r F t;rw[mem_singleton] at t;subst t;exact r_
end
structure Wd(b c:World)(m j e i f x v)(h p s d)(a l r q u wc g)(o)(t)(n k):Prop where
 w:c.1[b.1.size]? =some (O_ #[I 5,I m,I j,V h a l,I e,I i,I f,V p r q,V s u wc,Q_ o,I x,I v] 93)
 y:c.1[b.1.size+1]? =some (O_ #[V d a g,I e,I i,I f] 37)
 len:Mj c (b.1.size+2) (V d a g) h a t n k
 A:E_ b c
section
variable {w w2 w3:World} {e bb bins size budget x y:Int} {c f i a:Option Addr} {fl d h g j wc b:Nat} {st:ByteArray} {wd:Nat->Bool} {sc ct:Nat->Int}
def Wd.below(k:Wd w w2 e bb bins size budget x y c f i a fl d h g j wc b st wd sc ct)(l:E_ w2 w3):Wd w w3 e bb bins size budget x y c f i a fl d h g j wc b st wd sc ct:=
 ⟨(l.block _ (Qb k.w).1).T k.w,(l.block _ (Qb k.y).1).T k.y,k.len.below l,k.A.T (l.m k.A.size)⟩
def Wd.l(k:Wd w w2 e bb bins size budget x y c f i a fl d h g j wc b st wd sc ct):w2.cell? (J w.1.size 0)=some (I 5)/\w2.cell? (J w.1.size 3)=some (V c fl d)/\w2.cell? (J w.1.size 4)=some (I bins)/\w2.cell? (J w.1.size 5)=some (I size)/\w2.cell? (J w.1.size 6)=some (I budget):=
 ⟨G_ 0 _ 93 (0,0) k.w,G_ 3 _ 93 (0,0) k.w,G_ 4 _ 93 (0,0) k.w,G_ 5 _ 93 (0,0) k.w,G_ 6 _ 93 (0,0) k.w⟩
def Wd.k(k:Wd w w2 e bb bins size budget x y c f i a fl d h g j wc b st wd sc ct):w2.cell? (J (w.1.size+1) 0)=some (V a fl b)/\w2.cell? (J (w.1.size+1) 1)=some (I bins)/\w2.cell? (J (w.1.size+1) 2)=some (I size)/\w2.cell? (J (w.1.size+1) 3)=some (I budget):=
 ⟨G_ 0 _ 37 (0,0) k.y,G_ 1 _ 37 (0,0) k.y,G_ 2 _ 37 (0,0) k.y,G_ 3 _ 37 (0,0) k.y⟩
end
def xw b6 u o f h g x E e w B b i z y D wc v U S G a (N:El a e b U S G)(r:b<=2097152)(a2:Iz b f h g U S G=false):C_ 71 #[P_ b6,.agg #[I 5,I u,I o,V e b i,I f,I h,I g,V w z y,V B D wc,Q_ v,I x,I E]] a (U_ (.bool true) a):=by
 have⟨F,W⟩:=Z_ N a2
 have a7:K (∀k,e=some k->0<b->k.block<a.1.size):=λk c M=>by subst c;exact(N.at r).1.lt M
 clear N a2;refine dl_ ?_;go_enter func71,ntmps71;go_wp2_with fail
 generalize s:(a.alloc (O_ #[I 5,I u,I o,V e b i,I f,I h,I g,V w z y,V B D wc,Q_ v,I x,I E] 93)).alloc (O_ #[V e b i,I f,I h,I g] 37)=A;have a4:A.1.size=a.1.size+2:=(by rw[<- s];simp);have Q:E_ a A:=(by rw[<- s];exact q_.alloc s_ _);have Z:A.1[a.1.size]? =some (O_ #[I 5,I u,I o,V e b i,I f,I h,I g,V w z y,V B D wc,Q_ v,I x,I E] 93):=(by grind [Below.heap_alloc,heap_alloc_new]);have X:A.1[a.1.size+1]? =some (O_ #[V e b i,I f,I h,I g] 37):=(by rw[<- s];exact Hx _ _ _ s_);clear s;apply (ss _ _ _ _ _ _ _ (F.below Q) r).m;rintro c T ⟨b8,rfl,P,q⟩;obtain⟨n,p,rfl⟩:=P.shape;have t:=(q.block _ O).T X;have a5:=(q.block _ O).T Z;have a8:=n_ 0 t;have b5:=λb7=>R_ b7 _ _ t
 have l:K (Wd a (T.setCell (J (a.1.size+1) 0) (V n b p)) u o f h g x E e w B n b i z y D wc p v U S G):=(by have j:Aa _ _ (T.setCell _ (V n b p)):=Aa.setCell (S:=λR=>R=a.1.size+1) (Aa.refl _ _) (p:=(J (a.1.size+1) 0)) (λ_=>rfl) _;refine⟨j.g a5 O,?_,(a4 ▸ P).p j (λR a3 c=>O),?_⟩;exact ht_ 0 _ _ _ t;exact(Q.T (q.m O)).setCell w_ _);clear P q t a5 Z X Q;go_upto_region 4 with fail;generalize T.setCell (J (a.1.size+1) 0) (V n b p)=b9 at *;clear a8 b5 a4;have⟨H,a9,b0,b1⟩:=l.k;go_wp2_with fail
 apply (Zg2 _ _ _ _ _ _ _ _ _ _ m_ (l.len.view r) W).m;rintro c c0 ⟨rfl,a0⟩;have m:=Y (l.below a0);clear a0 l H a9 b0 b1;go_upto_region 5 with fail;have⟨_,L,b2,b3,b4⟩:=m.l;go_wp2_with fail
 apply (ZdM _ _ _ _ _ _ _ _ _ _ m_ (F.below m.A) W).m;rintro c c1 ⟨rfl,a1⟩;have d:=Y (m.below a1);clear a1 m L b2 b3 b4;go_upto_region 6 with fail;have⟨_,L,_,_,_⟩:=d.l;have⟨H,_,_,_⟩:=d.k;go_wp2_with fail
 apply (ng _ _ _ _ _ _ _ _ _ d.len (F.below d.A) (λk c M=>p_ (a7 k c M)) r).m;rintro c c2 ⟨rfl,j⟩;have a6:=Y (d.A.T (j.b d.A.size (λR a3=>p_ (d.len.q a3).1)));clear j d L H;go_wp2_with (go_at_call 68;apply (Jf _ _).m;rintro c R ⟨rfl,rfl⟩)
 go_ret;exact⟨s_,a6⟩
def Bq(f:Nat->Prop)(l:World)(h e d a:Nat):Prop:=∃i g j k c b,Dx f l i h g e d j k c b/\c.length<=a/\b.length<=a
def Below.ownsRow{d e}{b a:Nat}{c f}(g:d.ownsRow 0 b 1 c a f)(h:E_ d e):e.ownsRow 0 b 1 c a f:=(Aa.a (S:=λ_=>False) h).row g (λ_ _=>id)
def qv E (q b n l a5 a4 D:Nat) Q F k x a0 H S X p U T Z wc R z y w a (f5:Bq E a q a5 a4 D)(h2:D<=10000000)(m:El a H (b+1) z y w)(b3:Iz (b+1) k n l z y w=true):C_ 71 #[P_ q,.agg #[I 5,I Q,I F,V H (b+1:Nat) p,I k,I n,I l,V S U T,V X Z wc,Q_ R,I x,I a0]] a λe b6=>e=.returned (.bool true)/\Bq E b6 q a5 a4 (D+1)/\De E a b6:=by
 have h3:=(Mo b3).2.1;have M:b+1<=2097152:=O;obtain⟨j,g6,b5,i0,u,h0,d2,d5,d6⟩:=f5;have f:=x3_ d2 d5 d6;have⟨f9,g0,g1,g2,g3⟩:=info_parts Zlu;have h4:(u.map ptR).length<=10000000:=w_;have⟨B,a1⟩:=Z_ m b3
 have c3:K (∀t,H=some t->0<b+1->t.block<a.1.size):=λt e a8=>by subst e;exact(m.at M).1.lt a8
 obtain⟨g,h,rfl,_⟩:∃g h,H=some ⟨g,h,none⟩/\True:=by
  rcases m with e|⟨d,i,e,_⟩
  omega
  grind
 clear m b3 d2 d5 d6;refine dl_ ?_;go_enter func71,ntmps71;go_wp2_with fail
 generalize N:(a.alloc (O_ #[I 5,I Q,I F,V (some (J g h)) (b+1:Nat) p,I k,I (n:Nat),I (l:Nat),V S U T,V X Z wc,Q_ R,I x,I a0] 93)).alloc (O_ #[V (some (J g h)) (b+1:Nat) p,I k,I (n:Nat),I (l:Nat)] 37)=W;have d7:W.1.size=a.1.size+2:=(by rw[<- N];simp);have b0:E_ a W:=(by rw[<- N];exact q_.alloc s_ _);have d1:W.1[a.1.size]? =some (O_ #[I 5,I Q,I F,V (some (J g h)) (b+1:Nat) p,I k,I n,I l,V S U T,V X Z wc,Q_ R,I x,I a0] 93):=(by grind [Below.heap_alloc,heap_alloc_new]);have d0:W.1[a.1.size+1]? =some (O_ #[V (some (J g h)) (b+1:Nat) p,I k,I n,I l] 37):=(by rw[<- N];exact Hx _ _ _ s_);clear N;apply (ss _ _ _ _ _ _ _ (B.below b0) M).m;rintro e b7 ⟨h6,rfl,r,L⟩;obtain⟨v,G,rfl⟩:=r.shape
 have P:=(L.block _ O).T d0;have e0:=(L.block _ O).T d1;have e5:=n_ 0 P;have f4:=λj=>R_ j _ _ P;have o:K (Wd a (b7.setCell (J (a.1.size+1) 0) (V v (b+1:Nat) G)) Q F k n l x a0 (some (J g h)) S X v (b+1) p U T Z wc G R z y w):=(by have s:Aa _ _ (b7.setCell _ (V v (b+1:_) G)):=Aa.setCell (S:=λi=>i=a.1.size+1) (Aa.refl _ _) (p:=(J (a.1.size+1) 0)) (λ_=>rfl) _;refine⟨s.g e0 O,?_,(d7 ▸ r).p s (λi b4 e=>O),?_⟩;exact ht_ 0 _ _ _ P;exact(b0.T (L.m O)).setCell w_ _);clear r L P e0 d1 d0 b0;go_upto_region 4 with fail;generalize b7.setCell (J (a.1.size+1) 0) (V v (b+1:Nat) G)=b8 at *;clear e5 f4 d7
 obtain⟨c,rfl,d3,d4⟩:∃c,v=some ⟨c,0,none⟩/\a.1.size+2<=c/\c<b8.1.size:=by
  rcases o.out.len with⟨_,e,_⟩|⟨t,c,_,e,c9,d,_⟩
  omega
  grind
 have c4:=T_ d3 d4
 have c1:K (Dq b8 c 0 (b+1) z y w):=by
  rcases o.out.len.view M with e|⟨d,i,e,m⟩
  omega
  grind
 have⟨a6,e7,e8,e9⟩:=o.k;clear d3 d4;go_wp2_with fail
 apply (Zl5 (o:=j) (t:=100+2*u.length) c 0 _ c1 a1).m;rintro e e3 ⟨h5,rfl,f6,d8,b1⟩;have a3:=x3_ d8 b1 o.A;have A:=Y (o.below b1);clear f6 d8 b1 o a6 e7 e8 e9;go_upto_region 5 with fail;have⟨_,a7,f1,f2,f3⟩:=A.l
 have c2:K (Dq e3 g h (b+1) z y w):=by
  rcases B.out.below A.A with e|⟨d,i,e,m⟩
  omega;injection e with e;injection e with e1 e2;subst e1;subst e2;exact m
 go_wp2_with fail
 apply (Zl6 (o:=Dc b8 e3 j (100+2*u.length)) (t:=100+2*u.length+1) _ _ _ c2 a1).m;rintro e g4 ⟨i1,h1,g8,rfl,f7,d9,b2⟩;have c6:=T_ d9 b2;have d:=Y (A.below b2);clear f7 d9 b2 A a7 f1 f2 f3 c2;go_upto_region 6 with fail;have⟨_,a7,_,_,_⟩:=d.l;have⟨a6,_,_,_⟩:=d.k;go_wp2_with fail
 apply (ng _ _ _ _ _ _ _ _ _ d.len (B.below d.A) (λt e a8=>p_ (c3 t e a8)) M).m;rintro e b9 ⟨rfl,s⟩
 have e4:K (Aa (λi=>i=c) g4 b9):=s.m (λi _ e=>by
  have:some c=some i:=e
  grind)
 have c0:=Y (d.A.T (s.b d.A.size (λi b4=>p_ (d.len.q b4).1)));clear s d a7 a6 c1 B c3;have⟨a2,c5⟩:=Z_ (f.1.p.v.below c0 f.1.p.v.lt) (Below.ownsRow f.1.B c0);have e6:b9.cell? (J q 1)=some b5:=(by rw[a2.cell];exact f.1.z);have f0:=λj=>a2.frozen j;go_upto_region 10 with(go_at_call 68;apply (Jf _ _).m;rintro e b6 ⟨rfl,f8⟩;obtain rfl:=f8.s)
 go_wp2_with (at_builtin;apply Dh rfl (.tmp 68) (.tmp 73) 81 rfl 0 208 f9 (.pointer none) 1 8 underlying81 g0 g1 g2 g3 rfl C b5 (u.map ptR).length (u.map ptR) rfl (ra_ (ra_ c5 _) _) _ 1 1 _ rfl rfl (Zbb b9 210 208 _ _) (by intro a9 i;simp only[mem_cons,not_mem_nil,or_false] at i;subst i;rfl) C m_ O r_)
 rintro h9 g5 ⟨c7,c8,c9,_,h8,h7,rfl⟩;obtain⟨a9,r⟩:=Ur.E (j:=1) a2 c5 C (by rw[length_map];exact c7) c8 (λi b4=>w_);have i:=f.1.F a3.2.2 a3.1 a3.2.1 c6.1 c6.2 e4 ⟨by have:=c4.1;omega,c4.2⟩ r (Up.E a1);have g7:g5.cell? (J q 1)=some b5:=(by rw[a9.cell];exact f.1.z);have g9:=λj=>a9.frozen j;have b4:K (Bq E _ q a5 a4 (D+1)/\_):=⟨⟨_,_,_,_,_,_,i.1,by have:=f.2.1;simp;omega,p_ f.2.2⟩,i.2⟩;clear c7 c8 c9 a9 r i e6 f0;go_wp2;go_ret;exact⟨rfl,b4⟩
def Bq.E{e g f N L R c b d}(a:Bq e g f N L R)(k:N<=c)(j:L<=b)(t:R<=d):Bq e g f c b d:=by obtain⟨m,h,p,q,o,i,a,r,s⟩:=a;exact⟨m,h,p,q,o,i,⟨a.p.E k,a.D,a.z,a.B,a.E,a.q,a.u,a.w,a.v,λn l=>aG (a.r n l) j,a.x,a.y⟩,O,O⟩
structure Iu(h)(a b:World)(d)(c g f)(i)(p q)(e)(j)(n)(k:Nat)(m l)(o):Prop where
 r:Dx h b d c i g f p q e j
 u:e[k]? =some n
 w:b.cell? (J a.1.size 0)=some (I m)
 v:b.cell? (J a.1.size 1)=some (I l)
 y:b.cell? (J a.1.size 9)=some (Q_ o)
 x:d a.1.size=99
 z:c<a.1.size
 A:E_ a b
section
variable {b:Nat->Prop} {w a w2:World} {o:Nat->Nat} {g N L:Nat} {c:Array Value} {v1 v2:Value} {f:List RP} {d:List Nat} {r:RP} {i:Nat} {e k:Int} {st:ByteArray}
def Iu.below(h:Iu b w a o g N L c v1 v2 f d r i e k st)(j:E_ a w2):Iu b w w2 o g N L c v1 v2 f d r i e k st:=
 ⟨h.r.below j,h.u,Ag j h.w,Ag j h.v,Ag j h.y,h.x,h.z,h.A.T (j.m h.A.size)⟩
def Iu.l(h:Iu b w a o g N L c v1 v2 f d r i e k st):a.cell? (J r.d 0)=some (P_ r.ib)/\a.cell? (J r.d 1)=some (P_ r.c):=
 ⟨G_ 0 _ 210 (0,0) (h.r.v i r h.u).o,G_ 1 _ 210 (0,0) (h.r.v i r h.u).o⟩
def Iu.after{n}(h:Iu b w a o g N L c v1 v2 f d r i e k st)(v:Aa n a w2)(t:∀k,n k->o k≠99/\o k≠16):w2.cell? (J r.d 0)=some (P_ r.ib)/\w2.cell? (J r.d 1)=some (P_ r.c)/\w2.cell? (J w.1.size 9)=some (Q_ st)/\w2.cell? (J w.1.size 0)=some (I e):=by have s:=h.r.v i r h.u;have p:=v.g s.o (λl=>(t _ l).2 s.e);have u:∀{j m},D_ a w.1.size j m->D_ w2 w.1.size j m:=λ{j m} q=>(cb_ (w:=a) (a:=(J w.1.size j)) (v.block _ (aJ a _ q) (λl=>(t _ l).1 h.x))).T q;exact⟨G_ 0 _ 210 (0,0) p,G_ 1 _ 210 (0,0) p,u h.y,u h.w⟩
def Zei(w b:World)(o:Nat->Nat)(i:Nat)(r:RP)(c:ByteArray)(d:Bool):Prop:=∃a,E_ w a/\Qy b (Dc a b o (100+2*i)) (100+2*i) r.ib r.m r.a r.sc r.ct r.k r.size r.b c d/\Aa (λk=>o k=100+2*i) a b
def ZiL d f e a b c:(Zh d f e a b c).size<=a.size+b.size:=by grind [Zh]
def Iu.h(h:Iu b w a o g N L c v1 v2 f d r i e k st)(v:L+st.size<=200000000000000) l (p:E_ a l):C_ 32 #[P_ r.ib,Q_ st] l λm j=>m=.returned (.tuple #[.int .i64 (yu r.m r.a r.sc (Zh r.m r.a r.sc r.T st r.u) r.u).1,.int .i64 (yu r.m r.a r.sc (Zh r.m r.a r.sc r.T st r.u) r.u).2])/\Zei a j o i r (Zh r.m r.a r.sc r.T st r.u) r.u/\j.cell? (J r.d 0)=some (P_ r.ib)/\j.cell? (J w.1.size 9)=some (Q_ st):=by have n:=h.below p;have s:=n.r.v i r h.u;have x:=h.r.r r (mem_of_getElem? h.u);apply (Go.Proofs.YtfcgnpchbcmdeaaGreat.feedX s.cf s.x O O).m;rintro m j ⟨rfl,u,t⟩;have q:=n.after t (λk m=>O);exact⟨rfl,⟨l,p,u,t⟩,q.1,q.2.2.1⟩
def Iu.j{w3}(j:Iu b w a o g N L c v1 v2 f d r i e k st)(G:L+st.size<=200000000000000)(x:Zei a w3 o i r (Zh r.m r.a r.sc r.T st r.u) r.u) q (n:E_ w3 q):C_ 125 #[P_ r.c,Q_ st] q λh l=>h=.returned (.tuple #[.int .i64 (yu r.m r.a r.sc (Zh r.m r.a r.sc r.T st r.u) r.u).1,.int .i64 (yu r.m r.a r.sc (Zh r.m r.a r.sc r.T st r.u) r.u).2])/\(∃p m,Dx b l p g c N (L+st.size) v1 v2 m d/\m.length=f.length)/\De b w l/\l.cell? (J r.d 1)=some (P_ r.c)/\l.cell? (J w.1.size 9)=some (Q_ st):=by
 obtain⟨s,y,A,p⟩:=x;have m:=j.below y;have z:=m.r.v i r j.u;have H:=j.r.r r (mem_of_getElem? j.u);have D:=m.r.h j.u p (λk _ h=>h);have E:=D.u (S:=λ_=>False) (.a n) (λ_ _ h=>h.elim) (Em.refl _ _) O;apply (Go.Proofs.YtfcgnpchbcmdeaaGreat.feedY z.cf E O O).m;rintro h l ⟨rfl,B,v⟩;have u:=m.r.j j.u A p n B v (L':=L+st.size) O (p_ (ZiL r.m r.a r.sc r.T st r.u));have F:Aa (λk=>o k=100+2*i∨(k<s.1.size/\o k=100+2*i+1)) s l:=((p.m (λk _ h=>.inl h)).c (Aa.a (S:=λ_=>False) n) (λk h=>h.elim)).c v (λk h=>by grind [Eb]);have t:=m.after F (λk h=>O);exact⟨rfl,⟨_,_,u.1,s_⟩,(De.a m.A).T u.2,t.2.1,t.2.2.1⟩
end
def hdc{a}(b:a):K a:=b
def Iu.a{l g h b e p j i m w x v o a c u d f}(q:Iu l g h e p j i m w x v o a c u d f){k n}(r:Zei h b e c a k n):b.cell? (J a.d 1)=some (P_ a.c)/\b.cell? (J g.1.size 9)=some (Q_ f):=by
 obtain⟨y,s,_,t⟩:=r;have A:=(q.below s).after t (λd z=>O)
 grind
def ZjY i h w m q H L b9 c0 d7 c1 x e3 c3 d8 e1 c5 c4 e0 d9 e2 wc g e (e9:Bq i e h w m q)(f8:q<=10000000)(c7:m+g.size<=200000000000000)(Z:H=6∨H=7):C_ 71 #[P_ h,.agg #[I H,I L,I b9,V c3 c5 c4,I c0,I d7,I c1,V d8 e0 d9,V e1 e2 wc,Q_ g,I x,I e3]] e λb f=>b=.returned (.bool true)/\Bq i f h w (m+g.size) (q+1)/\De i e f:=by
 obtain⟨a8,U,g0,f6,l,e6,d,a5,a6⟩:=e9;obtain⟨P,d5,rfl,d2⟩:=My d.B;rw[length_map] at *;have f2:(H==5)=_:=aO O;have e4:=Y Z;clear Z;refine dl_ ?_;go_enter func71,ntmps71;go_upto_region 12 with fail;generalize S:e.alloc (O_ #[I H,I L,I b9,V c3 c5 c4,I c0,I d7,I c1,V d8 e0 d9,V e1 e2 wc,Q_ g,I x,I e3] 93)=A;have Q:E_ e A:=(by rw[<- S];exact q_);have z:A.cell? (J e.1.size 0)=some (I H):=(by rw[<- S];simp[go_sem]);have a9:A.cell? (J e.1.size 1)=some (I L):=(by rw[<- S];simp[go_sem]);have o:A.cell? (J e.1.size 9)=some (Q_ g):=(by rw[<- S];simp[go_sem]);clear S f2;have y:=d.below Q;have c2:A.cell? (J h 1)=some (V P l.length d5):=(by rw[y.p.v.cell];exact y.z);have b6:K (De i e _):=De.a Q
 by_cases e8:l.length=0
 ·have u:K (Bq i _ h w (m+g.size) (q+1)):=Bq.E ⟨a8,U,_,f6,l,e6,y,a5,a6⟩ x_ O O;rw[e8] at c2;clear y d d2 z a9 o Q;go_wp2;go_ret;exact⟨rfl,u,b6⟩
 obtain⟨d6,rfl,_⟩:=d2 O;have⟨s,f1,d1⟩:=lp L (n:=l.length) O;obtain⟨a,r⟩:∃a,l[s]? =some a:=⟨l[s],Qd f1⟩;have e5:A.cell? _=some (.pointer _):=Pd (x:=ptR a) (by have:=y.B;rw[length_map] at this;exact this) (by rw[getElem?_map,r];rfl);have b1:K (Iu i e _ a8 h w m U _ _ _ _ a s _ _ _):=⟨y,r,z,a9,o,d.D _ x_,d.p.v.lt,Q⟩
 have b7:K (∀D,C_ 74 #[I L,I l.length] D (V_ (.int .i64 s) D)):=λD=>by rw[<- d1];exact al _ _ D
 have v:=T_ a5 a6;have f9:=F_ s l.length;have f3:((l.length:Int)==0)=_:=aO O;clear y d d1 r z o Q a5 a6;go_upto_region 14 with fail;go_cut [11] (λc b=>c=.pointer (some ⟨a.d,0,none⟩)/\K (E_ A b))
 case first=>
  go_region_held3 (λf=>f.cell? (J h 1)=some (L_ d6 l.length d5)/\f.cell? (J e.1.size 1)=some (I L)/\f.cell? (J d6 s)=some (P_ a.d)) (go_keep) (first|(go_at_call 74;apply (b7 _).m;rintro b f ⟨rfl,n⟩;obtain rfl:=n.s))
  all_goals go_wp2
  all_goals go_meet
  all_goals exact⟨rfl,y_.drew⟩
 obtain⟨rfl,b3⟩:=hcut;have c:=Y (b1.below b3);clear b1 b3 c2 a9 e5 b7 f3 b6;generalize wc=w2 at *;have z:=c.w;have⟨W,_⟩:=c.l
 rcases e4.out with rfl|rfl
 ·have o:=c.y;have⟨p,k⟩:=Z_ (λD b=>c.h c7 D b) (λw3 G b d=>c.j (w3:=w3) c7 G b d);generalize (yu a.m a.a a.sc (Zh a.m a.a a.sc a.T g a.u) a.u).1=X at *;generalize (yu a.m a.a a.sc (Zh a.m a.a a.sc a.T g a.u) a.u).2=G at *;generalize Zh a.m a.a a.sc a.T g a.u=F at *;go_upto_region 16 with fail;go_cut [12,13] (λP f b=>P=.int .i64 X/\f=.int .i64 G/\K (Zei w2 b a8 s a F a.u))
  case first=>
   go_region_held3 (λf=>f.cell? (J a.d 0)=some (P_ a.ib)/\f.cell? (J e.1.size 9)=some (Q_ g)) (first|exact⟨W,o⟩|exact⟨k0,k9⟩) (first|(go_at_call 32;apply (p _ y_.drew).m;rintro b w3 ⟨rfl,f,k0,k9⟩))
   all_goals go_wp2
   all_goals go_meet
   grind
  obtain⟨rfl,rfl,j⟩:=hcut;clear W o z p;have⟨E,o⟩:=c.a j;have B:=Y (λb d=>k _ j b d);clear k j;generalize wc=w3 at *;go_upto_region 17 with fail;go_cut [14,15] (λP f b=>P=.int .i64 X/\f=.int .i64 G/\K (Bq i b h w (m+g.size) (q+1)/\De i e b))
  case first=>
   go_region_held3 (λf=>f.cell? (J a.d 1)=some (P_ a.c)/\f.cell? (J e.1.size 9)=some (Q_ g)) (first|exact⟨E,o⟩|exact⟨k0,k9⟩) (first|(go_at_call 125;apply (B _ y_.drew).m;rintro b t ⟨rfl,f,hK,k0,k9⟩))
   all_goals go_wp2
   all_goals go_meet
   all_goals exact⟨rfl,rfl,Bq.E (R:=q) (by obtain⟨n,t,f,b⟩:=f;exact⟨n,_,_,_,t,_,f,b ▸ v.1,v.2⟩) x_ x_ O,hK⟩
  obtain⟨rfl,rfl,u⟩:=hcut;clear E o B c;go_wp2_with (go_at_call 68;apply (Jf _ _).m;rintro b f ⟨rfl,n⟩;obtain rfl:=n.s)
  go_ret;exact⟨s_,u⟩
 have r:=c.u;have⟨p,T,a2⟩:=y3_ (c.r.v s a r) r (c.r.r a (mem_of_getElem? r));clear r;go_wp2_with fail
 apply (Zm4 p.cf p.x O).m;rintro b w3 f0
 rcases f0 with⟨a0,rfl,a7,j⟩|⟨a1,e7,f7,R,rfl,c8,c6,j⟩
 ·have⟨_,E,_,_⟩:=c.after j (λf b=>O)
  have N:=show K _ from c.r.h T j (λ_ _ b=>b)
  have b0:=show K (_/\_/\_) from⟨a0,a7,j⟩
  have a3:=show K _ from λt F k=>c.r.j (w2:=t) T a7 j y_ F k (L':=m+g.size) O (p_ a2.out)
  have M:=hdc<|Zin p.cf N O (p_ a2.out)
  clear a0 a7 j N W z;go_wp2_with fail
  apply M.m;rintro b t a4
  rcases a4 with⟨_,rfl,F,k⟩|⟨a1,yd,R,_⟩
  ·have u:K (Bq i t h w (m+g.size) (q+1)/\De i e t):=(by have f:=a3 _ F k;exact⟨⟨_,_,_,_,_,_,f.1,by have:=v.1;simp;omega,p_ v.2⟩,(De.a c.A).T f.2⟩);clear F k b0 a3 M p c E;generalize (clZ a.m a.a a.sc a.T a.u).1=X at *;generalize (clZ a.m a.a a.sc a.T a.u).2=G at *;go_wp2_with fail
   apply (ir h _).m;rintro b B ⟨rfl,n⟩;obtain rfl:=n.s;go_wp2_with (go_at_call 68;apply (Jf _ _).m;rintro b f ⟨rfl,n⟩;obtain rfl:=n.s)
   go_ret;exact⟨s_,u⟩
  exact absurd R (b0.1 a1)
 have d0:=p.x.1;have f4:=p.y.1;have⟨_,E,_,_⟩:=c.after j (λf b=>by subst b;omega)
 have N:=show K _ from c.r.h T j (λf _ b=>b ▸ d0)
 have M:=hdc<|Zin p.cf N O (p_ a2.out)
 have a3:=show K _ from R
 have b5:=show K _ from λt B yd dp aA G X k F=>c.r.n (w2:=t) (w3:=B) (yd:=yd) (dp:=dp) (v2':=aA) T R c8 c6 j G X k F
 have b8:=show K _ from j
 clear R c8 c6 j N W z;go_wp2_with fail
 apply M.m;rintro b t a4
 rcases a4 with⟨a0,_⟩|⟨f5,yd,d4,rfl,G,X,k⟩
 exact absurd a3 (a0 a1)
 obtain rfl:a1=f5:=by
  have f:=a3.2.1;rw[d4.2.1] at f
  grind
 have b0:Aa (λf=>_∨_) _ _:=(b8.m (λf _ b=>.inl b)).c k (λf b=>.inl (.inr b));have d:=c.r;have c9:WB _ h U:=b0.g d.p.v (λb=>gh_ d.p.b);have d3:=b0.row d.u (λf Z b=>gh_ (d.w f Z))
 have b2:=hdc<|iu h e7 yd U _ _ _ c9 d.q d3 (gh_ v.2)
 have b4:=show K _ from λB dp aA F=>b5 _ B _ dp aA G X k F
 clear b0 d c9 d3 G X k d4 b5 b8 M p d0 f4 E;go_wp2_with fail
 apply b2.m;rintro b B ⟨rfl,dp,aA,F⟩;have u:K (Bq i B h w (m+g.size) (q+1)/\De i e B):=(by have f:=b4 _ _ _ F;exact⟨Bq.E ⟨_,_,_,_,_,_,f.1,by have:=v.1;simp;omega,by have:=v.2;simp;omega⟩ x_ O x_,(De.a c.A).T f.2⟩);clear F b4 b2 c a3;go_wp2_with (go_at_call 68;apply (Jf _ _).m;rintro b f ⟨rfl,n⟩;obtain rfl:=n.s)
 go_ret;exact⟨s_,u⟩
def Bq.below{d f g e b a c}(j:Bq d f e b a c)(n:E_ f g):Bq d g e b a c:=by obtain⟨o,h,q,r,p,i,m,k,l⟩:=j;exact⟨o,h,q,r,p,i,m.below n,k,l⟩
def El.a{e f b c g d a}(h:El e b c g d a)(i:E_ e f):El f b c g d a:=h.below i
def ZjW g d h e f j G B r k i x l u H N c D M L P Q q A y t b (m:Bq g b d h e f)(w:f<=10000000)(E:e+q.size<=200000000000000)(v:El b u c A y t)(F:c<=2097152)(o:j=5∨j=6∨j=7):C_ 71 #[P_ d,.agg #[I j,I G,I B,V u c D,I r,I k,I i,V H M L,V N P Q,Q_ q,I x,I l]] b λn a=>n=.returned (.bool true)/\Bq g a d h (e+q.size) (f+1)/\De g b a:=by
 rcases o with rfl|o
 ·by_cases n:Iz c r k i A y t=true
  have⟨R,S,T,U,W,X,Z,a0,_⟩:=Mo n;obtain⟨p,rfl⟩:∃p,c=p+1:=⟨c-1,O⟩;obtain⟨z,rfl⟩:∃z:Nat,k=z:=⟨k.toNat,O⟩;obtain⟨s,rfl⟩:∃s:Nat,i=s:=⟨i.toNat,O⟩;exact(qv g d p _ _ h e f _ _ _ x l _ _ _ _ _ _ _ _ _ _ _ _ b m w v n).m (λ_ _ a=>⟨a.1,a.2.1.E x_ O x_,a.2.2⟩);exact(xw d _ _ _ _ _ x l _ _ _ _ _ _ _ _ _ _ _ _ _ b v F (by simpa using n)).m (λ_ _ a=>⟨a.1,(m.below a.2).E x_ O O,De.a a.2⟩)
 exact ZjY g d h e f _ _ _ _ _ _ x l _ _ _ _ _ _ _ _ _ _ b m w E o
def Zhf d f n h i b l j o s p x m k t w e r v u y z c Q P H a (D:Bq d a f n h i)(M:i<=10000000)(L:h+c.size<=200000000000000)(B:El a k e Q P H)(N:e<=2097152)(E:b=5∨b=6∨b=7):C_ 41 #[P_ f,.agg #[I b,I l,I j,V k e r,I o,I s,I p,V t v u,V w y z,Q_ c,I x,I m]] a λq g=>q=.returned (.bool true)/\Bq d g f n (h+c.size) (i+1)/\De d a g:=by
 have A:K (C_ 71 #[P_ f,.agg #[I b,I l,I j,V k e r,I o,I s,I p,V t v u,V w y z,Q_ c,I x,I m]] (a.alloc (O_ #[I b,I l,I j,V k e r,I o,I s,I p,V t v u,V w y z,Q_ c,I x,I m] 93)) λq g=>q=.returned (.bool true)/\Bq d g f n (h+c.size) (i+1)/\De d a g):=(by have g:Below _ a (a.alloc (O_ #[I b,I l,I j,V k e r,I o,I s,I p,V t v u,V w y z,Q_ c,I x,I m] 93)):=q_;exact(ZjW d f n h i _ l j _ _ _ x m _ _ _ _ _ _ _ _ _ _ _ _ _ _ (D.below g) M L (B.a g) N E).m (λ_ _ q=>⟨q.1,q.2.1,(De.a g).T q.2.2⟩));clear D B
 rcases E with rfl|rfl|rfl
 all_goals
  refine dl_ ?_;go_enter func41,ntmps41;go_wp2_with fail
  apply A.m;rintro q g ⟨rfl,F⟩
  have G:=show K _ from F
  clear F A;go_wp2;go_ret;exact⟨rfl,G⟩
def Zkg i g n L M b h o p z q x m s B F u t E D G H A d (c2:Bq i d g n L M)(c1:n<=10000000)(e0:8<=b)(d9:b<=12):C_ 41 #[P_ g,.agg #[I b,I h,I o,V s u t,I p,I z,I q,V B E D,V F G H,Q_ A,I x,I m]] d λr e=>r=.returned (.bool true)/\Bq i e g (n+5) L M/\De i d e:=by
 obtain⟨c5,b1,e2,e3,a8,c,N,U,W⟩:=c2;obtain⟨b0,a7,rfl,a6⟩:=My N.u;rw[length_map] at *;have b3:(b==1)=_:=aO O;have b6:2<=b:=O;have b7:¬b<=4:=O;have b8:5<=b:=O;have b9:¬b<=7:=O;have b4:(b==13)=_:=aO O;have d6:(b==14)=_:=aO O;have b5:¬15<=b:=O;have d8:¬b<8:=O;have d7:¬14<b:=O;refine dl_ ?_;go_enter func41,ntmps41;go_upto_region 12 with fail;generalize X:d.alloc (O_ #[I b,I h,I o,V s u t,I p,I z,I q,V B E D,V F G H,Q_ A,I x,I m] 93)=l;have P:E_ d l:=by rw[<- X];exact q_
 have a:l.1[d.1.size]? =some (O_ #[I b,I h,I o,V s u t,I p,I z,I q,V B E D,V F G H,Q_ A,I x,I m] 93):=(by rw[<- X];exact ha_ d _);have Z:=n_ 0 a;have Q:=n_ 1 a;clear X b3 b6 b7 b8 b9 b4 b5;have k:=N.below P;have a4:l.cell? (J g 2)=some (V b0 c.length a7):=(by rw[k.p.v.cell];exact k.q);have R:K (De i d _):=De.a P
 by_cases c0:c.length=0
 ·have e:K (Bq i _ g (n+5) L M):=Bq.E ⟨c5,b1,_,_,a8,c,k,U,W⟩ O x_ x_;rw[c0] at a4;clear k N a6 Q P;go_wp2;go_ret;exact⟨rfl,e,R⟩
 obtain⟨y,rfl,_⟩:=a6 O;have⟨w,c3,v⟩:=lp h (n:=c.length) O;obtain⟨j,T⟩:∃j,c[w]? =some j:=⟨c[w],Qd c3⟩;have b2:l.cell? _=some (.pointer _):=Pd (x:=ptD j) (by have:=k.u;rw[length_map] at this;exact this) (by rw[getElem?_map,T];rfl)
 have a3:K (∀f,C_ 74 #[I h,I c.length] f (V_ (.int .i64 w) f)):=λf=>by rw[<- v];exact al _ _ f
 have a0:K (∀f,E_ l f->f.1[d.1.size]? =some (O_ #[I b,I h,I o,V s u t,I p,I z,I q,V B E D,V F G H,Q_ A,I x,I m] 93)/\C_ 77 #[P_ g,P_ j,.agg #[I b,I h,I o,V s u t,I p,I z,I q,V B E D,V F G H,Q_ A,I x,I m]] f λr e=>r=.returned (.bool true)/\Bq i e g (n+5) L M/\De i d e):=λf S=>by have e:=k.below S;have⟨d1,d0,e5,c7,d3,c4,e1,d4,d5,e4,d2,c8,c9,c6,a2,a5⟩:=e.x j (mem_of_getElem? T);refine⟨(S.block _ (Qb a).1).T a,(rr _ _ _ _ _ _ x m _ _ _ _ _ _ _ _ _ _ e.p e.D c1 a2.b a5).m (λ_ _ y=>?_)⟩;have⟨⟨a9,r,a1⟩,hK⟩:=e.l y.2;exact⟨y.1,⟨a9,r,_,_,a8,c,a1,U,W⟩,(R.T (De.a S)).T hK⟩
 have e1:=F_ w c.length;have c4:((c.length:Int)==0)=_:=aO O;clear k N v T P U W a R;go_upto_region 14 with fail;go_cut [6] (λe r=>e=.pointer (some ⟨j,0,none⟩)/\K (E_ l r))
 case first=>
  go_region_held3 (λe=>e.cell? (J g 2)=some (L_ y c.length a7)/\e.cell? (J d.1.size 1)=some (I h)/\e.cell? (J y w)=some (P_ j)) (go_keep) (first|(go_at_call 74;apply (a3 _).m;rintro r e ⟨rfl,a1⟩;obtain rfl:=a1.s))
  all_goals go_wp2
  all_goals go_meet
  all_goals exact⟨rfl,y_.drew⟩
 obtain⟨rfl,a1⟩:=hcut;have⟨a,a5⟩:=a0 wc a1;have a2:=hdc a5;clear a0 a1 a4 Z Q b2 a3 c4 a5;generalize wc=e4 at *;have Z:=n_ 0 a;have Q:=n_ 1 a;have c8:=n_ 2 a;have c9:=n_ 3 a;have d0:=n_ 4 a;have d1:=n_ 5 a;have d2:=n_ 6 a;have d3:=n_ 7 a;have d4:=n_ 8 a;have d5:=n_ 9 a;have c6:=n_ 10 a;have c7:=n_ 11 a;clear a;go_wp2_with fail
 apply a2.m;rintro r e ⟨rfl,v⟩
 have a9:=show K _ from v
 clear v a2 Z Q c8 c9 d0 d1 d2 d3 d4 d5 c6 c7;go_wp2;go_ret;exact⟨rfl,a9⟩
def Zkh g h e d f a c (i:Bq g c h e d f)(o:f<=10000000)(m:e<=10000000)(l:d+a.g.size<=200000000000000)(n:OpR c a)(p:a.A<=2097152)(q:5<=a.a)(k:a.a<=12):C_ 41 #[P_ h,.agg #[I a.a,I a.n,I a.w,V a.c a.A a.e,I a.k,I a.size,I a.b,V a.i a.vl a.h,V a.j a.d a.l,Q_ a.g,I a.x,I a.y]] c λj b=>j=.returned (.bool true)/\Bq g b h (e+5) (d+a.g.size) (f+1)/\De g c b:=by
 by_cases j:a.a<=7
 exact(Zhf g h e d f _ _ _ _ _ _ _ _ _ _ _ _ _ _ _ _ _ _ _ _ _ c i o l n.c p O).m (λ_ _ b=>⟨b.1,b.2.1.E O x_ x_,b.2.2⟩);exact(Zkg g h e d f _ _ _ _ _ _ _ _ _ _ _ _ _ _ _ _ _ _ c i m O k).m (λ_ _ b=>⟨b.1,b.2.1.E x_ O O,b.2.2⟩)
def Bq.sub{f g i h d c e}(a:Bq f i h d c e)(o:∀b,g b->f b):Bq g i h d c e:=by obtain⟨p,j,r,s,q,k,a,l,m⟩:=a;exact⟨p,j,r,s,q,k,⟨a.p,a.D,a.z,a.B,a.E,a.q,a.u,a.w,a.v,a.r,a.x,λb n=>a.y b (o b n)⟩,l,m⟩
def De.A{c b e a}(f:De c b e)(i:∀d,d<a->c d)(g:a<=b.1.size):Below a b e:=Aa.b f g (λj h=>w_)
theorem Grp.empty{j i a c d}(e:a[c]? =some (N_))(f:a[c+1]? =some (N_)):Grp j i a c d:=
 ⟨N_,N_,[],[],e,f,rn_,λh b=>(by cases b),rn_,λh b=>(by cases b),rfl,r_,λk g=>by cases g⟩
def Vo(b:Nat->Prop)[DecidablePred b](f:World)(c:Nat)(d e:Value)(a:Nat):Nat:=if b a then 98 else if a=c then 0 else if d.ownBlock=some a then 4 else if e.ownBlock=some a then 5 else if a<f.1.size then 13 else 99
def Hp.a{g f}{d t:Nat}{i x r}(B:Hp f d i x r)(R:r<=t)(u:∀e,e≠0->e≠4->e≠5->e<12->i[e]? =some (N_))(M:∀a,g a->a<f.1.size/\(a<d∨∃h c,f.1[a]? =some (O_ h c)/\c≠29/\c≠3/\c≠98/\c≠90)):Bq g f d t 0 0:=by
 haveI:DecidablePred g:=λ_=>Classical.propDecidable _
 obtain⟨b4,m,s,b3,X,v,o,F,a5,G,H,L,a6,j,k,a0,a1,D,a2,a3,a4,E⟩:=B;have a8:=o.lt;have w:∀a c h,f.1[a]? =some (O_ h c)->d<=a->(c=29∨c=3∨c=98∨c=90)->¬g a:=w_
 have S:∀a,m.ownBlock=some a->a≠d/\¬g a/\a<f.1.size:=λa b=>by
  have⟨h,l⟩:=Ac j b;have:=B_ j a b
  grind
 have b2:∀a,s.ownBlock=some a->a≠d/\¬g a/\a<f.1.size/\m.ownBlock≠some a:=λa b=>by
  have⟨h,l⟩:=Ac k b;have:=B_ k a b
  grind [Ac]
 have b1:=w d _ i o x_ s_;refine⟨Vo g f d m s,i,V _ 0 0,V _ 0 0,[],[],⟨⟨o,?_,F,⟨r,L,O,R⟩,λq a9=>?_⟩,λa b=>?_,u 1 C C C C,rn_,λa b=>(by cases b),u 2 C C C C,rn_,λa b=>(by cases b),λq U p=>(by simp at p),λU p=>(by cases p),λZ P=>(by cases P),λa b=>⟨(M a b).1,by unfold Vo;rw[aD b]⟩⟩,r_,r_⟩
 ·unfold Vo
  grind
 ·by_cases b0:q≠4
  ·grind [Grp.empty]
  obtain rfl:q=4:=O;refine⟨m,s,X,v.map (int .i64),G,H,Pc j r_,λa b=>?_,?_,λa b=>?_,by simp[D],O,λe Q=>?_⟩
  ·have⟨l,n,_⟩:=S a b;unfold Vo
   grind
  rw[length_map];exact Pc k r_
  ·grind [Vo]
  intro b5 W;have⟨y,z⟩:=E e Q;refine⟨v.getD e 0,?_,?_⟩
  ·grind
  refine Gq.p y W (λa h b l T=>T ?_);have a7:=z a b;unfold Vo;rw[aC (w a 98 h l O s_),aC O,aC (λn=>by obtain⟨A,N⟩:=Ac j n;grind),aC (λn=>by obtain⟨A,N⟩:=Ac k n;grind),aD (Qb l).1]
 grind [Vo]
def xd(a:OpD):List Value:=[I a.a,I a.n,I a.w,V a.c a.A a.e,I a.k,I a.size,I a.b,V a.i a.vl a.h,V a.j a.d a.l,Q_ a.g,I a.x,I a.y]
def Znz{b c f h d}(j:b.1[c]? =some (O_ h 93))(i:(h.toList.drop f).take 12=xd d):OpC b c f d:=by
 have a:∀e g,(xd d)[e]? =some g->D_ b c (f+e) g:=λe g k=>by grind [cell_of_row]
 exact⟨a 0 _ rfl,a 1 _ rfl,a 2 _ rfl,a 3 _ rfl,a 4 _ rfl,a 5 _ rfl,a 6 _ rfl,a 7 _ rfl,a 8 _ rfl,a 9 _ rfl,a _ _ rfl,a _ _ rfl⟩
def jy(b:Nat):Nat->OpD
 |1=>{a:=5,n:=0,w:=0,c:=some (J (b+2) 0),A:=2,e:=2,k:=2,size:=2,b:=1,i:=none,vl:=0,h:=0,j:=none,d:=0,l:=0,g:=⟨#[]⟩,x:=0,y:=0,r:=λa=>a==1,fs:=λa=>if a=0 then 1 else 0,q:=λa=>if a=1 then 1 else 0,o:=[],p:=[]}
 |2=>{a:=6,n:=0,w:=0,c:=none,A:=0,e:=0,k:=0,size:=0,b:=0,i:=none,vl:=0,h:=0,j:=none,d:=0,l:=0,g:=⟨#[49,44,50,46,53,44,97,10,50,44,45,49,44,10,57,44,44,98,10,49,44,48,44,97,10]⟩,x:=0,y:=0,r:=λ_=>false,fs:=λ_=>0,q:=λ_=>0,o:=[],p:=[]}
 |3=>{a:=7,n:=0,w:=0,c:=none,A:=0,e:=0,k:=0,size:=0,b:=0,i:=none,vl:=0,h:=0,j:=none,d:=0,l:=0,g:=⟨#[]⟩,x:=0,y:=0,r:=λ_=>false,fs:=λ_=>0,q:=λ_=>0,o:=[],p:=[]}
 |4=>{a:=5,n:=0,w:=0,c:=some (J (b+3) 0),A:=1,e:=1,k:=3,size:=4,b:=0,i:=none,vl:=0,h:=0,j:=none,d:=0,l:=0,g:=⟨#[]⟩,x:=0,y:=0,r:=λ_=>false,fs:=λ_=>0,q:=λ_=>0,o:=[],p:=[]}
 |_=>{a:=15,n:=0,w:=0,c:=none,A:=0,e:=0,k:=0,size:=0,b:=0,i:=none,vl:=0,h:=0,j:=none,d:=0,l:=0,g:=⟨#[]⟩,x:=500,y:=0,r:=λ_=>false,fs:=λ_=>0,q:=λ_=>0,o:=[],p:=[]}
structure yz(c:World)(a)(d):Prop where
 e:c.1[a+2]? =some (O_ #[.bool false,I 1,I 0,.bool true,I 0,I 1] 51)
 h:c.1[a+3]? =some (O_ #[.bool false,I 0,I 0] 51)
 op:c.1[a+4]? =some (O_ d 93)
 g:∀b,1<=b->b<=5->(d.toList.drop (b*12)).take 12=xd (jy a b)
def gZ(c b:Nat)(a:Nat):Prop:=a<c∨a=b+2∨a=b+3∨a=b+4
def yz.kept{e f h b d}(a:yz e b d)(k:De (gZ h b) e f):yz f b d:=by have c:∀{l:_} {m:_},_[l]? =some m->_:=λi j=>k.g i (λg=>g j);exact⟨c a.e (.inr (.inl rfl)),c a.h (.inr (.inr (.inl rfl))),c a.op (.inr (.inr (.inr rfl))),a.g⟩
def yz.a{f c g}(a:yz f c g){k}(j:1<=k)(l:k<=4):OpR f (jy c k)/\(jy c k).A<=2/\(jy c k).g.size<=25/\5<=(jy c k).a/\(jy c k).a<=7:=by
 have i:=(Qb a.e).1;have h:=(Qb a.h).1;have e:Cn f none 0 []:=⟨rfl,s_,.inl rfl⟩
 rcases(show k=1∨k=2∨k=3∨k=4 by omega) with rfl|rfl|rfl|rfl
 ·refine⟨⟨by simp[jy,maxLen],by simp[jy,maxLen],by simp[jy,maxLen],.inr ⟨c+2,0,rfl,by simp[jy,maxLen],λ_=>i,λd b=>?_,λd b=>?_,λd b=>?_⟩,e,e,λ_=>⟨rfl,rfl⟩,λ_=>⟨rfl,rfl⟩⟩,Qa 2,r_,Int.le_refl 5,(by decide:(5:Int)<=7)⟩
  all_goals
   have b:d=0∨d=1:=by simp[jy] at b;omega
   rcases b with rfl|rfl
  exact G_ 0 _ _ _ a.e;exact G_ 3 _ _ _ a.e;exact G_ 1 _ _ _ a.e;exact G_ 4 _ _ _ a.e;exact G_ 2 _ _ _ a.e;exact G_ 5 _ _ _ a.e
 exact⟨⟨by simp[jy,maxLen],by simp[jy,maxLen],by simp[jy,maxLen],.inl rfl,e,e,λ_=>⟨rfl,rfl⟩,λ_=>⟨rfl,rfl⟩⟩,r_,x_,(by decide:(5:Int)<=6),(by decide:(6:Int)<=7)⟩;exact⟨⟨by simp[jy,maxLen],by simp[jy,maxLen],by simp[jy,maxLen],.inl rfl,e,e,λ_=>⟨rfl,rfl⟩,λ_=>⟨rfl,rfl⟩⟩,r_,r_,(by decide:(5:Int)<=7),(by decide:(7:Int)<=7)⟩;refine⟨⟨by simp[jy,maxLen],by simp[jy,maxLen],by simp[jy,maxLen],.inr ⟨c+3,0,rfl,by simp[jy,maxLen],λ_=>h,λd b=>?_,λd b=>?_,λd b=>?_⟩,e,e,λ_=>⟨rfl,rfl⟩,λ_=>⟨rfl,rfl⟩⟩,(by decide:1<=2),r_,Int.le_refl 5,(by decide:(5:Int)<=7)⟩
 all_goals
  have b:d=0:=(by simp[jy] at b;omega);subst b
 exact G_ 0 _ _ _ a.h;exact G_ 1 _ _ _ a.h;exact G_ 2 _ _ _ a.h
def Zaz{m f wc h e i n a}(u:cp m e i 0 wc a h)(A:E_ f wc)(b:yz wc f.1.size n)(s:∀d,d<12->i[d]? =some (N_)):Bq (gZ e f.1.size) h e 1 0 0/\De (gZ e f.1.size) wc h:=by
 obtain⟨_,x,w,B,j,y,z,r,c,g⟩:=u;have q:=g _ _ _ b.e C C C;have p:=g _ _ _ b.h C C C;have o:=g _ _ _ b.op C C C;refine⟨j.a O (λd k t v l=>(r d k t v O).T (s d l)) (λl k=>?_),⟨c.os,c.tape,c.output,c.size,λl k t=>?_⟩⟩
 ·rcases k with a|a|a|a
  exact⟨p_ j.lt,.inl a⟩
  ·grind
  ·grind
  grind
 have v:=Classical.not_not.1 t
 rcases v with a|a|a|a
 exact c.block l a;subst a;exact q.T b.e.s;subst a;exact p.T b.h.s;subst a;exact o.T b.op.s
end Go.Proofs.YtfcgnpchbcmdeaaGreat
