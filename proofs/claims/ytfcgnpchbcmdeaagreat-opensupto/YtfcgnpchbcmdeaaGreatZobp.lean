import Derived.Test.YtfcgnpchbcmdeaaGreatZobo
namespace Go.Proofs.YtfcgnpchbcmdeaaGreat
set_option linter.all false
set_option maxRecDepth 100000
set_option maxHeartbeats 16000000
open Go.RowKit List Nat World Go.Proofs.Tryz Value IntKind Lib Region
def Zgw(a:Ga)(x:XS):Bool:=
 Vv (a.h.getD x.f Ai).e (a.h.getD x.f Ai).d (x.i:Nat)&&(decide (0<(Wa (a.g.getD (Da a x.f) Db).N (a.g.getD (Da a x.f) Db).g).getD x.row 0)&&decide ((Wa (a.g.getD (Da a x.f) Db).N (a.g.getD (Da a x.f) Db).g).getD x.row 0<Ll a (Da a x.f) (Iq a x.f)))
def Ff(a:Ga)(b:Nat)(x:XS):Bool:=decide (x.row<b)&&(decide (x.f<a.h.length)&&Zgw a x)
def Zol{m:World}{q:Value}{c:List Nat}{d:Nat}(s:c.length<=200)(u:d<64)(w:Hv m 0 q c d):∃i h g,q=.iface i (P_ g)/\(i=382/\h=323∨i=380/\h=371)/\(∀a:World,(method 535 i (P_ g) "At").run prog a=.ok (h,P_ g) a)/\∀a:World,E_ m a->∀b,b<c.length->Calls prog h #[P_ g,I (b:Nat)] a (U_ (.int .i64 ((Wa c d).getD b 0:Nat)) a):=by
 rcases w with⟨j,x,rfl,z,D,rfl,t,f⟩|⟨j,x,rfl,n,y,rfl,t,f⟩
 have k:∀a,_->iq a 0 _ _ _ _ _:=λa e=>⟨(e.block _ (Qb f.r).1).T f.r,(Aa.a (S:=λ_=>False) e).row f.row (λ_ _=>id)⟩;unfold Wa;rw[aD j];exact⟨380,371,z,rfl,.inr ⟨rfl,rfl⟩,λa=>k_,λa e b l=>Qn _ _ _ b _ c a (k a e) l O⟩;have p:=Gc u;have k:∀a,E_ m a->_:=λa e=>f.below e;have A:=Nat.mul_le_mul s p;unfold Wa;rw[aC j];refine⟨382,323,n,rfl,.inl ⟨rfl,rfl⟩,λa=>k_,λa e b l=>?_⟩;have v:b*Lib.bitLen d+Lib.bitLen d<=c.length*Lib.bitLen d:=(by rw[<- succ_mul];exact aK _ l);have o:=Nr n y _ _ _ _ b _ a (k a e) (λr=>Ix _ _ r) p v O O;rw[Mu (c.getD b 0) (b*Lib.bitLen d) (Lib.bitLen d) (λB r=>Mm c r)] at o
 have r:(c.map (· %2^Lib.bitLen d)).getD b 0=c.getD b 0%2^Lib.bitLen d:=w_;rw[r];exact o
def qh(s e:Nat)(d8 d7 d9:Value)(d1 b5:List (Value×Value))(Q:List XS)(a:Ga)(x:XS)(f:World)(k:Om f s d8 d7 d9 d1 b5 Q a)(c3:0<a.g.length)(c4:a.g.length<=1000)(c6:e<=200)(F:∀y∈a.g,y.N.length=e)(Z:∀y∈a.g,y.g<64)(p:∀K∈a.h,K.e.b<=16)(c5:0<a.h.length)(a1:∀t,t<a.h.length->Vi a t (Da a t) (Iq a t)):Calls prog 235 #[P_ s,.agg #[I (x.row:Nat),I (x.f:Nat),I (x.i:Nat)]] f (U_ (.bool (Ff a e x)) f):=by
 obtain⟨d4,e0,_,_,_,_,rfl,_⟩:=k.q.at (i:=0) c5;have h:=Y (λd (l:E_ f d)=>(⟨k.v.below l,k.q.p (S:=λ_=>False) (Aa.a l) (λ_ _ _ _ _=>id),k.n,k.l⟩:Om d s _ _ _ _ _ Q a));obtain⟨g,b,r⟩:=x;have⟨a7,v⟩:=M_ (f.alloc (O_ #[I (g:Nat),I (b:Nat),I (r:Nat)] 184));have c:E_ f _:=v ▸ q_;have o:H_ _ _ _ _:=v ▸ (ha_ f _);have a5:=n_ 0 o;have a6:=n_ 1 o;have d5:=n_ 2 o;have e7:=(Qb o).1;have R:=n_ 0 (h _ c).v.r;have e4:=aJ _ _ R;have b0:Hid ((a.g.getD 0 Db).N.length=e):=F _ w_;have m:=x3_ F Z p;have N:=Y a1;clear k F Z p a1 o;refine v_ ?_;go_upto_region 1 with fail;rw[<- v];clear v;refine rg_ _ 28 λhHeld=>?_;refine K_ ?_;refine oc_ 3 (Mq s _ _ _ _ _ _ _ (h _ c.drew).v c3) ?_
 rintro B f3 ⟨rfl,j⟩;rw[b0];replace j:=bt_ y_.drew j;refine⟨_,rfl,j,λhHeld=>?_⟩
 by_cases G:g<e
 case neg=>
  have c2:(e:Int)<=g:=O;refine K_ ?_;refine le_ ?_;go_wp2;go_ret;exact⟨by simp[Ff,G],bt_ c j⟩
 have c2:¬(e:Int)<=g:=O
 by_cases q:b<a.h.length
 case neg=>
  have T:(a.h.length:Int)<=b:=O;refine K_ ?_;refine le_ ?_;go_wp2;go_ret;exact⟨by simp[Ff,q],bt_ c j⟩
 have T:¬(a.h.length:Int)<=b:=O;have e3:=aE T;have⟨d0,e8,b2,b6,b3,b7,c8,e5,b8,b9,c0,c1,_,_⟩:=(h a7 c).q.at q;obtain rfl:d4=d0:=w_;have w:=N _ q;have⟨U,X⟩:=(h f y_).v.v.j _ w.h;have u:a.g.getD (Da a b) Db∈a.g:=(by rw[Qc,Qd w.h];grind);have⟨L,e2,A,a2,c7,e6,W⟩:=Zol ((m.1 _ u) ▸ c6) (m.2.1 _ u) X;have⟨D,E,a3⟩:=U.shape;have P:=Y (λd l=>ZbK _ _ _ _ _ _ _ _ _ _ a d (h d l) w c4);rw[a3,a2] at P;have a9:=Y (λd l=>W d l _ ((m.1 _ u) ▸ G));have p:=m.2.2 (a.h.getD _ Ai) (by rw[Qc,Qd q];grind);have b1:=Y (λd=>Vc _ b2 b3 _ b6 _ b7 (a.h.getD b Ai).d r d rfl rfl (aG p C))
 have l:Hid (Ff a e ⟨g,b,r⟩=Zgw a ⟨g,b,r⟩):=(by show _=_;simp[Ff,G,q]);unfold Zgw at l;clear w U X u a2 W a3 h N m p c8;generalize Vv (a.h.getD b Ai).e (a.h.getD b Ai).d (r:Nat)=d2 at *;generalize (a.h.getD b Ai).e.g.length=e9,(a.h.getD b Ai).e.c.length=f1,(a.h.getD b Ai).e.a=f7,(a.h.getD b Ai).d=e1,(Wa (a.g.getD (Da a b) Db).N (a.g.getD (Da a b) Db).g).getD g 0=a8,Ll a (Da a b) (Iq a b)=d3,(An (a.g.getD (Da a b) Db).fs).length=H,a.h.length=f0 at *;refine K_ ?_;refine oc_ 26 (b1 _) ?_;rintro B f4 ⟨rfl,d⟩;replace d:=bt_ j d;refine⟨_,rfl,d,λhHeld=>K_ ?_⟩;refine le_ ?_
 cases d2
 ·go_wp2;go_ret;exact⟨by rw[l];rfl,bt_ c d⟩
 have f2:=X_ a6 d;go_wp2_with fail
 apply (P _ (bt_ c d)).m;rintro B M ⟨rfl,b4⟩;go_upto_region 4 with fail;have z:E_ a7 (M.alloc (O_ #[V D H E,.iface L (P_ A)] 163)):=bt_ (bt_ d b4) q_;have c9:=n_ 1 (ha_ M (O_ #[V D H E,.iface L (P_ A)] 163));have d6:=X_ a5 z;generalize M.alloc (O_ #[V D H E,.iface L (P_ A)] 163)=f5 at *
 rcases c7 with⟨rfl,rfl⟩|⟨rfl,rfl⟩
 all_goals
  go_wp2_with fail
  apply (a9 _ (bt_ c z)).m;rintro B f6 ⟨rfl,n⟩;have n:=bt_ (bt_ c z) n;clear d6 c9 a5 a6 d5 b8 b9 c0 c1 R
  by_cases a4:0<a8
  ·by_cases a0:a8<d3
   ·go_wp2;go_ret;exact⟨by rw[l];simp[a4,a0],n⟩
   go_wp2;go_ret;exact⟨by rw[l];simp[a0],n⟩
  go_wp2;go_ret;exact⟨by rw[l];simp[a4],n⟩
end Go.Proofs.YtfcgnpchbcmdeaaGreat
namespace Go.Proofs.YtfcgnpchbcmdeaaGreat
set_option linter.all false
set_option maxRecDepth 100000
set_option maxHeartbeats 16000000
open Go.RowKit Go.Lib Go.Sort List Nat World Go.Proofs.Tryz Value IntKind Lib Region
def rdX(a:List Int):XS:=⟨(a.getD 0 0).toNat,(a.getD 1 0).toNat,(a.getD 2 0).toNat⟩
def Uu(b:Ga)(e:Nat)(d:List Int):Nat->Option (List XS×List Int)
 |0=>some ([],d)
 | f+1=>match Uu b e d f with
  |none=>none
  |some (c,a)=>if(Ig c (rdX a)&&Ff b e (rdX a))=true then some (c++[rdX a],a.drop 3) else none
def ZiG(a:Ga)(c:Nat)(b:List Int){k m:Nat}(f:Uu a c b k=none)(g:k<=m):Uu a c b m=none:=by
 induction m with
 |zero=>grind
 | succ m d=>
  by_cases e:k=m+1
  ·grind
  simp only[Uu,d O]
def ZiF{b:Ga}{d:Nat}{f:List Int}{e c a}(g:Uu b d f e=some (c,a)):Uu b d f (e+1)=if(Ig c (rdX a)&&Ff b d (rdX a))=true then some (c++[rdX a],a.drop 3) else none:=by simp only[Uu,g]
def ZnH{a:List Int}(b:∀x∈a,0<=x/\x<=255):a.headD 0=((rdX a).row:Int)/\a.tail.headD 0=((rdX a).f:Int)/\a.tail.tail.headD 0=((rdX a).i:Int)/\a.tail.tail.tail=a.drop 3:=by rcases a with _|⟨x,_|⟨c,_|⟨d,a⟩⟩⟩<;>simp_all [rdX]<;>omega
def qi{a:List XS}{x:XS}(e:Eh a)(c:Ig a x=true):Eh (a++[x]):=by
 refine pairwise_append.2 ⟨e,s_,λm f b g=>?_⟩;simp only[mem_cons,not_mem_nil,or_false] at g;subst g;have l:=length_pos_of_mem f;unfold Ig at c;rw[aE O,Bool.false_or,decide_eq_true_eq] at c
 have j:(a.getD (a.length-1) Di).row<b.row∨(a.getD (a.length-1) Di).row=b.row/\(a.getD (a.length-1) Di).f<b.f:=by
  have:ltOf Mn (a.getD (a.length-1) Di) b=true:=by unfold ltOf;simpa using c
  rw[(ltX (a.getD (a.length-1) Di) b)] at this
  simpa using this
 obtain⟨h,i,rfl⟩:=aM f
 rcases Nat.lt_or_ge h (a.length-1) with d|d
 ·have k:=pairwise_iff_getElem.1 e h (a.length-1) i O d
  grind
 grind
structure yq(d:Nat)(b wr:World)(e f:Nat)(l:List Int)(n m g:Value)(k j:List (Value×Value))(h:List KS)(i:List BS)(c:List XS):Prop where
 o:Us d wr e n m g k j c ⟨h,i,c⟩
 u:Ci wr f l
 t:Aa (λa=>a=f∨a=e) b wr
 B:∀a,g.ownBlock=some a->b.1.size<=a
 p:d<=b.1.size
section
variable {d:Nat} {w wr w2:World} {db b:Nat} {l e:List Int} {c vB vX:Value} {kvs bvs:List (Value×Value)} {Ks:List KS} {bs:List BS} {a:List XS}
def Us.zero{e:Nat}{d:Ga}(b:Us e wr db c vB vX kvs bvs a d):Om wr db c vB vX kvs bvs a d:=⟨b.v.m r_,b.q.m r_,b.n,b.l⟩
def Us.g{k:Nat->Prop}{e:Nat}{j:Ga}(b:Us d wr db c vB vX kvs bvs a j)(g:Aa k wr w2)(f:cr k wr e)(m:168≠e)(n:403≠e)(o:396≠e)(p:405≠e)(q:5≠e)(r:163≠e)(s:184≠e)(t:172≠e)(u:9≠e)(l:3≠e):Us d w2 db c vB vX kvs bvs a j:=
 ⟨⟨g.g b.v.r (f.at b.v.r m),Ok.g b.v.v g f n o p q (f.row b.v.v.row r) (λi h=>f.row (b.v.v.j i h).1 l),g.row b.v.j (f.row b.v.j s)⟩,b.q.g g f t u (λi h=>f.row (b.q.j i h).1 l),b.n,b.l,b.o,b.x,b.p⟩
def yq.step(f:yq d w wr db b l c vB vX kvs bvs Ks bs a)(j:Ci w2 b e)(h:Aa (λg=>g=b) wr w2):yq d w w2 db b e c vB vX kvs bvs Ks bs a:=by have⟨S,k,_⟩:=f.u.q;exact⟨f.o.g h (cr.x k) C C C C C C C C C C,j,f.t.T (h.m (λg _ i=>.inl i)),f.B,f.p⟩
def yq.below(e:yq d w wr db b l c vB vX kvs bvs Ks bs a)(f:E_ wr w2):yq d w w2 db b l c vB vX kvs bvs Ks bs a:=e.step (e.u.below f) (.a f)
def yq.next(f:yq d w wr db b l c vB vX kvs bvs Ks bs a):C_ 165 #[P_ b] wr λg h=>g=.returned (.int .i64 (l.headD 0))/\K (yq d w h db b l.tail c vB vX kvs bvs Ks bs a):=(Dz b l wr f.u).m λ_ _ e=>⟨e.1,f.step e.2.1 e.2.2⟩
def yq.q(e:yq d w wr db b l c vB vX kvs bvs Ks bs a):wr.cell? (J db 2)=some vX:=G_ 2 _ 168 (0,0) e.o.v.r
def yq.E{h:World}{g:Value}{x:XS}(e:yq d w wr db b l c vB vX kvs bvs Ks bs a)(v:Ig a x=true)(n:wr.grownBy h vX.ownBlock)(y:h.ownsRow 0 184 3 g (a.length+1) (Jr a++Ct x))(u:g.ownBlock=vX.ownBlock∨g.ownBlock=some wr.1.size):yq d w (h.setCell ⟨db,2,none⟩ g) db b l c vB g kvs bvs Ks bs (a++[x]):=by
 have k:=(Aa.refl _ wr).grown n (λf hk _=>hk);have i:=cr.q e.o.v.j;have⟨t,j,z,A⟩:=e.u.q;have s:Aa (λf=>f=db) h (h.setCell ⟨db,2,none⟩ g):=(Aa.refl (λf=>f=db) h).setCell (p:=J db 2) (λ_=>rfl) _;have p:=cr.x (k.g e.o.v.r (i.at e.o.v.r C));have r:=e.o.q.g k i C C (λo m=>i.row (e.o.q.j o m).1 C)
 have q:∀f,g.ownBlock=some f->w.1.size<=f:=λf hk=>by
  rcases u with m|m
  rw[m] at hk;exact e.B f hk;rw[m] at hk;injection hk with hk;have:=e.t.size;omega
 refine⟨⟨e.o.v.E n (Ni.E y),r.g s p C C (λo m=>p.row (r.j o m).1 C),List.Perm.refl _,qi e.o.l v,e.o.o,e.o.x,λf hk=>aG e.p (q f hk)⟩,⟨t,s.g (k.g j (i.at j C)) (p.at (k.g j (i.at j C)) C),z,A⟩,(e.t.grown n (λf hk m=>absurd (e.B f hk) O)).setCell (p:=J db 2) (λ_=>.inr rfl) _,q,e.p⟩
end
def ExE(i:Nat)(e f:World)(a d:Nat)(p o:Value)(l k:List (Value×Value))(g:List KS)(j:List BS)(m:Option (List XS×List Int))(b:Ending):Prop:=match m with
 |none=>b=.returned (.bool false)/\Aa (λc=>c=d∨c=a) e f
 |some (h,n)=>b=.returned (.bool true)/\∃q,yq i e f a d n p o q l k g j h
def Vy(s i p g:Nat)(n:List Int)(F E:Value)(D B:List (Value×Value))(e:List KS)(d:List BS)(h:World)(u:Ci h p n)(a4:Us s h i F E (N_) D B [] ⟨e,d,[]⟩)(b9:s<=h.1.size)(a0:0<d.length)(a2:d.length<=1000)(a7:g<=200)(Z:∀P∈d,P.N.length=g)(a5:∀P∈d,P.g<64)(a3:∀K∈e,K.e.b<=16)(a6:0<e.length)(a8:∀t,t<e.length->Vi ⟨e,d,[]⟩ t (Da ⟨e,d,[]⟩ t) (Iq ⟨e,d,[]⟩ t)):Calls prog 168 #[P_ i,P_ p] h λj x=>ExE s h x i p F E D B e d (Uu ⟨e,d,[]⟩ g (n.drop 2) (Kx n 2)) j:=by
 have c8:=wm u.a 2;have a:Hid (yq s h h i p n F E (N_) D B e d []):=⟨a4,u,Aa.refl _ _,by simp[ownBlock],b9⟩;have S:=nc p 2 n h u O;have T:Hid (∀z m q f (b:XS),yq s h z i p m F E q D B e d f->C_ 235 #[P_ i,.agg #[I b.row,I b.f,I b.i]] z (U_ (.bool (Ff ⟨e,d,[]⟩ g b)) z)):=λz m q f b b7=>qh i g _ _ _ _ _ f ⟨e,d,f⟩ b z b7.o.zero a0 a2 a7 Z a5 a3 a6 (λt c=>by have:=a8 t c;exact⟨this.h,this.j,this.g,this.i,this.A,this.n,this.q⟩);generalize (⟨e,d,[]⟩:Ga)=r at *;clear u a4 a0 a2 a7 Z a5 a3 a6 a8;generalize Kx n 2=o,n.drop 2=w at *;refine v_ ?_;go_wp2_with fail
 apply S.m;rintro j w2 ⟨rfl,a9,b0⟩;replace a:=Y (a.step a9 b0);clear a9 b0 S;go_wp2_with fail
 go_loopw [8] (λc k=>∃(l:Nat) (f:List XS) (m:List Int) (q:Value),c=.int .i64 l/\l<=o/\f.length<=l/\Hid (Uu r g w l=some (f,m))/\Hid (yq s h k i p m F E q D B e d f)) (λc _=>o-(intOf c).toNat)
 case atStart=>exact⟨0,[],w,_,rfl,r_,x_,rfl,a⟩
 clear a;obtain⟨l,f,m,q,rfl,c7,c9,K,a⟩:=hrel
 by_cases b8:l<o
 case neg=>
  obtain rfl:l=o:=O;go_wp2;go_ret;show ExE _ _ _ _ _ _ _ _ _ _ _ (Uu r g w l) _;rw[K];exact⟨rfl,q,a⟩
 have⟨y,L,M⟩:=y3_ (ZnH a.u.a) (ZiF K) (λu=>ZiG r g w (k:=l+1) (m:=o) u b8);clear K;generalize rdX m=b,m.drop 3=d2 at *;have k:=a.next;rw[y.1] at k;go_wp2_with fail
 apply k.m;rintro j d4 ⟨rfl,a⟩;have k:=a.next;rw[y.2.1] at k;go_wp2_with fail
 apply k.m;rintro j d5 ⟨rfl,a⟩;have k:=a.next;rw[y.2.2.1,y.2.2.2] at k;go_wp2_with fail
 apply k.m;rintro j G ⟨rfl,a⟩;clear y k;go_upto_region 4 with fail;have c:=ha_ G (O_ #[I b.row,I b.f,I b.i] 184);have b4:Hid (q.ownBlock≠some G.1.size):=λj=>Nat.lt_irrefl _ (B_ a.o.v.j _ j).2;replace a:=Y (a.below (w2:=G.alloc (O_ #[I b.row,I b.f,I b.i] 184)) q_);generalize G.alloc (O_ #[I b.row,I b.f,I b.i] 184)=b2,G.1.size=U at *;have a1:=(Qb c).1;have c2:=n_ 0 c;have c3:=n_ 1 c;have c4:=n_ 2 c;replace c:=Y c;go_wp2_with fail
 apply (qj i _ _ _ _ _ f b b2 (a.o.v.m r_) O).m;rintro j c5 ⟨rfl,H⟩;replace a:=Y (a.below H);have c1:=kb_ H
 cases v:Ig f b
 ·have x:=M (by rw[L,v];rfl);go_wp2;go_ret;show ExE _ _ _ _ _ _ _ _ _ _ _ (Uu r g w o) _;rw[x];exact⟨rfl,a.t⟩
 go_wp2_with fail
 apply (T c5 _ _ f b a).m;rintro j b3 ⟨rfl,A⟩;replace a:=Y (a.below A);replace A:=bt_ H A
 cases Q:Ff r g b
 ·have x:=M (by rw[L,v,Q];rfl);go_wp2;go_ret;show ExE _ _ _ _ _ _ _ _ _ _ _ (Uu r g w o) _;rw[x];exact⟨rfl,a.t⟩
 rw[v,Q] at L;replace v:=Y v;replace c:=Y ((A.block U a1).T c);clear H c1 A c2 c3 c4 Q M T a1;obtain⟨b5,b6,rfl⟩:=a.o.v.j.shape;have W:=a.q;go_upto_region 6 with fail;refine Af (λx=>x.cell? _=some _/\x.cell? _=some _/\x.cell? _=some _/\x.cell? _=some _) 10 k_ ⟨W,n_ 0 c,n_ 1 c,n_ 2 c⟩ (λhHeld=>?_);refine K_ ?_;refine on_ 6 λKK hK=>?_;go_simp;refine hK _ _ ⟨X_ W,X_ (n_ 0 c),X_ (n_ 1 c),X_ (n_ 2 c)⟩ (λhHeld=>?_);clear hK KK;try simp only[Act.put,tA_,tB_,tC_]
 refine on_ 7 λKK hK=>?_;replace a:=Y (a.below (w2:=(b3.alloc (O_ #[I b.row,I b.f,I b.i] 184)).drew) q_.drew);replace c:=Y ((q_.drew.block (w':=(b3.alloc (O_ #[I b.row,I b.f,I b.i] 184)).drew) _ (Qb c).1).T c);refine aq_ [I b.row,I b.f,I b.i] a.o.v.j ?_;rintro d3 b2 ⟨b1,x,X,_,d1,d0,rfl⟩;have c6:=Y (a.E v x b1 (X.imp id And.left));have R:=((Aa.refl (λN=>(slice b5 f.length b6).ownBlock=some N) _).grown x (λN c0 _=>c0)).g a.o.v.r ((cr.q a.o.v.j).at a.o.v.r C);have c0:=R_ 2 _ 168 R;have N:=(x.block U (Qb c).1 b4.s).T c;refine hK _ _ ⟨(n_ 2 R),n_ 0 N,n_ 1 N,n_ 2 N⟩ (λhHeld=>?_);clear hK KK b1 x X a c;refine K_ ?_;refine le_ ?_;go_wp2;go_roundw;case rel=>grind
 case measure=>exact z_
def Rp(b:List Int):Prop:=∀a∈b,0<=a/\a<=255
section
variable {l:List Int}
def Rp.tail(a:Rp l):Rp l.tail:=λc b=>a c (mem_of_mem_tail b)
theorem Rp.drop(a:Rp l)(c:Nat):Rp (l.drop c):=λd b=>a d (mem_of_mem_drop b)
theorem Rp.restW(b:Rp l):∀a,Rp (restW l a)
 |0=>b
 |a+1=>((Rp.restW b a).tail).drop _
theorem Rp.rdR(a:Rp l):Rp (rdR l):=by grind [Go.Proofs.YtfcgnpchbcmdeaaGreat.rdR,restW,drop]
def Rp.lstR(a:Rp l):Rp (lstR l):=a.tail.drop _
theorem Rp.rdColR(a:Rp l)(c b:Nat):Rp (rdColR l c b):=by unfold Go.Proofs.YtfcgnpchbcmdeaaGreat.rdColR;split;exact a.tail.tail.drop _;exact a.tail.drop _
theorem Rp.lstK(b:Rp l):∀a∈lstK l,0<=a:=λa c=>by obtain⟨d,_,rfl⟩:=mem_map.1 c;exact(Il b.tail d).1
end
structure KOk(K:KS):Prop where
 q:Wf K
 g:K.e.b<=16
 b:Zy K.e=true
 a:K.d<K.e.b+2
def pd{c:List ByteArray}(a:Df c=true):∀b∈c,b.size<=8:=λb e=>by
 unfold Df Ij at a;rw[all_eq_true] at a;obtain⟨f,d,rfl⟩:=aM e;have g:=a f (mem_range.2 d)
 grind [Ei]
theorem ZoD{a:List Int}(g:Rp a)(b:(Zy (Yd a)&&Og (Yd a) (rdD a:Nat))=true):KOk ⟨Yd a,rdD a⟩:=by
 rw[Bool.and_eq_true] at b;have h:=b.1;have e:=b.2;have d:(Yd a).b<=16/\Df (Yd a).c=true:=(by grind [Zy]);have j:=Il g 2;refine⟨?_,d.1,h,?_⟩;unfold Wf;simp only;have c:=pd d.2;unfold Yd at c ⊢;split;rename_i f;rw[aD f] at c;exact .inr ⟨rfl,rfl,by rw[cg];omega,c⟩;refine .inl ⟨rfl,rfl,by rw[ae];omega,λk f=>?_⟩;obtain⟨i,_,rfl⟩:=mem_map.1 f;have:=ya ((a.drop 3).drop (4*i));omega;unfold Og at e
 grind
def vv{g:List Int}(k:Rp g):∀(c:Nat) (b:List KS) (d:List Int),Wb g c=some (b,d)->b.length=c/\(∀K∈b,KOk K)/\Rp d
 |0,b,d,a=>by grind [Wb]
 | c + 1,b,d,a=>by
  cases f:Wb g c with
  |none=>simp only[Wb,f] at a;cases a
  | some m=>
   obtain⟨h,e⟩:=m;have⟨i,n,j⟩:=vv k c h e f;simp only[Wb,f] at a
   by_cases l:(Zy (Yd e)&&Og (Yd e) (rdD e:Nat))=true
   ·rw[aD l] at a;simp only[Option.some.injEq,Prod.mk.injEq] at a;rw[<- a.1,<- a.2];refine⟨by simp[i],λK hK=>?_,j.rdR⟩
    grind [ZoD]
   grind
def jz(a:List Int)(b c:Nat)(d:Int)(e:b<a.length):(a.set b d).getD c 0=if b=c then d else a.getD c 0:=w_
def tm{a d:List Int}(f:∀e∈a,0<=e/\e<d.length)(c:Nat):∀b,b<=a.length->(Ju a d b).getD c 0=d.getD c 0+(((a.take b).map Int.toNat).count c:Nat)
 |0,_=>by simp[Ju]
 | b+1,k=>by
  have h:b<a.length:=O;have i:a.getD b 0∈a:=w_;have j:=f _ i;have l:=tm f c b O;have g:a.take (b+1)=a.take b++[a.getD b 0]:=(by rw[Qi h];grind);simp only[Ju];rw[jz _ _ _ _ (by rw[be];omega),g,map_append,count_append]
  grind
def Pm(a:List KS)(b:List Int):Cz a b=Bj a (b.map Int.toNat):=by unfold Cz Bj;rw[map_map];rfl
structure ZkQ(b:List KS)(d:Nat)(a:BS):Prop where
 len:a.N.length=d
 le:∀e∈a.N,e<=255
 i:a.g<=40
 o:0<a.fs.length
 n:∀c∈a.fs,c<b.length
 sum:a.g=Bj b a.fs
 h:Dt b (An a.fs) (Wa a.N a.g)=true
def ix{a:List KS}{f:Nat}{r:List Int}(A:Rp r):∀(j:Nat) (d:List BS) (k o:List Int),Yr a f r j=some (d,k,o)->d.length=j/\k.length=a.length/\(∀p∈d,ZkQ a f p)/\(∀g,k.getD g 0=((d.flatMap (·.fs)).count g:Nat))/\Rp o
 |0,d,k,o,b=>by grind [Yr]
 | j + 1,d,k,o,b=>by
  cases q:Yr a f r j with
  |none=>simp only[Yr,q] at b;cases b
  | some F=>
   obtain⟨w,G,c⟩:=F;have⟨x,s,y,z,l⟩:=ix A j w G c q;simp only[Yr,q] at b
   by_cases n:(Ul a (lstK c)&&Dt a (lstK c) (Wa (Ip (lstR c) f (Cz a (lstK c))) (Cz a (lstK c))))=true
   ·rw[aD n] at b;simp only[Option.some.injEq,Prod.mk.injEq] at b;rw[<- b.1,<- b.2.1,<- b.2.2];rw[Bool.and_eq_true] at n;have i:=n.1;unfold Ul at i;simp only[Bool.and_eq_true,decide_eq_true_eq,all_eq_true] at i;have u:=l.lstK;have D:∀e∈_,_/\_:=λe h=>⟨u e h,i.1 e h⟩;have t:Cz a (lstK c)<64:=O;refine⟨by simp[x],by rw[be];exact s,λp B=>?_,λg=>?_,l.lstR.rdColR _ _⟩
    ·rcases mem_append.1 B with m|m
     exact y p m;simp only[mem_cons,not_mem_nil,or_false] at m;subst m;refine⟨av l.lstR f t,λL v=>?_,i.2.2,by simpa using i.2.1,λe h=>?_,Pm _ _,by simp only;rw[Zfd u];exact n.2⟩;unfold Ip at v;obtain⟨H,E,rfl⟩:=mem_map.1 v;have:=(Ty l.lstR f t).2 H E;omega
     grind
    rw[tm (λe h=>s ▸ (D e h)) g _ x_,z g,flatMap_append,count_append,take_length];simp
   grind
def dg:∀(a:List BS),(∀b∈a,0<b.fs.length)->a.length<=(a.flatMap (·.fs)).length/\∀b∈a,b.fs.length<=(a.flatMap (·.fs)).length
 |[],_=>s_
 | b::a,c=>by
  have⟨f,g⟩:=dg a (λe d=>c e (by simp[d]))
  grind
structure Zod(a:List KS)(c:List BS):Prop where
 all:∀d,d<a.length->∃b∈c,d∈b.fs
 l:c.length<=a.length
 f4:∀b∈c,b.fs.length<=a.length
def ZbL{c:List KS}{a:List BS}{e:List Int}(q:e.length=c.length)(l:∀d∈a,0<d.fs.length)(p:∀d∈a,∀b∈d.fs,b<c.length)(r:∀f,e.getD f 0=((a.flatMap (·.fs)).count f:Nat))(g:Dj e=true):Zod c a:=by
 unfold Dj at g;simp only[all_eq_true,decide_eq_true_eq] at g
 have o:∀b,b<c.length->(a.flatMap (·.fs)).count b=1:=λb h=>by grind [Qf]
 have i:(a.flatMap (·.fs)).Perm (range c.length):=w_;have m:=i.length_eq;rw[length_range] at m;have⟨n,j⟩:=dg a l;refine⟨λb h=>?_,O,λd k=>p_ (j d k)⟩;have:b∈a.flatMap (·.fs):=i.mem_iff.2 (mem_range.2 h)
 grind
structure Zoe(c:Ga)(d:Nat)(b:List XS):Prop where
 j:∀a∈b,Ff c d a=true
 len:∀a∈b.getLast?,b.length<=a.row*4+a.f+1
def Mf{a:Ga}{b:Nat}{x:XS}(c:Ff a b x=true):x.row<b/\x.f<a.h.length/\x.i<(a.h.getD x.f Ai).e.b+2:=by grind [Ff,Zgw,Vv,Og]
def ZiH{D:Ga}{g:Nat}{n:List Int}(t:D.h.length<=4):∀(c:Nat) (d:List XS) (h:List Int),Uu D g n c=some (d,h)->d.length=c/\h=n.drop (3*c)/\Zoe D g d
 |0,d,h,b=>by simp only[Uu,Option.some.injEq,Prod.mk.injEq] at b;rw[<- b.1,<- b.2];exact⟨rfl,s_,s_,s_⟩
 | c + 1,d,h,b=>by
  cases m:Uu D g n c with
  |none=>simp only[Uu,m] at b;cases b
  | some u=>
   obtain⟨a,i⟩:=u;have⟨r,s,j⟩:=ZiH t c a i m;simp only[Uu,m] at b
   by_cases k:(Ig a (rdX i)&&Ff D g (rdX i))=true
   ·rw[aD k] at b;simp only[Option.some.injEq,Prod.mk.injEq] at b;rw[<- b.1,<- b.2];rw[Bool.and_eq_true] at k;generalize rdX i=e at *;refine⟨by simp[r],by rw[s,drop_drop];congr 1,λp f=>?_,λp f=>?_⟩
    ·rcases mem_append.1 f with l|l
     exact j.j p l
     grind
    simp only[getLast?_append,getLast?_singleton,Option.some_or,Option.mem_def,Option.some.injEq] at f;subst f;rw[Qe,length_singleton]
    by_cases q:a.length=0
    omega;have l:=k.1;unfold Ig at l;rw[aE q,Bool.false_or,decide_eq_true_eq] at l
    have x:(a.getD (a.length-1) Di).row<e.row∨(a.getD (a.length-1) Di).row=e.row/\(a.getD (a.length-1) Di).f<e.f:=by
     have o:ltOf Mn (a.getD (a.length-1) Di) e=true:=by unfold ltOf;simpa using l
     rw[(ltX (a.getD (a.length-1) Di) e)] at o
     simpa using o
    have o:a.getLast? =some (a.getD (a.length-1) Di):=w_;have v:=j.len _ o;have w:=Mf (j.j _ (mem_of_getLast? o));omega
   grind
end Go.Proofs.YtfcgnpchbcmdeaaGreat
namespace Go.Proofs.YtfcgnpchbcmdeaaGreat
set_option linter.all false
set_option maxRecDepth 100000
set_option maxHeartbeats 16000000
open Go.RowKit List Nat World Go.Proofs.Tryz Value IntKind Lib Region
def Lq(a:List Int):Option (Ga×List Int):=
 if 200<(a.getD 2 0).toNat∨(a.getD 3 0).toNat<1∨4<(a.getD 3 0).toNat then none
 else match Wb (a.drop 4) (a.getD 3 0).toNat with
 |none=>none
 | some (b,d)=>match Yr b (a.getD 2 0).toNat d.tail (d.headD 0).toNat with
  |none=>none
  | some (c,h,e)=>if Dj h=true then match Uu ⟨b,c,[]⟩ (a.getD 2 0).toNat (e.drop 2) (Kx e 2) with
    |none=>none
    |some (f,g)=>some (⟨b,c,f⟩,g)
   else none
def Zck(c d:World)(b g:Nat)(j:Option (Ga×List Int))(f:Ending):Prop:=match j with
 |none=>f=.returned (.bool false)/\Aa (λa=>a=g∨a=b) c d
 |some (e,_)=>f=.returned (.bool true)/\(∃l k m i h,Us c.1.size d b l k m i h e.q e)/\Aa (λa=>a=g∨a=b) c d
def Aa.j{h c w2:World}{f b:Nat}(d:Aa (λa=>a=b) h c)(e:Aa (λa=>a=b∨a=f) c w2):=(d.m (λ_ _ g=>.inl g)).T e
def Zcz{p:Prop}(h:p:=by
 have l:K (f=none):=w_;clear E;go_wp2;go_ret;show Zck _ _ _ _ f _;rw[l.out]
 exact⟨rfl,s.out.m (λ_ _ h=>.inl h)⟩):p:=h
def ZfX(m c:Nat)(b:List Int)(e:World)(X:Ci e c b)(c0:H_ e m #[N_,N_,N_] 168)(c1:m≠c):Calls prog 99 #[P_ m,P_ c] e λh d=>Zck e d m c (Lq b) h:=by
 have i:=X.a;have d1:Hid (Rp b):=i;have e0:=Il i 2;have e1:=Il i 3;have b6:Hid (Calls prog 164 #[P_ c,I 2] e λh d=>(∃U,h=.returned (.string U)/\Ab U=b.take 2)/\Ci d c (b.drop 2)/\Aa (λa=>a=c) e d):=dz c 2 b e X;have R:Hid (∀(t:World) (b:List Int),Ci t c b->Calls prog 165 #[P_ c] t λh d=>h=.returned (.int .i64 (b.headD 0))/\Ci d c b.tail/\Aa (λa=>a=c) t d):=λt b d8=>Dz c b t d8;obtain⟨j,a4⟩:∃j:Nat,b.getD 2 0=(j:Int):=⟨(b.getD 2 0).toNat,O⟩;obtain⟨g,Z⟩:∃g:Nat,b.getD 3 0=(g:Int):=⟨(b.getD 3 0).toNat,O⟩
 have D:Hid ((b.drop 2).headD 0=(j:Int)/\(b.drop 2).tail=b.drop 3/\(b.drop 3).headD 0=(g:Int)/\(b.drop 3).tail=b.drop 4):=⟨by rw[Fr];exact a4,Ih _ _,by rw[Fr];exact Z,Ih _ _⟩
 have E:Hid (Lq b=if 200<j∨g<1∨4<g then none else match Wb (b.drop 4) g with
  |none=>none
  | some (d,r)=>match Yr d j r.tail (r.headD 0).toNat with
   |none=>none
   | some (n,B,p)=>if Dj B=true then match Uu ⟨d,n,[]⟩ j (p.drop 2) (Kx p 2) with
     |none=>none
     |some (u,x)=>some (⟨d,n,u⟩,x)
    else none):=by show _=_;unfold Lq;rw[a4,Z,Int.toNat_natCast,Int.toNat_natCast]
 have d2:Hid (∀t,Aa (λa=>a=c) e t->H_ t m #[N_,N_,N_] 168):=λt d9=>d9.g c0 c1;have e2:g<=255:=O;have e6:j<=255:=O;clear X c0 i e0 e1 a4 Z c1;generalize Lq b=f at *;refine dl_ ?_;go_enter func99,ntmps99;go_wp2_with fail
 apply b6.out.m;rintro h c9 ⟨⟨U,rfl,_⟩,c2,c5⟩;have b4:Hid (Aa (λa=>a=c) e c9):=c5;have v:=R.out c9 _ c2;rw[D.out.1,D.out.2.1] at v;clear c2 c5 b6;go_wp2_with fail
 apply v.m;clear v;rintro h d0 ⟨rfl,c3,c6⟩;have b5:Hid (Aa (λa=>a=c) e d0):=b4.out.T c6;have v:=R.out d0 _ c3;rw[D.out.2.2.1,D.out.2.2.2] at v;clear c3 c6 b4;go_wp2_with fail
 apply v.m;clear v;rintro h Q ⟨rfl,c4,c7⟩;have s:Hid (Aa (λa=>a=c) e Q):=b5.out.T c7;have b3:Hid (Ci Q c (b.drop 4)):=c4;clear c4 c7 b5 D R
 by_cases e3:200<j
 have d5:(200:Int)<(j:Int):=O;exact Zcz;have d5:¬(200:Int)<(j:Int):=O
 by_cases e4:g<1
 have d6:(g:Int)<(1:Int):=O;exact Zcz;have d6:¬(g:Int)<(1:Int):=O
 by_cases e5:4<g
 have d7:(4:Int)<(g:Int):=O;exact Zcz;have d7:¬(4:Int)<(g:Int):=O;have o:=ay m c g (b.drop 4) Q b3.out (d2.out Q s.out) O;go_wp2_with fail
 apply o.m;clear o;intro h a9 o
 cases F:Wb (b.drop 4) g with
 | none=>
  rw[F] at o;obtain⟨rfl,d⟩:=o;have l:Hid (f=none):=w_;have y:Hid (Aa (λa=>a=c∨a=m) e a9):=s.out.j d;clear E d F;go_wp2;go_ret;show Zck _ _ _ _ f _;rw[l.out];exact⟨rfl,y.out⟩
 |some H=>
 obtain⟨d,r⟩:=H;rw[F] at o;obtain⟨rfl,L,P,o⟩:=o;have⟨a2,a3,b9⟩:=vv (d1.out.drop 4) g d r F
 have S:Hid (f=match Yr d j r.tail (r.headD 0).toNat with
   |none=>none
   | some (n,B,p)=>if Dj B=true then match Uu ⟨d,n,[]⟩ j (p.drop 2) (Kx p 2) with
     |none=>none
     |some (u,x)=>some (⟨d,n,u⟩,x)
    else none):=w_
 have y:Hid (Aa (λa=>a=c∨a=m) e a9):=s.out.j o.t;have M:Hid ((∀K∈d,KOk K)/\Rp r/\d.length=g):=⟨a3,b9,a2⟩;have k:=fh e.1.size m c j r L P d a9 o.u o.r (o.q.m s.out.size) y.out.size O (λa l=>(a3 a l).g) O;have d4:Hid (∀a,L.ownBlock=some a->e.1.size<=a):=λa a0=>aG s.out.size (o.B a a0);clear E F o a2 a3 b9 b3 s;go_wp2_with fail
 apply k.m;clear k;intro h b0 k
 cases A:Yr d j r.tail (r.headD 0).toNat with
 | none=>
  rw[A] at k;obtain⟨rfl,n⟩:=k;have l:Hid (f=none):=w_;have z:Hid (Aa (λa=>a=c∨a=m) e b0):=y.out.T n;clear S n A;go_wp2;go_ret;show Zck _ _ _ _ f _;rw[l.out];exact⟨rfl,z.out⟩
 |some H=>
 obtain⟨n,B,p⟩:=H;rw[A] at k;obtain⟨rfl,a8,W,k⟩:=k;have⟨b8,a7,w,a6,b7⟩:=ix M.out.2.1.tail _ n B p A;have z:Hid (Aa (λa=>a=c∨a=m) e b0):=y.out.T k.t
 cases a5:Dj B with
 | false=>
  have l:Hid (f=none):=w_;clear S A k a6 b8 a7 w b7 a5;go_wp2;go_ret;show Zck _ _ _ _ f _;rw[l.out];exact⟨rfl,z.out⟩
 |true=>
 have G:=ZbL a7 (λl i=>(w l i).o) (λl i=>(w l i).n) a6 a5
 have b2 :Hid (f=match Uu ⟨d,n,[]⟩ j (p.drop 2) (Kx p 2) with
     |none=>none
     |some (u,x)=>some (⟨d,n,u⟩,x)):=w_
 have a2:=M.out.2.2;have a1:0<d.length:=O
 have q:=Vy e.1.size m c j p L a8 P W d n b0 k.u ⟨⟨k.r,k.v,rn_⟩,k.q,List.Perm.refl _,Pairwise.nil,d4.out,λa a0=>aG y.out.size (k.B a a0),by simp[ownBlock]⟩ z.out.size (by
   have⟨l,i,_⟩:=G.all 0 a1
   grind) (p_ G.l) O (λl i=>(w l i).len) (λl i=>p_ (w l i).i) (λu x=>(M.out.1 u x).g) a1
   (λx N=>Zfr (D:=⟨d,n,[]⟩) (G.all x N) (λl i=>p_ (G.f4 l i)) (λl i=>(w l i).n) (λu T=>by
    have:=(M.out.1 (d.getD u Ai) w_).g;show(d.getD u Ai).e.b+2<=100
    omega))
 clear S A k a6 b8 a7 w b7 a5 G a1;go_wp2_with fail
 apply q.m;clear q;intro h b1 q
 cases N:Uu ⟨d,n,[]⟩ j (p.drop 2) (Kx p 2) with
 | none=>
  rw[N] at q;obtain⟨rfl,u⟩:=q;have l:Hid (f=none):=w_;have T:Hid (Aa (λa=>a=c∨a=m) e b1):=z.out.T u;clear b2 u N;go_wp2;go_ret;show Zck _ _ _ _ f _;rw[l.out];exact⟨rfl,T.out⟩
 | some H=>
  obtain⟨u,x⟩:=H;rw[N] at q;obtain⟨rfl,c8,q⟩:=q;have l:Hid (f=some (⟨d,n,u⟩,x)):=w_;have T:Hid (Aa (λa=>a=c∨a=m) e b1):=z.out.T q.t;have d3:Hid (Us e.1.size b1 m L a8 c8 P W u ⟨d,n,u⟩):=q.o;clear b2 q N;go_wp2;go_ret;show Zck _ _ _ _ f _;rw[l.out];exact⟨rfl,⟨L,a8,c8,P,W,d3.out⟩,T.out⟩
structure zc(a:Ga)(b:Nat):Prop where
 w:b<=200
 v:0<a.h.length
 j:a.h.length<=4
 h:∀K∈a.h,KOk K
 g:∀c∈a.g,ZkQ a.h b c
 d:Zod a.h a.g
 e:Zoe ⟨a.h,a.g,[]⟩ b a.q
def Zby{a x:List Int}{k:Ga}(d:Rp a)(b:Lq a=some (k,x)):zc k (a.getD 2 0).toNat:=by
 unfold Lq at b
 by_cases s:200<(a.getD 2 0).toNat∨(a.getD 3 0).toNat<1∨4<(a.getD 3 0).toNat
 ·grind
 rw[aC s] at b
 cases n:Wb (a.drop 4) (a.getD 3 0).toNat with
 |none=>grind
 | some e=>
  obtain⟨c,i⟩:=e;simp only[n] at b;have⟨B,t,r⟩:=vv (d.drop 4) _ c i n
  cases l:Yr c (a.getD 2 0).toNat i.tail (i.headD 0).toNat with
  |none=>grind
  | some e=>
   obtain⟨g,p,j⟩:=e;simp only[l] at b;have⟨A,v,h,u,z⟩:=ix r.tail _ g p j l
   cases o:Dj p with
   |false=>grind
   | true=>
    simp only[o,if_true] at b
    cases m:Uu ⟨c,g,[]⟩ (a.getD 2 0).toNat (j.drop 2) (Kx j 2) with
    |none=>grind
    | some e=>
     obtain⟨q,y⟩:=e;simp only[m,Option.some.injEq,Prod.mk.injEq] at b;have⟨_,_,w⟩:=ZiH (D:=⟨c,g,[]⟩) (show c.length<=4 by omega) _ q y m;rw[<- b.1];exact⟨O,w_,w_,t,h,(ZbL v (λf d=>(h f d).o) (λf d=>(h f d).n) u o),w⟩
def zc.k{a:Ga}{c:Nat}(b:zc a c):0<a.g.length:=by
 have⟨d,e,_⟩:=b.d.all 0 b.v
 grind
def zc.r{b:Ga}{e:Nat}(a:zc b e):b.q.length<=800:=by
 cases c:b.q.getLast? with
 |none=>grind
 | some d=>
  have f:=a.e.len d c;have g:=Mf (a.e.j d (mem_of_getLast? c));have h:=a.w;have i:=a.j
  grind
def zc.x{d:Ga}{l:Nat}(c:zc d l):∀a∈d.g,yy a:=λa f=>by
 have b:=c.g a f;have n:=b.i;have o:=c.d.f4 a f;have i:=c.w;have p:=c.j;have r:a.N.length*Lib.bitLen a.g<=200*6:=Nat.mul_le_mul (b.len ▸ i) (Gc O);have t:=Lz a.N a.N.length;have s:=Dg (Cd a.N (Lib.bitLen a.g)) ((a.N.length*Lib.bitLen a.g+7)/8) (a.N.length*Lib.bitLen a.g);have q:=b.len;refine⟨O,λh j=>p_ (b.n h j),⟨O,λm k=>?_⟩,O,?_⟩
 ·have⟨e,g,_⟩:=(Ql _ _ m).1 k;refine⟨O,?_⟩;rw[g,Qc,Qd e];have:=b.le _ (Qf e)
  grind
 grind [Dm,Rv,Hr,Rm,Nz]
def ZmK{x a:ByteArray}(c:¬x=a):(x.toList==a.toList)=false:=by
 rw[beq_eq_false_iff_ne,toList_data,toList_data];intro b;apply c
 cases x;cases a
 simp at b;rw[b]
def opD(b:List Int):Option Ga:=match Lq b with
 |none=>none
 |some (a,_)=>if Cb a a.q=b then some a else none
def Lg.below{base:Nat}{e f:World}{c:Nat}{b:Ga}(a:Lg base e c b)(d:E_ e f):Lg base f c b:=by obtain⟨k,j,l,i,h,g,a⟩:=a;exact⟨k,j,l,i,h,g,a.v.below d,a.q.below d,a.n,a.l,a.o,a.x,a.p⟩
def OpE(a c:World)(f:Option Ga)(d:Ending):Prop:=match f with
 |none=>d=.returned (.tuple #[.pointer none,.bool false])/\E_ a c
 |some e=>∃b,d=.returned (.tuple #[.pointer (some ⟨b,0,none⟩),.bool true])/\Lg a.1.size c b e/\a.1.size<=b/\E_ a c
def Zjl(b:Int):∀a,Rp (Ay b a):=λa d c=>p_ (gx b a d c)
def Pp(b:Ga)(c:List XS):Rp (Cb b c):=λe d=>by
 unfold Cb at d
 rcases mem_append.1 d with a|a
 have:=hw b c e a;omega;exact Zjl _ _ e a
def Wt{a:List Int}(b:Rp a):Ab (strOfNums a)=a:=by
 unfold Ab strOfNums;simp only[map_map]
 conv=>rhs;rw[<- map_id a]
 refine map_congr_left λd c=>?_;have:=b d c;simp only[Function.comp,UInt8.toNat_ofNat',id];omega
def ZbR{b:List Int}{c:ByteArray}(d:Rp b):strOfNums b=c↔b=Ab c:=
 ⟨λa=>by rw[<- a,Wt d],λa=>by rw[a,Sz]⟩
def ZcS(b:ByteArray)(c:World)(a4:b.size<=140737488355328):C_ 59 #[Q_ b] c λv a=>OpE c a (opD (Ab b)) v:=by
 have⟨u,m⟩:=M_ c.1.size;have⟨j,n⟩:=M_ (c.alloc (O_ #[N_,N_,N_] 168));have⟨q,A⟩:=M_ (j.alloc (O_ #[Q_ b] 180));have⟨p,R⟩:=M_ j.1.size;have y:E_ c j:=n ▸ q_;have P:H_ j u #[N_,N_,N_] 168:=(by rw[n,m];exact hn_);have M:E_ j q:=A ▸ q_;have Q:Ci q p (Ab b):=⟨b,by rw[A,R];exact hn_,rfl,a4⟩;have a5:=(Qb P).1;have x:=y.T (M.m y.size);have i:=ZfX u p (Ab b) q Q ((M.block _ a5).T P) O;have G:K (∀t,Aa (λa=>a=p∨a=u) q t->E_ c t):=λt a8=>x.T (a8.b x.size (λg f=>p_ y.size));have h:=Y x.size
 have F:K (opD (Ab b)=match Lq (Ab b) with
  |none=>none
  |some (a,_)=>if Cb a a.q=Ab b then some a else none):=rfl
 have a0:K (∀a o,Lq (Ab b)=some (a,o)->zc a ((Ab b).getD 2 0).toNat):=λa o w=>Zby Q.a w;generalize opD (Ab b)=H at *;generalize Lq (Ab b)=a1 at *;rw[m] at i;have a6:p=c.1.size+1:=(by rw[R,n];simp);refine v_ ?_;go_wp2_with fail
 rw[<- n,<- A,<- a6];apply i.m;intro v r i
 cases a1 with
 | none=>
  obtain⟨rfl,z⟩:=i;have⟨k,d⟩:=Z_ F.out (G r (m ▸ z));go_wp2;go_ret2
  rw[k];exact⟨rfl,d⟩
 | some a7=>
  obtain⟨a,o⟩:=a7;obtain⟨rfl,⟨U,T,W,S,L,d⟩,z⟩:=i;have e:=a0 a o rfl;have B:=Y (G r (m ▸ z));have X:K (Lg c.1.size r c.1.size a):=⟨U,T,W,S,L,a.q,d.v.m h,d.q.m h,d.n,d.l,λg f=>aG h (d.o g f),λg f=>aG h (d.x g f),λg f=>aG h (d.p g f)⟩;have a3:=rx c.1.size U T W S L a.q a r d.zero e.k (λk l=>(e.h k l).q) e.j e.x (oj_ e.d.l e.j) (p_ e.r) (hw a a.q);have E:K (strOfNums (Cb a a.q)=b↔Cb a a.q=Ab b):=ZbR (Pp a a.q);have k:=Y F.out;generalize strOfNums (Cb a a.q)=a2 at *;go_wp2_with fail
  apply a3.m;rintro v b0 ⟨rfl,N⟩;have⟨D,Z⟩:=Z_ (B.T (N.m B.size)) (X.below N)
  by_cases l:a2=b
  ·have s:K (H=some a):=(by show _=_;rw[k,aD (E.1 l)]);subst l;go_wp2;go_ret2
   rw[s];exact⟨_,rfl,Z,x_,D⟩
  have s:K (H=none):=(by show _=_;rw[k,aC (λw=>l (E.2 w))]);have a9:=ZmK l;go_wp2;go_ret2
  rw[s];exact⟨rfl,D⟩
def OpG(a b:World)(g:Option Ga)(c:Ending):Prop:=match g with
 |none=>c=.returned (.tuple #[.pointer none,.int .i64 2])/\E_ a b
 |some e=>∃d f,c=.returned (.tuple #[.pointer (some ⟨d,0,none⟩),.int .i64 0])/\za a.1.size b d f e/\E_ a b
def Zgc(b:ByteArray)(e:World)(i:b.size<=140737488355328):C_ 33 #[Q_ b] e λf a=>OpG e a (opD (Ab b)) f:=by
 have c:=ZcS b e i;generalize opD (Ab b)=g at *;refine v_ ?_;go_wp2_with fail
 apply c.m;intro f l c
 cases g with
 | none=>
  obtain⟨rfl,d⟩:=c;go_wp2;go_ret2
  exact⟨rfl,d⟩
 | some m=>
  obtain⟨h,rfl,k,j,d⟩:=c;have a:=x3_ d k j;go_wp2;go_ret2
  exact⟨l.1.size,h,rfl,⟨hn_,a.2.1.below q_,a.1.size,a.2.2⟩,a.1.alloc a.1.size _⟩
def Zow(a:Int):Ay a 4=[a%256,a/256%256,a/256/256%256,a/256/256/256%256]:=rfl
theorem Zme{a:Int}(c: -2147483648<=a)(d:a<=2147483647)(b:List Int):mu (Ay a 4++b)=a:=by rw[Zow];unfold mu;simp only[Kx,cons_append,nil_append,getD_cons_zero,getD_cons_succ,Nat.mul_zero,Nat.pow_zero,Nat.mul_one,reduceMul,reducePow,Nat.zero_add];simp[wrap,IntKind.bits,signed];omega
def Zph{n:Nat}(b:n<65536)(a:List Int):Kx (Ay (n:Nat) 2++a) 2=n/\(Ay (n:Nat) 2++a).drop 2=a:=by
 refine⟨?_,rfl⟩;show Kx ([(n:Int)%256,(n:Int)/256%256]++a) 2=n
 grind [Kx]
theorem rt(a:Int)(b c:List Int):Li (a::b)++c=Ay a 4++(Li b++c):=by unfold Li;grind
theorem tz(a:ByteArray)(c:List ByteArray)(b:List Int):Lm (a::c)++b=((a.size:Nat):Int)%256::Ab a++(Lm c++b):=by unfold Lm;grind
theorem Za(d:List Int):∀(b:List Int) (a:Nat),a<=b.length->(Li b++d).drop (4*a)=Li (b.drop a)++d
 |_,0,_=>rfl
 |[],a+1,c=>by simp at c
 |e::b,a+1,c=>by rw[rt,show 4*(a+1)=4+4*a by omega,<- drop_drop,drop_left' (Dv e 4),drop_succ_cons];exact Za d b a (by simpa using c)
theorem ZgA{a:List Int}(d:∀b∈a,-2147483648<=b/\b<=2147483647)(c:List Int):Ss (Li a++c) a.length=a:=by
 unfold Ss;apply ext_getElem;simp
 grind [Za,drop_eq_getElem_cons,rt,Qf,Zme]
theorem td{a:ByteArray}(d:a.size<256)(b:List Int):tb (((a.size:Nat):Int)%256::Ab a++b)=b/\ei (((a.size:Nat):Int)%256::Ab a++b)=a:=by
 have c:((((a.size:Nat):Int)%256::Ab a++b).headD 0).toNat=a.size:=w_
 grind [tb,Cf,ei,Sz]
theorem az(c:List Int):∀(b:Nat) (a:List ByteArray),(∀d∈a,d.size<256)->b<=a.length->restW (Lm a++c) b=Lm (a.drop b)++c
 |0,_,_,_=>rfl
 |b+1,a,d,f=>by have e:b<a.length:=O;simp only[restW];rw[az c b a d O,aN e];rw[tz];exact(td (d _ (Qf e)) _).1
theorem Zhv{a:List ByteArray}(d:∀c∈a,c.size<256)(b:List Int):Vf (Lm a++b) a.length=a:=by
 unfold Vf;apply ext_getElem;simp
 grind [az,drop_eq_getElem_cons,tz,td]
structure KRt(K:KS):Prop where
 ok:KOk K
 num:∀a∈K.e.g,-2147483648<=a/\a<=2147483647
def ZoC{K:KS}(f:KRt K)(a:List Int):Yd (Lc K++a)=K.e/\rdD (Lc K++a)=K.d/\rdR (Lc K++a)=a:=by
 have k:=f.ok.a;have j:=f.ok.g;obtain⟨n,c⟩:=K;obtain⟨t,d,b⟩:=n;have l:=f.ok.q;have q:=f.num;unfold Wf at l;simp only at l k j q
 rcases l with⟨h,i,o,_⟩|⟨h,i,o,s⟩
 ·subst h i;have e:(⟨false,d,[]⟩:ES).b=d.length:=rfl;rw[e] at j k;have g:Lc ⟨⟨false,d,[]⟩,c⟩++a=110::((c:Nat):Int)%256::((d.length:Nat):Int)%256::(Li d++a):=(by unfold Lc knB;simp[e]);rw[g];have m:((((d.length:Nat):Int)%256)).toNat=d.length:=O;refine⟨?_,?_,?_⟩
  ·grind [Yd,ZgA]
  show((((c:Nat):Int)%256)).toNat=c;omega
  grind [rdR,Li,Za]
 subst h i;have e:(⟨true,[],b⟩:ES).b=b.length:=rfl;rw[e] at j k;have g:Lc ⟨⟨true,[],b⟩,c⟩++a=119::((c:Nat):Int)%256::((b.length:Nat):Int)%256::(Lm b++a):=(by unfold Lc kq;simp[e]);rw[g];have m:((((b.length:Nat):Int)%256)).toNat=b.length:=O;have p:∀r∈b,r.size<256:=w_;refine⟨?_,?_,?_⟩
 ·grind [Yd,Zhv]
 show((((c:Nat):Int)%256)).toNat=c;omega;unfold rdR;rw[aD s_];show restW (Lm b++a) ((((b.length:Nat):Int)%256)).toNat=a;rw[m,az a _ b p x_,drop_length];rfl
def vu{b:List KS}(e:∀K∈b,KRt K)(c:List Int):∀a,a<=b.length->Wb (b.flatMap Lc++c) a=some (b.take a,(b.drop a).flatMap Lc++c)
 |0,_=>by simp[Wb]
 | a +1,j=>by
  have d:a<b.length:=O;have hK:=e _ (Qf d);simp only[Wb];rw[vu e c a O];have f:(b.drop a).flatMap Lc++c=Lc b[a]++((b.drop (a+1)).flatMap Lc++c):=(by rw[aN d,flatMap_cons,append_assoc]);simp only;rw[f];have⟨g,h,i⟩:=ZoC hK ((b.drop (a+1)).flatMap Lc++c)
  rw[g,h,i,aD (by
   rw[hK.ok.b,Bool.true_and];unfold Og;rw[decide_eq_true_eq];have:=hK.ok.a
   omega),Qi d]
theorem Zp(a c:List Int){b:Nat}(d:b<a.length):(a++c).getD b 0=a.getD b 0:=w_
theorem Zc9(a b:List Int)(c:Nat):(a++b).getD (a.length+c) 0=b.getD c 0:=w_
def ZdW(b:List (Nat×Nat)):∀(c:Nat) (d:List Int) (a:Nat),a<c->(Rh b c++d).getD (2*a) 0=((((b.getD a (0,0)).1:Nat):Int)-Bh b a)%256/\(Rh b c++d).getD (2*a+1) 0=(((b.getD a (0,0)).2:Nat):Int)%256
 |0,_,_,f=>O
 | c+1,d,a,f=>by
  simp only[Rh];rw[append_assoc]
  rcases Nat.lt_or_ge a c with e|e
  exact ZdW b c _ a e
  grind [Nz,Zc9]
def Zkb{N:List Nat}{n k:Nat}(a:k<(Bu N n).length):((Bu N n).getD k (0,0)).1<n/\((Bu N n).getD k (0,0)).2=N.getD ((Bu N n).getD k (0,0)).1 0:=by grind [Qf,Ql]
def yc{N:List Nat}{n j k:Nat}(a:j<k)(b:k<(Bu N n).length):((Bu N n).getD j (0,0)).1<((Bu N n).getD k (0,0)).1:=by grind [pairwise_iff_getElem,Yh]
def ZbO{a:List Nat}{c b:Nat}(f:b<c)(e:a.getD b 0≠0):∃d,d<(Bu a c).length/\((Bu a c).getD d (0,0)).1=b:=by have h:(b,a.getD b 0)∈Bu a c:=(Ql a c _).2 ⟨f,rfl,e⟩;have⟨d,g,i⟩:=aM h;exact⟨d,g,w_⟩
def zi(a:List (Nat×Nat))(b:Nat): -1<=Bh a b:=by unfold Bh;split<;>omega
def zk{N:List Nat}{n k:Nat}(a:k<(Bu N n).length):Bh (Bu N n) k<(((Bu N n).getD k (0,0)).1:Nat):=by unfold Bh;split;omega;have:=yc (N:=N) (n:=n) (j:=k-1) (k:=k) O a;omega
def ye{a:List Nat}{b:Nat}(r:b<=200)(o:a.length=b)(q:∀x∈a,x<=255)(f:List Int):∀c,c<=(Bu a b).length->(Pg (replicate b 0) (Rh (Bu a b) (Bu a b).length++f) c).1=Bh (Bu a b) c/\∀d,d<b->(Pg (replicate b 0) (Rh (Bu a b) (Bu a b).length++f) c).2.getD d 0=if(d:Int)<=Bh (Bu a b) c then((a.getD d 0:Nat):Int) else 0
 |0,_=>by grind [Bh,Pg]
 | c + 1,A=>by
  have⟨s,B⟩:=ye r o q f c O;have⟨k,l⟩:=ZdW (Bu a b) (Bu a b).length f c O;have⟨D,t⟩:=Zkb (N:=a) (n:=b) (k:=c) O;have y:=zk (N:=a) (n:=b) (k:=c) O;have w:=zi (Bu a b) c
  have n:Bh (Bu a b) (c+1)=((((Bu a b).getD c (0,0)).1:Nat):Int):=by
   unfold Bh
   grind
  have z:∀d,d<b->Bh (Bu a b) c<(d:Int)->d<((Bu a b).getD c (0,0)).1->a.getD d 0=0:=λd i h v=>by
   by_cases j:a.getD d 0=0
   exact j;exfalso;have⟨g,p,u⟩:=ZbO i j
   rcases Nat.lt_or_ge g c with m|m
   ·unfold Bh at h;rw[aC O] at h
    rcases Nat.lt_or_ge g (c-1) with e|e
    have:=yc (N:=a) (n:=b) e O;omega
    grind
   rcases Nat.lt_or_ge c g with e|e
   have:=yc (N:=a) (n:=b) e p;omega
   grind
  have g:a.getD ((Bu a b).getD c (0,0)).1 0<=255:=(by grind [Qf]);have e:Bh (Bu a b) c+((((Bu a b).getD c (0,0)).1:Nat)-Bh (Bu a b) c)%256=((((Bu a b).getD c (0,0)).1:Nat):Int):=O;simp only[Pg];rw[s,k,l,n,e,t];generalize ((Bu a b).getD c (0,0)).1=j at *;refine⟨rfl,λd i=>?_⟩;rw[aD ⟨O,w_⟩,jz _ _ _ _ (by rw[Ua,length_replicate];omega),Int.toNat_natCast]
  grind
def Si{a b:List Int}(e:a.length=b.length)(d:∀c,c<a.length->a.getD c 0=b.getD c 0):a=b:=by grind [ext_getElem]
theorem Fu(a:List Nat):(An a).map Int.toNat=a:=by
 unfold An;rw[map_map]
 conv=>rhs;rw[<- map_id a]
 exact map_congr_left λb _=>rfl
theorem ax{b:List Nat}{a:Nat}(o:a<=200)(j:b.length=a)(n:∀x∈b,x<=255)(h:Nat)(c:List Int):Hd (Rm (Bu b a)++c) a h=An b/\rdColR (Rm (Bu b a)++c) a h=c:=by
 have r:=Lz b a;have g:Rm (Bu b a)++c=115::(((Bu b a).length:Nat):Int)%256::(Rh (Bu b a) (Bu b a).length++c):=(by unfold Rm;simp);have l:(((((Bu b a).length:Nat):Int)%256)).toNat=(Bu b a).length:=O;rw[g];constructor
 ·unfold Hd;rw[aD (by rfl)];show(Pg (replicate a 0) (Rh (Bu b a) (Bu b a).length++c) ((((Bu b a).length:Nat):Int)%256).toNat).2=_;rw[l];have⟨_,m⟩:=ye o j n c (Bu b a).length x_;refine Si (by rw[Ua,length_replicate,Aj,j]) (λf e=>?_);rw[Ua,length_replicate] at e;rw[m f e,Br]
  by_cases d:(f:Int)<=Bh (Bu b a) (Bu b a).length
  rw[aD d];rw[aC d]
  by_cases k:b.getD f 0=0
  rw[k];rfl;exfalso;have⟨p,q,g⟩:=ZbO e k;unfold Bh at d;rw[aC O] at d
  rcases Nat.lt_or_ge p ((Bu b a).length-1) with i|i
  have:=yc (N:=b) (n:=a) i O;omega
  grind
 grind [rdColR,Nz]
def ZjV{c:List Nat}{b a:Nat}(j:c.length=b)(n:∀x∈c,x<=a)(l:a<64)(e:List Int):Hd (100::Bg (Cd c (Lib.bitLen a)) ((b*Lib.bitLen a+7)/8) (b*Lib.bitLen a)++e) b a=An c/\rdColR (100::Bg (Cd c (Lib.bitLen a)) ((b*Lib.bitLen a+7)/8) (b*Lib.bitLen a)++e) b a=e:=by
 have o:=Mc l;constructor
 ·unfold Hd;rw[aC s_];show dnN (Bg (Cd c (Lib.bitLen a)) ((b*Lib.bitLen a+7)/8) (b*Lib.bitLen a)++e) b (Lib.bitLen a)=_;generalize Lib.bitLen a=d at *
  have k:∀g,g<b*d->Uh (Bg (Cd c d) ((b*d+7)/8) (b*d)++e) g=Cd c d g:=λg q=>by grind [Uh,Zp,Dg,Kc,Tj,Ix]
  unfold dnN;refine Si (by simp[Aj,j]) (λf h=>?_)
  have i:f<b:=by simpa using h
  rw[Br,Qc,Qd h,Option.getD_some,getElem_map,getElem_range];have p:f*d+d<=b*d:=(by rw[<- succ_mul];exact aK _ i);rw[Mu (c.getD f 0) (f*d) d (λr m=>by rw[k _ O];exact Mm c m)];have m:c.getD f 0<=a:=(by grind [Qf]);rw[mod_eq_of_lt O]
 unfold rdColR;rw[aC s_];exact drop_left' (Dg _ _ _)
def ZnJ{b:List Nat}{d a:Nat}(j:d<=200)(g:b.length=d)(h:∀x∈b,x<=a)(i:a<64)(c:List Int):Ip (Hr b a++c) d a=b/\rdColR (Hr b a++c) d a=c:=by
 unfold Ip Hr;rw[g];split
 ·have⟨e,f⟩:=ax j g (λx k=>p_ (h x k)) a c;rw[e,f,Fu]
  grind
 have⟨e,f⟩:=ZjV g h i c;rw[e,f,Fu]
 grind
def Zcs{a:List Nat}{b:Nat}(d:∀x∈a,x<=b)(c:b<64):Wa a b=a:=by
 unfold Wa;split;rfl
 conv=>rhs;rw[<- map_id a]
 refine map_congr_left λx e=>?_;have f:=d x e;have g:=Mc c;exact mod_eq_of_lt O
def Zfn{a:List Nat}(k:a.length<256)(i:∀g∈a,g<256)(b:List Int):lstK ([((a.length:Nat):Int)%256]++Rv a++b)=An a/\lstR ([((a.length:Nat):Int)%256]++Rv a++b)=b:=by
 have e:[((a.length:Nat):Int)%256]++Rv a++b=((a.length:Nat):Int)%256::(Rv a++b):=s_;have f:((((a.length:Nat):Int)%256)).toNat=a.length:=O;have j:(Rv a).length=a.length:=(by simp[Rv]);rw[e];constructor
 ·show(range ((((a.length:Nat):Int)%256)).toNat).map (λc=>(Rv a++b).getD c 0)=_;rw[f];refine Si (by simp[Aj]) (λc d=>?_)
  have h:c<a.length:=by simpa using d
  rw[Br,Qc,Qd d,Option.getD_some,getElem_map,getElem_range,Zp _ _ O];have:=i _ (Qf h);unfold Rv
  grind
 show(Rv a++b).drop ((((a.length:Nat):Int)%256)).toNat=b
 grind
end Go.Proofs.YtfcgnpchbcmdeaaGreat
namespace Go.Proofs.YtfcgnpchbcmdeaaGreat
set_option linter.all false
set_option maxRecDepth 100000
set_option maxHeartbeats 16000000
open Go.RowKit Go.Lib Go.Sort List Nat World Go.Proofs.Tryz Value IntKind Lib Region
structure BRt(b:List KS)(d:Nat)(a:BS):Prop where
 len:a.N.length=d
 le:∀e∈a.N,e<=a.g
 i:a.g<=40
 o:0<a.fs.length
 A:a.fs.length<256
 n:∀c∈a.fs,c<b.length
 sum:a.g=Bj b a.fs
 h:Dt b (An a.fs) a.N=true
def zn{e:List KS}{h:Nat}{b:List BS}(l:h<=200)(v:e.length<256)(j:∀n∈b,BRt e h n)(d:List Int):∀a,a<=b.length->∃m,Yr e h (b.flatMap Dm++d) a=some (b.take a,m,(b.drop a).flatMap Dm++d)
 |0,_=>⟨_,rfl⟩
 | a +1,x=>by
  have g:a<b.length:=O;have c:=j _ (Qf g);have⟨m,w⟩:=zn l v j d a O
  have o:(b.drop a).flatMap Dm++d=[((b[a].fs.length:Nat):Int)%256]++Rv b[a].fs++(Hr b[a].N b[a].g++((b.drop (a+1)).flatMap Dm++d)):=by
   rw[aN g,flatMap_cons];unfold Dm
   grind
  simp only[Yr];rw[w];simp only;rw[o];have⟨p,q⟩:=Zfn c.A (λi f=>p_ (c.n i f)) (Hr b[a].N b[a].g++((b.drop (a+1)).flatMap Dm++d));have k:Cz e (An b[a].fs)=b[a].g:=(by rw[Pm,Fu,c.sum]);have⟨r,s⟩:=ZnJ l c.len c.le (p_ c.i) ((b.drop (a+1)).flatMap Dm++d)
  rw[p,q,k,r,s,Fu,Zcs c.le (p_ c.i),aD (by
   rw[c.h,Bool.and_true];unfold Ul;rw[k];simp only[Bool.and_eq_true,decide_eq_true_eq,all_eq_true];refine⟨λi f=>?_,by rw[Aj];exact c.o,c.i⟩;unfold An at f;obtain⟨t,u,rfl⟩:=mem_map.1 f;have:=c.n t u
   omega)]
  exact⟨_,by rw[Qi g]⟩
def Gl(c:List XS):Prop:=c.Pairwise λa b=>a.row<b.row∨a.row=b.row/\a.f<b.f
def Zat{b:List XS}(g:Gl b){a:Nat}(f:a<b.length):Ig (b.take a) b[a]=true:=by
 unfold Ig;rw[length_take,Nat.min_eq_left O]
 by_cases d:a=0
 subst d;rfl;rw[aE d,Bool.false_or,decide_eq_true_eq];have e:(b.take a).getD (a-1) Di=b[a-1]:=w_;rw[e];have c:=ltX b[a-1] b[a];rw[aF (pairwise_iff_getElem.1 g (a-1) a O f O)] at c;unfold ltOf at c
 simpa using c
def ZnI{x:XS}(e:x.row<256/\x.f<256/\x.i<256)(a:List Int):rdX (xB x++a)=x/\(xB x++a).drop 3=a:=by
 refine⟨?_,rfl⟩;obtain⟨b,c,d⟩:=x;simp only at e;show(⟨((b:Int)%256).toNat,((c:Int)%256).toNat,((d:Int)%256).toNat⟩:XS)=_
 grind
def ZiI{e:Ga}{i:Nat}{a:List XS}(h:Gl a)(g:∀x∈a,Ff e i x=true)(f:∀x∈a,x.row<256/\x.f<256/\x.i<256)(c:List Int):∀b,b<=a.length->Uu e i (a.flatMap xB++c) b=some (a.take b,(a.drop b).flatMap xB++c)
 |0,_=>by simp[Uu]
 |b+1,m=>by have d:b<a.length:=O;simp only[Uu];rw[ZiI h g f c b O];have j:(a.drop b).flatMap xB++c=xB a[b]++((a.drop (b+1)).flatMap xB++c):=(by rw[aN d,flatMap_cons,append_assoc]);simp only;rw[j];have⟨k,l⟩:=ZnI (f _ (Qf d)) ((a.drop (b+1)).flatMap xB++c);rw[k,l,aD (by rw[Zat h d,g _ (Qf d)];rfl),Qi d]
structure DRt(c:Nat)(a:Ga)(b:List XS):Prop where
 w:c<=200
 v:0<a.h.length
 j:a.h.length<=4
 k:0<a.g.length
 l:a.g.length<=4
 h:∀K∈a.h,KRt K
 g:∀d∈a.g,BRt a.h c d
 i:(a.g.flatMap (·.fs)).Perm (range a.h.length)
 q:Gl b
 n:∀e∈b,Ff ⟨a.h,a.g,[]⟩ c e=true
 r:b.length<=800
def Zbx{e:Nat}{a:Ga}{b:List XS}(c:DRt e a b):Lq (Cb a b)=some (⟨a.h,a.g,b⟩,Ay (Gp (Hm a b)) 4):=by
 have z:(a.g.getD 0 Db).N.length=e:=(by rw[Qc,Qd c.k];exact(c.g _ (Qf _)).len);have⟨d,q⟩:=M_ (Ay (Gp (Hm a b)) 4);have u:=c.w;have w:=c.j;have y:=c.v;have x:=c.l;have B:=c.r;have k:Cb a b=71::82::(e:Int)%256::(a.h.length:Int)%256::(a.h.flatMap Lc++((a.g.length:Int)%256::(a.g.flatMap Dm++(Ay (b.length:Nat) 2++(b.flatMap xB++d))))):=(by grind [Cb,Hm]);rw[<- q];have j:=Pp a b;rw[k] at j ⊢;have p:((71::82::(e:Int)%256::(a.h.length:Int)%256::(a.h.flatMap Lc++((a.g.length:Int)%256::(a.g.flatMap Dm++(Ay (b.length:Nat) 2++(b.flatMap xB++d))))):List Int).getD 2 0).toNat=e:=w_
 have o:((71::82::(e:Int)%256::(a.h.length:Int)%256::(a.h.flatMap Lc++((a.g.length:Int)%256::(a.g.flatMap Dm++(Ay (b.length:Nat) 2++(b.flatMap xB++d))))):List Int).getD 3 0).toNat=a.h.length:=by show((a.h.length:Int)%256).toNat=a.h.length;omega
 unfold Lq;rw[p,o,aC O];have n:(71::82::(e:Int)%256::(a.h.length:Int)%256::(a.h.flatMap Lc++((a.g.length:Int)%256::(a.g.flatMap Dm++(Ay (b.length:Nat) 2++(b.flatMap xB++d))))):List Int).drop 4=a.h.flatMap Lc++((a.g.length:Int)%256::(a.g.flatMap Dm++(Ay (b.length:Nat) 2++(b.flatMap xB++d)))):=rfl;rw[n,vu c.h _ a.h.length x_,take_length,drop_length];simp only[flatMap_nil,nil_append,tail_cons,headD_cons];rw[show((a.g.length:Int)%256).toNat=a.g.length by omega];have⟨t,g⟩:=zn c.w O c.g (Ay (b.length:Nat) 2++(b.flatMap xB++d)) a.g.length x_;rw[g];rw[take_length,drop_length] at g ⊢;simp only[flatMap_nil,nil_append] at g ⊢
 have⟨_,A,_,r,_⟩:=ix (λh i=>j h (mem_cons_of_mem _ (mem_cons_of_mem _ (mem_cons_of_mem _ (mem_cons_of_mem _ (mem_append_right _ (mem_cons_of_mem _ i))))))) _ _ _ _ g
 have s:Dj t=true:=by
  unfold Dj;rw[all_eq_true];intro m l;obtain⟨h,i,rfl⟩:=aM l;have f:=r h;rw[c.i.count_eq h,nodup_range.count,aD (mem_range.2 O),Qc,Qd i] at f
  simpa using f
 rw[aD s];have⟨l,m⟩:=Zph (n:=b.length) O (b.flatMap xB++d);rw[l,m,ZiI c.q c.n (λh i=>?_) d b.length x_,take_length,drop_length];rfl;have f:=Mf (c.n h i);simp only at f;have v:=(c.h (a.h.getD h.f Ai) w_).ok.g;omega
def ZgB{d:Nat}{a:Ga}{b:List XS}(c:DRt d a b):opD (Cb a b)=some ⟨a.h,a.g,b⟩:=by unfold opD;rw[Zbx c];exact aD rfl
end Go.Proofs.YtfcgnpchbcmdeaaGreat
namespace Go.Proofs.YtfcgnpchbcmdeaaGreat
set_option linter.all false
set_option maxRecDepth 100000
set_option maxHeartbeats 16000000
open Go.RowKit List Nat World Go.Proofs.Tryz Value IntKind Lib Region
def Zl3 c:∀b∈(Yd c).g,-2147483648<=b/\b<=2147483647:=λb a=>by unfold Yd at a;split at a;simp at a;simp only[Ss,mem_map] at a;obtain⟨d,_,rfl⟩:=a;have:=ya (c.drop 3|>.drop (4*d));omega
def ZeT{g:List Int}:∀c {b:List KS} {e:List Int},Wb g c=some (b,e)->∀K∈b,∀h∈K.e.g,-2147483648<=h/\h<=2147483647
 | 0,b,e,a=>by
  simp only[Wb,Option.some.injEq,Prod.mk.injEq] at a
  grind
 | c + 1,b,e,a=>by
  simp only[Wb] at a
  cases f:Wb g c with
  |none=>grind
  | some i=>
   obtain⟨j,k⟩:=i;rw[f] at a;simp only at a;split at a
   ·simp only[Option.some.injEq,Prod.mk.injEq] at a;rw[<- a.1];intro K hK
    rcases mem_append.1 hK with d|d
    exact ZeT c f K d;rw[mem_singleton.1 d];exact Zl3 _
   cases a
def ZgX{b m:List Int}{d:Ga}(a:Lq b=some (d,m)):∀K∈d.h,∀i∈K.e.g,-2147483648<=i/\i<=2147483647:=by
 unfold Lq at a;split at a
 ·cases a
 cases f:Wb (b.drop 4) (b.getD 3 0).toNat with
 |none=>grind
 | some c=>
  obtain⟨e,g⟩:=c;simp only[f] at a
  cases k:Yr e (b.getD 2 0).toNat g.tail (g.headD 0).toNat with
  |none=>grind
  | some c=>
   obtain⟨j,p,h⟩:=c;simp only[k] at a;split at a
   ·cases l:Uu ⟨e,j,[]⟩ (b.getD 2 0).toNat (h.drop 2) (Kx h 2) with
    |none=>grind
    | some c=>
     obtain⟨n,o⟩:=c;simp only[l,Option.some.injEq,Prod.mk.injEq] at a;rw[<- a.1];exact ZeT _ f
   cases a
def ZjC{a:List KS}{b:List BS}{c:List Int}(i:c.length=a.length)(h:∀f∈b,∀g∈f.fs,g<a.length)(j:∀d,c.getD d 0=((b.flatMap (·.fs)).count d:Nat))(e:Dj c=true):(b.flatMap (·.fs)).Perm (range a.length):=by
 unfold Dj at e;simp only[all_eq_true,decide_eq_true_eq] at e
 grind [Qf]
def Zgx{a:List XS}{x:XS}(b:Ig a x=true):a=[]∨(a.getD (a.length-1) Di).row<x.row∨(a.getD (a.length-1) Di).row=x.row/\(a.getD (a.length-1) Di).f<x.f:=by
 unfold Ig at b;simp only[Bool.or_eq_true,decide_eq_true_eq] at b
 rcases b with b|b
 ·grind
 right;unfold Mn orI compareInt at b
 grind
theorem ea{a:List XS}{x:XS}(c:Gl a)(b:a=[]∨(a.getD (a.length-1) Di).row<x.row∨(a.getD (a.length-1) Di).row=x.row/\(a.getD (a.length-1) Di).f<x.f):Gl (a++[x]):=by
 unfold Gl at c ⊢;rw[pairwise_append];refine⟨c,s_,λj d k i=>?_⟩;rw[mem_singleton.1 i]
 rcases b with rfl|b
 simp at d;obtain⟨e,g,rfl⟩:=aM d;have h:a.getD (a.length-1) Di=a[a.length-1]:=w_;rw[h] at b
 by_cases f:e=a.length-1
 subst f;exact b;have:=pairwise_iff_getElem.1 c e (a.length-1) g O O;omega
def jm{e:Ga}{h:Nat}{g:List Int}:∀c {b:List XS} {d:List Int},Uu e h g c=some (b,d)->Gl b
 |0,b,d,a=>by simp only[Uu,Option.some.injEq,Prod.mk.injEq] at a;rw[<- a.1];exact Pairwise.nil
 | c +1,b,d,a=>by
  simp only[Uu] at a
  cases f:Uu e h g c with
  |none=>grind
  | some i=>
   obtain⟨j,l⟩:=i;rw[f] at a;simp only at a;split at a;rename_i k;simp only[Option.some.injEq,Prod.mk.injEq] at a;rw[<- a.1];exact ea (jm c f) (Zgx w_)
   cases a
theorem ZgZ{d:List Nat}{a c:Nat}(j:d.length=a)(g:List Int):Hd (100::Bg (Cd d (Lib.bitLen c)) ((a*Lib.bitLen c+7)/8) (a*Lib.bitLen c)++g) a c=An (d.map (· %2^Lib.bitLen c)):=by
 unfold Hd;rw[aC s_];show dnN (Bg (Cd d (Lib.bitLen c)) ((a*Lib.bitLen c+7)/8) (a*Lib.bitLen c)++g) a (Lib.bitLen c)=_;generalize Lib.bitLen c=b at *
 have k:∀f,f<a*b->Uh (Bg (Cd d b) ((a*b+7)/8) (a*b)++g) f=Cd d b f:=λf n=>by grind [Uh,Zp,Dg,Kc,Tj,Ix]
 unfold dnN;refine Si (by simp[Aj,j]) (λe h=>?_)
 have i:e<a:=by simpa using h
 rw[Br,Qc,Qd h,Option.getD_some,getElem_map,getElem_range];have m:e*b+b<=a*b:=(by rw[<- succ_mul];exact aK _ i);rw[Mu (d.getD e 0) (e*b) b (λo l=>by rw[k _ O];exact Mm d l)]
 grind
def Zl4{a:List Nat}{b g:Nat}(f:b<=200)(d:a.length=b)(e:∀x∈a,x<=255)(c:List Int):Ip (Hr a g++c) b g=Wa a g/\rdColR (Hr a g++c) b g=c:=by
 unfold Ip Hr Wa
 grind [ax,Fu,ZgZ,rdColR,Dg]
def Zfp(a:List KS):∀(b:List Int) (d:Int),Ia a b d=true->d<Cz a b
 |[],d,c=>by simp[Ia] at c
 |e::b,d,c=>by have f:Cz a (e::b)=((a.getD e.toNat Ai).e.b+2)+Cz a b:=(by simp[Cz]);rw[f];simp only[Ia] at c;split at c;rename_i g;simp only[Og,decide_eq_true_eq] at g;omega;have:=Zfp a b _ c;omega
def Zgv{a:List KS}{b:List Int}{e:List Nat}(c:Dt a b e=true):∀d∈e,d<=Cz a b:=λd g=>by
 unfold Dt at c;simp only[all_eq_true,Bool.or_eq_true,decide_eq_true_eq] at c
 rcases c d g with f|f
 omega;have:=Zfp a b _ f;omega
def ZkZ(a:List Nat)(b:Nat):Wa (Wa a b) b=Wa a b:=by
 by_cases d:4*nzN a<a.length
 have c:Wa a b=a:=(by unfold Wa;rw[aD d]);rw[c,c];have c:Wa a b=a.map (· %2^Lib.bitLen b):=(by unfold Wa;rw[aC d]);rw[c];unfold Wa;split;rfl;rw[map_map];exact map_congr_left λe _=>mod_mod _ _
def ZmN{d:List KS}{e:Nat}{b:BS}(a:ZkQ d e b)(g:b.fs.length<256)(f:Wa b.N b.g=b.N):BRt d e b:=by have c:=a.h;rw[f] at c;refine⟨a.len,λi h=>?_,a.i,a.o,g,a.n,a.sum,c⟩;have:=Zgv c i h;rw[Pm,Fu,<- a.sum] at this;exact this
def zm{f:List KS}{i:Nat}{b:List BS}(m:i<=200)(w:f.length<256)(k:∀d∈b,ZkQ f i d/\d.fs.length<256)(e:List Int):∀a,a<=b.length->∃n,Yr f i (b.flatMap Dm++e) a=some ((b.take a).map (λd=>⟨d.fs,Wa d.N d.g,d.g⟩),n,(b.drop a).flatMap Dm++e)
 |0,_=>⟨_,rfl⟩
 | a +1,y=>by
  have h:a<b.length:=O;have⟨c,u⟩:=k _ (Qf h);have⟨n,x⟩:=zm m w k e a O
  have o:(b.drop a).flatMap Dm++e=[((b[a].fs.length:Nat):Int)%256]++Rv b[a].fs++(Hr b[a].N b[a].g++((b.drop (a+1)).flatMap Dm++e)):=by
   rw[aN h,flatMap_cons];unfold Dm
   grind
  simp only[Yr];rw[x];simp only;rw[o];have⟨p,q⟩:=Zfn u (λj g=>p_ (c.n j g)) (Hr b[a].N b[a].g++((b.drop (a+1)).flatMap Dm++e));have l:Cz f (An b[a].fs)=b[a].g:=(by rw[Pm,Fu,c.sum]);have⟨r,s⟩:=Zl4 (g:=b[a].g) m c.len c.le ((b.drop (a+1)).flatMap Dm++e)
  rw[p,q,l,r,s,Fu,ZkZ,aD (by
   rw[c.h,Bool.and_true];unfold Ul;rw[l];simp only[Bool.and_eq_true,decide_eq_true_eq,all_eq_true];refine⟨λj g=>?_,by rw[Aj];exact c.o,c.i⟩;unfold An at g;obtain⟨t,v,rfl⟩:=mem_map.1 g;have:=c.n t v
   omega)]
  exact⟨_,by rw[Qi h,map_append];rfl⟩
def ZeO{a:List BS}(c:∀b∈a,0<b.fs.length):a.length<=(a.flatMap (·.fs)).length:=by
 induction a with
 |nil=>simp
 | cons b a d=>
  grind
def zx(a:Ga)(b:List XS):(Cb a b).drop 4=a.h.flatMap Lc++((a.g.length:Int)%256::(a.g.flatMap Dm++(Ay (b.length:Nat) 2++(b.flatMap xB++Ay (Gp (Hm a b)) 4)))):=by generalize e:Ay (Gp (Hm a b)) 4=c;have d:Cb a b=71::82::(((a.g.getD 0 Db).N.length:Nat):Int)%256::(a.h.length:Int)%256::(a.h.flatMap Lc++((a.g.length:Int)%256::(a.g.flatMap Dm++(Ay (b.length:Nat) 2++(b.flatMap xB++c))))):=(by grind [Cb,Hm]);rw[d];rfl
def ZnB{d:List Int}{o:Ga}(b:Rp d)(k:opD d=some o):DRt (d.getD 2 0).toNat o o.q:=by
 unfold opD at k
 cases e:Lq d with
 |none=>grind
 | some h=>
  obtain⟨j,a0⟩:=h;simp only[e] at k
  by_cases E:Cb j j.q=d
  ·rw[aD E,Option.some.injEq] at k;subst k;have g:=Zby b e;have R:=ZgX e;have p:=zx j j.q;rw[E] at p;have r:∀K∈_,KRt K:=λK hK=>⟨g.h K hK,R K hK⟩;have u:=g.j;have z:=g.w;have D:=g.r;have v:=g.k;unfold Lq at e
   by_cases Q:200<(d.getD 2 0).toNat∨(d.getD 3 0).toNat<1∨4<(d.getD 3 0).toNat
   ·grind
   rw[aC Q] at e
   cases q:Wb (d.drop 4) (d.getD 3 0).toNat with
   |none=>grind
   | some h=>
    obtain⟨i,s⟩:=h;simp only[q] at e;have⟨y,Z,P⟩:=vv (b.drop 4) _ i s q
    cases l:Yr i (d.getD 2 0).toNat s.tail (s.headD 0).toNat with
    |none=>grind
    | some h=>
     obtain⟨c,F,t⟩:=h;simp only[l] at e;have⟨M,U,m,S,X⟩:=ix P.tail _ c F t l
     cases A:Dj F with
     |false=>grind
     | true=>
      simp only[A,if_true] at e
      cases w:Uu ⟨i,c,[]⟩ (d.getD 2 0).toNat (t.drop 2) (Kx t 2) with
      |none=>grind
      | some h=>
       obtain⟨f,a1⟩:=h;simp only[w,Option.some.injEq,Prod.mk.injEq] at e;obtain⟨H,_⟩:=e;subst H;simp only at p r u D v;have B:=ZjC U (λa b=>(m a b).n) S A
       have x:∀a∈c,a.fs.length<256:=λa b=>by
        have:=g.d.f4 a b
        grind
       have n:=vu r ((c.length:Int)%256::(c.flatMap Dm++(Ay (f.length:Nat) 2++(f.flatMap xB++Ay (Gp (Hm ⟨i,c,f⟩ f)) 4)))) _ x_;rw[<- p,y,q] at n;rw[<- y,drop_length] at n;simp only[flatMap_nil,nil_append,Option.some.injEq,Prod.mk.injEq] at n;have T:=n.2;have⟨a2,W⟩:=zm z O (λa b=>⟨m a b,x a b⟩) (Ay (f.length:Nat) 2++(f.flatMap xB++Ay (Gp (Hm ⟨i,c,f⟩ f)) 4)) c.length x_;rw[<- M,T,tail_cons,W,Option.some.injEq,Prod.mk.injEq,take_length] at l
       have L:∀a∈c,Wa a.N a.g=a.N:=λa b=>by
        have G:c.map (λa=>(⟨a.fs,Wa a.N a.g,a.g⟩:BS))=c.map id:=(by rw[map_id];exact l.1);have:=map_inj_left.1 G a b
        grind
       have N:c.length<=4:=(by have G:=ZeO λa b=>(m a b).o;rw[B.length_eq,length_range] at G;omega);exact⟨z,g.v,u,v,N,r,λa b=>ZmN (m a b) (x a b) (L a b),B,jm _ w,g.e.j,D⟩
  grind
end Go.Proofs.YtfcgnpchbcmdeaaGreat
