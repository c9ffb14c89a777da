import Derived.Test.YtfcgnpchbcmdeaaGreatZobf
namespace Go.Proofs.YtfcgnpchbcmdeaaGreat
set_option linter.all false
set_option maxRecDepth 100000
set_option maxHeartbeats 8000000
open Go.RowKit List Nat World Go.Proofs.Tryz Value IntKind Lib Region
def Grp.a{m l j b i}(a:Grp m l j b i):∃d g e h c f,Ud m l j b (tlB b) (tmB b) (fB b) i (V d c.length g) (V e c.length h) c f:=by obtain⟨o,n,c,f,a⟩:=a;obtain⟨d,g,rfl,_⟩:=My a.x;have⟨e,h,k,_⟩:=My a.w;rw[a.len] at k;subst k;exact⟨d,g,e,h,c,f,a⟩
def Ud.at{k A u i D E t n z g B p d q j o}(f:Ud k A u i D E p t (V d n g) (V q z B) j o){a}(m:a<j.length):∃b h,d=some ⟨b,0,none⟩/\q=some ⟨h,0,none⟩/\∀c,E_ k c->c.cell? (J b a)=some (j.getD a Ii)/\c.cell? (J h a)=some (o.getD a Ii)/\p c (j.getD a Ii) (o.getD a Ii):=by
 have r:∀{s:Nat} {d n g e},k.ownsRow 0 s 1 (V d n g) e.length e->a<e.length->∃b,d=some ⟨b,0,none⟩/\D_ k b a (e.getD a Ii):=λ{s d n g e} G F=>by grind [My,Pd]
 have⟨b,x,v⟩:=r f.x m;have⟨h,y,w⟩:=r f.w (f.len ▸ m);exact⟨b,h,x,y,λc l=>⟨W_ l v,W_ l w,f.all a m c (.a l)⟩⟩
def Do.cells{f j d h e a}(i:Do f j e (V a d h)){c}(r:c<d):∃b,a=some ⟨b,0,none⟩/\f.cell? (J b c)=some e:=by
 obtain⟨k,s,l,n,_,o|⟨g,m,rfl,q,p⟩⟩:=i
 ·grind
 grind [cell_of_row]
def Gq.cells{c e h f d}(i:Gq c f (V d e h)){b}(q:b<e):∃a,d=some ⟨a,0,none⟩/\c.cell? (J a (b*4))=some (I f)/\c.cell? (J a (b*4+1))=some (I 0)/\c.cell? (J a (b*4+2))=some (I 0)/\c.cell? (J a (b*4+3))=some (I 0):=by
 obtain⟨j,r,k,m,_,n|⟨g,l,rfl,p,o⟩⟩:=i
 ·grind
 grind [cell_of_row]
def Do.shape{h f g d}(e:Do h f g d):∃b a c,d=.slice b a c/\a<=maxLen:=by
 obtain⟨b,a,c,i,j,_⟩:=e
 grind
def Gq.shape{f g d}(e:Gq f g d):∃b a c,d=.slice b a c/\a<=maxLen:=by
 obtain⟨b,a,c,h,i,_⟩:=e
 grind
def Hu.c{f a2 Z X a0}(i:Hu f a2 Z a0 X)(v:X<=100000000):C_ 43 #[.pointer (some (J Z 4))] f (U_ (.bool true) f):=by
 have⟨a5,a8,a6,a9,u,a7,z⟩:=(i.h 4 C).a;have⟨c1,c4,c2,nq,x,c3,v⟩:=(i.h 6 C).a;have⟨c5,c8,c6,c9,y,c7,B⟩:=(i.h 8 C).a;have⟨b4,b7,b5,b8,w,b6,A⟩:=(i.h 10 C).a;have S:K (∀j,E_ f j->_/\_):=λj m=>⟨W_ m ((i.v.cell 4).T z.v),W_ m ((i.v.cell 5).T z.z)⟩;have b0:=z.p;have U:K (∀j,E_ f j->_/\_):=λj m=>⟨W_ m ((i.v.cell 6).T v.v),W_ m ((i.v.cell 7).T v.z)⟩;have b2:=v.p;have W:K (∀j,E_ f j->_/\_):=λj m=>⟨W_ m ((i.v.cell 8).T B.v),W_ m ((i.v.cell 9).T B.z)⟩;have b3:=B.p;have T:K (∀j,E_ f j->_/\_):=λj m=>⟨W_ m ((i.v.cell 10).T A.v),W_ m ((i.v.cell 11).T A.z)⟩;have b1:=A.p;have a:K (E_ f f):=y_;refine v_ ?_;go_upto_region 2 with fail
 go_loopw [3] (λb d=>∃c:Nat,c<=u.length/\b=.int .i64 c/\K (E_ f d)) (λb _=>u.length-(intOf b).toNat)
 exact⟨0,r_,rfl,a⟩;obtain⟨c,L,rfl,a⟩:=hrel;have⟨q,r⟩:=S wr a
 by_cases s:c<u.length
 ·have F:=F_ c u.length;obtain⟨N,P,rfl,rfl,b⟩:=z.at s;have⟨k,l,R,n,g⟩:=b wr a;have⟨D,e,H,o,t⟩:=g.shape;rw[o] at k b;rw[n] at l b;have p:=Y b;unfold maxLen at t;clear b g n o;go_upto_region 5 with fail;go_loopw [4] (λh E=>∃d:Nat,d<=e/\h=.int .i64 d/\K (E_ f E)) (λh _=>e-(intOf h).toNat)
  exact⟨0,r_,rfl,a⟩;obtain⟨d,M,rfl,a⟩:=hrel;have⟨q,r⟩:=S wr a;have⟨k,l,b⟩:=p wr a
  by_cases h:d<e
  ·obtain⟨a4,aA,g⟩:=b;injection aA with _ aA;subst aA;obtain⟨E,rfl,Q,a3,a1,b9⟩:=g.cells h;have G:=F_ d e;go_upto_region 7 with fail;go_quiet (fail);refine J_ ?_;exact⟨d+1,O,g_,below_drewN a _⟩
  clear b;have:¬d<(e:Int):=O;refine J_ ?_;exact⟨c+1,O,g_,a⟩
 have:¬c<(u.length:Int):=O;go_upto_region 10 with fail;go_loopw [5] (λb d=>∃c:Nat,c<=x.length/\b=.int .i64 c/\K (E_ f d)) (λb _=>x.length-(intOf b).toNat)
 exact⟨0,r_,rfl,a⟩;obtain⟨c,L,rfl,a⟩:=hrel;have⟨q,r⟩:=U wr a
 by_cases s:c<x.length
 ·have F:=F_ c x.length;obtain⟨N,P,rfl,rfl,b⟩:=v.at s;have⟨k,l,⟨R,n⟩,g⟩:=b wr a;have⟨D,e,H,o,t⟩:=g.shape;rw[o] at k b;rw[n] at l b;have p:=Y b;unfold maxLen at t;clear b g n o;go_upto_region 13 with fail;go_loopw [6] (λh E=>∃d:Nat,d<=e/\h=.int .i64 d/\K (E_ f E)) (λh _=>e-(intOf h).toNat)
  exact⟨0,r_,rfl,a⟩;obtain⟨d,M,rfl,a⟩:=hrel;have⟨q,r⟩:=U wr a;have⟨k,l,b⟩:=p wr a
  by_cases h:d<e
  ·obtain⟨E,rfl,Q⟩:=b.2.cells h;clear b;have G:=F_ d e;go_upto_region 15 with fail;go_quiet (fail);refine J_ ?_;exact⟨d+1,O,g_,below_drewN a _⟩
  clear b;have:¬d<(e:Int):=O;refine J_ ?_;exact⟨c+1,O,g_,a⟩
 have:¬c<(x.length:Int):=O;go_upto_region 18 with fail;go_loopw [7] (λb d=>∃c:Nat,c<=y.length/\b=.int .i64 c/\K (E_ f d)) (λb _=>y.length-(intOf b).toNat)
 exact⟨0,r_,rfl,a⟩;obtain⟨c,L,rfl,a⟩:=hrel;have⟨q,r⟩:=W wr a
 by_cases s:c<y.length
 ·have F:=F_ c y.length;obtain⟨N,P,rfl,rfl,b⟩:=B.at s;have⟨k,l,⟨R,n⟩,g⟩:=b wr a;have⟨D,e,H,o,t⟩:=g.shape;rw[o] at k b;rw[n] at l b;have p:=Y b;unfold maxLen at t;clear b g n o;go_upto_region 21 with fail;go_loopw [8] (λh E=>∃d:Nat,d<=e/\h=.int .i64 d/\K (E_ f E)) (λh _=>e-(intOf h).toNat)
  exact⟨0,r_,rfl,a⟩;obtain⟨d,M,rfl,a⟩:=hrel;have⟨q,r⟩:=W wr a;have⟨k,l,b⟩:=p wr a
  by_cases h:d<e
  ·obtain⟨E,rfl,Q⟩:=b.2.cells h;clear b;have G:=F_ d e;go_upto_region 23 with fail;go_quiet (fail);refine J_ ?_;exact⟨d+1,O,g_,below_drewN a _⟩
  clear b;have:¬d<(e:Int):=O;refine J_ ?_;exact⟨c+1,O,g_,a⟩
 have:¬c<(y.length:Int):=O;go_upto_region 26 with fail;go_loopw [9] (λb d=>∃c:Nat,c<=w.length/\b=.int .i64 c/\K (E_ f d)) (λb _=>w.length-(intOf b).toNat)
 exact⟨0,r_,rfl,a⟩;obtain⟨c,L,rfl,a⟩:=hrel;have⟨q,r⟩:=T wr a
 by_cases s:c<w.length
 ·have F:=F_ c w.length;obtain⟨N,P,rfl,rfl,b⟩:=A.at s;have⟨k,l,R,b9,n,g,_⟩:=b wr a;have⟨D,e,H,o,t⟩:=g.shape;rw[o] at k b;rw[n] at l b;have p:=Y b;unfold maxLen at t;clear b g n o;go_upto_region 29 with fail;go_loopw [10] (λh E=>∃d:Nat,d<=e/\h=.int .i64 d/\K (E_ f E)) (λh _=>e-(intOf h).toNat)
  exact⟨0,r_,rfl,a⟩;obtain⟨d,M,rfl,a⟩:=hrel;have⟨q,r⟩:=T wr a;have⟨k,l,b⟩:=p wr a
  by_cases h:d<e
  ·obtain⟨a4,c0,_,g,a1⟩:=b;obtain⟨E,rfl,Q⟩:=g.cells h;have a3:=n_ 0 a1;have G:=F_ d e;go_upto_region 31 with fail;go_quiet (fail);refine J_ ?_;exact⟨d+1,O,g_,below_drewN a _⟩
  clear b;have:¬d<(e:Int):=O;refine J_ ?_;exact⟨c+1,O,g_,a⟩
 have:¬c<(w.length:Int):=O;go_wp2;go_ret;exact⟨rfl,a⟩
def Sx u v o p c b (k:Ad b u o c)(l:Ad b v p c)(E:c.length<=1000000):C_ 140 #[o,p] b λa e=>a=.returned (.bool true)/\∃d,e=b.drewN d:=by
 obtain⟨s,A,rfl,w⟩:=k.a;obtain⟨t,B,rfl,x⟩:=l.a
 have q:K (∀a,a<c.length->∃f g,s=some ⟨f,0,none⟩/\t=some ⟨g,0,none⟩/\b.cell? (J f a)=some (I (c.getD a 0))/\b.cell? (J g a)=some (I (c.getD a 0))):=λa n=>w_
 clear k l w x;generalize c.length=e at *;refine v_ ?_;go_upto_region 4 with fail;go_loopw [5] (λf g=>∃(a d:Nat),a<=e/\f=.int .i64 a/\K (g=b.drewN d)) (λf _=>e-(intOf f).toNat)
 exact⟨0,0,r_,rfl,rfl⟩;obtain⟨a,d,D,rfl,j⟩:=hrel;have y:=j.out;subst y;clear j
 by_cases n:a<e
 ·have z:=F_ a e;obtain⟨f,g,rfl,rfl,h,i⟩:=q a n;have G:(b.drewN d).cell? (J f a)=some (I (c.getD a 0)):=(by rw[<- h];exact cb_ (below_drewN (br_ _ b) d|>.block _ (aJ b _ h)));have H:(b.drewN d).cell? (J g a)=some (I (c.getD a 0)):=(by rw[<- i];exact cb_ (below_drewN (br_ _ b) d|>.block _ (aJ b _ i)));clear h i;generalize c.getD a 0=L,m:b.drewN d=F at *;have r:=Y m;clear m;go_upto_region 6 with fail;go_quiet (fail);refine J_ ?_;exact⟨a+1,_,O,g_,by rw[<- r];exact drewN_drewN _ _ _⟩
 have f:¬a<(e:Int):=O;go_wp2;go_ret;exact⟨rfl,_,rfl⟩
def xy u v o p c b (k:Bi b u o c)(l:Bi b v p c)(B:c.length<=1000000):C_ 141 #[o,p] b λg a=>g=.returned (.bool true)/\∃d,a=b.drewN d:=by
 obtain⟨s,y,rfl⟩:=k.a;obtain⟨t,z,rfl⟩:=l.a
 have q:K (∀a,a<c.length->∃e f,s=some ⟨e,0,none⟩/\t=some ⟨f,0,none⟩/\b.cell? (J e a)=some (Q_ (c.getD a ⟨#[]⟩))/\b.cell? (J f a)=some (Q_ (c.getD a ⟨#[]⟩))):=λa h=>by
  have⟨e,g,_,i⟩:=k.d rfl h ⟨#[]⟩;have⟨f,d,_,j⟩:=l.d rfl h ⟨#[]⟩
  grind
 clear k l;generalize c.length=g at *;refine v_ ?_;go_upto_region 4 with fail;go_loopw [5] (λe f=>∃(a d:Nat),a<=g/\e=.int .i64 a/\K (f=b.drewN d)) (λe _=>g-(intOf e).toNat)
 exact⟨0,0,r_,rfl,rfl⟩;obtain⟨a,d,A,rfl,m⟩:=hrel;have w:=m.out;subst w;clear m
 by_cases h:a<g
 ·have x:=F_ a g;obtain⟨e,f,rfl,rfl,i,j⟩:=q a h;have E:(b.drewN d).cell? (J e a)=some (Q_ (c.getD a ⟨#[]⟩)):=(by rw[<- i];exact cb_ (below_drewN (br_ _ b) d|>.block _ (aJ b _ i)));have F:(b.drewN d).cell? (J f a)=some (Q_ (c.getD a ⟨#[]⟩)):=(by rw[<- j];exact cb_ (below_drewN (br_ _ b) d|>.block _ (aJ b _ j)));clear i j;generalize c.getD a ⟨#[]⟩=G,n:b.drewN d=D at *;have r:=Y n;clear n;go_upto_region 6 with fail;go_quiet (fail);refine J_ ?_;exact⟨a+1,_,O,g_,by rw[<- r];exact drewN_drewN _ _ _⟩
 have e:¬a<(g:Int):=O;go_wp2;go_ret;exact⟨rfl,_,rfl⟩
def cfB(a:List Int):Nat:=2+Xy (au a 0) 15
def cfU(a:List Int):Nat:=Xy (au a 2) 21
def cfS(a:List Int):Nat:=cfB a+Xy (au a 1) (33-cfB a)
def cfM(a:List Int):Nat:=Xy (au a 3) 4
def cfW(a:List Int)(b:Nat):Bool:=decide (Xy (au a (8+b)) 3=0)
def cfC(a:List Int)(b:Nat):Int:=if cfW a b=true then 0 else(Xy (au a (4+b)) 4:Nat)
def cfT(a:List Int)(b:Nat):Int:=if cfW a b=true then 1+(Xy (au a (4+b)) 9:Nat) else 0
def Zpx a:2<=cfB a/\cfB a<=16/\cfB a<=cfS a/\cfS a<=32/\cfU a<=20/\cfM a<=3:=by
 have c:=Pa (au a 0) (show 0<15 by omega);have e:=Pa (au a 2) (show 0<21 by omega);have f:=Pa (au a 3) (show 0<4 by omega);have b:cfB a=2+_:=rfl;have d:=Pa (au a 1) (show 0<33-cfB a by omega)
 grind [cfS,cfU,cfM]
def ZoW a b:Mr (cfW a b) (cfC a b) (cfT a b)=true:=by
 have c:=Pa (au a (4+b)) (show 0<4 by omega);have d:=Pa (au a (4+b)) (show 0<9 by omega);unfold Mr cfC cfT
 grind
def Zil(a:List Int)(b:Nat):List Value:=[.bool (cfW a b),I (cfC a b),I (cfT a b)]
def ZiS(a:List Int):Nat->List Value
 |0=>[]
 |b+1=>ZiS a b++Zil a b
def Zf5 b:∀a,(ZiS b a).length=a*3
 |0=>rfl
 |a+1=>by rw[ZiS,Qe,Zf5 b a];simp[Zil];omega
def Znj:(prog.info? 51).map (λa=>(a.zero,a.size,a.bytes))=some (some (.agg #[.bool false,I 0,I 0]),3,24):=k_
def ftC(d:Nat->Bool)(c b:Nat->Int)(a:Nat):Value:=if a%3=0 then .bool (d (a/3)) else if a%3=1 then I (c (a/3)) else I (b (a/3))
def ftL(d:Nat->Bool)(c a:Nat->Int)(b:Nat):List Value:=(range (b*3)).map (ftC d c a)
def gv{e d b c a}(f:a<c*3):(ftL e d b c)[a]? =some (ftC e d b a):=by simp[ftL,f]
def Zga{l h b c m k i}(d:Dq l h b c m k i):∀a g,(ftL m k i c)[a]? =some g->l.cell? (((J h b):Addr).add a)=some g:=λa g hu=>by
 have n:a<c*3:=(by grind [ftL]);rw[gv n] at hu;injection hu with hu;subst hu;rw[Addr.add_lit];have f:a/3<c:=O;unfold ftC
 by_cases e:a%3=0
 rw[aD e,<- d.v _ f,show b+a/3*3=b+a by omega]
 by_cases j:a%3=1
 rw[aC e,aD j,<- d.z _ f,show b+a/3*3+1=b+a by omega];rw[aC e,aC j,<- d.q _ f,show b+a/3*3+2=b+a by omega]
def Zgb{d k b a l j i e}(c:d.ownsRow k 51 3 (L_ b a l) a (ftL j i e a))(m:a<=maxLen):Dq d b 0 a j i e/\b<d.1.size:=by
 have g:b<d.1.size:=by
  rcases c.2 with⟨f,_⟩|⟨p,h,n,f,_,o,_⟩
  ·cases f
  grind
 refine⟨⟨m,λ_=>g,λh f=>?_,λh f=>?_,λh f=>?_⟩,g⟩
 ·rw[Nat.zero_add,c.cellAt _ O,gv O]
  grind [ftC]
 ·rw[Nat.zero_add,c.cellAt _ O,gv O]
  grind [ftC]
 rw[Nat.zero_add,c.cellAt _ O,gv O]
 grind [ftC]
def ZdM c a i d f e k j h b (r:a<=maxLen)(l:El b c a k j h)(n:Iz a d f e k j h=false):C_ 123 #[.agg #[V c a i,I d,I f,I e]] b (U_ (.tuple #[.pointer none,.int .i64 1]) b):=by
 have g:K (Below _ b (b.alloc (O_ #[V c a i,I d,I f,I e] 37))):=q_;have q:=Y (l.below g);have p:K (ZiE (Iz a d f e k j h)=1):=(by rw[n];rfl);clear l n;refine dl_ ?_;go_enter func123,ntmps123;go_wp2_with fail
 generalize b.alloc (O_ #[V c a i,I d,I f,I e] 37)=t at *;apply (Ye c a _ _ _ _ _ _ _ _ r q).m;rintro s u ⟨rfl,m⟩;rw[p];have o:=Y (g.T (m.m g.size));clear m;go_wp2;go_ret2
 exact⟨rfl,o⟩
def Zbr c i b l d f e q o k a (h:Dq a c i b q o k)(A:Iz b d f e q o k=true):C_ 123 #[.agg #[V (some (J c i)) b l,I d,I f,I e]] a λL m=>∃j g n,L=.returned (.tuple #[.pointer (some ⟨j,0,none⟩),.int .i64 0])/\pg m j g b n d f e ⟨#[]⟩ 0 0 false/\Dq m g 0 b q o k/\g≠j/\a.1.size<=g/\a.1.size<=j/\g<m.1.size/\E_ a m:=by
 have⟨c0,c1,_,_,_,_,_,_,_⟩:=Mo A;have a5:=h.lt O;have S:=h.le;have v:K (Below _ a (a.alloc (O_ #[V (some (J c i)) b l,I d,I f,I e] 37))):=q_;have u:K ((a.alloc (O_ #[V (some (J c i)) b l,I d,I f,I e] 37)).1[_]? =_):=ha_ a _
 have w:K (∀x,E_ a x->Dq x c i b q o k):=λx M=>by have n:=λm=>M.cell (p:=(J c m)) a5;exact⟨h.le,λ_=>p_ M.size,λj g=>(n _).T (h.v j g),λj g=>(n _).T (h.z j g),λj g=>(n _).T (h.q j g)⟩
 have W:K (ZiE (Iz b d f e q o k)=0):=(by rw[A];rfl);have⟨b3,a6,b0,b1,b2⟩:=info_parts Znj;clear h A;refine dl_ ?_;go_enter func123,ntmps123;go_wp2_with fail
 generalize a.alloc (O_ #[V (some (J c i)) b l,I d,I f,I e] 37)=c4 at *;apply (Ye _ b _ _ _ _ _ _ _ _ S (.inr ⟨c,i,rfl,w _ v⟩)).m;rintro L c5 ⟨rfl,y⟩;rw[W];have a7:=(Qb u).1;have D:=(y.block _ a7).T u;have a2:=n_ 0 D;have⟨s,r⟩:=Z_ D (v.T (y.m O));have a9:=r.size;clear y D;go_wp2_with (at_builtin;refine wpList_append_own _ rfl _ _ _ rfl (a.1.size+1) 51 b3 _ 3 24 underlying35 a6 b0 b1 b2 rfl C (V _ 0 0) 0 [] rfl ⟨rfl,.inl ⟨rfl,rfl⟩⟩ _ b l _ rfl (by simp[ftL]) (Zga (w _ r)) ?_ ?_ ?_ ?_ ?_)
 intro m g;simp only[ftL,mem_map] at g;obtain⟨j,_,rfl⟩:=g;unfold ftC;split;rfl;split<;>rfl;omega;omega;have:=(Qb s).1;omega;intro c3 F E B a8;have H:Aa (λ_=>False) _ _:=(Aa.refl _ _).grown B (λn z _=>by cases z);have t:=(H.block _ (Qb s).1 id).T s
 rcases E.2 with⟨_,b9⟩|⟨g,j,b8,rfl,c2,_⟩
 omega;have a3:=n_ 0 t;have a4:=R_ 0 _ _ t;have m:=ht_ 0 _ _ (L_ g b j) t;have N:=r.grown B a9 (λn z=>by cases z);have P:Below _ a (F.setCell (J a.1.size 0) (L_ g b j)):=N.setCell x_ _;have U:Aa _ _ (F.setCell _ (L_ g b j)):=(Aa.refl (λn=>n=a.1.size) _).setCell (p:=(J a.1.size 0)) (λ_=>rfl) _;have T:=U.row E (λn G z=>by subst z;simp[ownBlock] at G;omega);clear s r a2 a8 E B H;go_upto_region 7 with fail;generalize F.setCell (J a.1.size 0) (L_ g b j)=G at *;have b4:=n_ 0 m;have b5:=n_ 1 m;have b6:=n_ 2 m;have b7:=n_ 3 m;obtain⟨Q,R⟩:=Zgb T S;have X:K (_/\_/\a.1.size<=g/\_):=⟨Q,R,O,P⟩;clear a3 a4 t m N P U T Q R w v u;go_wp2;go_ret2
 have z:Below _ G (G.alloc (O_ #[L_ g b j,I d,I f,I e,Q_ ⟨#[]⟩,I 0,I 0,.bool false] 278)):=q_;obtain⟨Z,a0,a1,n⟩:=X;exact⟨G.1.size,g,j,rfl,hn_,Z.below z,O,a1,n.size,Qh a0 z.size,n.T (z.m n.size)⟩
def Zly:(prog.info? 51).map (λa=>(a.zero,a.size,a.bytes))=some (some (.agg #[.bool false,I 0,I 0]),3,24):=k_
def em(f:World)(e d:Nat)(c:Nat->Bool×Int×Int):Prop:=∃b:Array Value,f.1[e]? =some (O_ b 51)/\b.size=d*3/\∀a,a<d->b[a*3]? =some (.bool (c a).1)/\b[a*3+1]? =some (I (c a).2.1)/\b[a*3+2]? =some (I (c a).2.2)
section
variable {w w':World} {g N:Nat} {f:Nat->Bool×Int×Int}
def em.lt(a:em w g N f):g<w.1.size:=by
 obtain⟨b,c,_⟩:=a
 grind
def em.cells(a:em w g N f){i}(j:i<N):w.cell? (J g (i*3))=some (.bool (f i).1)/\w.cell? (J g (i*3+1))=some (I (f i).2.1)/\w.cell? (J g (i*3+2))=some (I (f i).2.2)/\∀b,w.frozen? (J g b)=false:=by
 obtain⟨c,d,e,h⟩:=a
 grind [cell_of_row,frozen_of_row]
def em.put(e:em w g N f){k}(r:k<N) a b c:em (((w.setCell (J g (k*3)) (.bool a)).setCell (J g (k*3+1)) (I b)).setCell (J g (k*3+2)) (I c)) g N (λi=>if i=k then(a,b,c) else f i):=by
 obtain⟨q,h,j,l⟩:=e;refine⟨_,hs_ _ g _ _ _ _ (hs_ _ g _ _ _ _ (hs_ _ g _ _ _ _ h)),by simp[j],λi m=>?_⟩
 by_cases d:i=k
 ·subst d;simp only[if_true];refine⟨?_,?_,?_⟩
  ·grind
  ·grind
  grind
 simp only[aC d];have⟨n,o,p⟩:=l i m;refine⟨?_,?_,?_⟩;rw[aH O,aH O,aH O];exact n;rw[aH O,aH O,aH O];exact o;rw[aH O,aH O,aH O];exact p
def em.p{S}(b:em w g N f)(h:Aa S w w')(e:¬S g):em w' g N f:=by obtain⟨a,c,d⟩:=b;exact⟨a,h.g c e,d⟩
def em.below(a:em w g N f)(b:E_ w w'):em w' g N f:=a.p (.a (S:=λ_=>False) b) id
def em.congr{b}(d:em w g N f)(i:∀a,a<N->b a=f a):em w g N b:=by obtain⟨c,e,h,j⟩:=d;exact⟨c,e,h,λa k=>w_⟩
def em.c(a:em w g N f){b h e c}(l:b<=N)(j:b<=maxLen)(k:∀i,i<b->f i=(h i,e i,c i)):Dq w g 0 b h e c:=by
 refine⟨j,λ_=>a.lt,λi d=>?_,λi d=>?_,λi d=>?_⟩
 ·have:=(a.cells (i:=i) O).1
  grind
 ·have:=(a.cells (i:=i) O).2.1
  grind
 have:=(a.cells (i:=i) O).2.2.1
 grind
end
def So(b:Nat)(f:Nat->Bool)(e c:Nat->Int)(d a:Nat):Bool×Int×Int:=if a<b then(f a,e a,c a) else if a<b+d then(false,0,-7-a) else(false,0,0)
def Zgk b f e d a c:So b f e d (a+1) c=if c=b+a then(false,0,-7-((b+a:Nat):Int)) else So b f e d a c:=by grind [So]
def Zap(d:Nat->Bool)(c b:Nat->Int)(a:Nat):Value:=if a%3=0 then .bool (d (a/3)) else if a%3=1 then I (c (a/3)) else I (b (a/3))
def Zu p a s m l h c (j:Dq c p.block p.off a m l h)(L:0<a->p=(J p.block p.off))(Z:a<=2097152):C_ 122 #[V (some p) a s] c λo b=>o=.returned (.slice (some ⟨c.1.size,0,none⟩) a (a+8))/\em b c.1.size (a+8) (So a m l h 8)/\E_ c b:=by
 have⟨a3,S,a1,W,a2⟩:=info_parts Zly;obtain⟨n,d,w⟩:=p
 have E:_:=λX=>by have:=L X;injection this
 have j:=j;clear L;have a0:∀f:_,(binOp _ _ _ _).run _ f=.ok (.bool false) f:=λf=>run_eql_slice_nil f 35 _ (some ⟨n,d,w⟩) a s 0 0 underlying35;have H:∀f:World,(Instr.makeSlice 35 (I (a+8)) (I (a+8))).run prog f=.ok (L_ f.1.size (a+8) (a+8)) (f.alloc (O_ (madeCells #[.bool false,I 0,I 0] ((a+8)*3)) 51)):=λ_=>mk_ 3;have⟨e,u⟩:=M_ (madeCells #[.bool false,I 0,I 0] ((a+8)*3))
 have D:∀i,i<a+8->e[i*3]? =some (.bool false)/\e[i*3+1]? =some (I 0)/\e[i*3+2]? =some (I 0):=λi q=>by rw[u];refine⟨?_,?_,?_⟩;simp[madeCells,show i*3<(a+8)*3 by omega,show i*3%3=0 by omega];simp[madeCells,show i*3+1<(a+8)*3 by omega,show(i*3+1)%3=1 by omega];simp[madeCells,show i*3+2<(a+8)*3 by omega,show(i*3+2)%3=2 by omega]
 have P:=u ▸ (size_madeCells _ _);rw[<- u] at H
 obtain⟨v,Q,x,z⟩:∃v:World,(Builtin.copy_ #[35,35] 3 #[L_ c.1.size (a+8) (a+8),V (some ⟨n,d,w⟩) a s]).run prog (c.alloc (O_ e 51))=.ok (I a) v/\K (em v c.1.size (a+8) (So a m l h 0))/\E_ c v:=by
  have y:Below _ c (c.alloc (O_ e 51)):=q_;have A:(c.alloc (O_ e 51)).1[_]? =_:=ha_ c _;have G:Nat.min a (a+8)=a:=Nat.min_eq_left O;have⟨g,B⟩:=M_ ((range (a*3)).map (Zap m l h));have R:g.length=a*3:=by rw[B];simp
  have t:∀b,b<a*3->g[b]? =some (Zap m l h b):=λb hj=>w_
  have U:∀b r,g[b]? =some r->(c.alloc (O_ e 51)).cell? ((⟨n,d,w⟩:Addr).add b)=some r:=λb r hj=>by
   have M:b<a*3:=w_;rw[E O];rw[t b M] at hj;injection hj with hj;subst hj;have F:((J n d):Addr).add b=(J n (d+b)):=(by unfold Addr.add;split<;>simp_all);have q:b/3<a:=O;rw[F,y.cell (p:=(J n (d+b))) (j.lt O)];unfold Zap
   rcases(show b%3=0∨b%3=1∨b%3=2 by omega) with o|o|o
   rw[aD o,show d+b=d+b/3*3 by omega];exact j.v _ q;rw[aC O,aD o,show d+b=d+b/3*3+1 by omega];exact j.z _ q;rw[aC O,aC O,show d+b=d+b/3*3+2 by omega];exact j.q _ q
  have T:∀r∈g,r.oneCell'=true:=λr N=>by rw[B] at N;obtain⟨b,_,rfl⟩:=mem_map.1 N;unfold Zap;split;rfl;split<;>rfl
  have M:=qy (P:=prog) _ 35 35 3 _ _ _ _ (a+8) _ a s _ _ _ underlying35 S A (by rw[G,W,R]) U O T;rw[G] at M;refine⟨_,M,?_,below_setRow y x_ _⟩;refine⟨_,(setRow_heap _ _ _ _ _ _ A),w_,λi q=>?_⟩
  have o:∀b,(e.toList.take 0++g++e.toList.drop (0+g.length)).toArray[b]? =if b<a*3 then g[b]? else e[b]?:=λb=>by
   simp only[take_zero,nil_append,Nat.zero_add,getElem?_toArray]
   by_cases hj:b<a*3
   ·grind
   grind
  rw[o,o,o];unfold So
  by_cases F:i<a
  rw[aD (show i*3<a*3 by omega),aD (show i*3+1<a*3 by omega),aD (show i*3+2<a*3 by omega),aD F,t _ O,t _ O,t _ O];unfold Zap;refine⟨?_,?_,?_⟩;rw[aD O,show i*3/3=i by omega];rw[aC O,aD O,show(i*3+1)/3=i by omega];rw[aC O,aC O,show(i*3+2)/3=i by omega];rw[aC (show ¬i*3<a*3 by omega),aC (show ¬i*3+1<a*3 by omega),aC (show ¬i*3+2<a*3 by omega),aC F,aC (show ¬i<a+0 by omega)];exact D i q
 clear D P j u E;refine v_ ?_;go_upto_region 6 with fail;go_loopw [4] (λg o=>∃b:Nat,b<=8/\g=.int .i64 ((a+b:Nat):Int)/\K (em o c.1.size (a+8) (So a m l h b))/\K (E_ c o)) (λg _=>a+8-(intOf g).toNat)
 exact⟨0,O,s_,x,z⟩;clear x z Q H;obtain⟨b,R,rfl,g,r⟩:=hrel
 by_cases T:b<8
 ·have⟨k,o⟩:=Y_ (a+b);have A:K (em (((wr.setCell (J c.1.size (k*3)) (.bool false)).setCell (J c.1.size (k*3+1)) (I 0)).setCell (J c.1.size (k*3+2)) (I (-7-k))) c.1.size (a+8) (So a m l h (b+1))):=(by refine(g.put (k:=k) O _ 0 _).congr (λi _=>?_);rw[Zgk,o]);have y:K (Below _ c (((wr.setCell (J c.1.size (k*3)) (.bool false)).setCell (J c.1.size (k*3+1)) (I 0)).setCell (J c.1.size (k*3+2)) (I (-7-(k:Int))))):=((r.setCell x_ _).setCell x_ _).setCell x_ _;have⟨F,G,M,N⟩:=g.cells (i:=k) O;have B:k<(a:Int)+8:=O;have t:=Y o;rw[o];clear o g r;go_wp2;go_roundw;exact⟨b+1,O,by rw[<- Nat.add_assoc,t];go_num,A,y⟩;have:=t.out;simp[intOf];omega
 have o:b=8:=O;subst o;go_wp2;go_ret;exact⟨rfl,g,r⟩
def stF(d:Nat)(f:Nat->Bool)(e b:Nat->Int)(c a:Nat):Bool×Int×Int:=if a<c then(false,0,-9) else So d f e b 8 a
def Zkf d f e c b a:stF d f e c (b+1) a=if a=b then(false,0,-9) else stF d f e c b a:=by grind [stF]
def Yi h b x f e d c g (D:Dq g h.block h.off b e d c)(F:0<b->h=(J h.block h.off))(X:b<=2097152)(H:em g f (b+8) (So b e d c 8))(G:0<b->h.block≠f):C_ 124 #[L_ f b (b+8),V (some h) b x] g λj k=>j=.returned (.bool true)/\Aa (λa=>a=f) g k:=by
 obtain⟨j,M,L⟩:=h
 have z:K _:=λN=>by have:=F N;injection this
 have o:=Y D;have Z:∀q:_,(binOp _ _ _ _).run _ q=.ok (.bool false) q:=λq=>run_eql_slice_nil q 35 _ (some ⟨j,M,L⟩) b x 0 0 underlying35;refine v_ ?_;go_upto_region 6 with fail;go_loopw [6,7] (λm k l=>∃a:Nat,a<=b+8/\m=.bool true/\k=.int .i64 a/\K (em l f (b+8) (stF b e d c a))/\K (Aa (λa=>a=f) g l)) (λ_ k _=>b+8-(intOf k).toNat)
 exact⟨0,r_,rfl,rfl,(H.congr (λi _=>by unfold stF;rw[aC O])),Aa.refl _ _⟩;obtain⟨a,W,rfl,rfl,w,k⟩:=hrel
 by_cases y:a<b+8
 ·have P:0<=(a:Int):=O;have Q:a<(b:Int)+8:=O;have⟨l,m,n,R⟩:=w.cells (i:=a) y;have B:stF b e d c a a=So b e d c 8 a:=(by unfold stF;grind);rw[B] at l m n
  have p:K (∀s,_/\Aa _ g ((((wr.drewN s).setCell _ (.bool false)).setCell _ (I 0)).setCell _ (I (-9)))):=λs=>
   ⟨((w.below (below_drewN y_ s)).put y _ 0 _).congr (λi _=>Zkf b e d c a i),(((k.below (below_drewN y_ s)).setCell (p:=(J f (a*3))) (λ_=>rfl) _).setCell (p:=(J f (a*3+1))) (λ_=>rfl) _).setCell (p:=(J f (a*3+2))) (λ_=>rfl) _⟩
  by_cases r:a<b
  ·have A:a<(b:Int):=O;have t:So b e d c 8 a=(e a,d a,c a):=(by unfold So;rw[aD r]);rw[t] at l m n;simp only at l m n;have u:=o.lt O;have v:=(Y G) O;have E:=z O;subst E;have S:=(cb_ (w:=g) (a:=(J j _)) (k.block j u v)).T (o.v a r);have T:=(cb_ (w:=g) (a:=(J j _)) (k.block j u v)).T (o.z a r);have U:=(cb_ (w:=g) (a:=(J j _)) (k.block j u v)).T (o.q a r);generalize e a=a2,d a=a1,c a=a0 at *;go_upto_region 9 with fail;go_quiet (fail);refine J_ ?_;exact⟨a+1,O,s_,g_,(p _).1,(p _).2⟩
  have A:¬a<(b:Int):=O;have t:So b e d c 8 a=(false,0,-7-(a:Int)):=(by unfold So;grind);rw[t] at l m n;simp only at l m n;refine J_ ?_;exact⟨a+1,O,s_,g_,(p 0).1,(p 0).2⟩
 have l:¬a<(b:Int)+8:=O;go_wp2;go_ret;exact⟨rfl,k⟩
section
variable {w w':World} {base n c:Nat} {a:Option Addr} {o:Value} {wd:Nat->Bool} {sc ct:Nat->Int}
def Mj(w:World)(base:Nat)(o:Value)(a:Option Addr)(n:Nat)(wd:Nat->Bool)(sc ct:Nat->Int):Prop:=
 (a=none/\n=0/\o=.slice none 0 0)∨∃c b,a=some c/\o=L_ b n (n+8)/\base<=b/\b<w.1.size/\em w b (n+8) (So n wd sc ct 8)
def Mj.p{S}(b:Mj w base o a n wd sc ct)(f:Aa S w w')(k:∀e,base<=e->¬S e):Mj w' base o a n wd sc ct:=by
 rcases b with b|⟨l,c,g,h,d,i,j⟩
 exact .inl b;exact .inr ⟨l,c,g,h,d,Qh i f.size,j.p f (k c d)⟩
def Mj.q(e:Mj w base o a n wd sc ct){b}(c:o.ownBlock=some b):base<=b/\b<w.1.size:=by
 rcases e with⟨_,_,rfl⟩|⟨h,d,_,rfl,f,g,_⟩
 ·cases c
 have:some d=some b:=c
 grind
def Mj.below(b:Mj w base o a n wd sc ct)(c:E_ w w'):Mj w' base o a n wd sc ct:=by
 rcases b with b|⟨j,d,e,f,g,h,i⟩
 exact .inl b;exact .inr ⟨j,d,e,f,g,Qh h c.size,i.below c⟩
def Mj.shape(d:Mj w base o a n wd sc ct):∃b c,o=.slice b n c:=by
 rcases d with⟨_,rfl,rfl⟩|⟨f,e,_,rfl,_⟩
 ·grind
 grind
def Mj.view{b c}(e:Mj w base (V b n c) a n wd sc ct)(i:n<=2097152):El w b n wd sc ct:=by
 rcases e with⟨_,f,_⟩|⟨k,d,_,h2,_,_,g⟩
 exact .inl f;injection h2 with h2;exact .inr ⟨d,0,h2,g.c O m_ (λj h=>by unfold So;rw[aD h])⟩
def Zv n c w:C_ 122 #[V none n c] w (V_ (.slice none 0 0) w):=by have b:∀a:_,(binOp _ _ _ _).run _ a=.ok (.bool true) a:=λa=>run_eql_slice_nil a 35 _ none n c 0 0 underlying35;refine er_ ?_;exact⟨rfl,rfl⟩
def Yj o n c w:C_ 124 #[o,V none n c] w (V_ (.bool true) w):=by have b:∀a:_,(binOp _ _ _ _).run _ a=.ok (.bool true) a:=λa=>run_eql_slice_nil a 35 _ none n c 0 0 underlying35;refine er_ ?_;exact⟨rfl,rfl⟩
def El.at{a}(b:El w (some a) n wd sc ct)(g:n<=2097152):Dq w a.block a.off n wd sc ct/\(0<n->a=(J a.block a.off)):=by
 rcases b with rfl|⟨d,h,e,f⟩
 exact⟨⟨O,λb=>O,λi c=>O,λi c=>O,λi c=>O⟩,λb=>O⟩
 grind
def ss a n c l m k w (d:El w a n l m k)(f:n<=2097152):C_ 122 #[V a n c] w λb w'=>∃o,b=.returned o/\Mj w' w.1.size o a n l m k/\E_ w w':=by
 cases a with
 | none=>
  apply (Zv n c w).m;rintro b w' ⟨rfl,rfl⟩;refine⟨_,rfl,.inl ⟨rfl,?_,rfl⟩,y_⟩
  rcases d with d|⟨_,_,b,_⟩
  exact d
  cases b
 | some g=>
  have⟨h,i⟩:=d.at f;apply (Zu g n c _ _ _ w h i f).m;rintro b w' ⟨rfl,e,j⟩;exact⟨_,rfl,.inr ⟨g,w.1.size,rfl,rfl,x_,e.lt,e⟩,j⟩
def ng a n c s t v u o w (h:Mj w s o a n t v u)(m:El w a n t v u)(r:∀d,a=some d->0<n->d.block<s)(e:n<=2097152):C_ 124 #[o,V a n c] w λb w'=>b=.returned (.bool true)/\Aa (λf=>o.ownBlock=some f) w w':=by
 rcases h with⟨rfl,rfl,rfl⟩|⟨d,g,rfl,rfl,p,q,k⟩
 ·apply (Yj _ _ c w).m
  grind [Aa.refl]
 have⟨i,j⟩:=m.at e;apply (Yi d n c g _ _ _ w i j e k (λb=>w_)).m;rintro b w' ⟨rfl,l⟩;exact⟨rfl,l.m (λf _ b=>by subst b;rfl)⟩
end
structure Cu where
 k:Nat
 z:Bool
def Oj(d:World)(c:Nat)(b:ByteArray)(a:Cu):Prop:=d.1[c]? =some (O_ #[Q_ b,I a.k,.bool a.z] 288)
def La(c:List Int)(b:Nat)(a:Cu):Cu×List Int:=if a.z=false/\a.k+b<=c.length then(⟨a.k+b,false⟩,(c.drop a.k).take b) else(⟨a.k,true⟩,replicate b 0)
def Cv(b:List Int)(c:Int)(a:Cu):Cu×Nat:=if c<Ys (La b 1 a).2 then(⟨(La b 1 a).1.k,true⟩,0) else((La b 1 a).1,Ys (La b 1 a).2)
def Td{a:List Int}{n}{b:Cu}(c:b.k<=a.length):(La a n b).1.k<=a.length:=by unfold La;grind
def Ht{a:List Int}{d}{b:Cu}(c:b.k<=a.length):(Cv a d b).1.k<=a.length:=by have:=Td (n:=1) c;unfold Cv;split<;>simpa
theorem Ib(c:List Int) a b:(La c a b).2.length=a:=by unfold La;grind
def Nc{b:List Int}(e:∀a∈b,0<=a/\a<256) d c:∀a∈(La b d c).2,0<=a/\a<256:=λa f=>by grind [La]
def Je{c:List Int}(e:∀d∈c,0<=d/\d<256) a b:(Cv c a b).2<256/\(0<=a->((Cv c a b).2:Int)<=a):=by
 have f:=Zr _ (Nc e 1 b);rw[Ib] at f;unfold Cv
 grind
def Zln(b:ByteArray)(a c:Nat):strOfNums (((Ab b).drop a).take c)=b.extract a (a+c):=by
 have e:Ab (b.extract a (a+c))=((Ab b).drop a).take c:=by
  unfold Ab
  grind [ByteArray.data_extract,Array.toList_extract,map_drop,map_take]
 rw[<- e];generalize b.extract a (a+c)=d
 cases d with
 | mk f=>
  unfold strOfNums Ab;congr 1;apply Array.ext';simp[map_map,Function.comp_def]
def Rx{a:List Int}(c:∀b∈a,0<=b/\b<256):Ab (strOfNums a)=a:=by
 unfold Ab strOfNums;simp only[map_map]
 conv=>rhs;rw[<- map_id a]
 grind [map_congr_left,UInt8.toNat_ofNat']
def Oj.g{b a d e}(f:Oj b a d e):Oj (b.setCell (J a 2) (.bool true)) a d ⟨e.k,true⟩/\Aa (λc=>c=a) b (b.setCell (J a 2) (.bool true)):=
 ⟨hs_ _ a 2 _ 288 _ f,(Aa.refl (λc=>c=a) _).setCell (p:=(J a 2)) (λ_=>rfl) _⟩
def Oj.drewN{d c a b}(e:Oj d c a b) f:Oj (d.drewN f) c a b:=by unfold Oj;rw[heap_drewN];exact e
def Oj.below{d e c a b}(f:Oj d c a b)(g:E_ d e):Oj e c a b:=(Aa.a (S:=λ_=>False) g).g f id
def Io c (a:Nat)(b:ByteArray)(j:Cu) d (g:Oj d c b j)(v:a<=1000000)(F:b.size<=4000000)(x:j.k<=b.size):C_ 182 #[P_ c,I a] d λk e=>k=.returned (.string (strOfNums (La (Ab b) a j).2))/\Oj e c b (La (Ab b) a j).1/\Aa (λh=>h=c) d e:=by
 obtain⟨e,q⟩:=j;have r:=n_ 0 g;have n:=n_ 1 g;have o:=n_ 2 g;simp only at x n o;have s:=R_ 1 _ _ g;have t:=R_ 2 _ _ g;have u:(Ab b).length=b.size:=(by simp[Ab]);have⟨f,l⟩:=Y_ (e+a);have G:i64.wrap ((e:Int)+a)=f:=by rw[As O O];omega
 by_cases p:q=false/\f<=b.size
 ·obtain⟨rfl,E⟩:=p;have m:K (La (Ab b) a ⟨e,false⟩=(⟨f,false⟩,((Ab b).drop e).take a)):=(by rw[<- l];exact aD ⟨rfl,w_⟩);have w:K (strOfNums (((Ab b).drop e).take a)=b.extract e f):=(by rw[<- l];exact Zln b e a);have i:K (∀a,Oj ((d.drewN a).setCell (J c 1) (I f)) c b ⟨f,false⟩/\Aa (λh=>h=c) d ((d.drewN a).setCell (J c 1) (I f))):=λa=>⟨ht_ 1 _ _ _ (g.drewN a),((Aa.refl (λh=>h=c) d).drewN a).setCell (p:=(J _ 1)) (λ_=>rfl) _⟩;have H:i64.wrap ((f:Int)-a)=e:=(by rw[As O O];omega);have A:0<=(e:Int):=O;have B:e<=(f:Int):=O;have D:f<=(b.size:Int):=O;clear g u l;refine v_ ?_;go_wp2_with fail
  go_quiet (fail);go_upto_region 5 with fail;have h:=i nq;have y:=n_ 0 h.1;have z:=n_ 1 h.1;clear i r n o s t;generalize (d.drewN nq).setCell _ _=k at *;go_quiet (fail);go_wp2;go_ret;rw[m,w];exact⟨rfl,h.1.drewN _,h.2.drewN _⟩
 have m:K (La (Ab b) a ⟨e,q⟩=(⟨e,true⟩,replicate a 0)):=aC (λk=>p ⟨k.1,w_⟩);have i:K (∀a,Oj ((d.drewN a).setCell (J c 2) (.bool true)) c b ⟨e,true⟩/\Aa (λh=>h=c) d ((d.drewN a).setCell (J c 2) (.bool true))):=λa=>⟨ht_ 2 _ _ _ (g.drewN a),((Aa.refl (λh=>h=c) d).drewN a).setCell (p:=(J _ 2)) (λ_=>rfl) _⟩;have z:=Qj a v;clear g u l;refine v_ ?_;go_wp2_with fail
 go_cut [22] (λh k=>h=.bool true/\∃nq,k=d.drewN nq)
 case first=>
  cases q
  ·have h:=Nat.lt_of_not_le (λk=>p ⟨rfl,k⟩);go_quiet (fail);go_wp2;go_meet
   grind
  go_quiet (fail);go_wp2;go_meet
  grind
 obtain⟨rfl,nq,w⟩:=hcut;subst w;go_upto_region 3 with fail;have h:=i nq;clear i r n o s t;generalize (d.drewN nq).setCell _ _=k at *;have y:=Ou _ _ _ _ (Py a k _ v x_);go_wp2;go_ret;rw[m];exact⟨rfl,h.1.below q_,h.2.alloc _⟩
def Cg e (c:Int)(a:ByteArray)(b:Cu) g (o:Oj g e a b)(u:a.size<=4000000)(t:b.k<=a.size):C_ 183 #[P_ e,I c] g λm d=>m=.returned (.int .i64 (Cv (Ab a) c b).2)/\Oj d e a (Cv (Ab a) c b).1/\Aa (λf=>f=e) g d:=by
 have n:=Io _ 1 a b g o C u t;have k:=Tw (strOfNums (La (Ab a) 1 b).2);have A:(strOfNums (La (Ab a) 1 b).2).size=1:=(by rw[Bk,Ib]);rw[Rx (Nc (Po a) 1 b)] at k;have⟨x,l⟩:=ez_ (Cv (Ab a) c b);rw[l];have d:=Y l.s;unfold Cv at d;clear o l;generalize La (Ab a) 1 b=w at *;generalize Ys w.2=r at *;refine v_ ?_;go_wp2_with fail
 apply n.m;rintro m B ⟨rfl,f,q⟩;have i:=T_ f q;clear n q;have z:=R_ 2 _ _ f;have y:=n_ 2 f;clear f;go_wp2_with fail
 apply (k _ O).m;rintro m D ⟨rfl,v⟩;obtain rfl:=v.s;clear k
 by_cases p:c<r
 ·have j:=Y (d.T (aD p));have h:=i.1.g;have s:=T_ h.1 (i.2.T h.2);clear d h;go_wp2;go_ret;rw[j];exact⟨rfl,s⟩
 have j:=Y (d.T (aC p));have h:¬(r:Int)>c:=O;clear d;go_wp2;go_ret;rw[j];exact⟨rfl,i⟩
end Go.Proofs.YtfcgnpchbcmdeaaGreat
