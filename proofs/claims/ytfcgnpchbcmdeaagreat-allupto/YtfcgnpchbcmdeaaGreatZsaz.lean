import Derived.Test.YtfcgnpchbcmdeaaGreatZsax
open Array renaming size->B,toList->Y4,setIfInBounds->YS
open Or renaming inr->ZJ,inl->ZM
open Option renaming some->T,none->ZP,some->Z2
open Go.Value renaming ownBlock->ZW,slice->ZH,tuple->Y5,bool->ZR,agg->Y9,int->ZX,pointer->Y7
open _root_ renaming Nat->H,List->U,Int->E,ByteArray->ZC,rfl->X,Array->YZ,Bool->ZG,Option->Y0,List->Z1
open Go renaming Value->ZY,World->ZT,maxLen->Y2,strOfNums->ZB
open List renaming length->F,getD->Z
open Go.Ending renaming returned->ZI
open Int renaming toNat->ZL
open Bool renaming true->Z0,false->ZZ
open Go.World renaming alloc->ZN,ownsRow->ZD,drewN->Y1,cell?->ZV,setCell->ZO,grownBy->Y3,frozen?->YT
open Go.IntKind renaming i64->ZQ
open Go.Proofs renaming intOf->ZA
open ByteArray renaming size->ZK
namespace Go.Proofs.YtfcgnpchbcmdeaaGreat
set_option linter.all false
set_option maxRecDepth 100000
set_option maxHeartbeats 8000000
open Go.RowKit List Nat Go.World Go.Proofs.Tryz Go.Value Go.IntKind Go.Lib Go.Region
def Nz.a{e j t g b o k m n}(p:Ek e g b)(q:Aa (λa=>g a<=13∨g a=99) e j)(A:∀d,d<4->n[d]? =m[d]?)(D:∀a,B e.1<=a->b a<=13∨b a=99)(G:∀a,a<B e.1->g a=99->b a<=13∨b a=99)(z:Nz j t b o k n):Nz e t g o k m:=by
 obtain⟨i,y,u,l,v,w,N,x⟩:=z;have M:=q.size
 have s:∀a,b a<=13∨b a=99->i a<=13∨i a=99:=λa c=>by
  by_cases h:a<B j.1
  ·rcases c with f|f
   ·rcases l a h with r|r
    omega;omega
   exact x a h f
  grind
 refine⟨i,y,u,p.T M l,q.c v (λa c=>?_),λd r=>(w d r).T (A d r),λa c=>s a (D a c),λa c L=>s a (G a c L)⟩
 by_cases h:a<B e.1
 ·left
  rcases p a h with f|f
  exact ZJ f;omega
 omega
def rl.a{g h b e c d f}(q:rl g h b e c f d)(r:∀a,ZW f=T a->b a=99):Nz g h b e (c+1) d:=by obtain⟨s,o,i,j,k,l,m,t,n⟩:=q;exact⟨s,o,i,j,k.m (λa _ p=>p.imp id (r a)),l,m,n⟩
section
variable {w w':ZT} {dp gb db yb base n:H} {D:Ft} {vF vB vC vX:ZY} {kvs:U (ZY×ZY)} {bvs cvs:U ZY} {a:U XS}
def BdQ(e:H)(i:ZT)(a:U E)(b:U ZC)(h:E)(j:Ending)(w':ZT):Prop:=∃c f d g,j=ZI (Y5 #[ZH c (F a) f,ZH d (F b) g,I h])/\Ad w' e (V c (F a) f) a/\Bj w' e (V d (F b) g) b/\E_ i w'
def ZaU x (A:Pj n D a):∃i j r,F i<=1000/\F j<=1000/\∀c,Ly c dp gb db yb base n D vF vB vC vX kvs bvs cvs a->(C_ 27 #[P_ gb,I x] c λd w'=>BdQ (B c.1) c i j r d w')/\(C_ 139 #[P_ yb,I x] c λd w'=>BdQ 0 c i j r d w'):=by
 have q:=A.ok;have M:=q.i
 by_cases s:0<=x/\x<(F D.g:E)
 ·obtain⟨b,z⟩:∃b:H,x=b:=⟨ZL x,O⟩;subst z;have g:b<F D.g:=O;have L:=q.x b g;refine⟨bdI (Z D.g b Aj).e,bdS (Z D.g b Aj).e,0,?_,?_,λc e=>⟨?_,?_⟩⟩;unfold bdI;grind;unfold bdS;grind;apply (ze _ _ b n _ c e.x q g).m;rintro d w' ⟨h,p,rfl,f⟩;obtain⟨k,m,rfl⟩:=f.x.d;obtain⟨l,o,rfl⟩:=f.z.a;exact⟨k,m,l,o,X,f.x,f.z,f.A⟩;apply (ZdM b e.y g).m;rintro d w' ⟨rfl,G,rfl⟩;have⟨f,h⟩:=e.y.A.j b g;have t:=e.y.x b g;have w:bdI (Z D.g b Aj).e=(Z D.g b Aj).e.f:=(by unfold bdI;split;rename_i k;exact(t.2.2.1 k).s;rfl);have y:bdS (Z D.g b Aj).e=(Z D.g b Aj).e.c:=by unfold bdS;split;rfl;rename_i k;exact(t.2.2.2 (by simpa using k)).s
  rw[<- w] at f;rw[<- y] at h;have⟨k,m,u⟩:=f.d;have⟨l,o,v⟩:=h.a;rw[u] at f;rw[v] at h;have p:E_ c _:=below_drewN y_ G;exact⟨k,m,l,o,by rw[u,v],Ad.q (base:=0) (Da f v_) p,Bj.q (base:=0) (Da h v_) p,p⟩
 refine⟨[],[],1,v_,v_,λc e=>⟨?_,?_⟩⟩;apply (Zd5 x c e.x s O).m;rintro d w' ⟨rfl,rfl⟩;exact⟨ZP,0,ZP,0,X,Ad.nil,Bj.nil,y_⟩;apply (Zbc x e.y.h.j s).m;rintro d w' ⟨rfl,rfl⟩;exact⟨ZP,0,ZP,0,X,Ad.nil,Bj.nil,y_⟩
def xx{o v r b1 f5 d4 d5 f6 d6 x g7 d9 f8 g5 e1 e0 g0 f9 g6 wc f7}(e2:Gz w o v b1 r)(W:∀b,B w.1<=b->o b=99)(h5:r<=10000000)(R:Ly w dp gb db yb base n D vF vB vC vX kvs bvs cvs a)(f0:Pj n D a):C_ 77 #[P_ v,P_ dp,Y9 #[I 10,I f5,I d4,V d9 e1 e0,I d5,I f6,I d6,V f8 g0 f9,V g5 g6 wc,Q_ f7,I x,I g7]] w λd w'=>d=ZI (ZR Z0)/\Nz w w' o v (r+2) b1:=by
 have⟨a8,Q,c3,e6,e8,b4⟩:=ZaU (dp:=dp) (gb:=gb) (db:=db) (yb:=yb) (base:=base) (vF:=vF) (vB:=vB) (vC:=vC) (vX:=vX) (kvs:=kvs) (bvs:=bvs) (cvs:=cvs) x f0;have q:=K_ e2 W;have a7:K (∀k,Below _ w k->_):=λk y=>R.q y;have⟨c6,c7⟩:=Y_ (λk y=>(b4 k (R.q y)).1) (λk y=>(b4 k (R.q y)).2);have⟨G,e7⟩:=Z_ (F a8);have⟨i,e9⟩:=Z_ (F Q);have e:=x4_ e7 e9 e6 e8;clear R f0 b4 e2 W e7 e9 e6 e8;refine dl_ ?_;go_enter func77,ntmps77;go_upto_region 10 with fail;generalize b8:ZN w (O_ #[I 10,I f5,I d4,V d9 e1 e0,I d5,I f6,I d6,V f8 g0 f9,V g5 g6 wc,Q_ f7,I x,I g7] 93)=L;have h:E_ w L:=(by rw[<- b8];exact r_);have a3:D_ L (B w.1) 10 (I x):=(by rw[<- b8];simp[go_sem]);clear b8;have⟨b2,_,_,_,_⟩:=(a7 L h).cells
 go_cut [12,13,14] (λd f j c=>∃l m g p,d=ZH l G m/\f=ZH g i p/\j=I c3/\K (Ad c (B w.1) (V l G m) a8/\Bj c (B w.1) (V g i p) Q/\E_ L c))
 case first=>
  go_region_held3 (λw'=>D_ w' dp 0 (P_ gb)/\D_ w' (B w.1) 10 (I x)) (first|exact⟨b2,a3⟩|exact⟨Ah aA b2,Ah aA a3⟩) (first|(go_at_call 27;apply (c6 _ h.drew).m;rintro d b9 ⟨l,b3,g,u,rfl,b5,b6,c⟩;have aA:Below (B L.1) _ _:=y_.drew.T c))
  all_goals go_wp2
  all_goals go_meet
  all_goals exact⟨l,b3,g,u,by rw[e.1],by rw[e.2.1],X,by rw[<- e.1];exact Da b5 h.size,by rw[<- e.2.1];exact Da b6 h.size,aA⟩
 obtain⟨l,b3,g,u,rfl,rfl,rfl,p⟩:=hcut;have c0:=Ah p.2.2 a3;have z:=h.T (p.2.2.m h.size);have⟨_,m,_,_,_⟩:=(a7 wc z).cells;have a6:=K_ p.1 p.2.1;clear b2 a3 h p;generalize wc=b9 at *;go_upto_region 11 with fail;go_cut [15,16,17] (λd f j c=>∃s A t M,d=ZH s G A/\f=ZH t i M/\j=I c3/\K (Ad c 0 (V s G A) a8/\Bj c 0 (V t i M) Q/\E_ b9 c))
 case first=>
  go_region_held3 (λw'=>D_ w' dp 1 (P_ yb)/\D_ w' (B w.1) 10 (I x)) (first|exact⟨m,c0⟩|exact⟨Ah aA m,Ah aA c0⟩) (first|(go_at_call 139;apply (c7 _ z.drew).m;rintro d g1 ⟨s,d7,t,d8,rfl,b5,b6,c⟩;have aA:Below (B b9.1) _ _:=y_.drew.T c))
  all_goals go_wp2
  all_goals go_meet
  all_goals exact⟨s,d7,t,d8,by rw[e.1],by rw[e.2.1],X,by rw[<- e.1];exact b5,by rw[<- e.2.1];exact b6,aA⟩
 obtain⟨s,d7,t,d8,rfl,rfl,rfl,j⟩:=hcut;have N:=K_ (a6.1.q j.2.2) (a6.2.q j.2.2);have a5:=Y (z.T (j.2.2.m z.size));have c8:=Tt 0 N.1 j.1 (p_ e.2.2.1);have c5:=Y j.2.1;clear m c0 z j a6 c6 c7;generalize wc=g1 at *;go_wp2_with fail
 apply c8.m;rintro d g2 ⟨rfl,h7,f3⟩;have A:E_ g1 g2:=f3 ▸ (below_drewN y_ _);have a4:=Y (a5.T (A.m a5.size));have P:=K_ (N.1.q A) (N.2.q A);have c9:=Zag 0 P.2 (c5.q A) (p_ e.2.2.2);clear f3 A c8 N c5 a5;go_wp2_with fail
 apply c9.m;rintro d g3 ⟨rfl,h8,f4⟩;have a0:E_ g2 g3:=f4 ▸ (below_drewN y_ _);have M:=Y (a4.T (a0.m a4.size));have f:=K_ (P.1.q a0) (P.2.q a0);have e3:=q.1.z (S:=λ_=>False) (.a M) (λ_ _ d=>d.elim) (Ek.refl _ _);have f1:=λb c=>q.2 b (B_ f.1 b c).1;have f2:=λb c=>q.2 b (B_ f.2 b c).1;have c1:=e3.c (Da f.1 v_:Ad _ 0 _ _) f1 (p_ e.2.2.1) O;clear f4 a0 c9 P a4 e3;go_wp2_with fail
 apply c1.m;rintro d g4 ⟨rfl,a1⟩;obtain⟨h3,h0,d0,d1,a9,d2,g9,d3,b0⟩:=a1
 have e5:∀b,ZW (ZH g i u)=T b->ZW (ZH l G b3)≠T b:=λb c d=>by
  have⟨c2,a2⟩:=Ac f.1 d;have⟨c4,b7⟩:=Ac f.2 c
  grind
 have e4:Bj g4 0 (V g i u) Q:=a9.M (Da f.2 v_) (λb c d=>w_);have b7:=λb c=>d3 b (B_ f.2 b c).2 (f2 b c) (e5 b c);have c2:=d0.g e4 b7 (p_ e.2.2.2) O
 have c4:K (∀a2,rl g4 a2 h3 v (r+1) (V g i u) h0->Nz w a2 o v (r+2) b1):=λa2 h4=>by
  have h1:=h4.a b7;have h6:=M.size;have h2:=(Aa.a (S:=λb=>o b<=13∨o b=99) M).c a9 (λb c=>w_);refine Nz.a (λb c=>d1 b O) h2 d2 (λb c=>?_) (λb c W=>b0 b O W) h1
  by_cases g8:b<B g3.1
  exact b0 b g8 (q.2 b c)
  grind
 clear d0 d1 a9 d2 g9 d3 b0 e4 b7 c1 e5 f1 f2 f M q a7;go_wp2_with fail
 apply c2.m;rintro d a2 ⟨rfl,a1⟩;have g8:=Y (c4 _ a1);clear a1 c2 c4;go_wp2_with fail
 apply (Ee).m;rintro d h6 ⟨rfl,h1⟩;obtain rfl:=h1.s;go_wp2_with fail
 apply (Ee).m;rintro d h9 ⟨rfl,h2⟩;obtain rfl:=h2.s;go_wp2;go_ret;exact⟨s_,g8⟩
end
def Mx.M{i e f b j}(k:Mx i e f b b j)(p:e<=f)(v:b<=1000):∃d:U ZY,F d=b/\ZD i e 25 1 (L_ f b b) b d/\(∀a,a<b->Ad i e (Z d a Ir) (Z j a []))/\∀g a,g<a->a<b->∀h,ZW (Z d g Ir)=T h->ZW (Z d a Ir)≠T h:=by
 have⟨c,l,m,q,r⟩:=k.n;have o:F (Y4 c)=b:=(by simp[m]);have s:∀a,a<b->c[a]? =T (Z (Y4 c) a Ir):=w_;refine⟨Y4 c,o,⟨O,ZJ ⟨f,b,c,X,p,l,x_,by unfold Y2;omega,O,w_⟩⟩,λa n=>?_,λg a t n h u=>?_⟩
 ·grind
 grind
section
variable {w w':ZT} {dp gb db yb base n:H} {D:Ft} {vF vB vC vX:ZY} {kvs:U (ZY×ZY)} {bvs cvs:U ZY} {a:U XS}
def rr{z v u A c5 a5 a6 c6 a7 x d4 a9 c8 d2 b1 b0 d0 c9 d3 wc c7}(b3:Gz w z v A u)(G:∀b,B w.1<=b->z b=99)(e1:u<=10000000)(r:Ly w dp gb db yb base n D vF vB vC vX kvs bvs cvs a)(c1:Pj n D a):C_ 77 #[P_ v,P_ dp,Y9 #[I 11,I c5,I a5,V a9 b1 b0,I a6,I c6,I a7,V c8 d0 c9,V d2 d3 wc,Q_ c7,I x,I d4]] w λe w'=>e=ZI (ZR Z0)/\Nz w w' z v (u+5) A:=by
 have W:=c1.ok;have q:=Y W;have p:=K_ b3 G;have t:K (∀a4,Below _ w a4->_):=λa4 e2=>r.q e2;have⟨k,L⟩:=Z_ (F D.f);have N:=Y L;have f7:k<=4:=(by rw[<- L];exact W.l);have⟨d8,f3,c2⟩:=r.y.w.d;rw[length_map,length_map,L] at c2;subst c2;clear r c1 b3 G L W;refine q_ ?_;go_upto_region 18 with fail;generalize c4:ZN w (O_ #[I 11,I c5,I a5,V a9 b1 b0,I a6,I c6,I a7,V c8 d0 c9,V d2 d3 wc,Q_ c7,I x,I d4] 93)=d1;have s:E_ w d1:=(by rw[<- c4];exact r_);clear c4;have⟨e0,_,_,_,_⟩:=(t d1 s).cells;have a2:=sd (t _ s).x q;go_wp2_with fail
 apply a2.m;rintro e d ⟨e6,rfl,b9,Q,b5⟩;have R:=s.T (b5.m s.size);rw[N] at Q;have⟨a1,c3,c0,b6,b4⟩:=Q.M b9 O;have c:=x4_ c3 c0 b6 b4;have o:=K_ R s.size;have⟨_,f1,_,_,f2⟩:=(t d R).cells;rw[N];clear e0 a2 Q s b5 R b9 c3 c0 b6 b4;go_upto_region 21 with fail;go_loopw [21,22] (λg f h=>∃(i b:H),g=ZR Z0/\f=ZX ZQ i/\i<=k/\K (h=Y1 d b)) (λ_ f _=>k-ZL (ZA f))
 exact⟨0,0,s_,X,v_,X⟩;obtain⟨i,b,rfl,rfl,f8,a3⟩:=hrel;have e4:=a3.out;subst e4;clear a3
 by_cases a0:i<k
 ·have f9:=F_ i k;have f:E_ d _:=below_drewN y_ b;have l:=o.1.T (f.m o.1.size);have m:=t _ l;have⟨_,f5,_,_,f6⟩:=m.cells;have y:=c.2.1;have g:=c.2.2.1 i a0;have e9:_=T (Z a1 i Ir):=Ah f (Hn y (by rw[Qc,Qd (c.1 ▸ a0)];rfl));have⟨e7,f4,d7,e5,M,f0,_,a8,_,_⟩:=m.y.w.at (i:=i) (by rw[length_map,length_map,N];exact a0);have e3:d8=T ⟨e7,0,ZP⟩:=(by injection M);subst e3;have b8:Z (D.f.map BS.fs|>.map An) i []=Z (ce D) i []:=(by grind [Yy]);have j:=m.y.w.j i w_;rw[a8] at j;rw[b8] at f0 j;have b7:F (Z (ce D) i [])<=1000000:=(by have h:i<F D.f:=w_;rw[Yy h,Ak];have:=q.r _ (q.f h);omega);have⟨P,d9,b2⟩:=g.d;rw[b2] at e9 g
  have d5:K (∀e,C_ 140 #[V P (F (Z (ce D) i [])) d9,V d7 (F (Z (ce D) i [])) e5] (Y1 (Y1 d b) e) λd6 w'=>d6=ZI (ZR Z0)/\∃h,w'=Y1 (Y1 d b) h):=λe=>by
   have h:Below (B (Y1 d b).1) (Y1 d b) _:=below_drewN y_ e;apply (Tt _ ((g.q f).q h) (j.q h) b7).m
   grind [drewN_drewN]
  clear g j m a8 M b8 b2 y l b7;generalize (F (Z (ce D) i []))=g0 at *;generalize h:Y1 d b=e8 at *;have d6:=Y h;clear h f;go_upto_region 23 with fail;go_quiet (first|(go_at_call 140;exact(d5 _).m (λ_ _ r=>⟨r.1,r.2⟩)));go_wp2;go_roundw;exact⟨i+1,_,X,g_,O,by rw[<- d6];exact drewN_drewN _ _ _⟩;exact z_
 have e7:¬i<(k:E):=O;have f:E_ d _:=below_drewN y_ b;have l:=o.1.T (f.m o.1.size);have a8:=o.2;have b2:=p.1.z (S:=λ_=>False) (.a l) (λ_ _ e=>e.elim) (Ek.refl _ _);have y:ZD (Y1 d b) 0 25 1 (L_ e6 k k) (F a1) a1:=by rw[c.1];exact(Aa.a (S:=λ_=>False) f).M (Da c.2.1 v_) (λ_ _=>id)
 have M:=b2.f (Ls:=λh=>Z (ce _) h []) y (λj g=>p.2 j (aG a8 (B_ c.2.1 j g).1)) (λh m=>by
  have P:=c.2.2.1 h (by rw[<- c.1];exact m)
  exact⟨Ad.q (base:=0) (Da P v_) f,λj g=>p.2 _ (aG a8 (B_ P _ g).1)⟩) (λh=>by
  rcases Nat.lt_or_ge h (F D.f) with m|m
  rw[Yy m,Ak];have:=q.r _ (q.f m);omega
  grind [ce]) (λi h b7 m j g=>c.2.2.2 i h b7 (by rw[<- c.1];exact m) j g) (p_ c.1) e1 (λj g=>p.2 j (aG l.size g))
 rw[c.1] at M
 have m:K (∀h,Nz (Y1 d b) h z v (u+k+1) A->Nz w h z v (u+5) A):=λh e5=>by obtain⟨e3,d9,b7,b8,d5,d6,P,d7⟩:=e5;exact Nz.a (Ek.refl _ _) (.a l) (λ_ _=>X) (λj g=>ZJ (p.2 _ g)) (λj _ G=>ZJ G) ⟨e3,d9,b7.P O,b8,d5,d6,P,d7⟩
 clear b2 y f l p t c o q;generalize (Y1 d) b=e8 at *;go_wp2_with fail
 apply M.m;rintro e h ⟨rfl,g⟩;have j:=Y (m _ g);clear g M m;go_wp2;go_ret;exact⟨X,j⟩
end
def Hc.P{e f d c N a b}(h:Hc e f d c N b)(o:N<=a):Hc e f d c a b:=by obtain⟨p,g,i,j,k,l,m,n⟩:=h;exact⟨p,g,i.P o,j,k,l,m,n⟩
section
variable {w w' wr:ZT} {dp gb db yb base n:H} {D:Ft} {vF vB vC vX:ZY} {kvs:U (ZY×ZY)} {bvs cvs:U ZY} {a:U XS}
def tv{j i h k g A s t G u} x S {v M Q z y P N R wc L}(e:Gz w j i k h)(d:∀r,B w.1<=r->j r=99)(q:h<=10000000)(c:Ly w dp gb db yb base n D vF vB vC vX kvs bvs cvs a)(f:Pj n D a):C_ 77 #[P_ i,P_ dp,Y9 #[I g,I A,I s,V v z y,I t,I G,I u,V M P N,V Q R wc,Q_ L,I x,I S]] w λb w'=>b=ZI (ZR Z0)/\Hc w w' j i (h+5) k:=by
 by_cases o:g=8
 subst o;exact(Zdm c f).m (λ_ _ b=>⟨b.1,.a e b.2 d O⟩)
 by_cases p:g=9
 subst p;exact(Zdl c f).m (λ_ _ b=>⟨b.1,.a e b.2 d O⟩)
 by_cases l:g=10
 subst l;exact(xx e d q c f).m (λ_ _ b=>⟨b.1,.b b.2 O⟩)
 by_cases m:g=11
 subst m;exact(rr e d q c f).m (λ_ _ b=>⟨b.1,.b b.2 O⟩);exact(ZaO c f o p l m).m (λ_ _ b=>⟨b.1,.a e b.2 d O⟩)
def Hc.i{c g d a f b}(h:Hc w w' c g d f)(i:Kc w c a b)(n:13<a)(o:a≠99):b w':=by obtain⟨q,l,j,k,e,_⟩:=h;exact i _ (e.m (λp _ m=>O))
def Zdk{d c b e f} P Q r s R t x i u W a2 y v a1 a0 a3 wc S (g:Hc w wr d c b f)(G:b<=10000000)(M:Kc w d e (λj=>Ly j dp gb db yb base n D vF vB vC vX kvs bvs cvs a))(z:13<e)(A:e≠99)(N:Pj n D a):C_ 77 #[P_ c,P_ dp,Y9 #[I P,I Q,I r,V u y v,I s,I R,I t,V W a1 a0,V a2 a3 wc,Q_ S,I x,I i]] wr λh w'=>h=ZI (ZR Z0)/\Hc w w' d c (b+5) f:=by have L:=g.i M z A;obtain⟨a5,a4,k,l,m,o,p,q⟩:=g;exact(tv x i k q G L N).m (λ_ _ h=>⟨h.1,Hc.T l m o p h.2⟩)
def Zmk{d c g M e}(G:Hc w wr d c g e)(a8:g<=9000000)(x:Kc w d M (λi=>Ly i dp gb db yb base n D vF vB vC vX kvs bvs cvs a))(u:13<M)(v:M≠99)(y:Pj n D a):C_ 42 #[P_ c,P_ dp] wr λA w'=>A=ZI (ZR Z0)/\Hc w w' d c (g+6000) e:=by
 have N:K (∀(_ S W:_) (i:_) (o:_),Hc w i d c o e->_):=λa5 S W i o L a2=>Zdk a5 0 0 0 0 0 S W ZP ZP ZP 0 0 0 0 0 0 ⟨#[]⟩ L a2 x u v y;have⟨a0,a1,a4⟩:=(G.i x u v).y.A.h.1;subst a4
 have z:K (∀i o,Hc w i d c o e->ZV i (J dp 1)=T (P_ yb)/\ZV i (J yb 0)=T (I n)/\ZV i (J yb 1)=T (V a0 (F D.g) a1)):=λi o L=>by
  have⟨_,r,s,t,_⟩:=(L.i x u v).cells
  grind
 have a3:=y.ok.i;have b4:=y.ok.w;have b:K (Hc w _ d c (g+30*(8-8)) e):=G;have⟨p,R⟩:=W_ (F D.g);rw[<- R] at z a3;clear x u v y G R;generalize wr=b7 at *;refine q_ ?_;go_upto_region 2 with fail;go_loopw [5] (λf j=>∃h:H,8<=h/\h<=13/\f=ZX ZQ h/\K (Hc w j d c (g+30*(h-8)) e)) (λf _=>13-ZL (ZA f))
 grind
 clear b;obtain⟨h,b3,b2,rfl,b⟩:=hrel
 by_cases b1:h<=12
 ·have P:(h:E)<=12:=O;have m:K (Hc w _ d c (g+_+5*0) e):=b;clear b;generalize wr=a7 at *;go_upto_region 5 with fail;go_loopw [6] (λj k=>∃f:H,f<=6/\j=ZX ZQ ((f:E)-1)/\K (Hc w k d c (g+30*(h-8)+5*f) e)) (λj _=>6-ZL (ZA j+1))
  grind
  clear m;obtain⟨f,s,rfl,b⟩:=hrel
  by_cases r:f<=5
  ·have Q:(f:E)-1<=4:=O;have l:=N (h:H) ((f:E)-1) 0 _ _ b O;have j:i64.wrap (f-1+1)=(f+1:H)-1:=(by rw[Au O O];omega);have t:f-1+1=((f+1:H):E)-1:=O;go_wp2_with fail
   apply l.m;rintro A a6 ⟨rfl,q⟩;have k:K (Hc w _ d c (_+5*(f+1)) e):=q;clear q l b;go_wp2;go_roundw;exact⟨f+1,O,w_,k⟩;exact z_
  have j:f=6:=O;subst j;have k:K (Hc w wr d c (g+30*(h+1-8)) e):=w_;clear b;go_wp2;go_roundw;exact⟨h+1,O,O,g_,k⟩;exact z_
 have gk:¬(h:E)<=12:=O;have m:K (Hc w _ d c (g+150+25*0) e):=b.P O;clear b;generalize wr=a7 at *;go_upto_region 11 with fail;go_loopw [8] (λj k=>∃f:H,f<=n+1/\j=ZX ZQ f/\K (Hc w k d c (g+150+25*f) e)) (λj _=>n+1-ZL (ZA j))
 grind
 clear m;obtain⟨f,b5,rfl,b⟩:=hrel;have⟨r,s,t⟩:=z _ _ b
 by_cases b6:f<=n
 ·have P:f<=(n:E):=O;have m:K (Hc w _ d c (_+_+5*0) e):=b;clear b;go_upto_region 14 with fail;clear r s t;generalize wr=b8 at *;go_loopw [9] (λk l=>∃j:H,j<=p+1/\k=ZX ZQ j/\K (Hc w l d c (g+150+25*f+5*j) e)) (λk _=>p+1-ZL (ZA k))
  grind
  clear m;obtain⟨j,a9,rfl,b⟩:=hrel;have⟨r,s,t⟩:=z _ _ b
  by_cases b0:j<=p
  ·have Q:j<=(p:E):=O;have l:=N 9 (f:H) (j:H) _ _ b O;go_wp2_with fail
   apply l.m;rintro A a6 ⟨rfl,q⟩;have k:K (Hc w _ d c (_+5*(j+1)) e):=q;clear q l b r s t;go_wp2;go_roundw;exact⟨j+1,O,g_,k⟩;exact z_
  have Q:¬j<=(p:E):=O;have k:K (Hc w wr d c (g+150+25*(f+1)) e):=b.P O;clear b;go_wp2;go_roundw;exact⟨f+1,O,g_,k⟩;exact z_
 have P:¬f<=(n:E):=O;have j:K (Hc w _ d c (g+6000) e):=b.P O;clear b;go_wp2;go_ret;exact⟨X,j⟩
end
def ZoM:(prog.info? 96).map (λa=>(a.zero,a.size,a.bytes))=T (T (Y7 ZP),1,8):=k_
def ZmT:(prog.info? 208).map (λa=>(a.zero,a.size,a.bytes))=T (T (Y7 ZP),1,8):=k_
structure Pg(e b:ZT)(f j m n:H)(i:YZ ZY)(h:ZY)(g)(k l)(c)(d):Prop where
 t:B e.1<=c
 o:b.1[c]? =T (O_ #[k,l] m)
 v:WB b f (YS i j d)
 M:ZD b 0 n 1 d (F g+1) (g++[P_ c])
 D:∀a,ZW d=T a->ZW h=T a∨B e.1<=a
 u:Aa (λa=>a=f∨ZW h=T a) e b
def WB.o{d a f}(h:WB d a f){e b l k:H}{c m}(j:ZD d e b l c k m)(o:b≠90):ZW c≠T a:=λg=>by
 have⟨n,i⟩:=Ac j g;rw[h] at i
 grind
def Wj b {a}:C_ 127 #[P_ b,Y7 ZP,Y7 ZP] a (V_ (ZR Z0) a):=by refine dl_ ?_;go_enter func127,ntmps127;go_wp2;go_ret;exact⟨X,X⟩
def Zb0(a:ZT)(d f:H){b c}:∀e g,[c][e]? =T g->ZV (ZN (ZN a (O_ b d)) (O_ #[c] f)) (((J (B a.1+1) 0):Addr).add e)=T g:=by have:=one_new (ZN a (O_ b d)) #[c] f;rw[show B (ZN a (O_ b d)).1=B a.1+1 by simp] at this;exact this
def Pg.N{a g}{d j k e:H}{m l v' h i f}(o:WB a d m)(s:ZD a 0 e 1 l (F f) f)(t:e≠90)(r:ZD g 0 e 1 v' (F f+1) (f++[P_ (B a.1)]))(n:Y3 (ZN (ZN a (O_ #[h,i] k)) (O_ #[P_ (B a.1)] e)) g (ZW l))(v:∀b,ZW v'=T b->ZW l=T b∨B a.1<=b):WB g d m/\Pg a (ZO g (J d j) v') d j k e m l f h i (B a.1) v':=by
 have w:=o.o s t;have x:=o.lt;have u:Aa (λb=>b=d∨_) a _:=(((Aa.refl _ a).alloc _).alloc _).grown n (λb c _=>ZJ c);have p:=((o.alloc _).alloc _).grown n (λc=>w c.s);have z:g.1[B a.1]? =T (O_ #[h,i] k):=(by have q:(ZN (ZN a (O_ #[h,i] k)) (O_ #[P_ (B a.1)] e)).1[_]? =_:=(hc_ s_).T (ha_ a _);refine(n.block _ (Qb q).1 (λc=>?_)).T q;have:=(B_ s _ c.s).2;omega);have q:=p.o r t;refine⟨p,x_,?_,p.set j _,?_,v,u.setCell (λ_=>ZM X) _⟩
 ·grind [Below.heap_setCell]
 exact(Aa.setCell (S:=λb=>b=d) (Aa.refl _ _) (λ_=>X) _).M r (λb y c=>q w_)
def Wk c l p g a f b (e:WB b c g)(d:g[2]? =T a)(i:ZD b 0 96 1 a (F f) f)(M:F f<=10000000):C_ 127 #[P_ c,P_ l,P_ p] b λj k=>j=ZI (ZR Z0)/\∃h o,Pg b k c 2 137 96 g a f (P_ l) (P_ p) h o:=by
 have⟨w,x,y,z,A⟩:=info_parts ZoM;have⟨s,k,_⟩:=y4_ e i (e.o i C) e.lt;have t:ZV b (J c 2)=T a:=(by rw[e.cell];exact d);have u:=λj=>e.frozen j;have q:=Y d;clear e i d;refine dl_ ?_;go_enter func127,ntmps127;go_wp2_with (at_builtin;apply Dl X _ _ 82 X 0 96 w _ 1 8 underlying82 x y z A X C a _ f X (ra_ (ra_ k _) _) _ 1 1 _ X X (Zb0 b _ 96) (by intro m h;simp only[mem_cons,not_mem_nil,or_false] at h;subst h;rfl) C (by unfold Y2;omega) O v_)
 rintro o D ⟨m,d,v,_,P,N,rfl⟩;have⟨h,n⟩:=Pg.N (j:=2) s k C m d (λG r=>w_);have r:K (Pg b _ c 2 _ 96 g a _ _ _ _ _):=n;have G:ZV D (J c 2)=T a:=(by rw[h.cell];exact q);have L:=λj=>h.frozen j;clear m d v h n t u;go_wp2;go_ret;exact⟨X,_,_,r⟩
structure RP where
 d:H
 ib:H
 c:H
 n:H
 e:H
 m:H
 a:H->ZG
 sc:H->E
 ct:H->E
 k:E
 size:H
 b:H
 T:ZC
 u:ZG
def ptR(a:RP):ZY:=P_ a.d
def zw(a:H):ZY:=P_ a
structure Zje(c:ZT)(b:H->H)(d)(a:RP):Prop where
 o:c.1[a.d]? =T (O_ #[P_ a.ib,P_ a.c] 210)
 f:b a.d=16
 cf:Vn a.m a.a a.sc a.ct a.k a.size a.b
 x:Ru c b d a.ib a.m a.a a.sc a.ct a.k a.size a.b a.T a.u
 y:Oa c b (d+1) a.c a.n a.e a.m a.a a.sc a.ct a.k a.size a.b a.T a.u
def Zme(q:ZT)(l:H->H)(i:H):Prop:=∃j h r e c a o m n p k f g b,Kc q l 17 (λd=>Ly d i j h r e c a o m n p k f g b)/\Pj c a b
structure ZS where
 p:H->Prop
 u:ZY
 v:ZY
structure Ce(g:ZS)(c)(b)(o)(d)(m l)(i j)(f:U RP)(h:U H):Prop where
 r:Gz c b o d m
 N:∀a,B c.1<=a->b a=99
 D:d[1]? =T i
 M:ZD c 0 208 1 i (F (f.map ptR)) (f.map ptR)
 P:∀a,ZW i=T a->b a=14
 G:d[2]? =T j
 y:ZD c 0 96 1 j (F (h.map zw)) (h.map zw)
 z:∀a,ZW j=T a->b a=15
 w:∀k e,f[k]? =T e->Zje c b (100+2*k) e
 x:∀e∈f,ZK e.T<=l
 L:∀n∈h,Zme c b n
 t:(∀a,g.p a->a<B c.1/\b a=98)/\d[0]? =T g.u/\d[3]? =T g.v
def Dh(a:ZS)(c d:ZT):Prop:=Aa (λb=>¬a.p b) c d
def Dh.a{c a b}(d:E_ a b):Dh c a b:=Aa.a d
def Dh.T{a b c d}(e:Dh a b c)(f:Dh a c d):Dh a b d:=Aa.T e f
section
variable {w w':ZT} {o a:H->H} {g N N' L L' t:H} {c d:YZ ZY} {v1 v2 h v2':ZY} {e:U RP} {f:U H} {r:RP} {S:H->Prop} {b:ZS}
def Zje.z(c:Zje w o t r)(h:Aa S w w')(g:∀b,b<B w.1->S b->o b≠16/\o b≠t/\o b≠t+1)(f:Ek w o a)(j:100<=t):Zje w' a t r:=by have i:=(Qb c.o).1;exact⟨h.g c.o (λd=>(g _ i d).1 c.f),f.at i c.f C,c.cf,c.x.z h (λb e d=>(g b e d).2.1) f O,c.y.z h (λb e d=>(g b e d).2.2) f O⟩
def Zme.z{c}(k:Zme w o c)(s:Aa S w w')(p:∀b,b<B w.1->S b->o b≠17)(n:Ek w o a):Zme w' a c:=by obtain⟨j,i,y,f,r,d,v,t,u,x,q,g,h,e,l,m⟩:=k;exact⟨j,i,y,f,r,d,v,t,u,x,q,g,h,e,l.i s p n,m⟩
def Ho{i h d:H}{e j}(f:ZD w 0 i 1 e h j)(g:∀b,ZW e=T b->o b=d)(p:Aa S w w')(n:∀b,b<B w.1->S b->o b≠d)(m:Ek w o a)(l:d≠99):ZD w' 0 i 1 e h j/\∀b,ZW e=T b->a b=d:=
 ⟨p.M f (λb c k=>n b (B_ f b c).2 k (g b c)),λb c=>m.at (B_ f b c).2 (g b c) l⟩
def Ce.l(i:Ce b w o g c N L v1 v2 e f)(l:Ek w o a)(m:B w.1<=B w'.1)(k:d[0]? =c[0]?/\d[3]? =c[3]?:=by first|exact⟨rfl,rfl⟩|exact⟨aH O,aH O⟩):(∀h,b.p h->h<B w'.1/\a h=98)/\d[0]? =T b.u/\d[3]? =T b.v:=⟨λh j=>⟨Qh (i.t.1 h j).1 m,l.at (i.t.1 h j).1 (i.t.1 h j).2 C⟩,k.1.T i.t.2.1,k.2.T i.t.2.2⟩
def Ce.A(h:Ce b w o g c N L v1 v2 e f)(l:Aa S w w')(j:∀a,a<B w.1->S a->o a≠98):Dh b w w':=l.m (λa i d k=>j a i d (h.t.1 a k).2)
def Ce.k(i:Ce b w o g c N L v1 v2 e f)(s:Gz w' a g d N')(k:Ek w o a)(j:Aa (λh=>o h<=13∨o h=99) w w')(l:∀n,n<4->d[n]? =c[n]?)(t:∀h,B w'.1<=h->a h=99):Ce b w' a g d N' L v1 v2 e f/\Dh b w w':=by have q:∀{m},13<m->m≠99->∀h,h<B w.1->(o h<=13∨o h=99)->o h≠m:=O;have⟨z,A⟩:=Ho i.M i.P j (q C C) k C;have⟨D,G⟩:=Ho i.y i.z j (q C C) k C;refine⟨⟨s,t,(l 1 C).T i.D,z,A,(l 2 C).T i.G,D,G,λy r x=>(i.w y r x).z j (λh _ p=>O) k O,i.x,λu v=>(i.L u v).z j (λh _ p=>O) k,i.l k j.size ⟨l 0 C,l 3 C⟩⟩,i.A j (λh _ p=>O)⟩
def Ce.p(m:Ce b w o g c N L v1 v2 e f)(n:Hc w w' o g N' c):(∃a d,Ce b w' a g d N' L v1 v2 e f)/\Dh b w w':=by obtain⟨a,d,h,i,j,k,p,l⟩:=n;exact⟨⟨a,d,(m.k h i j k l).1⟩,(m.k h i j k l).2⟩
def Ce.i{l r n}(d:Ce b w o g c N L v1 v2 e f)(u:e[l]? =T r)(j:Aa (λh=>o h=100+2*l∨o h=100+2*l+1) w w')(k:Ek w o a)(y:∀h,B w'.1<=h->a h=99)(Q:Zje w' a (100+2*l) n)(i:n.d=r.d)(s:L<=L')(M:ZK n.T<=L'):Ce b w' a g c N L' v1 v2 (e.set l n) f/\Dh b w w':=by
 have P:=(List.getElem?_eq_some_iff.1 u).1
 have v:(e.set l n).map ptR=e.map ptR:=by
  apply ext_getElem?
  grind [ptR]
 have⟨z,A⟩:=Ho d.M d.P j (λh _ i=>O) k C;have⟨D,G⟩:=Ho d.y d.z j (λh _ i=>O) k C;refine⟨⟨d.r.z j (λh _ i=>O) k,y,d.D,v ▸ z,A,d.G,D,G,λx p m=>?_,λp m=>?_,λq t=>(d.L q t).z j (λh _ i=>O) k,d.l k j.size⟩,d.A j (λh _ i=>O)⟩
 ·rw[getElem?_set] at m;split at m
  ·grind
  exact(d.w x p m).z j (λh _ i=>O) k O
 rcases mem_or_eq_of_mem_set m with i|i
 exact aG (d.x p i) s
 grind
end
def esD(e:H)(g:H->ZG)(d:H->E)(c:E)(f:H)(b:RS):U ES:=(range (e+1)).map (λa=>Cp Ra (g a) (d a) c f (b.a a) b.k)
def bbD(e:H)(g:H->ZG)(d:H->E)(c:E)(f:H)(b:RS):U (U H):=(range (e+1)).map (λa=>(b.a a).map (Gq (Cp Ra (g a) (d a) c f (b.a a) b.k)))
def ZpZ(a:H)(f:H->ZG)(d:H->E)(c:E)(e g:H)(b:RS):Ft:=Bx a (F b.k) g (esD a f d c e b) (bbD a f d c e b)
section
variable {m:H} {wd:H->ZG} {sc ct:H->E} {bins:E} {size budget:H} {l:U E} {s:RS}
theorem Ye{a}(b:a<m+1):Z (esD m wd ct bins size s) a Sf=Cp Ra (wd a) (ct a) bins size (s.a a) s.k:=by simp[esD,Qc,b]
theorem Zfw{a}(b:a<m+1):Z (bbD m wd ct bins size s) a []=(s.a a).map (Gq (Cp Ra (wd a) (ct a) bins size (s.a a) s.k)):=by simp[bbD,Qc,b]
structure Zjg(m)(s):Prop where
 a:Ja (m+1) s
 val:Vd (m+1) s
def Zq7(c:∀a,a<m+1->wd a=ZZ->0<=sc a/\sc a<=3)(b:Bt (m+1) wd sc RS.h l 0=.ok s):Zjg m s:=
 ⟨Ja.a O c l (Ja.h (show 1<=m+1 by omega)) b,Vd.a O c l (Vd.h) (Ja.h (show 1<=m+1 by omega)) b⟩
def Zjg.b(d:Zjg m s)(c:xg Ra m wd ct bins size s):em m (F s.k) (esD m wd ct bins size s) (bbD m wd ct bins size s):=by
 refine⟨by simp[esD],λb a=>?_,λb a=>?_,λb a=>?_,λb a e f=>?_⟩;rw[Zfw a,length_map];exact d.a.j b a;rw[Ye a];exact(c.ok b a).1;rw[Ye a];exact(c.ok b a).2.2
 grind [Zfw,Ye,xz]
def Zjg.w(b:Zjg m s)(f:2<=size)(g:size<=32)(d:2<=bins)(e:bins<=16):∀K∈(ZpZ m wd ct bins size budget s).g,Xl K:=by intro K hK;rw[show(ZpZ m wd ct bins size budget s).g=Ex (esD m wd ct bins size s) (bbD m wd ct bins size s) (m+1) from Pk _ _ _ _ _] at hK;unfold Ex at hK;obtain⟨c,a,rfl⟩:=mem_map.1 hK;have a:=mem_range.1 a;unfold kF;rw[Ye a];exact ZkC ((b.a.j c a) ▸ b.a.k) f g d e (b.val.j c a)
end
def Zk8{a d x e g f m y c o}(b:Vn a d x e g f m)(u:Ol a d x y=.ok c)(q:o.Perm (Bx a (F c.k) m (esS a d e g f c) (bbS a d e g f c)).r)(j:Em o):Pj (F c.k) (Bx a (F c.k) m (esS a d e g f c) (bbS a d e g f c)) o:=by
 have w:∀k,_->_->_/\_:=λk h n=>⟨(b.sc k h).1,(b.sc k h).2 n⟩;have r:2<=f:=oj_ b.g b.u;have i:=Zq7 w u;have p:=i.b (Sw (ct:=e) w b.g b.i r b.h u);refine⟨ZbG b.j i.a.k p,i.w r b.h b.g b.i,λK hK A j=>?_,q,j,λD z v l=>?_⟩
 rotate_left
 have l:z<a+1:=(by rw[Znb] at l;exact l);exact(ZkG b.j i.a.k p q l v).T (ZlM p q l v).s;rw[show(Bx a (F c.k) m (esS a d e g f c) (bbS a d e g f c)).g=Ex (esD a d e g f c) (bbD a d e g f c) (a+1) from Pk _ _ _ _ _] at hK;unfold Ex at hK;obtain⟨k,h,rfl⟩:=mem_map.1 hK;have h:=mem_range.1 h;unfold kF at j;rw[Ye h] at j
 cases n:d k with
 | true=>
  rw[n] at j;simp[Cp,Ra] at j
 | false=>
  rw[n] at j;obtain⟨t,s,_,rfl⟩:=fp ((i.a.j k h) ▸ i.a.k) r b.h (λt s=>(i.val.j k h t s).1) A (by simpa [Cp] using j);have:=(i.val.j k h t s).1;omega
section
variable {e:ZS} {w a w2 w3:ZT} {o:H->H} {g N L L' i:H} {c:YZ ZY} {v1 v2:ZY} {b:U RP} {d:U H} {r:RP}
def cz{c b}(d:B w.1<=B a.1)(e:B a.1<=b):Dd w a o c b=99:=by
 unfold Dd
 grind
def Ce.f{f h}(n:Ce e w o g c N L v1 v2 b d)(q:b[i]? =Z2 r){k m}(x:Ru f (Dd w f o (100+2*i)) (100+2*i) r.ib r.m r.a r.sc r.ct r.k r.size r.b k m)(v:Aa (λa=>o a=100+2*i) w f)(p:E_ f h)(P:Oa w2 (Dd h w2 (Dd w f o (100+2*i)) (100+2*i+1)) (100+2*i+1) r.c r.n r.e r.m r.a r.sc r.ct r.k r.size r.b k m)(y:Aa (λa=>Dd w f o (100+2*i) a=100+2*i+1) h w2)(D:L<=L')(G:ZK k<=L'):Ce e w2 (Dd h w2 (Dd w f o (100+2*i)) (100+2*i+1)) g c N L' v1 v2 (b.set i {r with T:=k,u:=m}) d/\Dh e w w2:=by
 have j:=n.w i r q;have M:=(Qb j.o).1;have Q:=p.size;have z:=(Aa.a p).T y;have A:Aa (λa=>o a=100+2*i∨o a=100+2*i+1) w w2:=(v.m (λa _ l=>ZM l)).c z (λa l=>by grind [Dy]);have u:Ek f (Dd w f o (100+2*i)) (Dd h w2 _ (100+2*i+1)):=λa s=>ZJ (Dy O);have t:=(Ea w _ o _).T v.size u;refine n.i q A t (λa s=>cz y.size s) ⟨?_,t.at M j.f C,j.cf,?_,P⟩ X D G;exact A.g j.o (λl=>by have R:=j.f;grind);exact x.z z (λa _ l=>O) u O
def Ce.q(f:Ce e w o g c N L v1 v2 b d)(l:E_ w a):Ce e a o g c N L v1 v2 b d:=by have k:Aa (λ_=>False) w _:=.a l;have i:=Ek.refl w o;have⟨s,t⟩:=Ho f.M f.P k (λj _ h=>h.elim) i C;have⟨v,x⟩:=Ho f.y f.z k (λj _ h=>h.elim) i C;exact⟨f.r.z k (λj _ h=>h.elim) i,λj p=>f.N j (aG l.size p),f.D,s,t,f.G,v,x,λr u q=>(f.w r u q).z k (λj _ h=>h.elim) i O,f.x,λm n=>(f.L m n).z k (λj _ h=>h.elim) i,f.l i k.size⟩
def Ce.h(j:Ce e w o g c N L v1 v2 b d)(k:b[i]? =T r){h}(l:Aa h w a)(p:∀f,f<B w.1->h f->o f=100+2*i):Oa a (Dd w a o (100+2*i)) (100+2*i+1) r.c r.n r.e r.m r.a r.sc r.ct r.k r.size r.b r.T r.u:=
 (j.w i r k).y.z l (λf n m=>w_) (Ea _ _ _ _) O
def Fh(w e:ZT)(o:H->H)(d:ZY)(b c:H)(a:H):H:=if a<B w.1 then o a else if ZW d=T a then b else if a<B e.1 then c else 99
def mt{w e o d a c}:Ek w o (Fh w e o d a c):=λf b=>ZJ (by unfold Fh;rw[aD b])
def Pq{w d o c e b a}(f:B w.1<=a)(g:a<B d.1)(h:ZW c≠T a):Fh w d o c e b a=b:=by
 unfold Fh
 grind
def Ce.v(j:Ce e w o g c N L v1 v2 b d)(t:b[i]? =T r){p x M yd dp v2'}(b9:whole r.m r.a r.sc r.T r.u p)(a9:xq (B w.1) a x M (Bx r.m (F p.k) r.b (esS r.m r.a r.ct r.k r.size p) (bbS r.m r.a r.ct r.k r.size p)))(a7:Vo a r.ib Z0 0 0)(R:Aa (λh=>h=r.ib) w a)(a8:ep a w2 yd (F p.k) (Bx r.m (F p.k) r.b (esS r.m r.a r.ct r.k r.size p) (bbS r.m r.a r.ct r.k r.size p)))(b0:ra w2 r.c r.n (r.m+1) r.e r.k r.size r.b r.T 0 0 Z0)(v:Aa (λh=>h=r.c) a w2)(k:Pg w2 w3 g 2 137 96 c v2 (d.map zw) (P_ x) (P_ yd) dp v2'):Ce e w3 (Fh w w3 o v2' 15 17) g (YS c 2 v2') N L v1 v2' (b.set i {r with u:=Z0}) (d++[dp])/\Dh e w w3:=by
 have n:=j.w i r t;have d0:=(List.getElem?_eq_some_iff.1 t).1;have c9:=j.r.v.lt;have P:=n.x.1;have Q:=n.x.2.1;have c0:=n.y.lt;have⟨S,W,a0,G,c8,_⟩:=n.y;have d1:=R.size;have d2:=v.size;have d3:=k.u.size;have d4:=λh l=>(B_ j.y h l).2;have m:Aa (λh=>_∨_∨_) w _:=((R.m (λh _ f=>ZM f)).c (v.m (S':=λh=>h=r.c) (λh _ f=>f)) (λh f=>ZM (ZJ (ZM f)))).c k.u (λh f=>ZM (ZJ (ZJ f)))
 have b1:∀h,h<B w.1->(h=r.ib∨h=r.c∨h=g∨ZW v2=T h)->o h=100+2*i∨o h=100+2*i+1∨o h=0∨o h=15:=λh l f=>by
  rcases f with f|f|f|f
  ·grind
  ·grind
  subst f;exact ZJ (ZJ (ZM j.r.b));exact ZJ (ZJ (ZJ (j.z h f)))
 have q:Ek w o (Fh w w3 o v2' 15 17):=mt
 have s:∀h,_->Fh w w3 o v2' 15 17 h=_:=λh l=>by unfold Fh;rw[aD l]
 have b6:∀h,B w.1<=h->h<B w2.1->Fh w w3 o v2' 15 17 h=17:=λh y a6=>Pq y O (λf=>by
  rcases k.D h f with u|u
  ·grind
  omega)
 have b4:Fh w w3 o v2' 15 17 dp=17:=Pq (p_ k.t) ((Qb k.o).1) (λf=>by
  have⟨z,u⟩:=Ac k.M f;rw[k.o] at u
  simp at u)
 have b5:(b.set i {r with u:=Z0}).map ptR=b.map ptR:=(by apply ext_getElem?;intro A;rw[getElem?_map,getElem?_map,getElem?_set];split;rename_i u;subst u;rw[t];rfl;rfl);have⟨c2,c3⟩:=Ho j.M j.P m (λh l f=>w_) q C;refine⟨⟨j.r.put m (λh l f=>?_) k.v q (λA u=>aH O) (by simp[j.r.x]),λh l=>?_,(aH O).T j.D,b5 ▸ c2,c3,Array.getElem?_setIfInBounds_self_of_lt (by rw[j.r.x];decide),?_,λh l=>?_,λA D hq=>?_,λD hq=>?_,λa5 b3=>?_,j.l q m.size⟩,j.A m (λh l f=>w_)⟩
 ·rcases f with f|f|f|f
  ·grind
  ·grind
  exact ZM f;exact ZJ (p_ (j.z h f))
 unfold Fh;rw[aC O,aC (λf=>p_ (B_ k.M h f).2),aC O];have f:(d++[dp]).map zw=d.map zw++[P_ dp]:=(by simp[zw]);rw[f,Qe];exact k.M
 ·by_cases z:h<B w.1
  ·rw[s h z]
   rcases k.D h l with f|f
   exact j.z h f;omega
  unfold Fh
  grind
 ·rw[getElem?_set] at hq;split at hq
  ·rename_i u;subst u;injection hq with hq;subst hq;have z:=(Qb n.o).1
   have a1:¬(r.n=r.ib∨r.n=r.c∨r.n=g∨ZW v2=T r.n):=λf=>by
    rcases f with f|f|f|f
    ·grind
    exact a0 f;rw[f] at W;have:=j.r.b;omega;have:=j.z _ f;omega
   have a2:¬(r.ib=g∨ZW v2=T r.ib):=λf=>by
    rcases f with f|f
    rw[f] at P;have:=j.r.b;omega;have:=j.z _ f;omega
   have a3:¬(r.c=g∨ZW v2=T r.c):=λf=>by
    rcases f with f|f
    rw[f] at S;have:=j.r.b;omega;have:=j.z _ f;omega
   refine⟨m.g n.o (λf=>?_),(s _ z).T n.f,n.cf,⟨(s _ Q).T P,Qh Q m.size,ZM ⟨X,0,0,k.u.g (v.g a7 (λf=>?_)) a2⟩⟩,⟨(s _ c0).T S,(s _ G).T W,a0,Qh G m.size,c8.z m a1 G,r.T,0,0,k.u.g b0 a3,λf=>by cases f⟩⟩;have:=b1 _ z f;have:=n.f;omega
   grind
  exact(j.w A D hq).z m (λh l f=>w_) q O
 ·rcases mem_or_eq_of_mem_set hq with f|f
  exact j.x D f;rw[f];exact j.x r (mem_of_getElem? t)
 rcases mem_append.1 b3 with f|f
 exact(j.L a5 f).z m (λh l f=>w_) q;rw[mem_singleton] at f;subst f;obtain⟨c6,c4,c5,c7,c1,a3,a4,a2,b2,b7,b8⟩:=a8;refine⟨x,M,yd,B a.1,F p.k,_,c6,c4,c5,c7,c1,a3,a4,a2,λd5 z=>⟨z.g k.o (λf=>f b4),?_,?_⟩,Zk8 n.cf b9.2.1 b7 b8⟩
 ·have hq:=a9.a (λh y a6=>b6 h y O);have a1:Aa (λh=>_∨_) _ _:=(v.m (λh _ f=>ZM f)).c k.u (λh f=>ZM (ZJ f));refine hq.i a1 (λh l f=>?_) (Ek.refl _ _) C _ z
  grind
 have a1:=(k.u.m (S':=λh=>h<B a.1) (λh _ f=>w_)).c z (λh f=>w_);exact b2.z a1
end
section
variable {k:ZS} {w d b e h i:ZT} {o:H->H} {g N L j n l yb r q m:H} {c:YZ ZY} {v1 v2 f:ZY} {a:U RP} {p:U H} {wd:H->ZG} {sc ct:H->E} {bins:E} {size budget:H}
def Ce.u(v:Ce k w o g c N L v1 v2 a p)(a7:E_ w d)(x:Ru b (Dd d b o (100+2*F a)) (100+2*F a) l m wd sc ct bins size budget ⟨#[]⟩ ZZ)(W:E_ d b)(b7:Oa e (Dd b e (Dd d b o (100+2*F a)) (100+2*F a+1)) (100+2*F a+1) yb r q m wd sc ct bins size budget ⟨#[]⟩ ZZ)(a0:E_ b e)(Q:Aa (λs=>s=j) e h)(b3:B w.1<=j/\j<B d.1)(y:Pg h i g 1 210 208 c v1 (a.map ptR) (P_ l) (P_ yb) n f)(a8:Vn m wd sc ct bins size budget):Ce k i (Fh h i (Dd b e (Dd d b o (100+2*F a)) (100+2*F a+1)) f 14 16) g (YS c 1 f) N L f v2 (a++[⟨n,l,yb,r,q,m,wd,sc,ct,bins,size,budget,⟨#[]⟩,ZZ⟩]) p/\Dh k w i:=by
 have c1:=W.size;have c2:=a0.size;have c3:=Q.size;have c4:=y.u.size;have b9:=v.r.v.lt;have b4:=λs u=>(B_ v.M s u).2;have R:Aa (λs=>_∨_) _ _:=((Aa.a a0).c Q (λs t=>ZM (ZM t))).c y.u (λs t=>ZM (ZJ t));have a3:Aa (λs=>_∨_) _ _:=(Q.m (λs _ t=>ZM t)).c y.u (λs t=>ZM (ZJ t))
 have z:=((Aa.a a7).c (Aa.a (S:=λ_=>False) W) (λs t=>t.elim)).c R (λs t=>by
  rcases t with t|t
  exact ZJ O
  exact ZM t)
 have G:∀s,s<B w.1->(s=g∨ZW v1=T s)->o s=0∨o s=14:=λs u t=>by
  rcases t with t|t
  subst t;exact ZM v.r.b;exact ZJ (v.P s t)
 have c0:=v.N j b3.1;have a5:∀s,_->Dd d b o (100+2*F a) s=_:=λs u=>Dy u;have a6:∀s,_->Dd b e (Dd d b o (100+2*F a)) (100+2*F a+1) s=_:=λs u=>Dy u
 have S:∀s,_->Fh h i _ f 14 16 s=Dd b e (Dd d b o (100+2*F a)) (100+2*F a+1) s:=λs u=>by unfold Fh;rw[aD u]
 have a2:∀s,s<B w.1->Fh _ _ _ _ 14 16 s=_:=λs u=>by rw[S s O,a6 s O,a5 s O]
 have D:Ek w o _:=λs u=>ZJ (a2 s u);have b1:=(Qb y.o).1
 have b2:Fh h i (Dd b e (Dd d b o (100+2*F a)) (100+2*F a+1)) f 14 16 n=16:=Pq y.t b1 (λt=>by
  have⟨M,A⟩:=Ac y.M t;rw[y.o] at A
  simp at A)
 have b8:∀s,(s=j∨s=g∨ZW v1=T s)->s<B d.1/\o s<100:=w_;have⟨b5,b6⟩:=Ho v.y v.z z (λs u t=>p_ (G s u t)) D C;refine⟨⟨v.r.put z (λs u t=>?_) y.v D (λM a1=>aH O) (by simp[v.r.x]),λs u=>?_,Array.getElem?_setIfInBounds_self_of_lt (by rw[v.r.x];decide),?_,λs u=>?_,(aH O).T v.G,b5,b6,λM P A=>?_,λP A=>?_,λa4 a9=>(v.L a4 a9).z z (λs u t=>p_ (G s u t)) D,v.l D z.size⟩,v.A z (λs u t=>p_ (G s u t))⟩
 ·rcases t with t|t
  exact ZM t;exact ZJ (p_ (v.P s t))
 unfold Fh;rw[aC O,aC (λt=>p_ (B_ y.M s t).2),aC O];rw[map_append,Qe];exact y.M
 ·by_cases b0:s<B h.1
  ·rcases y.D s u with t|t
   rw[a2 s (b4 s t)];exact v.P s t;omega
  unfold Fh
  grind
 ·by_cases a1:M<F a
  rw[getElem?_append_left a1] at A;exact(v.w M P A).z z (λs u t=>p_ (G s u t)) D O;have b0:M=F a:=w_;subst b0;simp at A;subst A;refine⟨y.o,b2,a8,?_,?_⟩;exact x.z R (λs u t=>w_) (λs u=>ZJ w_) O;exact b7.z a3 (λs u t=>w_) (λs u=>ZJ (S s O)) O
 rcases mem_append.1 A with t|t
 exact v.x P t;rw[mem_singleton] at t;subst t;exact v_
end
structure Xj(b c:ZT)(m j e i f x v)(h p s d)(a l r q u wc g)(o)(t)(n k):Prop where
 w:c.1[B b.1]? =T (O_ #[I 5,I m,I j,V h a l,I e,I i,I f,V p r q,V s u wc,Q_ o,I x,I v] 93)
 z:c.1[B b.1+1]? =T (O_ #[V d a g,I e,I i,I f] 37)
 y:Mw c (B b.1+2) (V d a g) h a t n k
 A:E_ b c
section
variable {w w2 w3:ZT} {e bb bins size budget x y:E} {c f i a:Y0 Addr} {fl d h g j wc b:H} {st:ZC} {wd:H->ZG} {sc ct:H->E}
def Xj.q(k:Xj w w2 e bb bins size budget x y c f i a fl d h g j wc b st wd sc ct)(l:E_ w2 w3):Xj w w3 e bb bins size budget x y c f i a fl d h g j wc b st wd sc ct:=
 ⟨(l.block _ (Qb k.w).1).T k.w,(l.block _ (Qb k.z).1).T k.z,k.y.q l,k.A.T (l.m k.A.size)⟩
def Xj.l(k:Xj w w2 e bb bins size budget x y c f i a fl d h g j wc b st wd sc ct):ZV w2 (J (B w.1) 0)=T (I 5)/\ZV w2 (J (B w.1) 3)=T (V c fl d)/\ZV w2 (J (B w.1) 4)=T (I bins)/\ZV w2 (J (B w.1) 5)=T (I size)/\ZV w2 (J (B w.1) 6)=T (I budget):=
 ⟨M_ 0 _ 93 (0,0) k.w,M_ 3 _ 93 (0,0) k.w,M_ 4 _ 93 (0,0) k.w,M_ 5 _ 93 (0,0) k.w,M_ 6 _ 93 (0,0) k.w⟩
def Xj.k(k:Xj w w2 e bb bins size budget x y c f i a fl d h g j wc b st wd sc ct):ZV w2 (J (B w.1+1) 0)=T (V a fl b)/\ZV w2 (J (B w.1+1) 1)=T (I bins)/\ZV w2 (J (B w.1+1) 2)=T (I size)/\ZV w2 (J (B w.1+1) 3)=T (I budget):=
 ⟨M_ 0 _ 37 (0,0) k.z,M_ 1 _ 37 (0,0) k.z,M_ 2 _ 37 (0,0) k.z,M_ 3 _ 37 (0,0) k.z⟩
end
def Zae c4 {u o f h g} x L {e w D b i z y G wc v a4 a2 N} a (S:Ed a e b a4 a2 N)(r:b<=2097152)(b0:Ih b f h g a4 a2 N=ZZ):C_ 71 #[P_ c4,Y9 #[I 5,I u,I o,V e b i,I f,I h,I g,V w z y,V D G wc,Q_ v,I x,I L]] a (U_ (ZR Z0) a):=by
 have⟨M,a5⟩:=Y_ S b0
 have b5:K (∀k,e=T k->0<b->k.block<B a.1):=λk c R=>by subst c;exact(S.at r).1.lt R
 clear S b0;refine dl_ ?_;go_enter func71,ntmps71;go_wp2_with fail
 generalize s:ZN (ZN a (O_ #[I 5,I u,I o,V e b i,I f,I h,I g,V w z y,V D G wc,Q_ v,I x,I L] 93)) (O_ #[V e b i,I f,I h,I g] 37)=A;have b2:B A.1=B a.1+2:=(by rw[<- s];simp);have a0:E_ a A:=(by rw[<- s];exact r_.alloc s_ _);have a7:A.1[B a.1]? =T (O_ #[I 5,I u,I o,V e b i,I f,I h,I g,V w z y,V D G wc,Q_ v,I x,I L] 93):=(by grind [Below.heap_alloc,heap_alloc_new]);have a6:A.1[B a.1+1]? =T (O_ #[V e b i,I f,I h,I g] 37):=(by rw[<- s];exact If s_);clear s;apply (ux (M.q a0) r).m;rintro c a3 ⟨c6,rfl,W,q⟩;obtain⟨n,p,rfl⟩:=W.d;have t:=(q.block _ O).T a6;have b3:=(q.block _ O).T a7;have b6:=n_ 0 t;have c3:=λc5=>R_ c5 _ _ t
 have l:K (Xj a (ZO a3 (J (B a.1+1) 0) (V n b p)) u o f h g x L e w D n b i z y G wc p v a4 a2 N):=(by have j:Aa _ _ (ZO a3 _ (V n b p)):=Aa.setCell (S:=λa1=>a1=B a.1+1) (Aa.refl _ _) (p:=(J (B a.1+1) 0)) (λ_=>X) _;refine⟨j.g b3 O,?_,(b2 ▸ W).p j (λa1 b1 c=>O),?_⟩;exact ht_ 0 _ _ _ t;exact(a0.T (q.m O)).setCell w_ _);clear W q t b3 a7 a6 a0;go_upto_region 4 with fail;generalize (ZO a3) (J (B a.1+1) 0) (V n b p)=c7 at *;clear b6 c3 b2;have⟨P,b7,b8,b9⟩:=l.k;go_wp2_with fail
 apply (Zij (by unfold Y2;omega) (l.y.h r) a5).m;rintro c c8 ⟨rfl,a8⟩;have m:=Y (l.q a8);clear a8 l P b7 b8 b9;go_upto_region 5 with fail;have⟨_,Q,c0,c1,c2⟩:=m.l;go_wp2_with fail
 apply (ZeM (by unfold Y2;omega) (M.q m.A) a5).m;rintro c c9 ⟨rfl,a9⟩;have d:=Y (m.q a9);clear a9 m Q c0 c1 c2;go_upto_region 6 with fail;have⟨_,Q,_,_,_⟩:=d.l;have⟨P,_,_,_⟩:=d.k;go_wp2_with fail
 apply (qb d.y (M.q d.A) (λk c R=>p_ (b5 k c R)) r).m;rintro c d0 ⟨rfl,j⟩;have b4:=Y (d.A.T (j.b d.A.size (λa1 b1=>p_ (d.y.D b1).1)));clear j d Q P;go_wp2_with (go_at_call 68;apply (Ee).m;rintro c a1 ⟨rfl,rfl⟩)
 go_ret;exact⟨s_,b4⟩
def Bw(f:ZS)(l:ZT)(h e d a:H):Prop:=∃i g j k c b,Ce f l i h g e d j k c b/\F c<=a/\F b<=a
def Below.ownsRow{d e}{b a:H}{c f}(g:ZD d 0 b 1 c a f)(h:E_ d e):ZD e 0 b 1 c a f:=(Aa.a (S:=λ_=>False) h).M g (λ_ _=>id)
def tb L (q b:H){n l:H}(b3 b2 G:H){a0 M k} x a8 {P a2 a6 p a4 a3 a7 wc a1 z y w} a (g3:Bw L a q b3 b2 G)(i0:G<=10000000)(m:Ed a P (b+1) z y w)(c1:Ih (b+1) k n l z y w=Z0):C_ 71 #[P_ q,Y9 #[I 5,I a0,I M,V P (b+1:H) p,I k,I n,I l,V a2 a4 a3,V a6 a7 wc,Q_ a1,I x,I a8]] a λe c4=>e=ZI (ZR Z0)/\Bw L c4 q b3 b2 (G+1)/\Dh L a c4:=by
 have i1:=(Nb c1).2.1;have R:b+1<=2097152:=O;obtain⟨j,h4,c3,i9,u,h8,e0,e5,e6⟩:=g3;have f:=x3_ e0 e5 e6;have⟨g7,g8,g9,h0,h1⟩:=info_parts ZmT;have i2:F (u.map ptR)<=10000000:=w_;have⟨D,a9⟩:=Y_ m c1
 have d1:K (∀t,P=T t->0<b+1->t.block<B a.1):=λt e b6=>by subst e;exact(m.at R).1.lt b6
 obtain⟨g,h,rfl,_⟩:∃g h,P=T ⟨g,h,ZP⟩/\True:=by
  rcases m with e|⟨d,i,e,_⟩
  omega
  grind
 clear m c1 e0 e5 e6;refine dl_ ?_;go_enter func71,ntmps71;go_wp2_with fail
 generalize S:ZN (ZN a (O_ #[I 5,I a0,I M,V (T (J g h)) (b+1:H) p,I k,I (n:H),I (l:H),V a2 a4 a3,V a6 a7 wc,Q_ a1,I x,I a8] 93)) (O_ #[V (T (J g h)) (b+1:H) p,I k,I (n:H),I (l:H)] 37)=a5;have e7:B a5.1=B a.1+2:=(by rw[<- S];simp);have b8:E_ a a5:=(by rw[<- S];exact r_.alloc s_ _);have d9:a5.1[B a.1]? =T (O_ #[I 5,I a0,I M,V (T (J g h)) (b+1:H) p,I k,I n,I l,V a2 a4 a3,V a6 a7 wc,Q_ a1,I x,I a8] 93):=(by grind [Below.heap_alloc,heap_alloc_new]);have d8:a5.1[B a.1+1]? =T (O_ #[V (T (J g h)) (b+1:H) p,I k,I n,I l] 37):=(by rw[<- S];exact If s_);clear S;apply (ux (D.q b8) R).m;rintro e c5 ⟨i4,rfl,r,Q⟩;obtain⟨v,N,rfl⟩:=r.d;have W:=(Q.block _ O).T d8
 have f0:=(Q.block _ O).T d9;have f3:=n_ 0 W;have g2:=λj=>R_ j _ _ W;have o:K (Xj a (ZO c5 (J (B a.1+1) 0) (V v (b+1:H) N)) a0 M k n l x a8 (T (J g h)) a2 a6 v (b+1) p a4 a3 a7 wc N a1 z y w):=(by have s:Aa _ _ (ZO c5 _ (V v (b+1:_) N)):=Aa.setCell (S:=λi=>i=B a.1+1) (Aa.refl _ _) (p:=(J (B a.1+1) 0)) (λ_=>X) _;refine⟨s.g f0 O,?_,(e7 ▸ r).p s (λi c2 e=>O),?_⟩;exact ht_ 0 _ _ _ W;exact(b8.T (Q.m O)).setCell w_ _);clear r Q W f0 d9 d8 b8;go_upto_region 4 with fail;generalize (ZO c5) (J (B a.1+1) 0) (V v (b+1:H) N)=c6 at *;clear f3 g2 e7
 obtain⟨c,rfl,e3,e4⟩:∃c,v=T ⟨c,0,ZP⟩/\B a.1+2<=c/\c<B c6.1:=by
  rcases o.out.y with⟨_,e,_⟩|⟨t,c,_,e,d7,d,_⟩
  omega
  grind
 have d2:=K_ e3 e4
 have c9:K (Du c6 c 0 (b+1) z y w):=by
  rcases o.out.y.h R with e|⟨d,i,e,m⟩
  omega
  grind
 have⟨b4,f5,f6,f7⟩:=o.k;clear e3 e4;go_wp2_with fail
 apply (Znu (o:=j) (t:=100+2*F u) c 0 c9 a9).m;rintro e f1 ⟨i3,rfl,g4,e8,b9⟩;have b1:=x3_ e8 b9 o.A;have A:=Y (o.q b9);clear g4 e8 b9 o b4 f5 f6 f7;go_upto_region 5 with fail;have⟨_,b5,f9,g0,g1⟩:=A.l
 have d0:K (Du f1 g h (b+1) z y w):=by
  rcases D.out.q A.A with e|⟨d,i,e,m⟩
  omega;injection e with e;injection e with e1 e2;subst e1;subst e2;exact m
 go_wp2_with fail
 apply (Znv (o:=Dd c6 f1 j (100+2*F u)) (t:=100+2*F u+1) d0 a9).m;rintro e h2 ⟨j0,h9,h6,rfl,g5,e9,c0⟩;have d4:=K_ e9 c0;have d:=Y (A.q c0);clear g5 e9 c0 A b5 f9 g0 g1 d0;go_upto_region 6 with fail;have⟨_,b5,_,_,_⟩:=d.l;have⟨b4,_,_,_⟩:=d.k;go_wp2_with fail
 apply (qb d.y (D.q d.A) (λt e b6=>p_ (d1 t e b6)) R).m;rintro e c7 ⟨rfl,s⟩
 have f2:K (Aa (λi=>i=c) h2 c7):=s.m (λi _ e=>by
  have:T c=T i:=e
  grind)
 have c8:=Y (d.A.T (s.b d.A.size (λi c2=>p_ (d.y.D c2).1)));clear s d b5 b4 c9 D d1;have⟨b0,d3⟩:=Y_ (f.1.r.v.q c8 f.1.r.v.lt) (Below.ownsRow f.1.M c8);have f4:ZV c7 (J q 1)=T c3:=(by rw[b0.cell];exact f.1.D);have f8:=λj=>b0.frozen j;go_upto_region 10 with(go_at_call 68;apply (Ee).m;rintro e c4 ⟨rfl,g6⟩;obtain rfl:=g6.s)
 go_wp2_with (at_builtin;apply Dl X (.tmp 68) (.tmp 73) 81 X 0 208 g7 (Y7 ZP) 1 8 underlying81 g8 g9 h0 h1 X C c3 (F (u.map ptR)) (u.map ptR) X (ra_ (ra_ d3 _) _) _ 1 1 _ X X (Zb0 c7 210 208) (by intro b7 i;simp only[mem_cons,not_mem_nil,or_false] at i;subst i;rfl) C (by unfold Y2;omega) O v_)
 rintro i7 h3 ⟨d5,d6,d7,_,i6,i5,rfl⟩;obtain⟨b7,r⟩:=Pg.N (j:=1) b0 d3 C (by rw[length_map];exact d5) d6 (λi c2=>w_);have i:=f.1.u b1.2.2 b1.1 b1.2.1 d4.1 d4.2 f2 ⟨by have:=d2.1;omega,d2.2⟩ r (Vn.N a9);have h5:ZV h3 (J q 1)=T c3:=(by rw[b7.cell];exact f.1.D);have h7:=λj=>b7.frozen j;have c2:K (Bw L _ q b3 b2 (G+1)/\_):=⟨⟨_,_,_,_,_,_,i.1,by have:=f.2.1;simp;omega,p_ f.2.2⟩,i.2⟩;clear d5 d6 d7 b7 r i f4 f8;go_wp2;go_ret;exact⟨X,c2⟩
def Bw.P{e g f N L R c b d}(a:Bw e g f N L R)(k:N<=c)(j:L<=b)(t:R<=d):Bw e g f c b d:=by obtain⟨m,h,p,q,o,i,a,r,s⟩:=a;exact⟨m,h,p,q,o,i,⟨a.r.P k,a.N,a.D,a.M,a.P,a.G,a.y,a.z,a.w,λn l=>aG (a.x n l) j,a.L,a.t⟩,O,O⟩
structure Jc(h)(a b:ZT)(d)(c g f)(i)(p q)(e)(j)(n)(k:H)(m l)(o):Prop where
 r:Ce h b d c i g f p q e j
 t:e[k]? =T n
 v:ZV b (J (B a.1) 0)=T (I m)
 u:ZV b (J (B a.1) 1)=T (I l)
 w:ZV b (J (B a.1) 9)=T (Q_ o)
 G:d (B a.1)=99
 x:c<B a.1
 A:E_ a b
section
variable {b:ZS} {w a w2:ZT} {o:H->H} {g N L:H} {c:YZ ZY} {v1 v2:ZY} {f:U RP} {d:U H} {r:RP} {i:H} {e k:E} {st:ZC}
def Jc.q(h:Jc b w a o g N L c v1 v2 f d r i e k st)(j:E_ a w2):Jc b w w2 o g N L c v1 v2 f d r i e k st:=
 ⟨h.r.q j,h.t,Ah j h.v,Ah j h.u,Ah j h.w,h.G,h.x,h.A.T (j.m h.A.size)⟩
def Jc.l(h:Jc b w a o g N L c v1 v2 f d r i e k st):ZV a (J r.d 0)=T (P_ r.ib)/\ZV a (J r.d 1)=T (P_ r.c):=
 ⟨M_ 0 _ 210 (0,0) (h.r.w i r h.t).o,M_ 1 _ 210 (0,0) (h.r.w i r h.t).o⟩
def Jc.after{n}(h:Jc b w a o g N L c v1 v2 f d r i e k st)(v:Aa n a w2)(t:∀k,n k->o k≠99/\o k≠16):ZV w2 (J r.d 0)=T (P_ r.ib)/\ZV w2 (J r.d 1)=T (P_ r.c)/\ZV w2 (J (B w.1) 9)=T (Q_ st)/\ZV w2 (J (B w.1) 0)=T (I e):=by have s:=h.r.w i r h.t;have p:=v.g s.o (λl=>(t _ l).2 s.f);have u:∀{j m},D_ a (B w.1) j m->D_ w2 (B w.1) j m:=λ{j m} q=>(cb_ (w:=a) (a:=(J (B w.1) j)) (v.block _ (aJ a _ q) (λl=>(t _ l).1 h.G))).T q;exact⟨M_ 0 _ 210 (0,0) p,M_ 1 _ 210 (0,0) p,u h.w,u h.v⟩
def Zfm(w b:ZT)(o:H->H)(i:H)(r:RP)(c:ZC)(d:ZG):Prop:=∃a,E_ w a/\Ru b (Dd a b o (100+2*i)) (100+2*i) r.ib r.m r.a r.sc r.ct r.k r.size r.b c d/\Aa (λk=>o k=100+2*i) a b
def Zj3 d f e a b c:ZK (az d f e a b c)<=ZK a+ZK b:=by grind [az]
def Jc.h(h:Jc b w a o g N L c v1 v2 f d r i e k st)(v:L+ZK st<=200000000000000) l (p:E_ a l):C_ 32 #[P_ r.ib,Q_ st] l λm j=>m=ZI (Y5 #[ZX ZQ (fdZ r.m r.a r.sc (az r.m r.a r.sc r.T st r.u) r.u).1,ZX ZQ (fdZ r.m r.a r.sc (az r.m r.a r.sc r.T st r.u) r.u).2])/\Zfm a j o i r (az r.m r.a r.sc r.T st r.u) r.u/\ZV j (J r.d 0)=T (P_ r.ib)/\ZV j (J (B w.1) 9)=T (Q_ st):=by have n:=h.q p;have s:=n.r.w i r h.t;have x:=h.r.x r (mem_of_getElem? h.t);apply (Go.Proofs.YtfcgnpchbcmdeaaGreat.feedX s.cf s.x O O).m;rintro m j ⟨rfl,u,t⟩;have q:=n.after t (λk m=>O);exact⟨X,⟨l,p,u,t⟩,q.1,q.2.2.1⟩
def Jc.j{w3}(j:Jc b w a o g N L c v1 v2 f d r i e k st)(Q:L+ZK st<=200000000000000)(x:Zfm a w3 o i r (az r.m r.a r.sc r.T st r.u) r.u) q (n:E_ w3 q):C_ 125 #[P_ r.c,Q_ st] q λh l=>h=ZI (Y5 #[ZX ZQ (fdZ r.m r.a r.sc (az r.m r.a r.sc r.T st r.u) r.u).1,ZX ZQ (fdZ r.m r.a r.sc (az r.m r.a r.sc r.T st r.u) r.u).2])/\(∃p m,Ce b l p g c N (L+ZK st) v1 v2 m d/\F m=F f)/\Dh b w l/\ZV l (J r.d 1)=T (P_ r.c)/\ZV l (J (B w.1) 9)=T (Q_ st):=by
 obtain⟨s,y,A,p⟩:=x;have m:=j.q y;have z:=m.r.w i r j.t;have R:=j.r.x r (mem_of_getElem? j.t);have G:=m.r.h j.t p (λk _ h=>h);have M:=G.z (S:=λ_=>False) (.a n) (λ_ _ h=>h.elim) (Ek.refl _ _) O;apply (Go.Proofs.YtfcgnpchbcmdeaaGreat.feedY z.cf M O O).m;rintro h l ⟨rfl,D,v⟩;have u:=m.r.f j.t A p n D v (L':=L+ZK st) O (p_ (Zj3 r.m r.a r.sc r.T st r.u));have P:Aa (λk=>o k=100+2*i∨(k<B s.1/\o k=100+2*i+1)) s l:=((p.m (λk _ h=>ZM h)).c (Aa.a (S:=λ_=>False) n) (λk h=>h.elim)).c v (λk h=>by grind [Dy]);have t:=m.after P (λk h=>O);exact⟨X,⟨_,_,u.1,s_⟩,(Dh.a m.A).T u.2,t.2.1,t.2.2.1⟩
end
def hdc{a}(b:a):K a:=b
def Jc.a{l g h b e p j i m w x v o a c u d f}(q:Jc l g h e p j i m w x v o a c u d f){k n}(r:Zfm h b e c a k n):ZV b (J a.d 1)=T (P_ a.c)/\ZV b (J (B g.1) 9)=T (Q_ f):=by
 obtain⟨y,s,_,t⟩:=r;have A:=(q.q s).after t (λd z=>O)
 grind
def Zll i h w m q {P Q c7 c8 e5 c9} x f1 {d1 e6 e9 d3 d2 e8 e7 f0 wc g} e (f7:Bw i e h w m q)(g6:q<=10000000)(d5:m+g.size<=200000000000000)(a7:P=6∨P=7):C_ 71 #[P_ h,.agg #[I P,I Q,I c7,V d1 d3 d2,I c8,I e5,I c9,V e6 e8 e7,V e9 f0 wc,Q_ g,I x,I f1]] e λb f=>b=.returned (.bool true)/\Bw i f h w (m+g.size) (q+1)/\Dh i e f:=by
 obtain⟨b6,a4,g8,g4,l,f4,d,b3,b4⟩:=f7;obtain⟨W,e3,rfl,e0⟩:=Gg d.M;rw[length_map] at *;have g0:(P==5)=_:=aO O;have f2:=Y a7;clear a7;refine dl_ ?_;go_enter func71,ntmps71;go_upto_region 12 with fail;generalize a2:e.alloc (O_ #[I P,I Q,I c7,V d1 d3 d2,I c8,I e5,I c9,V e6 e8 e7,V e9 f0 wc,Q_ g,I x,I f1] 93)=A;have a0:E_ e A:=(by rw[<- a2];exact r_);have z:A.cell? (J e.1.size 0)=some (I P):=(by rw[<- a2];simp[go_sem]);have b7:A.cell? (J e.1.size 1)=some (I Q):=(by rw[<- a2];simp[go_sem]);have o:A.cell? (J e.1.size 9)=some (Q_ g):=(by rw[<- a2];simp[go_sem]);clear a2 g0;have y:=d.q a0;have d0:A.cell? (J h 1)=some (V W l.length e3):=(by rw[y.r.v.cell];exact y.D);have c4:K (Dh i e _):=Dh.a a0
 by_cases f6:l.length=0
 ·have u:K (Bw i _ h w (m+g.size) (q+1)):=Bw.P ⟨b6,a4,_,g4,l,f4,y,b3,b4⟩ x_ O O;rw[f6] at d0;clear y d e0 z b7 o a0;go_wp2;go_ret;exact⟨rfl,u,c4⟩
 obtain⟨e4,rfl,_⟩:=e0 O;have⟨s,f9,d9⟩:=Pu Q (n:=l.length) O;obtain⟨a,r⟩:∃a,l[s]? =some a:=⟨l[s],Qd f9⟩;have f3:A.cell? _=some (.pointer _):=Hn (x:=ptR a) (by have:=y.M;rw[length_map] at this;exact this) (by rw[getElem?_map,r];rfl);have b9:K (Jc i e _ b6 h w m a4 _ _ _ _ a s _ _ _):=⟨y,r,z,b7,o,d.N _ x_,d.r.v.lt,a0⟩
 have c5:K (∀G,C_ 74 #[I Q,I l.length] G (V_ (.int .i64 s) G)):=λG=>by rw[<- d9];exact Mu G
 have v:=K_ b3 b4;have g7:=F_ s l.length;have g1:((l.length:Int)==0)=_:=aO O;clear y d d9 r z o a0 b3 b4;go_upto_region 14 with fail;go_cut [11] (λc b=>c=.pointer (some ⟨a.d,0,none⟩)/\K (E_ A b))
 case first=>
  go_region_held3 (λf=>f.cell? (J h 1)=some (L_ e4 l.length e3)/\f.cell? (J e.1.size 1)=some (I Q)/\f.cell? (J e4 s)=some (P_ a.d)) (go_keep) (first|(go_at_call 74;apply (c5 _).m;rintro b f ⟨rfl,n⟩;obtain rfl:=n.s))
  all_goals go_wp2
  all_goals go_meet
  all_goals exact⟨rfl,y_.drew⟩
 obtain⟨rfl,c1⟩:=hcut;have c:=Y (b9.q c1);clear b9 c1 d0 b7 f3 c5 g1 c4;generalize wc=w2 at *;have z:=c.v;have⟨a5,_⟩:=c.l
 rcases f2.out with rfl|rfl
 ·have o:=c.w;have⟨p,k⟩:=Y_ (λG b=>c.h d5 G b) (λw3 N b d=>c.j (w3:=w3) d5 N b d);generalize (fdZ a.m a.a a.sc (az a.m a.a a.sc a.T g a.u) a.u).1=a6 at *;generalize (fdZ a.m a.a a.sc (az a.m a.a a.sc a.T g a.u) a.u).2=N at *;generalize az a.m a.a a.sc a.T g a.u=M at *;go_upto_region 16 with fail;go_cut [12,13] (λW f b=>W=.int .i64 a6/\f=.int .i64 N/\K (Zfm w2 b b6 s a M a.u))
  case first=>
   go_region_held3 (λf=>f.cell? (J a.d 0)=some (P_ a.ib)/\f.cell? (J e.1.size 9)=some (Q_ g)) (first|exact⟨a5,o⟩|exact⟨k0,k9⟩) (first|(go_at_call 32;apply (p _ y_.drew).m;rintro b w3 ⟨rfl,f,k0,k9⟩))
   all_goals go_wp2
   all_goals go_meet
   grind
  obtain⟨rfl,rfl,j⟩:=hcut;clear a5 o z p;have⟨L,o⟩:=c.a j;have D:=Y (λb d=>k _ j b d);clear k j;generalize wc=w3 at *;go_upto_region 17 with fail;go_cut [14,15] (λW f b=>W=.int .i64 a6/\f=.int .i64 N/\K (Bw i b h w (m+g.size) (q+1)/\Dh i e b))
  case first=>
   go_region_held3 (λf=>f.cell? (J a.d 1)=some (P_ a.c)/\f.cell? (J e.1.size 9)=some (Q_ g)) (first|exact⟨L,o⟩|exact⟨k0,k9⟩) (first|(go_at_call 125;apply (D _ y_.drew).m;rintro b t ⟨rfl,f,hK,k0,k9⟩))
   all_goals go_wp2
   all_goals go_meet
   all_goals exact⟨rfl,rfl,Bw.P (R:=q) (by obtain⟨n,t,f,b⟩:=f;exact⟨n,_,_,_,t,_,f,b ▸ v.1,v.2⟩) x_ x_ O,hK⟩
  obtain⟨rfl,rfl,u⟩:=hcut;clear L o D c;go_wp2_with (go_at_call 68;apply (Ee).m;rintro b f ⟨rfl,n⟩;obtain rfl:=n.s)
  go_ret;exact⟨s_,u⟩
 have r:=c.t;have⟨p,a3,b0⟩:=y3_ (c.r.w s a r) r (c.r.x a (mem_of_getElem? r));clear r;go_wp2_with fail
 apply (Zow p.cf p.x O).m;rintro b w3 f8
 rcases f8 with⟨a8,rfl,b5,j⟩|⟨a9,f5,g5,a1,rfl,d6,d4,j⟩
 ·have⟨_,L,_,_⟩:=c.after j (λf b=>O)
  have S:=show K _ from c.r.h a3 j (λ_ _ b=>b)
  have b8:=show K (_/\_/\_) from⟨a8,b5,j⟩
  have b1:=show K _ from λt M k=>c.r.f (w2:=t) a3 b5 j y_ M k (L':=m+g.size) O (p_ b0.out)
  have R:=hdc<|ZjG p.cf S O (p_ b0.out)
  clear a8 b5 j S a5 z;go_wp2_with fail
  apply R.m;rintro b t b2
  rcases b2 with⟨_,rfl,M,k⟩|⟨a9,yd,a1,_⟩
  ·have u:K (Bw i t h w (m+g.size) (q+1)/\Dh i e t):=(by have f:=b1 _ M k;exact⟨⟨_,_,_,_,_,_,f.1,by have:=v.1;simp;omega,p_ v.2⟩,(Dh.a c.A).T f.2⟩);clear M k b8 b1 R p c L;generalize (clZ a.m a.a a.sc a.T a.u).1=a6 at *;generalize (clZ a.m a.a a.sc a.T a.u).2=N at *;go_wp2_with fail
   apply (Wj h).m;rintro b D ⟨rfl,n⟩;obtain rfl:=n.s;go_wp2_with (go_at_call 68;apply (Ee).m;rintro b f ⟨rfl,n⟩;obtain rfl:=n.s)
   go_ret;exact⟨s_,u⟩
  exact absurd a1 (b8.1 a9)
 have d8:=p.x.1;have g2:=p.y.1;have⟨_,L,_,_⟩:=c.after j (λf b=>by subst b;omega)
 have S:=show K _ from c.r.h a3 j (λf _ b=>b ▸ d8)
 have R:=hdc<|ZjG p.cf S O (p_ b0.out)
 have b1:=show K _ from a1
 have c3:=show K _ from λt D yd dp aA N a6 k M=>c.r.v (w2:=t) (w3:=D) (yd:=yd) (dp:=dp) (v2':=aA) a3 a1 d6 d4 j N a6 k M
 have c6:=show K _ from j
 clear a1 d6 d4 j S a5 z;go_wp2_with fail
 apply R.m;rintro b t b2
 rcases b2 with⟨a8,_⟩|⟨g3,yd,e2,rfl,N,a6,k⟩
 exact absurd b1 (a8 a9)
 obtain rfl:a9=g3:=by
  have f:=b1.2.1;rw[e2.2.1] at f
  grind
 have b8:Aa (λf=>_∨_) _ _:=(c6.m (λf _ b=>.inl b)).c k (λf b=>.inl (.inr b));have d:=c.r;have d7:WB _ h a4:=b8.g d.r.v (λb=>gh_ d.r.b);have e1:=b8.M d.y (λf a7 b=>gh_ (d.z f a7))
 have c0:=hdc<|Wk h f5 yd a4 _ _ _ d7 d.G e1 (gh_ v.2)
 have c2:=show K _ from λD dp aA M=>c3 _ D _ dp aA N a6 k M
 clear b8 d d7 e1 N a6 k e2 c3 c6 R p d8 g2 L;go_wp2_with fail
 apply c0.m;rintro b D ⟨rfl,dp,aA,M⟩;have u:K (Bw i D h w (m+g.size) (q+1)/\Dh i e D):=(by have f:=c2 _ _ _ M;exact⟨Bw.P ⟨_,_,_,_,_,_,f.1,by have:=v.1;simp;omega,by have:=v.2;simp;omega⟩ x_ O x_,(Dh.a c.A).T f.2⟩);clear M c2 c0 c b1;go_wp2_with (go_at_call 68;apply (Ee).m;rintro b f ⟨rfl,n⟩;obtain rfl:=n.s)
 go_ret;exact⟨s_,u⟩
def Bw.q{d f w' e b a c}(i:Bw d f e b a c)(m:E_ f w'):Bw d w' e b a c:=by obtain⟨n,g,p,q,o,h,l,j,k⟩:=i;exact⟨n,g,p,q,o,h,l.q m,j,k⟩
def Ed.a{e f b c g d a}(h:Ed e b c g d a)(i:E_ e f):Ed f b c g d a:=h.q i
def Zlj g d h e f {j} N D {r k i} x l {u P S c G R Q W a0 q A y t b}(m:Bw g b d h e f)(w:f<=10000000)(L:e+q.size<=200000000000000)(v:Ed b u c A y t)(M:c<=2097152)(o:j=5∨j=6∨j=7):C_ 71 #[P_ d,.agg #[I j,I N,I D,V u c G,I r,I k,I i,V P R Q,V S W a0,Q_ q,I x,I l]] b λn a=>n=.returned (.bool true)/\Bw g a d h (e+q.size) (f+1)/\Dh g b a:=by
 rcases o with rfl|o
 ·by_cases n:Ih c r k i A y t=true
  have⟨a1,a2,a3,a4,a5,a6,a7,a8,_⟩:=Nb n;obtain⟨p,rfl⟩:∃p,c=p+1:=⟨c-1,O⟩;obtain⟨z,rfl⟩:∃z:Nat,k=z:=⟨k.toNat,O⟩;obtain⟨s,rfl⟩:∃s:Nat,i=s:=⟨i.toNat,O⟩;exact(tb g d p h e f x l b m w v n).m (λ_ _ a=>⟨a.1,a.2.1.P x_ O x_,a.2.2⟩);exact(Zae d x l b v M (by simpa using n)).m (λ_ _ a=>⟨a.1,(m.q a.2).P x_ O O,Dh.a a.2⟩)
 exact Zll g d h e f x l b m w L o
def Zix d f n h i {b l j o s p x m k t w e r v u y z c a0 W P} a (G:Bw d a f n h i)(R:i<=10000000)(Q:h+c.size<=200000000000000)(D:Ed a k e a0 W P)(S:e<=2097152)(L:b=5∨b=6∨b=7):C_ 41 #[P_ f,.agg #[I b,I l,I j,V k e r,I o,I s,I p,V t v u,V w y z,Q_ c,I x,I m]] a λq g=>q=.returned (.bool true)/\Bw d g f n (h+c.size) (i+1)/\Dh d a g:=by
 have A:K (C_ 71 #[P_ f,.agg #[I b,I l,I j,V k e r,I o,I s,I p,V t v u,V w y z,Q_ c,I x,I m]] (a.alloc (O_ #[I b,I l,I j,V k e r,I o,I s,I p,V t v u,V w y z,Q_ c,I x,I m] 93)) λq g=>q=.returned (.bool true)/\Bw d g f n (h+c.size) (i+1)/\Dh d a g):=(by have g:Below _ a (a.alloc (O_ #[I b,I l,I j,V k e r,I o,I s,I p,V t v u,V w y z,Q_ c,I x,I m] 93)):=r_;exact(Zlj d f n h i l j x m (G.q g) R Q (D.a g) S L).m (λ_ _ q=>⟨q.1,q.2.1,(Dh.a g).T q.2.2⟩));clear G D
 rcases L with rfl|rfl|rfl
 all_goals
  refine dl_ ?_;go_enter func41,ntmps41;go_wp2_with fail
  apply A.m;rintro q g ⟨rfl,M⟩
  have N:=show K _ from M
  clear M A;go_wp2;go_ret;exact⟨rfl,N⟩
def ZlC i g n Q R {b h o p z q x m s D M u t L G N P A} d (d0:Bw i d g n Q R)(c9:n<=10000000)(e8:8<=b)(e7:b<=12):C_ 41 #[P_ g,Y9 #[I b,I h,I o,V s u t,I p,I z,I q,V D L G,V M N P,Q_ A,I x,I m]] d λr e=>r=ZI (ZR Z0)/\Bw i e g (n+5) Q R/\Dh i d e:=by
 obtain⟨d3,b9,f0,f1,b6,c,S,a4,a5⟩:=d0;obtain⟨b8,b5,rfl,b4⟩:=Gg S.y;rw[length_map] at *;have c1:(b==1)=_:=aO O;have c4:2<=b:=O;have c5:¬b<=4:=O;have c6:5<=b:=O;have c7:¬b<=7:=O;have c2:(b==13)=_:=aO O;have e4:(b==14)=_:=aO O;have c3:¬15<=b:=O;have e6:¬b<8:=O;have e5:¬14<b:=O;refine dl_ ?_;go_enter func41,ntmps41;go_upto_region 12 with fail;generalize a6:ZN d (O_ #[I b,I h,I o,V s u t,I p,I z,I q,V D L G,V M N P,Q_ A,I x,I m] 93)=l;have W:E_ d l:=by rw[<- a6];exact r_
 have a:l.1[B d.1]? =T (O_ #[I b,I h,I o,V s u t,I p,I z,I q,V D L G,V M N P,Q_ A,I x,I m] 93):=(by rw[<- a6];exact ha_ d _);have a7:=n_ 0 a;have a0:=n_ 1 a;clear a6 c1 c4 c5 c6 c7 c2 c3;have k:=S.q W;have b2:ZV l (J g 2)=T (V b8 (F c) b5):=(by rw[k.r.v.cell];exact k.G);have a1:K (Dh i d _):=Dh.a W
 by_cases c8:F c=0
 ·have e:K (Bw i _ g (n+5) Q R):=Bw.P ⟨d3,b9,_,_,b6,c,k,a4,a5⟩ O x_ x_;rw[c8] at b2;clear k S b4 a0 W;go_wp2;go_ret;exact⟨X,e,a1⟩
 obtain⟨y,rfl,_⟩:=b4 O;have⟨w,d1,v⟩:=Pu h (n:=F c) O;obtain⟨j,a3⟩:∃j,c[w]? =T j:=⟨c[w],Qd d1⟩;have c0:ZV l _=T (Y7 _):=Hn (x:=zw j) (by have:=k.y;rw[length_map] at this;exact this) (by rw[getElem?_map,a3];rfl)
 have b1:K (∀f,C_ 74 #[I h,I (F c)] f (V_ (ZX ZQ w) f)):=λf=>by rw[<- v];exact Mu f
 have a8:K (∀f,E_ l f->f.1[B d.1]? =T (O_ #[I b,I h,I o,V s u t,I p,I z,I q,V D L G,V M N P,Q_ A,I x,I m] 93)/\C_ 77 #[P_ g,P_ j,Y9 #[I b,I h,I o,V s u t,I p,I z,I q,V D L G,V M N P,Q_ A,I x,I m]] f λr e=>r=ZI (ZR Z0)/\Bw i e g (n+5) Q R/\Dh i d e):=λf a2=>by have e:=k.q a2;have⟨d9,d8,f3,d5,e1,d2,e9,e2,e3,f2,e0,d6,d7,d4,b0,b3⟩:=e.L j (mem_of_getElem? a3);refine⟨(a2.block _ (Qb a).1).T a,(tv x m e.r e.N c9 b0.b b3).m (λ_ _ y=>?_)⟩;have⟨⟨b7,r,a9⟩,hK⟩:=e.p y.2;exact⟨y.1,⟨b7,r,_,_,b6,c,a9,a4,a5⟩,(a1.T (Dh.a a2)).T hK⟩
 have e9:=F_ w (F c);have d2:((F c:E)==0)=_:=aO O;clear k S v a3 W a4 a5 a a1;go_upto_region 14 with fail;go_cut [6] (λe r=>e=Y7 (T ⟨j,0,ZP⟩)/\K (E_ l r))
 case first=>
  go_region_held3 (λe=>ZV e (J g 2)=T (L_ y (F c) b5)/\ZV e (J (B d.1) 1)=T (I h)/\ZV e (J y w)=T (P_ j)) (go_keep) (first|(go_at_call 74;apply (b1 _).m;rintro r e ⟨rfl,a9⟩;obtain rfl:=a9.s))
  all_goals go_wp2
  all_goals go_meet
  all_goals exact⟨X,y_.drew⟩
 obtain⟨rfl,a9⟩:=hcut;have⟨a,b3⟩:=a8 wc a9;have b0:=hdc b3;clear a8 a9 b2 a7 a0 c0 b1 d2 b3;generalize wc=f2 at *;have a7:=n_ 0 a;have a0:=n_ 1 a;have d6:=n_ 2 a;have d7:=n_ 3 a;have d8:=n_ 4 a;have d9:=n_ 5 a;have e0:=n_ 6 a;have e1:=n_ 7 a;have e2:=n_ 8 a;have e3:=n_ 9 a;have d4:=n_ 10 a;have d5:=n_ 11 a;clear a;go_wp2_with fail
 apply b0.m;rintro r e ⟨rfl,v⟩
 have b7:=show K _ from v
 clear v b0 a7 a0 d6 d7 d8 d9 e0 e1 e2 e3 d4 d5;go_wp2;go_ret;exact⟨X,b7⟩
def Zpi g h e d f a c (i:Bw g c h e d f)(o:f<=10000000)(m:e<=10000000)(l:d+ZK a.n<=200000000000000)(n:OpR c a)(p:a.A<=2097152)(q:5<=a.a)(k:a.a<=12):C_ 41 #[P_ h,Y9 #[I a.a,I a.l,I a.t,V a.g a.A a.e,I a.k,I a.size,I a.b,V a.i a.vl a.h,V a.c a.d a.j,Q_ a.n,I a.x,I a.y]] c λj b=>j=ZI (ZR Z0)/\Bw g b h (e+5) (d+ZK a.n) (f+1)/\Dh g c b:=by
 by_cases j:a.a<=7
 exact(Zix g h e d f c i o l n.c p O).m (λ_ _ b=>⟨b.1,b.2.1.P O x_ x_,b.2.2⟩);exact(ZlC g h e d f c i m O k).m (λ_ _ b=>⟨b.1,b.2.1.P x_ O O,b.2.2⟩)
structure SP where
 d:H
 a:H
 b:H
 c:H
 s:SS
def ptS(a:SP):ZY:=P_ a.d
structure ZgP(c)(b:H->H)(d)(a:SP):Prop where
 o:H_ c a.d #[P_ a.a,P_ a.c] 221
 f:b a.d=1
 h:H_ c a.a #[P_ a.b] 127
 G:b a.a=1
 y:er c a.c a.s
 g:b a.c=3+d
 x:Oq c (λe=>b e=3+d/\e≠a.c) a.b ⟨#[]⟩ a.s 0
structure rh(e:ZT)(d:H->H)(i j:ZY)(c:U ZY)(f:U (U Cd))(g:U SP):Prop where
 k:ZD e 0 29 1 i (F c) c
 w:∀a,ZW i=T a->d a=2
 p:F c=F f
 q:∀b,b<F f->Ai e 0 (Z c b N_) (Z f b [])/\∀a,ZW (Z c b N_)=T a->d a=1
 o:ZD e 0 219 1 j (F (g.map ptS)) (g.map ptS)
 os:∀a,ZW j=T a->d a=2
 n:∀b h,g[b]? =T h->ZgP e d b h
section
variable {w w':ZT} {a q':H->H} {u v:ZY} {e:Z1 ZY} {Ls:Z1 (Z1 Cd)} {d:Z1 SP} {S f:H->Prop} {i g N L R:H} {p:SP} {U:Z1 E} {o:H->H} {c h:YZ ZY} {v1 v2:ZY} {k:Z1 RP} {j:Z1 H} {b:ZS}
def ZgP.z(b:ZgP w a i p)(o:Aa S w w')(r:∀d,d<B w.1->S d->a d≠1/\a d≠3+i)(l:∀d,d<B w.1->a d≠0->q' d=a d):ZgP w' q' i p:=by
 have h:∀{e c j},H_ w e c j->a e=1∨a e=3+i->H_ w' e c j/\q' e=a e:=λ{e _ _} f s=>by have k:=(Qb f).1;exact⟨o.g f λm=>by have:=r e k m;omega,l e k O⟩
 have k:=h b.o (ZM b.f);have m:=h b.h (ZM b.G);have n:=h b.y.d (ZJ b.g);exact⟨k.1,k.2.T b.f,m.1,m.2.T b.G,⟨n.1,b.y.z⟩,n.2.T b.g,b.x.e (λe c j g f=>(h f (ZJ g.1)).1) λd q g=>⟨(l d q O).T g.1,g.2⟩⟩
def rh.l{l}(f:rh w a u v e Ls d)(x:Aa S w w')(D:∀b,b<B w.1->S b->a b≠1/\a b≠2)(A:∀b,b<B w.1->a b≠0->q' b=a b)(z:l.map ptS=d.map ptS)(G:∀i p,l[i]? =T p->ZgP w' q' i p):rh w' q' u v e Ls l:=by have k:∀{n s r t m} {h:ZY},ZD w n s r h t m->∀{g},(∀b,ZW h=T b->a b=g)->g=1∨g=2->ZD w' n s r h t m/\∀b,ZW h=T b->q' b=g:=(by intro _ _ _ _ _ _ o g j L;have q:=λb c=>(B_ o b c).2;exact⟨x.M o λb c y=>by have:=D b (q b c) y;have:=j b c;omega,λb c=>(A b (q b c) (by have:=j b c;omega)).T (j b c)⟩);have j:=k f.k f.w (ZJ X);have o:=k f.o f.os (ZJ X);exact⟨j.1,j.2,f.p,λi c=>k (f.q i c).1 (f.q i c).2 (ZM X),z ▸ o.1,o.2,G⟩
def rh.z(h:rh w a u v e Ls d)(g:Aa S w w')(k:∀b,b<B w.1->S b->a b=0)(j:∀b,b<B w.1->a b≠0->q' b=a b):rh w' q' u v e Ls d:=
 h.l g (λb f c=>by have:=k b f c;omega) j X λi p l=>(h.n i p l).z g (λb f c=>by have:=k b f c;omega) j
def Fe(f:H->Prop)(w:ZT)(g N L R:H)(U:Z1 E):Prop:=∃a u v e Ls d,Bw ⟨λb=>f b∨a b≠0,u,v⟩ w g N L R/\rh w a u v e Ls d/\F e<=R/\F d<=R/\(∀L∈Ls,Nw U L)/\∀b,f b->a b=0
def Fn(f:H->Prop)(w w':ZT):Prop:=Aa (λa=>¬f a) w w'
def Fe.P{i h j}(m:Fe f w g N L R U)(o:N<=i)(n:L<=h)(p:R<=j):Fe f w g i h j U:=by obtain⟨a,u,v,e,r,d,k,b,c,q,l⟩:=m;exact⟨a,u,v,e,r,d,k.P o n p,b,O,O,l⟩
def Fe.q(k:Fe f w g N L R U)(b:E_ w w'):Fe f w' g N L R U:=by obtain⟨a,u,v,e,l,d,h,i,c⟩:=k;exact⟨a,u,v,e,l,d,h.q b,i.z (S:=λ_=>False) (.a b) (λ_ _ j=>j.elim) λ_ _ _=>X,c⟩
def Fe.l{m i l k j}(p:Fe f w g N L R U)(s:∀b,Bw b w g N L R->C_ m i w λh w'=>h=ZI (ZR Z0)/\Bw b w' g l k j/\Dh b w w')(A:R<=j):C_ m i w λh w'=>h=ZI (ZR Z0)/\Fe f w' g l k j U/\Fn f w w':=by obtain⟨a,u,v,e,D,d,i,o,c,z,h⟩:=p;refine(s _ i).m λh w' ⟨q,r,n⟩=>⟨q,⟨a,u,v,e,D,d,r,o.z n (λt _ h=>?_) λ_ _ _=>X,O,O,a_⟩,n.m λt _ h y=>h (ZM y)⟩;exact Classical.byContradiction λx=>h (ZJ x)
def Ce.n{n}{q:H->H}(e:Ce b w o g c N L v1 v2 k j)(l:Aa (λa=>a=g∨b.p a) w w')(v:WB w' g h)(r:∀i,i≠0->i≠3->h[i]? =c[i]?)(R:B h=13)(m:Ek w o q)(A:∀a,B w'.1<=a->q a=99)(z:∀a,n.p a->a<B w'.1/\q a=98)(t:h[0]? =T n.u)(u:h[3]? =T n.v):Ce n w' q g h N L v1 v2 k j:=by
 have p:∀a,a<B w.1->(a=g∨b.p a)->o a=0∨o a=98:=λa _ d=>d.imp (λd=>by rw[d];exact e.r.b) λd=>(e.t.1 a d).2;have⟨D,G⟩:=Ho e.M e.P l (λa f d=>p_ (p a f d)) m C;have⟨M,P⟩:=Ho e.y e.z l (λa f d=>p_ (p a f d)) m C;exact⟨e.r.put l (λa f d=>d.imp id λd=>p_ (e.t.1 a d).2) v m (λi f=>r i O O) R,A,(r 1 C C).T e.D,D,G,(r 2 C C).T e.G,M,P,λi Q y=>(e.w i Q y).z l (λa f d=>p_ (p a f d)) m O,e.x,λs x=>(e.L s x).z l (λa f d=>p_ (p a f d)) m,z,t,u⟩
def Ce.W{a}(e:Ce b w o g c N L v1 v2 k j)(h:B w.1<=B w'.1)(f:b.p a∨B w.1<=a/\a<B w'.1):a<B w'.1/\Dd w w' o 98 a=98:=by
 rcases f with d|d
 have:=e.t.1 a d;exact⟨O,(Dy this.1).T this.2⟩;exact⟨d.2,Kk d.1 d.2⟩
end
theorem Tv(a:ZC):ZB (Ab a)=a:=by
 cases a with
 | mk b=>
  unfold ZB Ab;congr 1;apply Array.ext';simp[map_map,Function.comp_def]
structure Cn(d:ZT)(c:H)(b:U E):Prop where
 r:∃a:ZC,d.1[c]? =T (O_ #[Q_ a] 180)/\Ab a=b/\ZK a<=140737488355328
def Cn.p{c w':ZT}{a:H}{b:U E}{K:H->Prop}(d:Cn c a b)(i:Aa K c w')(h:¬K a):Cn w' a b:=by have⟨S,e,f,g⟩:=d.r;exact⟨S,i.g e h,f,g⟩
def Cn.q{c w':ZT}{b:H}{a:U E}(d:Cn c b a)(e:E_ c w'):Cn w' b a:=d.p (K:=λ_=>False) (.a e) id
def Cn.lt{b:ZT}{a:H}{d:U E}(c:Cn b a d):a<B b.1:=by
 have⟨e,f,_⟩:=c.r
 grind
def Cn.a{g:ZT}{e:H}{c:U E}(d:Cn g e c):∀a∈c,0<=a/\a<=255:=λa b=>by obtain⟨h,_,rfl,_⟩:=d.r;unfold Ab at b;obtain⟨f,_,rfl⟩:=mem_map.1 b;have:=f.toNat_lt;omega
def Cn.y{e:ZT}{d:H}{a:U E}(b:Cn e d a):F a<=140737488355328:=by obtain⟨f,_,rfl,c⟩:=b.r;rw[Ci];exact c
def ZdA{a:ZC}(c:ZK a=0):a=⟨#[]⟩:=by
 cases a with
 | mk b=>
  have:B b=0:=c
  grind
def Eg(b:H)(d:U E)(e:ZT)(f:Cn e b d):C_ 165 #[P_ b] e λc a=>c=ZI (ZX ZQ (d.headD 0))/\Cn a b d.tail/\Aa (λi=>i=b) e a:=by
 have⟨a,g,h,q⟩:=f.r;have n:=n_ 0 g;have p:YT e (J b 0)=ZZ:=R_ 0 _ 180 g
 by_cases j:ZK a=0
 ·have i:=ZdA j;subst i;have c:d=[]:=(by rw[<- h];rfl);subst c;refine dl_ ?_;go_enter func165,ntmps165;go_wp2;go_ret;exact⟨X,f,Aa.refl _ _⟩
 have c:0<ZK a:=O
 have s:a.toList.isEmpty=ZZ:=by
  rw[toList_data]
  cases i:Y4 a.data with
  | nil=>
   have:ZK a=F (Y4 a.data):=by rw[Array.length_toList];rfl
   grind
  |cons m l=>rfl
 have k:K (d=((a[0]'c).toNat:E)::Ab (a.extract 1 (ZK a))):=by
  show _=_;rw[<- h,Ff,aI (by rw[Ci];omega),drop_one];have i:0<F (Ab a):=(by rw[Ci];omega);have o:(Ab a)[0]'i=((a[0]'c).toNat:E):=getElem_map (λl:UInt8=>(l.toNat:E)) (l:=Y4 a.data) (i:=0) (h:=i)
  cases r:Ab a with
  |nil=>grind
  | cons m l=>
   grind
 have m:=(a[0]'c).toNat_lt;have o:wrap64 ((a[0]'c).toNat:E)=((a[0]'c).toNat:E):=(by simp[wrap64];omega);have l:(1:E)<=(ZK a:E):=O;clear f h j;go_enter func165,ntmps165;go_wp2;go_ret;rw[k];refine⟨?_,⟨a.extract 1 (ZK a),hs_ _ b 0 _ 180 _ g,X,?_⟩,(Aa.refl (λi=>i=b) _).setCell (p:=(J b 0)) (λ_=>X) _⟩;rfl;rw[ByteArray.size_extract];omega
end Go.Proofs.YtfcgnpchbcmdeaaGreat
