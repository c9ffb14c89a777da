import Derived.Test.YtfcgnpchbcmdeaaGreatZsar
open _root_ renaming Nat->H,rfl->X,List->U,Array->YZ,Int->E,Option->Y0,ByteArray->ZC,Bool->ZG
open Option renaming some->T,none->ZP
open Go renaming Value->ZY,World->ZT,maxLen->Y2,strOfNums->ZB,madeCells->YV
open Go.Value renaming slice->ZH,ownBlock->ZW,int->ZX,pointer->Y7,tuple->Y5,string->YW,bool->ZR,agg->Y9
open Or renaming inl->ZM,inr->ZJ
open Go.World renaming ownsRow->ZD,grownBy->Y3,alloc->ZN,setCell->ZO,cell?->ZV,frozen?->YT,drew->YY,drewN->Y1
open List renaming replicate->Y6,drop->ZF,length->F,getD->Z,take->ZU
open Array renaming size->B,setIfInBounds->YS,toList->Y4
open Bool renaming false->ZZ,true->Z0
open Go.IntKind renaming i64->ZQ
open Int renaming toNat->ZL
open ByteArray renaming size->ZK
open Go.Ending renaming returned->ZI
open Go.Proofs renaming intOf->ZA
open Go.Proofs.Tryz renaming prog->Y8
open Decidable renaming decide->ZE
namespace Go.Proofs.YtfcgnpchbcmdeaaGreat
set_option linter.all false
set_option maxRecDepth 100000
set_option maxHeartbeats 8000000
open Go.RowKit List Nat Go.World Go.Proofs.Tryz Go.Value Go.IntKind Go.Lib Go.Region
def Eb(j:ZT)(g:H)(h i:ZY):Prop:=∃b a f,i=ZH b a f/\a<=Y2/\(a=0∨∃d c,b=T ⟨d,0,ZP⟩/\j.1[d]? =T (O_ c g)/\∀e,e<a->c[e]? =T h)
section
variable {w w' a:ZT} {ty:H} {u v:ZY}
def Eb.nil{w ty u a b}:Eb w ty u (V a 0 b):=⟨a,0,b,X,by simp[Y2],ZM X⟩
theorem Eb.of_row{g c d h a f e}(l:ZD w g ty 1 (L_ c a h) a (Y6 a u))(n:a<=Y2)(s:d<=a)(j:e=T ⟨c,0,ZP⟩):Eb w ty u (V e d f):=by
 subst j
 rcases l.2 with⟨b,_⟩|⟨p,o,i,b,_,k,_,_,_,t⟩
 ·cases b
 injection b with e1 e2 e3;injection e1 with e1;injection e1 with e1;subst e1;refine⟨_,d,f,X,O,ZJ ⟨c,i,X,k,λm r=>?_⟩⟩;have q:(Y6 a u)[m]? =T u:=w_
 grind
def Eb.D{c a}(b:ZD w c ty 1 v a (Y6 a u))(i:a<=Y2):Eb w ty u v:=by
 have j:=b
 rcases b.2 with⟨rfl,_⟩|⟨g,d,e,f,_,h,_,_,_,k⟩
 exact .nil
 grind [of_row]
def Eb.p{S}(i:Eb w ty u v)(m:Aa S w w')(l:∀b a,ZW v=T b->w.1[b]? =T (O_ a ty)->¬S b):Eb w' ty u v:=by obtain⟨h,g,c,rfl,f,k|⟨d,a,rfl,e,j⟩⟩:=i;exact⟨h,g,c,X,f,ZM k⟩;exact⟨_,g,c,X,f,ZJ ⟨d,a,X,m.g e (l d _ X e),j⟩⟩
def Eb.q(a:Eb w ty u v)(b:E_ w w'):Eb w' ty u v:=a.p (S:=λ_=>False) (.a b) (λ_ _ _ _=>id)
def Eb.append{x c m b d}(h:Eb w ty u x)(y:Y3 w w' (ZW v))(e:ZW c=ZW v∨ZW c=T d/\Below d w w')(q:B w.1=d)(G:ZD w' m ty 1 c b (Y6 b u))(D:b<=Y2)(t:∃a g,c=L_ a b g)(A:Zej x<=b):Eb w' ty u x:=by
 subst q
 rcases e with e|⟨_,r⟩
 ·obtain⟨l,k,f,rfl,j,z|⟨a,n,rfl,i,s⟩⟩:=h;exact⟨l,k,f,X,j,ZM z⟩;obtain⟨p,g,rfl⟩:=t
  by_cases o:a=p
  ·grind [of_row,Zej]
  refine⟨_,k,f,X,j,ZJ ⟨a,n,X,?_,s⟩⟩;rw[y.block a (Qb i).1 (by rw[<- e];simpa [ZW] using o)];exact i
 exact h.q r
structure Xo(ty j:H)(c:H->U ZY)(b:ZT->ZY->Prop):Prop where
 add:∀i a,c i++c a=c (i+a)
 D:∀{w f a v},ZD w f ty j v a (c a)->a<=Y2->b w v
 p:∀{S w w' v},b w v->Aa S w w'->(∀g l,ZW v=T g->w.1[g]? =T (O_ l ty)->¬S g)->b w' v
 n:∀{w w':ZT} {h v d:ZY} {f a e},b w h->Y3 w w' (ZW v)->(ZW d=ZW v∨ZW d=T e/\Below e w w')->B w.1=e->ZD w' f ty j d a (c a)->a<=Y2->(∃m k,d=L_ m a k)->Zej h<=a->b w' h
def Eb.b{ty u}:Xo ty 1 (Y6 · u) (λw=>Eb w ty u):=⟨λ_ _=>replicate_append_replicate,Eb.D,Eb.p,Eb.append⟩
def Hx.b{b}:Xo 98 4 (λa=>flat (Y6 a (Lz b))) (λw=>Hx w b):=
 ⟨λa i=>sa,λh=>Hx.D (by unfold Ai;rw[length_replicate];exact h),Hx.p,λc d e f g=>Hx.append c d e f (by unfold Ai;rw[length_replicate];exact g)⟩
structure tn(a w:ZT)(ty h:H)(f:H->U ZY)(e:ZT->ZY->Prop)(v)(c j)(d:U ZY)(g):Prop where
 M:ZD w 0 ty h v c (f c)
 all:∀b∈d,e w b/\Zej b<=c+j/\∀k,ZW b=T k->ZW v=T k∨B a.1<=k
 lt:∀b∈d,∀k,ZW b=T k->k<B w.1
 u:Aa g a w
variable {n j size:H} {b:U ZY} {S:H->Prop} {R:H->U ZY} {A:ZT->ZY->Prop}
def tn.h(f:Xo ty size R A)(c:ZD w 0 ty size v n (R n))(g:n<=Y2)(h:Aa S a w):tn a w ty size R A v n 0 [v] S:=by
 refine⟨c,λi b=>?_,λi b e d=>?_,h⟩
 ·simp only[mem_singleton] at b;subst b;refine⟨f.D c g,?_,λe d=>ZM d⟩
  rcases c.2 with⟨rfl,m⟩|⟨l,j,k,rfl,_⟩
  exact v_;exact x_
 simp only[mem_singleton] at b;subst b;exact(B_ c e d).2
def tn.P{v' m}(f:Xo ty size R A)(g:tn a w ty size R A v n j b S){k}(G:j<=m)(z:ZD w' 0 ty size v' (n+m) (R n++R m)/\Y3 (ZN w k) w' (ZW v)/\(ZW v'=ZW v∨ZW v'=T (B w.1+1)/\Below (B w.1+1) (ZN w k) w')/\ZD w' 0 ty size v n (R n)/\∃o l,v'=L_ o (n+m) l)(y:∀d,ZW v=T d->S d)(q:n+m<=Y2):tn a w' ty size R A v n m (b++[v']) S:=by
 obtain⟨h,i,t,u,p⟩:=z;rw[f.add] at h;have L:=g.u.size;refine⟨u,λx c=>?_,λx c d e=>?_,(g.u.alloc k).grown i (λd e _=>y d e)⟩
 ·rcases mem_append.1 c with c|c
  have⟨r,D,s⟩:=g.all x c;exact⟨f.n (f.p (S:=λ_=>False) r (.a r_) (λ_ _ _ _=>id)) i t s_ h q p O,O,s⟩;simp only[mem_singleton] at c;subst c;refine⟨f.D h q,?_,λd e=>?_⟩;obtain⟨o,l,rfl⟩:=p;exact x_
  grind
 rcases mem_append.1 c with c|c
 have:=g.lt x c d e;have:=i.size;simp at this;omega;simp only[mem_singleton] at c;subst c;exact(B_ h d e).2
end
def Ta(b:U ZY)(c:ZY)(a:H):U ZY:=Y6 a c++ZF a b
def bc a b:Ta a b 0=a:=by simp[Ta]
def Zj5{a c b}(d:b<=F a):F (Ta a c b)=F a:=by simp[Ta];omega
def ba a b:Ta a b (F a)=Y6 (F a) b:=by simp[Ta]
def Zj6{b c a}(d:a<F b):(Ta b c a).set a c=Ta b c (a+1):=by unfold Ta;rw[aN d,set_append_right _ _ s_,length_replicate,Nat.sub_self,set_cons_zero,replicate_succ'];simp
structure ae(f c:ZT)(g i)(p:YZ ZY)(s t:H)(o:ZT->ZY->Prop)(q j m l:ZY)(n h)(r)(e d)(b):Prop where
 v:WB c g (YS (YS (YS p 12 (I r)) i e) (i+1) d)
 x:ZD c 0 s 1 e (F n+4) (n++b)
 w:ZD c 0 t 1 d (F h+4) (h++Y6 4 q)
 y:F b=4
 all:∀a∈b,o c a/\∀k,ZW a=T k->ZW j=T k∨B f.1<=k
 u:Aa (λk=>k=g∨ZW j=T k∨ZW m=T k∨ZW l=T k) f c
 D:∀k,ZW e=T k->ZW m=T k∨B f.1<=k
 z:∀k,ZW d=T k->ZW l=T k∨B f.1<=k
 A:∀a∈b,∀k,ZW a=T k->ZW d≠T k
 G:∀a∈b,∀k,ZW a=T k->ZW e≠T k
 lt:∀a∈b,∀k,ZW a=T k->k<B c.1
def WB.M{b}{d m c a f e:H}{i g n h}(j:WB b d i)(l:ZD b c a f g e h)(k:a≠90):ZD (ZO b (J d m) n) c a f g e h:=Am l j k
def WB.apart{d}{a e b l k:H}{f c m}(h:WB d a f)(j:ZD d e b l c k m)(o:b≠90):T a≠ZW c:=λg=>by
 have⟨n,i⟩:=Ac j g.s;rw[h] at i
 grind
def WB.all{c a e f p j d k g h}(m:WB c a k)(i:Xo f p j d)(n:d c h)(r:f≠90):d (ZO c (J a e) g) h:=
 i.p (S:=λb=>b=a) n ((Aa.refl (λb=>b=a) c).setCell (p:=(J a e)) (λ_=>X) g) (λb q _ o l=>by
  subst l;rw[m] at o
  grind)
structure OwC(k:ZT)(d h:H)(g:YZ ZY)(ty c e:H)(f b a:ZY)(j i:U ZY):Prop where
 r:ZD k 0 c 1 b (F j) j
 z:ZD k 0 e 1 a (F i) i
 n:ZW b=ZP∨ZW b≠ZW f
 o:ZW a=ZP∨ZW a≠ZW f
 u:ZW a=ZP∨ZW a≠ZW b
 l:T d≠ZW f
 p:T d≠ZW b
 q:T d≠ZW a
 t:g[h]? =T b
 D:g[h+1]? =T a
 ty:ty≠90/\c≠90/\e≠90/\ty≠c/\c≠e
structure tp(j b:ZT)(c:H)(f:YZ ZY)(i h:H)(d:ZY)(g:H)(e:H->U ZY)(a:H):Prop where
 M:ZD b 0 i h d g (e a)
 u:Aa (λa=>a=c∨ZW d=T a) j b
 v:WB b c f
structure OwS(l a:ZT)(b:H)(g:YZ ZY)(k j:H)(f:H->U ZY)(e:ZT->ZY->Prop)(d:ZY)(i h:H)(m:U ZY):Prop where
 n:tn l a k j f e d i h m (λc=>c=b∨ZW d=T c)
 v:WB a b g
structure OwN(f b:ZT)(g:H)(n:YZ ZY)(o p:H)(m:ZT->ZY->Prop)(i j d:ZY)(l h:U ZY)(e:ZY)(c:U ZY):Prop where
 v:WB b g n
 x:ZD b 0 o 1 e (F l+4) (l++c)
 w:ZD b 0 p 1 d (F h) h
 all:∀a∈c,m b a/\∀k,ZW a=T k->ZW i=T k∨B f.1<=k
 u:Aa (λk=>k=g∨ZW i=T k∨ZW j=T k∨ZW d=T k) f b
 D:∀k,ZW e=T k->ZW j=T k∨B f.1<=k
 A:∀a∈c,∀k,ZW a=T k->ZW d≠T k
 G:∀a∈c,∀k,ZW a=T k->ZW e≠T k
 lt:∀a∈c,∀k,ZW a=T k->k<B b.1
section
variable {w W w' z:ZT} {g i ty e f n m j k q u size:H} {y:E} {R r:H->U ZY} {A:ZT->ZY->Prop} {c:YZ ZY} {v h b l s x t G:ZY} {vs d L D p:U ZY} {a:Y0 Addr} {o:Obj}
def OwC.N(k:WB w g c)(m:ZD w 0 ty size v n L)(j:ZD w 0 e 1 h (F vs) vs)(l:ZD w 0 f 1 b (F d) d)(q:ZW b=ZP∨ZW b≠ZW v)(o:c[i]? =T h)(p:c[i+1]? =T b)(a:ty≠90/\e≠90/\f≠90/\ty≠e/\e≠f:=by decide):OwC w g i c ty e f v h b vs d:=
 ⟨j,l,Ap m j a.2.2.2.1,q,Ap j l a.2.2.2.2,k.apart m a.1,k.apart j a.2.1,k.apart l a.2.2.1,o,p,a⟩
def ZbY(j:ZY)(r:H->U ZY)(a:WB w g c)(k:ZD w 0 ty size v n (r 0))(u:ZD w 0 e 1 h (F vs) vs)(t:ZD w 0 f 1 b (F d) d)(s:ZW b=ZP∨ZW b≠ZW v)(p:c[i]? =T h)(q:c[i+1]? =T b)(m:c[12]? =T G)(l:ty≠90/\e≠90/\f≠90/\ty≠e/\e≠f:=by decide)(x:i+1<12:=by decide):K (OwC w g i (YS c 12 j) ty e f v h b vs d)/\K (tp w (ZO w (J g 12) j) g (YS c 12 j) ty size v n r 0)/\ZV w (J g 12)=T G/\(∀o,YT w (J g o)=ZZ)/\ZV (ZO w (J g 12) j) (J g 12)=T j:=by
 refine⟨{(OwC.N a k u t s p q l) with t:=?_,D:=?_},⟨?_,(Aa.refl _ w).setCell (p:=(J g 12)) (λ_=>ZM X) _,a.set _ _⟩,by rw[a.cell];exact m,λo=>a.frozen o,?_⟩
 ·grind
 ·grind
 exact a.M k l.1;rw[(a.set 12 j).cell];grind
def tp.ptr(b:tp w W g c ty size (V a n u) n r k)(i:k<n):∃q,a=T ⟨q,0,ZP⟩:=by
 rcases b.M.2 with⟨_,h⟩|⟨q,d,e,f,_⟩
 omega
 grind
def tp.ab(a:tp w W g c ty 1 (L_ q n u) n (Ta L x) k)(f:n=F L)(e:k<n)(d:T g≠ZW (L_ q n u)):(∃b,ZV W (J q k)=T b)/\(∀o,YT W (J q o)=ZZ)/\K (tp w (ZO W (J q k) x) g c ty 1 (L_ q n u) n (Ta L x) (k+1)):=by refine⟨?_,λo=>World.ownsRow.frozenAt a.M o,?_,a.u.setCell (p:=(J q k)) (λ_=>ZJ X) _,a.v.h (p:=(J q k)) (λb=>d (by rw[b];rfl))⟩;rw[World.ownsRow.cellAt a.M k O];exact⟨_,Qd (by rw[Zj5 O];omega)⟩;rw[<- Zj6 O];exact(World.ownsRow.stored a.M k _).1
def tp.N(a:tp w W g c ty size v n r n)(b:Xo ty size R A)(d:r n=R n)(e:n<=Y2):OwS w W g c ty size R A v n 0 [v]:=
 ⟨.h b (d ▸ a.M) e a.u,a.v⟩
def OwS.P(a:OwS w W g c ty size R A v n j D)(d:Xo ty size R A)(f:T g≠ZW v)(b:K (ZD w' 0 ty size l (n+m) (R n++R m)/\Y3 (ZN W o) w' (ZW v)/\(ZW l=ZW v∨ZW l=T (B W.1+1)/\Below (B W.1+1) (ZN W o) w')/\ZD w' 0 ty size v n (R n)/\∃g e,l=L_ g (n+m) e))(h:j<=m:=by decide)(k:n+m<=Y2:=by unfold maxLen;omega):K (OwS w w' g c ty size R A v n m (D++[l])):=
 ⟨a.n.P d h b (λ_ i=>ZJ i) k,(a.v.alloc _).grown b.2.1 f⟩
def OwC.M(a:OwC w g i c ty e f v h b vs d)(j:OwS w W g c ty size R A v n m p):ZD W 0 e 1 h (F vs) vs/\ZD W 0 f 1 b (F d) d:=
 ⟨j.n.u.M a.r (λk o l=>by have:=a.p;have:=a.n;grind),j.n.u.M a.z (λk o l=>by have:=a.q;have:=a.o;grind)⟩
def OwS.M(z:Xo ty size R A)(j:OwC w g i c ty e f v h b vs d)(a:OwS w W g c ty size R A v n m p)(L:K (w'.ownsRow 0 e 1 l (vs.length+4) (vs++p)/\(W.alloc o).grownBy w' h.ownBlock/\(l.ownBlock=h.ownBlock∨l.ownBlock=some (W.1.size+1)/\Below (W.1.size+1) (W.alloc o) w')/\w'.ownsRow 0 e 1 h vs.length vs/\∃g D,l=L_ g (vs.length+4) D)):w'.cell? (J g i)=some h/\(∀o,w'.frozen? (J g o)=false)/\K (OwN w (w'.setCell (J g i) l) g (c.setIfInBounds i l) e f A v h b vs d l p):=by
 obtain⟨G,y,a2,_,_⟩:=L;have⟨M,N⟩:=j.M a;have x:=((Aa.refl _ _).alloc _).grown y (λk q _=>q);have a7:=x.size;have a8:=a.n.u.size;have u:=(a.v.alloc o).grown y j.p;have⟨P,Q,S,a9,b0⟩:=j.ty;have a3:=j.n;have a6:=j.o;refine⟨(u.cell i).T j.t,u.frozen,u.set _ _,u.M G Q,u.M (World.ownsRow.kept (ra_ N _) y j.u) S,λs r=>⟨u.all z (z.p (a.n.all s r).1 x λk a0 _ a5 q=>?_) P,(a.n.all s r).2.2⟩,?_,λk t=>?_,λs r k t q=>?_,λs r k t q=>?_,λs r k t=>?_⟩
 ·have⟨a1,a4⟩:=Ac M q
  grind
 exact((a.n.u.m (λk _ q=>w_)).T (x.m (λk _ q=>.inr (.inr (.inl q))))).setCell (p:=(J g i)) (λ_=>.inl rfl) _
 ·grind
 ·have:=(B_ j.z k q).2;have:=(a.n.all s r).2.2 k t
  grind
 ·have:=a.n.lt s r k t;have:=(a.n.all s r).2.2 k t;have:=B_ j.r k
  grind
 have:=a.n.lt s r k t;simp[World.setCell];omega
def OwN.cell(a:OwC w g i c ty e f v h b vs d)(k:OwN w W g (YS c i l) e f A v h b vs d l p)(m:i+1=j:=by rfl):ZV W (J g j)=T b:=by subst m;rw[k.v.cell,aH O];exact a.D
def OwN.M(G:Xo ty size R A)(D:OwC w g i (YS c 12 (I y)) ty e f v h b vs d)(a:OwN w W g (YS (YS c 12 (I y)) i l) e f A v h b vs d l p)(N:E_ W z)(a3:F p=4){L:H}{P:Prop}(a1:K (ZD w' 0 f 1 s (F d+4) (d++[t,t,t,t])/\Y3 z w' (ZW b)/\(ZW s=ZW b∨ZW s=T L/\P)/\ZD w' 0 f 1 b (F d) d/\∃g Q,s=L_ g (F d+4) Q))(b1:B W.1<=L:=by first|omega|simp)(a2:i+1=j:=by rfl):ZV w' (J g j)=T b/\(∀o,YT w' (J g o)=ZZ)/\K (ae w (ZO w' (J g j) s) g i c e f A t v h b vs d y l s p):=by
 obtain⟨S,M,b0,_,_⟩:=a1;have x:=((Aa.refl _ _).q N).grown M (λk m _=>m);have b2:=x.size;have b3:=a.u.size;subst a2;have u:=(a.v.q N a.v.lt).grown M D.q;have⟨a4,a5,a6,b4,b5⟩:=D.ty;refine⟨(u.cell _).T (by rw[aH O];exact D.D),u.frozen,u.set _ _,u.M (x.M a.x λk r m=>?_) a5,u.M S a6,a3,λq n=>⟨u.all G (G.p (a.all q n).1 x λk a7 a0 _ m=>a.A q n _ a0 m) a4,(a.all q n).2⟩,?_,a.D,λk r=>?_,λq n k r m=>?_,a.G,λq n k r=>?_⟩
 ·have⟨a0,a8⟩:=Ac a.x r;have⟨a7,a9⟩:=Ac a.w m
  grind
 exact(a.u.T (x.m (λk _ m=>ZJ (ZJ (ZJ m))))).setCell (p:=(J g (i+1))) (λ_=>ZM X) _
 ·grind
 ·have:=a.lt q n k r;have:=a.A q n k r
  grind
 have:=a.lt q n k r;simp[ZO];omega
end
def ZkR(a:E):ZC:=({data:=#[109,97,114,107]}:ZC)++ZB [a%256,a/256%256]
def tp.q{m d e:ZT}{g f k j l i c h}(a:tp m d g f k j l i c h)(b:E_ d e):tp m e g f k j l i c h:=
 ⟨(Aa.a (S:=λ_=>False) b).M a.M (λ_ _=>id),a.u.q b,a.v.q b a.v.lt⟩
def zu j i l {D q} h {r v} a g (W:WB g j i)(R:i[8]? =T D)(S:i[9]? =T q)(Q:i[12]? =T (I a))(z:Bj g 0 l h)(a2:ZD g 0 47 1 D (F r) r)(a1:ZD g 0 9 1 q (F v) v)(a0:ZW q=ZP∨ZW q≠ZW l)(c6:F h<=4194304)(c7:F r<=100000000)(c8:F v<=100000000)(b3:0<=a/\a<=100000000):C_ 143 #[Y7 (T (J j 4)),l] g λd b=>d=ZI (Y5 #[])/\∃a4 a3 e,ae g b j 8 i 47 9 (λc=>Eb c 9 (Q_ (ZkR (a+1)))) (Q_ (ZkR (a+1))) l D q r v (a+1) a4 a3 e:=by
 obtain⟨M,N,rfl⟩:=z.a;have L:K (_=F (h.map YW)):=(length_map _).s;obtain⟨f,d,a7,p,u⟩:=ZbY (I (a+1)) (Ta (h.map YW) (Q_ (ZkR (a+1)))) W (by rw[bc];exact z) a2 a1 a0 R S Q;generalize (F h)=k,h.map YW=a5 at *;obtain⟨c9,d0⟩:=b3;have⟨c,t⟩:=ez_ (ZkR (a+1));rw[t] at d ⊢;clear W z a2 a1 a0 R S Q;have b8:_/2^8=(a+1)/256:=rfl;refine q_ ?_;go_upto_region 1 with fail;generalize (ZO g) (J j 12) (I (a+1))=s at *;clear a7 p
 have b1:(convert 66 9 (L_ (B s.1) 2 2)).run Y8 (YY (ZN s (O_ #[ZX .u8 (IntKind.u8.wrap (a+1)),ZX .u8 (IntKind.u8.wrap ((a+1)/256))] 5)))=.ok (Q_ (ZB [(a+1)%256,(a+1)/256%256])) (YY (ZN s (O_ #[ZX .u8 (IntKind.u8.wrap (a+1)),ZX .u8 (IntKind.u8.wrap ((a+1)/256))] 5))):=by
  have e:∀b:_,IntKind.u8.wrap b=b%256:=λb=>by simp only[wrap,IntKind.bits,signed];simp
  apply Pn _ 0;rw[e,e];exact World.ownsRow.drew (ownsRow_lit (base:=0) (size:=1) (e:=5) _ _ 2 v_ (by unfold Y2;omega) X)
 unfold ZkR at t;have b2:¬9223372036854775807<4+ZK (ZB [(a+1)%256,(a+1)/256%256]):=(by simp[ZB,ZK]);generalize ZB [(a+1)%256,(a+1)/256%256]=d3 at *;go_cut [4] (λl b=>l=YW c/\K (E_ s b))
 case first=>
  refine Af (λb=>ZV b _=T _) 14 k_ u (λhHeld=>?_);refine G_ ?_;refine on_ 11 λKK hK=>?_;go_simp;refine hK _ _ (X_ u) (λhHeld=>?_);clear hK KK;refine G_ ?_;refine on_ 12 λKK hK=>?_;go_simp;refine hK _ _ (X_ u) (λhHeld=>?_);clear hK KK;refine G_ ?_;refine le_ ?_;go_wp2;go_meet
  exact⟨by rw[<- t],(by show Below _ _ _;grind [Below.refl,Below.drew,Below.alloc])⟩
 obtain⟨rfl,G⟩:=hcut;replace d:=Y (d.q G);clear b2 b1 u G t b8;go_upto_region 3 with fail;go_loopw [5] (λb n=>∃e:H,e<=k/\b=ZX ZQ e/\K (tp g n j (YS i 12 (I (a+1))) 9 1 (ZH M k N) k (Ta a5 (YW c)) e)) (λb _=>k-ZL (ZA b))
 case atStart=>exact⟨0,v_,X,d⟩
 clear d;obtain⟨e,c5,rfl,d⟩:=hrel
 by_cases A:e<k
 ·obtain⟨w,rfl⟩:=d.ptr A;have⟨⟨x,n⟩,o,b⟩:=d.ab L A f.l;clear d;refine J_ ?_;exact⟨e+1,A,g_,b⟩
 obtain rfl:e=k:=O;have w:=Y (d.N Eb.b (by rw[L,ba]) (by unfold Y2;omega));clear d;go_wp2_with (at_builtin;refine ap_ [Q_ c] (w.n.M.alloc _) ?_)
 intro d8 s b;have x:=w.P Eb.b (m:=1) f.l b;obtain⟨b9,b4,rfl⟩:=b.2.2.2.2;clear b w;go_wp2_with (at_builtin;refine ap_ [Q_ c,Q_ c] (x.n.M.alloc _) ?_)
 intro d9 d4 b;have y:=x.P Eb.b (m:=2) f.l b;obtain⟨c0,b5,rfl⟩:=b.2.2.2.2;clear b x;go_wp2_with (at_builtin;refine ap_ [Q_ c,Q_ c,Q_ c] (y.n.M.alloc _) ?_)
 intro e0 d5 b;have o:=y.P Eb.b (m:=3) f.l b;obtain⟨c1,b6,rfl⟩:=b.2.2.2.2;clear b y;have a8:=(o.v.cell 8).T f.t;have p:=o.v.frozen;go_wp2_with (at_builtin;refine ap_ [V M e N,L_ b9 (e+1) b4,L_ c0 (e+2) b5,L_ c1 (e+3) b6] ((f.M o).1.alloc _) ?_)
 intro a4 c3 b;have⟨b0,P,n⟩:=o.M Eb.b f b;obtain⟨c2,b7,rfl⟩:=b.2.2.2.2;clear b o a8 p;go_upto_region 10 with fail;generalize (ZO c3) (J j 8) (L_ c2 (F r+4) b7)=d6 at *;have a9:=n.cell f;have p:=n.v.frozen;clear b0 P;go_wp2_with (at_builtin;refine ap_ [Q_ c,Q_ c,Q_ c,Q_ c] (n.w.alloc _) ?_)
 intro a3 d7 b;obtain⟨c4,P,a6⟩:=n.M Eb.b f r_ X b;obtain⟨d2,d1,rfl⟩:=b.2.2.2.2;clear b n a9 p;go_wp2;go_end0;exact⟨X,_,_,_,a6⟩
def ZiC{b:U Cd}{c a}(d:a<c):Z (ZU c b) a e0=Z b a e0:=w_
theorem dw{b a c d}(e:0<a):(d<=Bz b a c)↔d*a<=b*c:=by unfold Bz;exact Int.le_ediv_iff_mul_le e
def Zd1{L:U Cd}{m A bins tot k}(e:m<=F L)(c:A<=m)(g:0<tot)(f:∀a,a<A->bins*(Z L a e0).h<k*tot)(h:A<m->k*tot<=bins*(Z L A e0).h):(ZU m L).findIdx (λb=>ZE (k<=Bz bins tot b.h))=A:=by
 have d:F (ZU m L)=m:=w_
 by_cases b:A<m
 ·rw[findIdx_eq O]
  grind [dw]
 grind [dw]
def Bc.f{a}(b:Bc a):=b.i.imp (λc=>c.1)
def Zdo d c b:∀g a,1<=a->F (bJ d c b a g)<=ZL (b+1-a)
 |[],a,e=>by simp[bJ]
 | h ::f,a,e=>by
  rw[Xs];split
  ·rename_i i;have:=Zdo d c b f (min (Bz c d h.h) b+1) O
   grind
  exact Zdo _ _ b f a e
def Zb6{k n b t f e}(u:Ln e k n b)(v:F b≠0)(y:F b<=4194304)(l:(F b:E)<=f):C_ 288 #[V (T (J k n)) (F b) t,I f] e λc d=>∃a,c=ZI a/\Ad d (B e.1) a (Bm b f)/\E_ e d:=by
 have p:=Y u;obtain⟨d,i⟩:∃d,F b=d+1:=⟨F b-1,O⟩
 have o:K (Bm b _=(ZU d b).map _):=show _=_ by unfold Bm;rw[aC v,aD l,i];rfl
 have q:=Y i;rw[i] at y l ⊢;have P:d+1<=f:=O;refine q_ ?_;go_wp2_with fail
 go_loopw [5,6] (λj g h=>∃(a:H),g=ZX ZQ a/\a<=d/\K (Ad h (B e.1) j ((ZU a b).map (λc=>c.v)))/\E_ e h) (λ_ g _=>d-ZL (ZA g))
 exact⟨0,X,v_,Ad.nil,y_⟩;obtain⟨a,rfl,m,h,g⟩:=hrel
 by_cases Q:a<d
 ·have x:a<F b:=p_ q;have L:=T_ g (p.v a x)
  have r:K ((ZU (a+1) b).map (λc=>c.v)=(ZU a b).map (λc=>c.v)++[(Z b a e0).v]):=by
   show _=_
   grind [Qi]
  have z:F ((ZU a b).map (λc=>c.v))<=1000000000:=w_;generalize (ZU a b).map (λc=>c.v)=R,(Z b a e0).v=G at *;have M:0<=(a:E):=O;have N:a<(d:E)+1:=O;have s:a+1<(d:E)+1:=O;have A:=g.size;go_wp2_with (at_builtin;refine By X (.tmp 22) _ X _ _ _ G X (h.alloc _) _ 1 X ?_ z ?_ ?_)
  ·simp[go_sem]
  simp;omega;intro a0 D j;have w:E_ e D:=(by have⟨S,c,W⟩:=j.out;exact g.T ((y_.alloc A _).grown c t_ (λa m=>(h.lt a m).1)));have c:=Y j.1;refine J_ ?_;exact⟨a+1,g_,O,r ▸ c,w⟩
 have j:a=d:=O;have c:K (Ad wr (B e.1) u5 (Bm b f)):=(by rw[o,<- j];exact h);have s:¬a+1<(d:E)+1:=O;go_wp2;go_ret;exact⟨_,X,c,g⟩
def Zjx{p:Prop}(h:p:=by
 clear A t;have a6:F f<=1000000000:=p_ l.out;go_wp2_with (at_builtin;refine By X (.tmp 76) _ X _ _ f m X (q.alloc _) _ 1 X ?_ a6 ?_ ?_)
 omega;intro d9 a8 s;have a4:E_ n a8:=(by have⟨v,u,x⟩:=s.out;exact w.T ((y_.alloc c0 _).grown u t_ (λk y=>(q.lt k y).1)));have x:=s.1;have⟨u,v,a7⟩:=x.d;subst a7;have p:=Y x;clear s x;refine J_ ?_
 exact⟨j+1,u,v,g_,O,by show _=ZH u (F (bJ d b ((j:E)+1) 1 (ZU c a))) v;rw[h],by show Ad _ _ (V u (F (bJ d b ((j:E)+1) 1 (ZU c a))) v) (bJ d b ((j:E)+1) 1 (ZU c a));rw[h];exact p,a4⟩):p:=h
def Zjy{p:Prop}(h:p:=by
 refine J_ ?_
 exact⟨j+1,_,o,g_,O,by show _=ZH _ (F (bJ d b ((j:E)+1) 1 (ZU c a))) o;rw[h,l],by show Ad _ _ (V _ (F (bJ d b ((j:E)+1) 1 (ZU c a))) o) (bJ d b ((j:E)+1) 1 (ZU c a));rw[h,l];exact q,w⟩):p:=h
def zy{P a0 a b3 b n}(g:Ln n P a0 a)(r:Bc a)(b7:F a<=4194304)(e6:2<=b)(d3:b<=16)(b9:b<(F a:E)):C_ 288 #[V (T (J P a0)) (F a) b3,I b] n λG c=>∃m,G=ZI m/\Ad c (B n.1) m (Bm a b)/\E_ n c:=by
 have b4:F a≠0:=O;have a9:=Y g;obtain⟨c,M⟩:∃c,F a=c+1:=⟨F a-1,O⟩;have b2:K (C_ 176 #[V (T (J P a0)) (c+1) b3] n (V_ (ZX ZQ (Ae a)) n)):=(by rw[<- M];exact Zas a ⟨b7,ZJ ⟨P,a0,X,g⟩⟩);have S:Ae a=(Z a c e0).h:=(by unfold Ae;grind);have f5:1<=Ae a:=(by have:=r.at (show c<F a by omega);rw[S];omega);have d8:=(Dk r).2;have d1:K (∀k,k<_->0<=(Z a k e0).h/\_):=λk y=>⟨p_ (r.at y),Nq r y⟩
 have b0:K (∀G∈ZU c a,Bz b (Ae a) G.h<=b-1):=λG d4=>by
  obtain⟨i,a5,rfl⟩:=aM d4;rw[length_take] at a5;have d:(ZU c a)[i]' O=Z a i e0:=w_;have f:=(r.lt (i:=i) (j:=c) O O).2.2;have h:=r.at (show c<F a by omega);rw[d];have e:(Z a i e0).h<Ae a:=p_ S
  have:¬b<=Bz b (Ae a) (Z a i e0).h:=λQ=>by rw[dw O] at Q;have:=Int.mul_lt_mul_of_pos_left e (show 0<b by omega);omega
  omega
 have c8:K (Bm a b=bJ (Ae a) b (b-1) 1 (ZU c a)):=show _=_ by unfold Bm;rw[aC b4,aC O,M,Zjl _ _ b0];rfl
 have a1:=Y M;have d0:K ((ZU c a).Pairwise _):=r.f.sublist (take_sublist _ _)
 have c9:K (∀j:_,j<=b->j*Ae a<=_):=λj b6=>by rw[S];exact Int.mul_le_mul_of_nonneg_right b6 O
 rw[M] at b7 b9 ⊢;have f0:¬c+1<=b:=O;clear g r b4 M b9 S b0;generalize Ae a=d at *;refine q_ ?_;go_wp2_with fail
 apply b2.m;rintro G f6 ⟨rfl,c1⟩;obtain rfl:=c1.s;clear c1 b2;go_wp2_with fail
 go_loopw [5,8] (λh e f=>∃(j:H) (W:Y0 Addr) (o:H),e=ZX ZQ ((j:E)+1)/\(j:E)+1<=b/\h=ZH W (F (bJ d b j 1 (ZU c a))) o/\K (Ad f (B n.1) (ZH W (F (bJ d b j 1 (ZU c a))) o) (bJ d b j 1 (ZU c a)))/\E_ n f) (λ_ e _=>ZL (b-ZA e))
 exact⟨0,ZP,0,X,O,by rw[show bJ d b ((0:H):E) 1 (ZU c a)=[] from jh _ _ C];rfl,by rw[show bJ d b ((0:H):E) 1 (ZU c a)=[] from jh _ _ C];exact Ad.nil,y_⟩;obtain⟨j,W,o,rfl,b6,rfl,q,w⟩:=hrel
 by_cases e7:(j:E)+1<b
 ·have c0:=w.size;have b1:=xy d b j _ 1 O d0;have R:=Zdo d b j (ZU c a) 1 O;have f1:F (bJ d b j 1 (ZU c a))<=16:=O;have a2:=Y b1;clear b1 R;generalize bJ d b j 1 (ZU c a)=f at *;go_wp2_with fail
  rename_i f7;go_loopw [9] (λh l=>∃e:H,h=ZX ZQ e/\e<=c/\K (∀i,i<e->b*(Z a i e0).h<((j:E)+1)*d)/\l=wr) (λh _=>c-ZL (ZA h))
  exact⟨0,X,v_,λi a5=>O,X⟩;obtain⟨e,rfl,d2,N,d5⟩:=hrel;subst d5;have a3:e<F a:=(by rw[a1];omega);have⟨e1,e2⟩:=k2_ w (a9.v e a3) (a9.h e a3);have b5:=d1 e a3;have c2:0<=b*_:=Int.mul_nonneg O b5.1;have c3:b*_<=_*1000000000000:=Int.mul_le_mul d3 O b5.1 O;have c4:0<=(j+1)*d:=Int.mul_nonneg O O;have c5:((j:E)+1)*_<=16*_:=Int.mul_le_mul O d8 O O;have e3:0<=(e:E):=O;have e4:e<(c:E)+1:=O;have f3:_=b*(Z a e e0).h:=Au O O;have f4:_=((j:_)+1)*d:=Au O O
  by_cases Q:b*(Z a e e0).h<((j:E)+1)*d
  ·have L:e<c:=by
    by_cases g:e=c
    rw[g] at Q;have:=c9 ((j:E)+1) O;omega;omega
   have h:K (∀i,i<e+1->b*(Z a i e0).h<(j+1)*d):=λi a5=>by
    by_cases g:i=e
    rw[g];exact Q;exact N i O
   generalize (Z a e e0).h=c6,(Z a e e0).v=m at *;refine J_ ?_;exact⟨e+1,g_,O,h,trivial⟩
  have p:=Zd1 (L:=a) (m:=c) (A:=e) (bins:=b) (tot:=d) (k:=(j:E)+1) (by rw[a1];omega) d2 O N (λ_=>O);have z:=a2.out;rw[p,length_take,show min c (F a)=c by rw[a1];omega] at z
  by_cases L:e<c
  ·rw[ZiC L] at z;generalize (Z a e e0).h=c6,(Z a e e0).v=m at *;have t:=Y z;clear z a2 p N c2 c3 c4 c5;generalize R:F f=d7 at *;have l:=Y R;clear R
   cases d7 with
   | zero=>
    have A:=eq_nil_of_length_eq_zero l;have h:K (bJ d b (j+1) 1 (ZU c a)=f++[m]):=(by show _=_;rw[t,aD ⟨L,by rw[A];simp⟩]);exact Zjx
   | succ D=>
    obtain⟨f2,rfl,_,_,e5,_⟩:=q.b l (k:=D) O;have b8:f.getLast? =T (Z f D 0):=by rw[getLast?_eq_getElem?,l,Nat.add_sub_cancel,Qc,Qd (by rw[l];omega)];rfl
    rw[b8] at t;clear b8;generalize (Z f) D 0=c7 at *;have e8:(((D:E)+1)==0)=_:=aO O;have e9:ZL (((D+1:H):E)-1)=D:=O
    by_cases A:c7=m
    have h:K (bJ d b (j+1) 1 (ZU c a)=f):=(by show _=_;rw[t,aC (λg=>g.2 (by rw[A]))]);have d6:(c7 !=m)=ZZ:=(by rw[A];simp);clear A t;exact Zjy;have h:K (bJ d b (j+1) 1 (ZU c a)=f++[m]):=(by show _=_;rw[t,aD ⟨L,λg=>A (by injection g)⟩]);have d6:=bne_iff_ne.2 A;exact Zjx
  have h:K (bJ d b (j+1) 1 (ZU c a)=f):=(by show _=_;rw[z,aC (λg=>L g.1)]);have l:K (F f=_):=rfl;clear z a2 p N c2 c3 c4 c5;generalize (Z a e e0).h=c6,(Z a e e0).v=m at *;exact Zjy
 have e:j=b-1:=O;have p:K (Ad wr (B n.1) (V W (F (bJ d b j 1 (ZU c a))) o) (Bm a b)):=(by rw[c8,<- e];exact q);clear q e;generalize bJ d b j 1 (ZU c a)=f at *;go_wp2;go_ret;exact⟨_,X,p,w⟩
def Zb5{e} a {h b c}(j:Cj c e a)(i:Bc a)(l:2<=b)(m:b<=16):C_ 288 #[V e (F a) h,I b] c λg f=>∃d,g=ZI d/\Ad f (B c.1) d (Bm a b)/\E_ c f:=by
 by_cases d:F a=0
 ·have f:Bm a b=[]:=(by unfold Bm;rw[aD d]);rw[f,d];refine q_ ?_;go_wp2_with fail
  go_loopw [5,6] (λk g n=>k=ZH ZP 0 0/\g=I 0/\n=c) (λ_ _ _=>0)
  grind
  obtain⟨rfl,rfl,g⟩:=hrel;subst g;go_wp2;go_ret;exact⟨_,X,Ad.nil,y_⟩
 obtain⟨g,k|⟨o,p,rfl,f⟩⟩:=j;exact absurd k d
 by_cases n:(F a:E)<=b
 exact Zb6 f d g n;exact zy f i g l m O
def Xi(b:U H):H->H×E
 |0=>(0,-1)
 |a+1=>if(Xi b a).2<(b.count a:E) then(a,(b.count a:E)) else Xi b a
def ZdJ{B:U H}{r}(b:r<F B) a:(ZU (r+1) B).count a=(ZU r B).count a+(if Z B r 0=a then 1 else 0):=by
 rw[Qi b,count_append,Qc,Qd b]
 grind
def Zgl b:∀a,(Xi b a).1<=a/\ -1<=(Xi b a).2/\(Xi b a).2<=F b
 |0=>by simp[Xi]
 | a+1=>by
  have:=Zgl b a
  grind [Xi]
def Zce o (e j f:H) b h (y:Ad h 0 (V o e j) (An b))(v:F b=e)(Q:e<=200)(M:f<=1000):C_ 240 #[V o e j,I f] h (V_ (ZX ZQ (Xi b f).1) h):=by
 have⟨r,g⟩:=Y_ y v;refine q_ ?_;go_wp2_with fail
 go_loopw [5,6,7] (λd i c k=>∃a:H,c=ZX ZQ a/\a<=f/\d=ZX ZQ ((Xi b a).1:H)/\i=ZX ZQ (Xi b a).2/\k=h) (λ_ _ c _=>f-ZL (ZA c))
 exact⟨0,X,v_,X,X,X⟩;obtain⟨a,rfl,N,rfl,rfl,z⟩:=hrel;subst z
 by_cases P:a<f
 ·have u:a<(f:E):=O;have G:K (Xi b (a+1)=if _<_ then _ else _):=rfl;have x:=Zgl b a;rw[g] at x;generalize Xi b a=s at *;obtain⟨D,n⟩:=s;simp only at *;go_wp2_with fail
  rename_i a0;go_loopw [8,9] (λi d k=>∃c:H,d=ZX ZQ c/\c<=e/\i=ZX ZQ ((ZU c b).count a:H)/\(ZU c b).count a<=c/\k=wr) (λ_ d _=>e-ZL (ZA d))
  grind
  obtain⟨c,rfl,R,rfl,w,A⟩:=hrel;subst A
  by_cases l:c<e
  ·obtain⟨W,rfl,_,_,t,_⟩:=r.b (by rw[Ak];exact g) l;rw[Bq] at t;have p:=ZdJ (B:=b) (r:=c) (g ▸ l) a;have q:=Y p;generalize (Z b) c 0=i,(ZU c b).count a=k at *;have L:=F_ c e
   by_cases m:i=a
   ·subst m;have d:K ((ZU (c+1) b).count i=k+1):=w_;refine J_ ?_;exact⟨c+1,g_,O,by rw[d];go_num,by rw[d];omega,trivial⟩
   have d:K ((ZU (c+1) b).count a=k):=(by show _=_;rw[q,aC m];rfl);have S:((i:_)==(a:E))=_:=aO O;refine J_ ?_;exact⟨c+1,g_,O,by rw[d],by rw[d];omega,trivial⟩
  have t:c=F b:=p_ g.out;have i:K ((ZU c b).count a=b.count a):=w_;have q:¬c<(e:E):=O;rw[i] at w;rw[i];have m:b.count a<=e:=O;generalize b.count a=k at *
  by_cases p:n<(k:E)
  ·have d:K (Xi b (a+1)=(a,(k:E))):=w_;refine J_ ?_;exact⟨a+1,g_,O,by rw[d],by rw[d],trivial⟩
  have d:K (Xi b (a+1)=(D,n)):=w_;refine J_ ?_;exact⟨a+1,g_,O,by rw[d],by rw[d],trivial⟩
 have u:¬a<(f:E):=O;have c:a=f:=O;subst c;go_wp2;go_ret;exact⟨X,X⟩
theorem Ob b {c a}(d:a<c):Z (Ca b c) a 0=(b.count a:E):=by
 unfold Ca
 grind
def ZbP b e:∀a,a+1<=e->(Xi b (a+1)).2=maxOf (ZU (a+1) (Ca b e))/\(Xi b (a+1)).1<a+1/\(b.count (Xi b (a+1)).1:E)=(Xi b (a+1)).2/\∀c,c<(Xi b (a+1)).1->(b.count c:E)<(Xi b (a+1)).2
 | 0,i=>by
  have d:Xi b 1=(0,(b.count 0:E)):=by grind [Xi]
  grind [maxOf_one,Ob]
 | a +1,i=>by
  have⟨g,j,k,l⟩:=ZbP b e a O;rw[maxOf_step _ (a+1) O (by rw[Cr];omega),Ob b O,<- g];have d:Xi b (a+1+1)=if _<_ then _ else _:=rfl;rw[d]
  by_cases h:(Xi b (a+1)).2<(b.count (a+1):E)
  ·rw[aD h];refine⟨by simp only;omega,by simp only;omega,X,λc f=>?_⟩;simp only at f ⊢;have m:=nrS_le b (a+1)
   grind
  grind
 where
 nrS_le (b:U H):∀a c,c<a->(b.count c:E)<=(Xi b a).2
  |0,c,f=>O
  | a+1,c,f=>by
   have d:Xi b (a+1)=if _<_ then _ else _:=rfl;rw[d]
   by_cases g:c=a
   ·grind
   have:=nrS_le b a c O
   grind
def Znk{a c}(h:0<c):Za a c=(Xi a c).1:=by
 obtain⟨b,rfl⟩:∃b,c=b+1:=⟨c-1,O⟩;have⟨d,e,g,i⟩:=ZbP a (b+1) b x_;have f:_=Ca a (b+1):=aI (by rw[Cr];exact x_);unfold Za;rw[f] at d;rw[<- d];have:=idxOf_hit (Ca a (b+1)) (b+1) (Xi a (b+1)).1 (Xi a (b+1)).2 e (by rw[Cr];omega) (by rw[Ob a e];exact g) (λk j=>by rw[Ob a O];grind)
 grind
def oo j i s {y p} h {q r} c g (P:WB g j i)(M:i[6]? =T y)(N:i[7]? =T p)(L:i[12]? =T (I c))(w:Ad g 0 s h)(S:ZD g 0 25 1 y (F q) q)(R:ZD g 0 3 1 p (F r) r)(Q:ZW p=ZP∨ZW p≠ZW s)(c2:F h<=4194304)(c3:F q<=100000000)(c4:F r<=100000000)(a9:0<=c/\c<=100000000):C_ 142 #[Y7 (T (J j 4)),s] g λb e=>b=ZI (Y5 #[])/\∃a1 a0 d,ae g e j 6 i 25 3 (λa=>Eb a 3 (I (-(c+1)))) (I (-(c+1))) s y p q r (c+1) a1 a0 d:=by
 obtain⟨A,D,rfl⟩:=w.d;have z:K (_=F (h.map (ZX ZQ))):=(length_map _).s;obtain⟨e,f,a4,o,a7⟩:=ZbY (I (c+1)) (Ta (h.map (ZX ZQ)) (I (-(c+1)))) P (by rw[bc];exact w) S R Q M N L;generalize (F h)=k,h.map (ZX ZQ)=a2 at *;obtain⟨c5,c6⟩:=a9;have⟨d,W⟩:=Z_ (-(c+1));have c8:=(Au O O).T W;rw[W] at f ⊢;clear P w S R Q M N L;refine q_ ?_;go_upto_region 3 with fail;generalize (ZO g) (J j 12) (I (c+1))=b8 at *;clear a4 o a7;go_loopw [5] (λa l=>∃b:H,b<=k/\a=ZX ZQ b/\K (tp g l j (YS i 12 (I (c+1))) 3 1 (ZH A k D) k (Ta a2 (I d)) b)) (λa _=>k-ZL (ZA a))
 case atStart=>exact⟨0,v_,X,f⟩
 clear f;obtain⟨b,c1,rfl,f⟩:=hrel
 by_cases x:b<k
 ·obtain⟨t,rfl⟩:=f.ptr x;have⟨⟨u,l⟩,n,a⟩:=f.ab z x e.l;clear f;refine J_ ?_;exact⟨b+1,x,g_,a⟩
 obtain rfl:b=k:=O;have t:=Y (f.N Eb.b (by rw[z,ba]) (by unfold Y2;omega));clear f;go_wp2_with (at_builtin;refine ap_ [I d] (t.n.M.alloc _) ?_)
 intro d4 b8 a;have u:=t.P Eb.b (m:=1) e.l a;obtain⟨b4,b0,rfl⟩:=a.2.2.2.2;clear a t;go_wp2_with (at_builtin;refine ap_ [I d,I d] (u.n.M.alloc _) ?_)
 intro d5 d0 a;have v:=u.P Eb.b (m:=2) e.l a;obtain⟨b5,b1,rfl⟩:=a.2.2.2.2;clear a u;go_wp2_with (at_builtin;refine ap_ [I d,I d,I d] (v.n.M.alloc _) ?_)
 intro d6 d1 a;have n:=v.P Eb.b (m:=3) e.l a;obtain⟨b6,b2,rfl⟩:=a.2.2.2.2;clear a v;have a5:=(n.v.cell 6).T e.t;have o:=n.v.frozen;go_wp2_with (at_builtin;refine ap_ [V A b D,L_ b4 (b+1) b0,L_ b5 (b+2) b1,L_ b6 (b+3) b2] ((e.M n).1.alloc _) ?_)
 intro a1 b9 a;have⟨a8,G,l⟩:=n.M Eb.b e a;obtain⟨b7,b3,rfl⟩:=a.2.2.2.2;clear a n a5 o;go_upto_region 10 with fail;generalize (ZO b9) (J j 6) (L_ b7 (F q+4) b3)=d2 at *;have a6:=l.cell e;have o:=l.v.frozen;clear a8 G;go_wp2_with (at_builtin;refine ap_ [I d,I d,I d,I d] (l.w.alloc _) ?_)
 intro a0 d3 a;obtain⟨c0,G,a3⟩:=l.M Eb.b e r_ X a;obtain⟨c9,c7,rfl⟩:=a.2.2.2.2;clear a l a6 o;go_wp2;go_end0;exact⟨X,_,_,_,a3⟩
def ae.a{w z x e i g o p f j q t r v k m u s l}(a:ae z x e i g o p f j q t r v k m u s l)(n:Aa (λb=>b=e) w z):ae w x e i g o p f j q t r v k m u s l:=
 have A:=n.size
 ⟨a.v,a.x,a.w,a.y,λy h=>⟨(a.all y h).1,λb c=>((a.all y h).2 b c).imp id λd=>O⟩,(n.m λ_ _ d=>ZM d).T a.u,λb c=>(a.D b c).imp id λd=>O,λb c=>(a.z b c).imp id λd=>O,a.A,a.G,a.lt⟩
def tp.a{r d j o b c i g f a}(k:tp r d j o 98 4 (L_ b c i) c (λa=>flat (Fv g f a)) a)(q:c=F g)(y:a<c)(x:T j≠ZW (L_ b c i)):(∃e:Cd,ZV d (J b (a*4))=T (I e.v)/\ZV d (J b (a*4+1))=T (I e.t)/\ZV d (J b (a*4+2))=T (I e.h)/\ZV d (J b (a*4+3))=T (I e.g))/\(∀n,YT d (J b n)=ZZ)/\K (tp r (ZO (ZO (ZO (ZO d (J b (a*4)) (I f)) (J b (a*4+1)) (I 0)) (J b (a*4+2)) (I 0)) (J b (a*4+3)) (I 0)) j o 98 4 (L_ b c i) c (λa=>flat (Fv g f a)) (a+1)):=by
 have e:F (Fv g f a)=c:=(by rw[fd O,q]);have h:F (Y6 a (Lz f))=a:=s_;have m:Ai d 0 (L_ b c i) (Fv g f a):=(by unfold Ai;rw[e];exact k.M);rw[ZdY O] at m e;have⟨s,t,u,v,_⟩:=m.at e.s h;refine⟨⟨_,s,t,u,v⟩,λn=>World.ownsRow.frozenAt k.M n,?_,?_,?_⟩;have:=(((m.b e.s s_ (Zhk h f)).b (e.s.T s_) s_ (Mn h 0)).b (e.s.T s_) s_ (Mo h 0)).b (e.s.T s_) s_ (Mp h 0);rw[<- yv] at this;unfold Ai at this;rw[fd O,<- q] at this;exact this
 exact(((k.u.setCell (p:=J b (a*4)) (λ_=>ZJ X) _).setCell (p:=J b (a*4+1)) (λ_=>ZJ X) _).setCell (p:=J b (a*4+2)) (λ_=>ZJ X) _).setCell (p:=J b (a*4+3)) (λ_=>ZJ X) _;have l:j≠b:=λw=>x (by rw[w];rfl);exact(((k.v.h (p:=J b (a*4)) l).h (p:=J b (a*4+1)) l).h (p:=J b (a*4+2)) l).h (p:=J b (a*4+3)) l
def zt d n S {W D} h {G R} f b (r:WB b d n)(b7:n[4]? =T W)(b8:n[5]? =T D)(a7:n[12]? =T (I f))(y:Ai b 0 S h)(b1:ZD b 0 29 1 W (F G) G)(P:ZD b 0 3 1 D (F R) R)(e8:F h<=4194304)(e9:F G<=100000000)(f0:F R<=100000000)(d4:0<=f/\f<=100000000):C_ 174 #[Y7 (T (J d 4)),S] b λg a0=>g=ZI (Y5 #[])/\∃c5 b3 a,ae b a0 d 4 n 29 3 (λl=>Hx l (-(f+1))) (I (-(f+1))) S W D G R (f+1) c5 b3 a:=by
 obtain⟨p,q,rfl⟩:∃p q,S=ZH p (F h) q:=by
  rcases y.2 with⟨rfl,c⟩|⟨g,a,e,rfl,_⟩
  exact⟨ZP,0,by rw[c]⟩;exact⟨_,a,X⟩
 have c7:ZV b (J d 12)=T (I f):=(by rw[r.cell];exact a7);have a5:=r.frozen;obtain⟨f1,f2⟩:=d4;have⟨e,c2⟩:=Z_ (-(f+1));have d9:i64.wrap (-(f+1))=e:=(Au O O).T c2;have⟨o,A⟩:=W_ (ZN (ZO b (J d 12) (I (f+1))) (O_ #[I e,I 0,I 0,I 0] 98));have a9:=r.set 12 (I (f+1));have b0:WB o d (YS n 12 (I (f+1))):=A ▸ (a9.alloc _);have b5:K (Aa (λa=>a=d) b o):=A ▸ (((Aa.refl (λa=>a=d) _).setCell (p:=(J d 12)) (λ_=>X) _).alloc _);have Q:∀{b2 c3 k:H} {c4:_} {c6:_},ZD b 0 b2 c3 c4 k c6->b2≠90->ZD o 0 b2 c3 c4 k c6:=λc0 d3=>b5.M c0 (λa z g=>by subst g;exact r.apart c0 d3 z.s);have a8:=Q y C
 have i:=Y (OwC.N (i:=4) b0 a8 (Q b1 C) (Q P C) (Ap y P C) (by rw[aH C];exact b7) (by rw[aH C];exact b8));have c1:B (ZO b (J d 12) (I (f+1))).1=B b.1:=(by simp[ZO]);have a2:K (H_ o (B b.1) #[I e,I 0,I 0,I 0] 98):=by rw[A,<- c1];exact hn_
 have L:K (¬(B b.1=d∨ZW (ZH p (F h) q)=T (B b.1)∨ZW W=T (B b.1)∨ZW D=T (B b.1))):=λg=>by
  have:=r.lt
  rcases g with g|g|g|g
  omega;exact Nat.lt_irrefl _ (B_ y _ g).2;exact Nat.lt_irrefl _ (B_ b1 _ g).2;exact Nat.lt_irrefl _ (B_ P _ g).2
 have a1:K (∀l,Aa (λa=>a=d∨ZW (ZH p (F h) q)=T a) o l->ZV l (J (B b.1) 0)=T (I e)/\ZV l (J (B b.1) 1)=T (I 0)/\ZV l (J (B b.1) 2)=T (I 0)/\ZV l (J (B b.1) 3)=T (I 0)):=λl e4=>
  have a:=e4.g a2 (λg=>L (g.imp id ZM))
  n4_ (n_ 0 a) (n_ 1 a) (n_ 2 a) (n_ 3 a)
 have j:K (tp o o d (YS n 12 (I (f+1))) 98 4 (V p (F h) q) (F h) (λa=>flat (Fv h e a)) 0):=⟨by simpa [Fv] using a8,Aa.refl _ _,b0⟩;have c9:ZV (ZO b (J d 12) (I (f+1))) (J d 12)=T (I (f+1)):=(by rw[a9.cell];have:=(Qb a7).1;simp[this]);rw[c2];clear r y b1 P b7 b8 a7 a9 b0 Q a8;generalize b9:F h=k at *;have b4:=Y b9.s;clear b9;refine q_ ?_;go_wp2_with fail
 rw[<- A];clear A c7 a5 c9 d9 c1;go_loopw [5] (λc s=>∃a:H,a<=k/\c=ZX ZQ a/\K (tp o s d (YS n 12 (I (f+1))) 98 4 (ZH p k q) k (λa=>flat (Fv h e a)) a)) (λc _=>k-ZL (ZA c))
 case atStart=>exact⟨0,v_,X,j⟩
 clear j;obtain⟨a,e7,rfl,j⟩:=hrel;have⟨u,v,w,x⟩:=a1 _ j.u
 by_cases z:a<k
 ·obtain⟨a3,rfl⟩:=j.ptr z;have⟨⟨a4,s,t,M,N⟩,a0,c⟩:=j.a b4 z i.l;clear j;refine J_ ?_;exact⟨a+1,z,g_,c⟩
 obtain rfl:a=k:=O;have a3:=Y (j.N Hx.b (by show flat (Fv h e a)=_;unfold Fv;rw[drop_eq_nil_of_le (by rw[<- b4];exact x_),append_nil]) (by unfold Y2;omega));clear j;go_wp2_with (at_builtin;refine ap_ [I e,I 0,I 0,I 0] (a3.n.M.alloc _) ?_)
 intro f9 f5 c;have M:=a3.P Hx.b (m:=1) i.l c;obtain⟨e0,d5,rfl⟩:=c.2.2.2.2;clear c a3 u v w x;have⟨u,v,w,x⟩:=a1 _ M.n.u;go_wp2_with (at_builtin;refine ap_ [I e,I 0,I 0,I 0,I e,I 0,I 0,I 0] (M.n.M.alloc _) ?_)
 intro g0 f6 c;have N:=M.P Hx.b (m:=2) i.l c;obtain⟨e1,d6,rfl⟩:=c.2.2.2.2;clear c M u v w x;have⟨u,v,w,x⟩:=a1 _ N.n.u;go_wp2_with (at_builtin;refine ap_ [I e,I 0,I 0,I 0,I e,I 0,I 0,I 0,I e,I 0,I 0,I 0] (N.n.M.alloc _) ?_)
 intro g1 f7 c;have t:=N.P Hx.b (m:=3) i.l c;obtain⟨e2,d7,rfl⟩:=c.2.2.2.2;clear c N u v w x;have c8:=(t.v.cell 4).T i.t;have a5:=t.v.frozen;go_wp2_with (at_builtin;refine ap_ [V p a q,L_ e0 (a+1) d5,L_ e1 (a+2) d6,L_ e2 (a+3) d7] ((i.M t).1.alloc _) ?_)
 intro c5 e5 c;have⟨d0,b6,s⟩:=t.M Hx.b i c;obtain⟨e3,d8,rfl⟩:=c.2.2.2.2;clear c t c8 a5;go_upto_region 10 with fail;generalize (ZO e5) (J d 4) (L_ e3 (F G+4) d8)=f8 at *;have a4:=s.cell i;have a6:=n_ 0 (s.u.g a2 L);clear d0 b6;refine Af (λa0=>ZV a0 _=T D/\ZV a0 _=T (I e)) 17 k_ ⟨a4,a6⟩ (λhHeld=>?_);refine G_ ?_;refine on_ 13 λKK hK=>?_;go_simp;refine hK _ _ ⟨X_ a4,X_ a6⟩ (λhHeld=>?_);clear hK KK;try simp only[Act.put,tA_,tB_,tC_]
 refine on_ 14 λKK hK=>?_;refine aq_ [I e,I e,I e,I e] ((World.ownsRow.drew s.w).alloc _) ?_;intro b3 e6 c;obtain⟨d1,b6,a0⟩:=s.M Hx.b i (y_.drew.alloc x_ _) X c;have d2:=n_ 0 ((Below.heap_setCell e6 (J d 5) b3 (B b.1) λg=>L (ZM g)).s.T (a0.u.g a2 L));obtain⟨f4,f3,rfl⟩:=c.2.2.2.2;clear c s a4 a6;refine hK _ _ ⟨d1,d2⟩ (λhHeld=>?_);clear hK KK;refine G_ ?_;refine le_ ?_;go_wp2;go_end0;exact⟨X,_,_,_,a0.a b5⟩
def Li{h:ZT}{b c a f e:H}{g i}(d:ZD h c a f g e i)(m:b<=c):ZD h b a f g e i:=by
 refine⟨d.1,?_⟩
 rcases d.2 with o|⟨l,j,k,a,n,p⟩
 exact ZM o;exact ZJ ⟨l,j,k,a,aG m n,p⟩
def Ai.h{c n m b}(j:Ai c n m b)(l:F b<=4194304):∃g i,m=ZH g (F b) i/\Cj c g b/\(g=ZP->i=0):=by
 have h:=j
 rcases j.2 with⟨rfl,k⟩|⟨d,o,r,rfl,_,p,_⟩
 exact⟨ZP,0,by rw[k],⟨l,ZM k⟩,λ_=>X⟩;refine⟨_,o,X,⟨l,ZJ ⟨d,0,X,?_⟩⟩,λe=>by cases e⟩
 have s:∀a,a<F b->D_ c d (a*4) (I (Z b a e0).v)/\D_ c d (a*4+1) (I (Z b a e0).t)/\D_ c d (a*4+2) (I (Z b a e0).h)/\D_ c d (a*4+3) (I (Z b a e0).g)/\∀q,YT c (J d q)=ZZ:=λa f=>by have e:b=ZU a b++Z b a e0::ZF (a+1) b:=(by grind [drop_eq_getElem_cons,take_append_drop]);rw[e] at h;exact Ai.at (n:=F b) (by rw[<- e] at h ⊢;exact h) (by rw[<- e]) t_
 refine⟨λ_=>(Qb p).1,λa f=>?_,λa f=>?_,λa f=>?_,λa f=>?_⟩
 ·grind
 ·grind
 ·grind
 grind
def Wi(e:ZT)(c:H)(b:YZ ZY)(h:U (U Cd))(i:E):Prop:=
 ∃ k j m f d g,
  WB e c b/\B b=13/\b[0]? =T k/\b[4]? =T j/\b[5]? =T m/\b[12]? =T (I i)/\
  ZD e (c+1) 29 1 k (F f) f/\ZD e (c+1) 29 1 j (F d) d/\Ad e (c+1) m g/\Bl k j/\
  F f=F h/\F d=F g/\F g<=4*i/\F f<=i/\
  (∀a,a<F h->Ai e (c+1) (Z f a (N_)) (Z h a []))/\
  (∀a,a<F d->Hx e (Z g a 0) (Z d a (N_))/\∀l,ZW (Z d a (N_))=T l->c+1<=l)
def Wi.lt{c b e d f}(a:Wi c b e d f):b<B c.1:=by obtain⟨_,_,_,_,_,_,a,_⟩:=a;exact a.lt
def Wi.q{e w' h g f k}(l:Wi e h g f k)(a:E_ e w'):Wi w' h g f k:=by obtain⟨N,G,L,D,M,A,i,s,t,u,v,w,x,y,z,m,n,o,p,q,r,j⟩:=l;have d:Aa (λ_=>False) e _:=.a a;exact⟨N,G,L,D,M,A,i.q a i.lt,s,t,u,v,w,d.M x (λ_ _=>id),d.M y (λ_ _=>id),d.M z (λ_ _=>id),m,n,o,p,q,λc b=>(r c b).q a,λc b=>⟨(j c b).1.q a,(j c b).2⟩⟩
def ur{d:Type}{b}{x c:d}{a}(e:a<F b+1):Z (b++[x]) a c=if a<F b then Z b a c else x:=w_
def Zfl(d e:ZT):Prop:=∀(c:H) b a,d.1[c]? =T (O_ b a)->a≠90->a≠29->a≠3->e.1[c]? =T (O_ b a)
def Zfl.a{b c}(d:E_ b c):Zfl b c:=λe _ _ a _ _ _=>(d.block e (Qb a).1).T a
def Zgo(a b:E):E:=if a<0∨b<=a then 0 else a
def Mu{a b} c:C_ 74 #[I a,I b] c (V_ (ZX ZQ (Zgo a b)) c):=by
 unfold Zgo
 by_cases d:a<0
 ·rw[aD (ZM d)];refine dl_ ?_;go_enter func74,ntmps74;go_wp2;go_ret;exact⟨X,X⟩
 by_cases e:b<=a
 ·rw[aD (ZJ e)];go_enter func74,ntmps74;go_wp2;go_ret;exact⟨X,X⟩
 rw[aC O];go_enter func74,ntmps74;go_wp2;go_ret;exact⟨X,X⟩
def Pu b {n}(c:0<n):∃a:H,a<n/\Zgo b n=a:=by unfold Zgo;split;exact⟨0,c,X⟩;exact⟨ZL b,O,O⟩
def Rs(f:ZT)(g:H)(e:ZY)(d:Y0 Addr)(a h:H)(c:U E):Prop:=
 (d=ZP/\a=0/\h=0/\c=[]/\e=ZH ZP 0 0)∨∃i b,d=T i/\e=L_ b a (a+8)/\g<=b/\b<B f.1/\F c=a/\(∀j∈c,(Lit.int ZQ j).wf=Z0)/\f.rowIs b 3 (a+8) (Og c (a+8))
def Rs.q{i w' base h b g c j}(a:Rs i base h b g c j)(f:E_ i w'):Rs w' base h b g c j:=by
 rcases a with a|⟨t,d,l,m,n,e,o,p,k,q,r,s⟩
 exact ZM a;exact ZJ ⟨t,d,l,m,n,Qh e f.size,o,p,k,(f.block d e).T q,r,s⟩
def Rs.h{b i f h a j g}(m:Rs b i f h a j g):∃c k,f=ZH c a k/\Ck b c a g:=by
 rcases m with⟨rfl,rfl,rfl,rfl,rfl⟩|⟨v,d,rfl,rfl,s,n,o,p,l,q,t,r⟩
 exact⟨ZP,0,X,X,s_,ZM X⟩;refine⟨_,_,X,o,p,ZJ ⟨d,0,X,n,λe u=>?_⟩⟩;rw[Nat.zero_add,cell_of_row b d e l 3 (0,0) q,r e O];unfold Og
 grind
def uy{a b f i c}(d:Ck c a b i)(l:a=ZP->b=0/\f=0)(k:b<=2097152):C_ 112 #[V a b f] c λg e=>∃h,g=ZI h/\Rs e (B c.1) h a b f i/\E_ c e:=by
 cases a with
 | none=>
  obtain⟨rfl,rfl⟩:=l X;apply (ii).m;rintro g e ⟨rfl,rfl⟩;exact⟨_,X,ZM ⟨X,X,X,eq_nil_of_length_eq_zero d.1,X⟩,y_⟩
 | some m=>
  apply (ig d k).m;rintro g e ⟨rfl,h,j⟩;refine⟨_,X,ZJ ⟨m,B c.1,X,X,x_,?_,d.1,d.2.1,h⟩,j⟩;obtain⟨n,o,_⟩:=h
  grind
def qc{b a h g m f c}(i:Rs c g f b a h m)(j:Ck c b a m)(w:∀d k,b=T ⟨d,k,ZP⟩->0<a->d<g)(p:a<=2097152):C_ 113 #[f,V b a h] c λe l=>e=ZI (ZR Z0)/\Y3 c l (ZW f):=by
 rcases i with⟨rfl,rfl,rfl,rfl,rfl⟩|⟨x,q,rfl,rfl,s,t,u,v,n⟩
 ·apply (ec).m
  grind [Ay]
 refine(eb j p n (λr e=>?_)).m ?_
 ·rcases j.2.2 with i|⟨d,k,l,_,_⟩
  omega
  grind
 rintro e l ⟨rfl,o⟩;exact⟨X,o⟩
def Rs.D{b c f g j h k}(i:Rs b c f g j h k){a}(e:ZW f=T a):c<=a/\a<B b.1/\∃d,b.1[a]? =T (O_ d 3):=by
 rcases i with⟨rfl,rfl,rfl,rfl,rfl⟩|⟨s,l,rfl,rfl,m,n,o,p,d,q,r⟩
 ·cases e
 simp[ZW] at e
 grind
def Ck.p{S f w' d c j}(k:Ck f d c j)(i:Aa S f w')(q:∀a b,d=T ⟨a,b,ZP⟩->0<c->¬S a):Ck w' d c j:=by
 obtain⟨m,n,e⟩:=k;refine⟨m,n,?_⟩
 rcases e with e|⟨a,b,rfl,g,o⟩
 exact ZM e
 by_cases l:c=0
 exact ZM l;refine ZJ ⟨a,b,X,Qh g i.size,λh p=>?_⟩;rw[cb_ (w:=f) (a:=(J a (b+h))) (i.block a g (q a b X O))];exact o h p
def Rr(h:ZT)(d:H)(e:ZY)(c:Y0 Addr)(f:H)(a:U Cd):Prop:=
 (c=ZP/\a=[]/\f=0/\e=ZH ZP 0 0)∨∃g b,c=T g/\e=L_ b (F a) (F a+8)/\d<=b/\Ai h d (L_ b (F a+8) (F a+8)) (Hj a 8)
def Rr.q{f w' base e c d b}(a:Rr f base e c d b)(l:E_ f w'):Rr w' base e c d b:=by
 rcases a with a|⟨m,g,h,i,j,k⟩
 exact ZM a;exact ZJ ⟨m,g,h,i,j,k.q l⟩
def Rr.h{f h e g i a}(k:Rr f h e g i a)(r:F a<=2097152):∃b c,e=ZH b (F a) c/\Cj f b a/\(b=ZP->c=0):=by
 rcases k with⟨rfl,rfl,rfl,rfl⟩|⟨s,p,rfl,rfl,q,d⟩
 exact⟨ZP,0,X,⟨s_,ZM X⟩,λ_=>X⟩;have j:Hj a 8=a++Oz (F a) 8:=(by unfold Hj;simp);rw[j] at d;have l:=d.g (by simp[Oz]) X;have⟨b,c,m,n,o⟩:=l.h O
 grind
def bz{b e} a {c}(h:Cj c b a)(k:b=ZP->a=[]/\e=0)(j:F a<=2097152):C_ 118 #[V b (F a) e] c λf d=>∃g,f=ZI g/\Rr d (B c.1) g b e a/\E_ c d:=by
 cases b with
 | none=>
  obtain⟨rfl,rfl⟩:=k X;apply (ie).m;rintro f d ⟨rfl,rfl⟩;exact⟨_,X,ZM ⟨X,X,X,X⟩,y_⟩
 | some l=>
  apply (ic h j).m;rintro f d ⟨rfl,g,i⟩;exact⟨_,X,ZJ ⟨l,B c.1,X,X,x_,g⟩,i⟩
def Xd b h {g} a {f} c (i:Rr c g f b h a)(j:Cj c b a)(s:∀d k,b=T ⟨d,k,ZP⟩->0<F a->d<g)(o:F a<=2097152):C_ 119 #[f,V b (F a) h] c λe l=>e=ZI (ZR Z0)/\Y3 c l (ZW f):=by
 rcases i with⟨rfl,rfl,rfl,rfl⟩|⟨t,p,rfl,rfl,r,m⟩
 ·apply (ea).m
  grind [Ay]
 refine(dz j o m (λq e=>?_)).m ?_
 ·rcases j.2 with i|⟨d,k,l,_⟩
  omega
  grind
 rintro e l ⟨rfl,n⟩;exact⟨X,n⟩
def Rr.D{e c d g h f}(j:Rr e c d g h f){b}(a:ZW d=T b):c<=b/\b<B e.1:=by
 rcases j with⟨rfl,rfl,rfl,rfl⟩|⟨m,i,rfl,rfl,k,l⟩
 ·cases a
 simp[ZW] at a;subst a;exact⟨k,(B_ l i X).2⟩
def ZmX:(prog.info? 51).map (λa=>(a.zero,a.size,a.bytes))=T (T (Y9 #[ZR ZZ,I 0,I 0]),3,24):=k_
def gv(f:ZT)(e d:H)(c:H->ZG×E×E):Prop:=∃b:YZ ZY,f.1[e]? =T (O_ b 51)/\B b=d*3/\∀a,a<d->b[a*3]? =T (ZR (c a).1)/\b[a*3+1]? =T (I (c a).2.1)/\b[a*3+2]? =T (I (c a).2.2)
section
variable {w w':ZT} {g N:H} {f:H->ZG×E×E}
def gv.lt(a:gv w g N f):g<B w.1:=by
 obtain⟨b,c,_⟩:=a
 grind
def gv.cells(a:gv w g N f){i}(j:i<N):ZV w (J g (i*3))=T (ZR (f i).1)/\ZV w (J g (i*3+1))=T (I (f i).2.1)/\ZV w (J g (i*3+2))=T (I (f i).2.2)/\∀b,YT w (J g b)=ZZ:=by
 obtain⟨c,d,e,h⟩:=a
 grind [cell_of_row,frozen_of_row]
def gv.put(e:gv w g N f){k}(r:k<N){a b c}:gv (ZO (ZO (ZO w (J g (k*3)) (ZR a)) (J g (k*3+1)) (I b)) (J g (k*3+2)) (I c)) g N (λi=>if i=k then(a,b,c) else f i):=by
 obtain⟨q,h,j,l⟩:=e;refine⟨_,hs_ _ g _ _ _ _ (hs_ _ g _ _ _ _ (hs_ _ g _ _ _ _ h)),by simp[j],λi m=>?_⟩
 by_cases d:i=k
 ·subst d;simp only[if_true];refine⟨?_,?_,?_⟩
  ·grind
  ·grind
  grind
 simp only[aC d];have⟨n,o,p⟩:=l i m;refine⟨?_,?_,?_⟩;rw[aH O,aH O,aH O];exact n;rw[aH O,aH O,aH O];exact o;rw[aH O,aH O,aH O];exact p
def gv.p{S}(b:gv w g N f)(h:Aa S w w')(e:¬S g):gv w' g N f:=by obtain⟨a,c,d⟩:=b;exact⟨a,h.g c e,d⟩
def gv.q(a:gv w g N f)(b:E_ w w'):gv w' g N f:=a.p (.a (S:=λ_=>False) b) id
def gv.congr{b}(d:gv w g N f)(i:∀a,a<N->b a=f a):gv w g N b:=by obtain⟨c,e,h,j⟩:=d;exact⟨c,e,h,λa k=>w_⟩
def gv.c(a:gv w g N f){b h e c}(l:b<=N)(j:b<=Y2)(k:∀i,i<b->f i=(h i,e i,c i)):Du w g 0 b h e c:=by
 refine⟨j,λ_=>a.lt,λi d=>?_,λi d=>?_,λi d=>?_⟩
 ·have:=(a.cells (i:=i) O).1
  grind
 ·have:=(a.cells (i:=i) O).2.1
  grind
 have:=(a.cells (i:=i) O).2.2.1
 grind
end
def Tj(b:H)(f:H->ZG)(e c:H->E)(d a:H):ZG×E×E:=if a<b then(f a,e a,c a) else if a<b+d then(ZZ,0,-7-a) else(ZZ,0,0)
def ZhA b f e d a c:Tj b f e d (a+1) c=if c=b+a then(ZZ,0,-7-((b+a:H):E)) else Tj b f e d a c:=by grind [Tj]
def Zbi(d:H->ZG)(c b:H->E)(a:H):ZY:=if a%3=0 then ZR (d (a/3)) else if a%3=1 then I (c (a/3)) else I (b (a/3))
def ca{p a s m l h c}(j:Du c p.block p.off a m l h)(Q:0<a->p=(J p.block p.off))(a7:a<=2097152):C_ 122 #[V (T p) a s] c λo b=>o=ZI (ZH (T ⟨B c.1,0,ZP⟩) a (a+8))/\gv b (B c.1) (a+8) (Tj a m l h 8)/\E_ c b:=by
 have⟨b1,a2,a9,a5,b0⟩:=info_parts ZmX;obtain⟨n,d,w⟩:=p
 have L:_:=λa6=>by have:=Q a6;injection this
 have j:=j;clear Q;have a8:∀f:_,(binOp _ _ _ _).run _ f=.ok (ZR ZZ) f:=λf=>run_eql_slice_nil f 35 _ (T ⟨n,d,w⟩) a s 0 0 underlying35;have P:∀f:ZT,(Instr.makeSlice 35 (I (a+8)) (I (a+8))).run Y8 f=.ok (L_ (B f.1) (a+8) (a+8)) (ZN f (O_ (YV #[ZR ZZ,I 0,I 0] ((a+8)*3)) 51)):=λ_=>mk_ 3;have⟨e,u⟩:=W_ (YV #[ZR ZZ,I 0,I 0] ((a+8)*3))
 have G:∀i,i<a+8->e[i*3]? =T (ZR ZZ)/\e[i*3+1]? =T (I 0)/\e[i*3+2]? =T (I 0):=λi q=>by rw[u];refine⟨?_,?_,?_⟩;simp[YV,show i*3<(a+8)*3 by omega,show i*3%3=0 by omega];simp[YV,show i*3+1<(a+8)*3 by omega,show(i*3+1)%3=1 by omega];simp[YV,show i*3+2<(a+8)*3 by omega,show(i*3+2)%3=2 by omega]
 have W:=u ▸ (size_madeCells _ _);rw[<- u] at P
 obtain⟨v,a0,x,z⟩:∃v:ZT,(Builtin.copy_ #[35,35] 3 #[L_ (B c.1) (a+8) (a+8),V (T ⟨n,d,w⟩) a s]).run Y8 (ZN c (O_ e 51))=.ok (I a) v/\K (gv v (B c.1) (a+8) (Tj a m l h 0))/\E_ c v:=by
  have y:Below _ c (ZN c (O_ e 51)):=r_;have A:(ZN c (O_ e 51)).1[_]? =_:=ha_ c _;have N:Nat.min a (a+8)=a:=Nat.min_eq_left O;have⟨g,D⟩:=W_ ((range (a*3)).map (Zbi m l h));have a1:F g=a*3:=by rw[D];simp
  have t:∀b,b<a*3->g[b]? =T (Zbi m l h b):=λb hj=>w_
  have a4:∀b r,g[b]? =T r->ZV (ZN c (O_ e 51)) ((⟨n,d,w⟩:Addr).add b)=T r:=λb r hj=>by
   have R:b<a*3:=w_;rw[L O];rw[t b R] at hj;injection hj with hj;subst hj;have M:((J n d):Addr).add b=(J n (d+b)):=(by unfold Addr.add;split<;>simp_all);have q:b/3<a:=O;rw[M,y.cell (p:=(J n (d+b))) (j.lt O)];unfold Zbi
   rcases(show b%3=0∨b%3=1∨b%3=2 by omega) with o|o|o
   rw[aD o,show d+b=d+b/3*3 by omega];exact j.t _ q;rw[aC O,aD o,show d+b=d+b/3*3+1 by omega];exact j.D _ q;rw[aC O,aC O,show d+b=d+b/3*3+2 by omega];exact j.G _ q
  have a3:∀r∈g,r.oneCell'=Z0:=λr S=>by rw[D] at S;obtain⟨b,_,rfl⟩:=mem_map.1 S;unfold Zbi;split;rfl;split<;>rfl
  have R:=Vz (P:=Y8) 35 35 3 (a+8) _ a s underlying35 a2 A (by rw[N,a5,a1]) a4 O a3;rw[N] at R;refine⟨_,R,?_,below_setRow y x_ _⟩;refine⟨_,(setRow_heap _ _ _ _ _ _ A),w_,λi q=>?_⟩
  have o:∀b,(ZU 0 (Y4 e)++g++ZF (0+F g) (Y4 e)).toArray[b]? =if b<a*3 then g[b]? else e[b]?:=λb=>by
   simp only[take_zero,nil_append,Nat.zero_add,getElem?_toArray]
   by_cases hj:b<a*3
   ·grind
   grind
  rw[o,o,o];unfold Tj
  by_cases M:i<a
  rw[aD (show i*3<a*3 by omega),aD (show i*3+1<a*3 by omega),aD (show i*3+2<a*3 by omega),aD M,t _ O,t _ O,t _ O];unfold Zbi;refine⟨?_,?_,?_⟩;rw[aD O,show i*3/3=i by omega];rw[aC O,aD O,show(i*3+1)/3=i by omega];rw[aC O,aC O,show(i*3+2)/3=i by omega];rw[aC (show ¬i*3<a*3 by omega),aC (show ¬i*3+1<a*3 by omega),aC (show ¬i*3+2<a*3 by omega),aC M,aC (show ¬i<a+0 by omega)];exact G i q
 clear G W j u L;refine q_ ?_;go_upto_region 6 with fail;go_loopw [4] (λg o=>∃b:H,b<=8/\g=ZX ZQ ((a+b:H):E)/\K (gv o (B c.1) (a+8) (Tj a m l h b))/\K (E_ c o)) (λg _=>a+8-ZL (ZA g))
 exact⟨0,O,s_,x,z⟩;clear x z a0 P;obtain⟨b,a1,rfl,g,r⟩:=hrel
 by_cases a3:b<8
 ·have⟨k,o⟩:=Z_ (a+b);have A:K (gv (ZO (ZO (ZO wr (J (B c.1) (k*3)) (ZR ZZ)) (J (B c.1) (k*3+1)) (I 0)) (J (B c.1) (k*3+2)) (I (-7-k))) (B c.1) (a+8) (Tj a m l h (b+1))):=(by refine(g.put (k:=k) O).congr (λi _=>?_);rw[ZhA,o]);have y:K (Below _ c (ZO (ZO (ZO wr (J (B c.1) (k*3)) (ZR ZZ)) (J (B c.1) (k*3+1)) (I 0)) (J (B c.1) (k*3+2)) (I (-7-(k:E))))):=((r.setCell x_ _).setCell x_ _).setCell x_ _;have⟨M,N,R,S⟩:=g.cells (i:=k) O;have D:k<(a:E)+8:=O;have t:=Y o;rw[o];clear o g r;go_wp2;go_roundw;exact⟨b+1,O,by rw[<- Nat.add_assoc,t];go_num,A,y⟩;have:=t.out;simp[ZA];omega
 have o:b=8:=O;subst o;go_wp2;go_ret;exact⟨X,g,r⟩
def stF(d:H)(f:H->ZG)(e b:H->E)(c a:H):ZG×E×E:=if a<c then(ZZ,0,-9) else Tj d f e b 8 a
def ZlB d f e c b a:stF d f e c (b+1) a=if a=b then(ZZ,0,-9) else stF d f e c b a:=by grind [stF]
def Zp{h b x f e d c g}(G:Du g h.block h.off b e d c)(M:0<b->h=(J h.block h.off))(a6:b<=2097152)(P:gv g f (b+8) (Tj b e d c 8))(N:0<b->h.block≠f):C_ 124 #[L_ f b (b+8),V (T h) b x] g λj k=>j=ZI (ZR Z0)/\Aa (λa=>a=f) g k:=by
 obtain⟨j,R,Q⟩:=h
 have z:K _:=λS=>by have:=M S;injection this
 have o:=Y G;have a7:∀q:_,(binOp _ _ _ _).run _ q=.ok (ZR ZZ) q:=λq=>run_eql_slice_nil q 35 _ (T ⟨j,R,Q⟩) b x 0 0 underlying35;refine q_ ?_;go_upto_region 6 with fail;go_loopw [6,7] (λm k l=>∃a:H,a<=b+8/\m=ZR Z0/\k=ZX ZQ a/\K (gv l f (b+8) (stF b e d c a))/\K (Aa (λa=>a=f) g l)) (λ_ k _=>b+8-ZL (ZA k))
 exact⟨0,v_,X,X,(P.congr (λi _=>by unfold stF;rw[aC O])),Aa.refl _ _⟩;obtain⟨a,a5,rfl,rfl,w,k⟩:=hrel
 by_cases y:a<b+8
 ·have W:0<=(a:E):=O;have a0:a<(b:E)+8:=O;have⟨l,m,n,a1⟩:=w.cells (i:=a) y;have D:stF b e d c a a=Tj b e d c 8 a:=(by unfold stF;grind);rw[D] at l m n
  have p:K (∀s,_/\Aa _ g (ZO (ZO (ZO (Y1 wr s) _ (ZR ZZ)) _ (I 0)) _ (I (-9)))):=λs=>
   ⟨((w.q (below_drewN y_ s)).put y).congr (λi _=>ZlB b e d c a i),(((k.q (below_drewN y_ s)).setCell (p:=(J f (a*3))) (λ_=>X) _).setCell (p:=(J f (a*3+1))) (λ_=>X) _).setCell (p:=(J f (a*3+2))) (λ_=>X) _⟩
  by_cases r:a<b
  ·have A:a<(b:E):=O;have t:Tj b e d c 8 a=(e a,d a,c a):=(by unfold Tj;rw[aD r]);rw[t] at l m n;simp only at l m n;have u:=o.lt O;have v:=(Y N) O;have L:=z O;subst L;have a2:=(cb_ (w:=g) (a:=(J j _)) (k.block j u v)).T (o.t a r);have a3:=(cb_ (w:=g) (a:=(J j _)) (k.block j u v)).T (o.D a r);have a4:=(cb_ (w:=g) (a:=(J j _)) (k.block j u v)).T (o.G a r);generalize e a=b0,d a=a9,c a=a8 at *;go_upto_region 9 with fail;go_quiet (fail);refine J_ ?_;exact⟨a+1,O,s_,g_,(p _).1,(p _).2⟩
  have A:¬a<(b:E):=O;have t:Tj b e d c 8 a=(ZZ,0,-7-(a:E)):=(by unfold Tj;grind);rw[t] at l m n;simp only at l m n;refine J_ ?_;exact⟨a+1,O,s_,g_,(p 0).1,(p 0).2⟩
 have l:¬a<(b:E)+8:=O;go_wp2;go_ret;exact⟨X,k⟩
section
variable {w w':ZT} {base n c:H} {a:Y0 Addr} {o:ZY} {wd:H->ZG} {sc ct:H->E}
def Mw(w:ZT)(base:H)(o:ZY)(a:Y0 Addr)(n:H)(wd:H->ZG)(sc ct:H->E):Prop:=
 (a=ZP/\n=0/\o=ZH ZP 0 0)∨∃c b,a=T c/\o=L_ b n (n+8)/\base<=b/\b<B w.1/\gv w b (n+8) (Tj n wd sc ct 8)
def Mw.p{S}(b:Mw w base o a n wd sc ct)(f:Aa S w w')(k:∀e,base<=e->¬S e):Mw w' base o a n wd sc ct:=by
 rcases b with b|⟨l,c,g,h,d,i,j⟩
 exact ZM b;exact ZJ ⟨l,c,g,h,d,Qh i f.size,j.p f (k c d)⟩
def Mw.D(e:Mw w base o a n wd sc ct){b}(c:ZW o=T b):base<=b/\b<B w.1:=by
 rcases e with⟨_,_,rfl⟩|⟨h,d,_,rfl,f,g,_⟩
 ·cases c
 have:T d=T b:=c
 grind
def Mw.q(b:Mw w base o a n wd sc ct)(c:E_ w w'):Mw w' base o a n wd sc ct:=by
 rcases b with b|⟨j,d,e,f,g,h,i⟩
 exact ZM b;exact ZJ ⟨j,d,e,f,g,Qh h c.size,i.q c⟩
def Mw.d(d:Mw w base o a n wd sc ct):∃b c,o=ZH b n c:=by
 rcases d with⟨_,rfl,rfl⟩|⟨f,e,_,rfl,_⟩
 ·grind
 grind
def Mw.h{b c}(e:Mw w base (V b n c) a n wd sc ct)(i:n<=2097152):Ed w b n wd sc ct:=by
 rcases e with⟨_,f,_⟩|⟨k,d,_,h2,_,_,g⟩
 exact ZM f;injection h2 with h2;exact ZJ ⟨d,0,h2,g.c O (by unfold Y2;omega) (λj h=>by unfold Tj;rw[aD h])⟩
def cd{n c w}:C_ 122 #[V ZP n c] w (V_ (ZH ZP 0 0) w):=by have b:∀a:_,(binOp _ _ _ _).run _ a=.ok (ZR Z0) a:=λa=>run_eql_slice_nil a 35 _ ZP n c 0 0 underlying35;refine er_ ?_;exact⟨X,X⟩
def Zq{o n c w}:C_ 124 #[o,V ZP n c] w (V_ (ZR Z0) w):=by have b:∀a:_,(binOp _ _ _ _).run _ a=.ok (ZR Z0) a:=λa=>run_eql_slice_nil a 35 _ ZP n c 0 0 underlying35;refine er_ ?_;exact⟨X,X⟩
def Ed.at{a}(b:Ed w (T a) n wd sc ct)(g:n<=2097152):Du w a.block a.off n wd sc ct/\(0<n->a=(J a.block a.off)):=by
 rcases b with rfl|⟨d,h,e,f⟩
 exact⟨⟨O,λb=>O,λi c=>O,λi c=>O,λi c=>O⟩,λb=>O⟩
 grind
def ux{a n c m k l w}(d:Ed w a n m k l)(f:n<=2097152):C_ 122 #[V a n c] w λb w'=>∃o,b=ZI o/\Mw w' (B w.1) o a n m k l/\E_ w w':=by
 cases a with
 | none=>
  apply (cd).m;rintro b w' ⟨rfl,rfl⟩;refine⟨_,X,ZM ⟨X,?_,X⟩,y_⟩
  rcases d with d|⟨_,_,b,_⟩
  exact d
  cases b
 | some j=>
  have⟨g,h⟩:=d.at f;apply (ca g h f).m;rintro b w' ⟨rfl,e,i⟩;exact⟨_,X,ZJ ⟨j,B w.1,X,X,x_,e.lt,e⟩,i⟩
def qb{a n c s v u t o w}(g:Mw w s o a n v u t)(l:Ed w a n v u t)(r:∀d,a=T d->0<n->d.block<s)(e:n<=2097152):C_ 124 #[o,V a n c] w λb w'=>b=ZI (ZR Z0)/\Aa (λf=>ZW o=T f) w w':=by
 rcases g with⟨rfl,rfl,rfl⟩|⟨d,m,rfl,rfl,p,q,j⟩
 ·apply (Zq).m
  grind [Aa.refl]
 have⟨h,i⟩:=l.at e;apply (Zp h i e j (λb=>w_)).m;rintro b w' ⟨rfl,k⟩;exact⟨X,k.m (λf _ b=>by subst b;rfl)⟩
end
def Nw(b:U E)(a:U Cd):Prop:=Bc a/\∀c∈a,c.v∈b
def Nw.nil{a}:Nw a []:=⟨Bc.nil,s_⟩
def Nw.y{U a}(b:Nw U a):F a<=F U:=b.1.y b.2
def ZnN(i:U E)(e:H)(j:YZ ZY)(l:E)(g:ZT)(k:Ending)(b:ZT):Prop:=
 k=ZI (ZR Z0)/\∃d c f,Wi b e d c f/\(∀h∈c,Nw i h)/\f<=l+1/\(∀a,a≠0->a≠4->a≠5->a≠12->d[a]? =j[a]?)/\Below e g b/\Zfl g b
def Rs.p{S k w' d b c i e l}(a:Rs k d b c i e l)(j:Aa S k w')(v:∀h,ZW b=T h->¬S h):Rs w' d b c i e l:=by
 rcases a with a|⟨w,f,n,g,o,p,q,r,m,s,t,u⟩
 exact ZM a;exact ZJ ⟨w,f,n,g,o,Qh p j.size,q,r,m,j.g s (v f (by rw[g];rfl)),t,u⟩
def Hh{d e c}(a:Y3 d e c):Aa (λb=>T b=c) d e:=⟨a.os,a.tape,a.output,a.size,λb f g=>a.block b f g⟩
def Fa{h i c f j}(k:Ck h c f j){b}(a:Below b h i)(n:∀d g,c=T ⟨d,g,ZP⟩->0<f->d<b):Ck i c f j:=
 k.p (S:=λe=>b<=e) ⟨a.os,a.tape,a.output,a.size,λe _ p=>a.block e O⟩ (λd g l m o=>w_)
def Up{f b d g}(c:Ck f b d g):∀a e,b=T ⟨a,e,ZP⟩->0<d->a<B f.1:=λa e i k=>by
 rcases c.2.2 with c|⟨h,m,j,l,_⟩
 omega
 grind
def Zib{i m f}(d:Ej (Ao i m) f){g:U E}(p:∀j∈i,Ey j∈g):∀a∈Bo 0 f,a.v∈g:=by
 intro a k
 have⟨_,_,_,c,b,n,_⟩:=pe (λc b=>by
  rw[d.g c b];have⟨h,e,a⟩:=d.e c b;rw[<- a]
  exact ZlP (λo l=>(Jm l).1.1) h e) a k
 have⟨h,e,l⟩:=d.e c b;have⟨_,_,j,q,o⟩:=Jm e
 grind
def Rr.p{S i w' f c e g d}(b:Rr i f c e g d)(q:Aa S i w')(o:∀a,ZW c=T a->¬S a):Rr w' f c e g d:=by
 rcases b with b|⟨p,j,k,h,l,m⟩
 exact ZM b;exact ZJ ⟨p,j,k,h,l,q.M m (λa n=>o a (h ▸ n))⟩
def yr{g c b}(e:Cj g c b):∀a f,c=T ⟨a,f,ZP⟩->0<F b->a<B g.1:=λa f h i=>by
 rcases e.2 with e|⟨k,l,d,j⟩
 omega;rw[h] at d;simp at d;have:=j.lt i;omega
def Il{h i d c}(b:Cj h d c){f}(g:Below f h i)(l:∀a e,d=T ⟨a,e,ZP⟩->0<F c->a<f):Cj i d c:=by
 refine⟨b.1,?_⟩
 rcases b.2 with b|⟨a,e,rfl,k⟩
 exact ZM b;exact ZJ ⟨a,e,X,k.block g.size (λj=>g.block a (l a _ X j))⟩
def lr{e a b c}(d:Cj e a b)(j:a=ZP->c=0):a=ZP->b=[]/\c=0:=λg=>by
 rcases d.2 with d|⟨f,k,h,i⟩
 ·grind
 grind
def ZnN.a{f g b d e i a}(h:Wi e g b a d)(k:∀j∈a,Nw f j)(c:E_ e i):ZnN f g b d e (ZI (ZR Z0)) i:=
 ⟨X,b,a,d,h.q c,k,O,λ_ _ _ _ _=>X,c.m (Nat.le_of_lt h.lt),Zfl.a c⟩
structure Cu where
 k:H
 z:ZG
def Pd(d:ZT)(c:H)(b:ZC)(a:Cu):Prop:=d.1[c]? =T (O_ #[Q_ b,I a.k,ZR a.z] 288)
def Lj(c:U E)(b:H)(a:Cu):Cu×U E:=if a.z=ZZ/\a.k+b<=F c then(⟨a.k+b,ZZ⟩,ZU b (ZF a.k c)) else(⟨a.k,Z0⟩,Y6 b 0)
def Cx(b:U E)(c:E)(a:Cu):Cu×H:=if c<aa (Lj b 1 a).2 then(⟨(Lj b 1 a).1.k,Z0⟩,0) else((Lj b 1 a).1,aa (Lj b 1 a).2)
def Tz{a:U E}{n}{b:Cu}(c:b.k<=F a):(Lj a n b).1.k<=F a:=by unfold Lj;grind
def Ic{a:U E}{d}{b:Cu}(c:b.k<=F a):(Cx a d b).1.k<=F a:=by have:=Tz (n:=1) c;unfold Cx;split<;>simpa
theorem Ij(c:U E) a b:F (Lj c a b).2=a:=by unfold Lj;grind
def Np{b:U E}(e:∀a∈b,0<=a/\a<256) d c:∀a∈(Lj b d c).2,0<=a/\a<256:=λa f=>by grind [Lj]
def Jl{c:U E}(e:∀d∈c,0<=d/\d<256) a b:(Cx c a b).2<256/\(0<=a->((Cx c a b).2:E)<=a):=by
 have f:=bp _ (Np e 1 b);rw[Ij] at f;unfold Cx
 grind
def ZmL(b:ZC)(a c:H):ZB (ZU c (ZF a (Ab b)))=b.extract a (a+c):=by
 have e:Ab (b.extract a (a+c))=ZU c (ZF a (Ab b)):=by
  unfold Ab
  grind [ByteArray.data_extract,Array.toList_extract,map_drop,map_take]
 rw[<- e];generalize b.extract a (a+c)=d
 cases d with
 | mk f=>
  unfold ZB Ab;congr 1;apply Array.ext';simp[map_map,Function.comp_def]
def St{a:U E}(c:∀b∈a,0<=b/\b<256):Ab (ZB a)=a:=by
 unfold Ab ZB;simp only[map_map]
 conv=>rhs;rw[<- map_id a]
 grind [map_congr_left,UInt8.toNat_ofNat']
def Pd.g{b a d e}(f:Pd b a d e):Pd (ZO b (J a 2) (ZR Z0)) a d ⟨e.k,Z0⟩/\Aa (λc=>c=a) b (ZO b (J a 2) (ZR Z0)):=
 ⟨hs_ _ a 2 _ 288 _ f,(Aa.refl (λc=>c=a) _).setCell (p:=(J a 2)) (λ_=>X) _⟩
def Pd.drewN{d c a b}(e:Pd d c a b) f:Pd (Y1 d f) c a b:=by unfold Pd;rw[heap_drewN];exact e
def Pd.q{d w' c a b}(e:Pd d c a b)(f:E_ d w'):Pd w' c a b:=(Aa.a (S:=λ_=>False) f).g e id
def Iw c (a:H)(b:ZC)(j:Cu) d (g:Pd d c b j)(v:a<=1000000)(M:ZK b<=4000000)(x:j.k<=ZK b):C_ 182 #[P_ c,I a] d λk e=>k=ZI (YW (ZB (Lj (Ab b) a j).2))/\Pd e c b (Lj (Ab b) a j).1/\Aa (λh=>h=c) d e:=by
 obtain⟨e,q⟩:=j;have r:=n_ 0 g;have n:=n_ 1 g;have o:=n_ 2 g;simp only at x n o;have s:=R_ 1 _ _ g;have t:=R_ 2 _ _ g;have u:F (Ab b)=ZK b:=(by simp[Ab]);have⟨f,l⟩:=Z_ (e+a);have N:i64.wrap ((e:E)+a)=f:=by rw[Au O O];omega
 by_cases p:q=ZZ/\f<=ZK b
 ·obtain⟨rfl,L⟩:=p;have m:K (Lj (Ab b) a ⟨e,ZZ⟩=(⟨f,ZZ⟩,ZU a (ZF e (Ab b)))):=(by rw[<- l];exact aD ⟨X,w_⟩);have w:K (ZB (ZU a (ZF e (Ab b)))=b.extract e f):=(by rw[<- l];exact ZmL b e a);have i:K (∀a,Pd (ZO (Y1 d a) (J c 1) (I f)) c b ⟨f,ZZ⟩/\Aa (λh=>h=c) d (ZO (Y1 d a) (J c 1) (I f))):=λa=>⟨ht_ 1 _ _ _ (g.drewN a),((Aa.refl (λh=>h=c) d).drewN a).setCell (p:=(J _ 1)) (λ_=>X) _⟩;have P:i64.wrap ((f:E)-a)=e:=(by rw[Au O O];omega);have A:0<=(e:E):=O;have D:e<=(f:E):=O;have G:f<=(ZK b:E):=O;clear g u l;refine q_ ?_;go_wp2_with fail
  go_quiet (fail);go_upto_region 5 with fail;have h:=i nq;have y:=n_ 0 h.1;have z:=n_ 1 h.1;clear i r n o s t;generalize (ZO (Y1 d nq)) _ _=k at *;go_quiet (fail);go_wp2;go_ret;rw[m,w];exact⟨X,h.1.drewN _,h.2.drewN _⟩
 have m:K (Lj (Ab b) a ⟨e,q⟩=(⟨e,Z0⟩,Y6 a 0)):=aC (λk=>p ⟨k.1,w_⟩);have i:K (∀a,Pd (ZO (Y1 d a) (J c 2) (ZR Z0)) c b ⟨e,Z0⟩/\Aa (λh=>h=c) d (ZO (Y1 d a) (J c 2) (ZR Z0))):=λa=>⟨ht_ 2 _ _ _ (g.drewN a),((Aa.refl (λh=>h=c) d).drewN a).setCell (p:=(J _ 2)) (λ_=>X) _⟩;have z:=Rd a v;clear g u l;refine q_ ?_;go_wp2_with fail
 go_cut [22] (λh k=>h=ZR Z0/\∃nq,k=Y1 d nq)
 case first=>
  cases q
  ·have h:=Nat.lt_of_not_le (λk=>p ⟨X,k⟩);go_quiet (fail);go_wp2;go_meet
   grind
  go_quiet (fail);go_wp2;go_meet
  grind
 obtain⟨rfl,nq,w⟩:=hcut;subst w;go_upto_region 3 with fail;have h:=i nq;clear i r n o s t;generalize (ZO (Y1 d nq)) _ _=k at *;have y:=Pn _ _ (Rb a k _ v x_);go_wp2;go_ret;rw[m];exact⟨X,h.1.q r_,h.2.alloc _⟩
def Cl e (c:E)(a:ZC)(b:Cu) g (o:Pd g e a b)(u:ZK a<=4000000)(t:b.k<=ZK a):C_ 183 #[P_ e,I c] g λm d=>m=ZI (ZX ZQ (Cx (Ab a) c b).2)/\Pd d e a (Cx (Ab a) c b).1/\Aa (λf=>f=e) g d:=by
 have n:=Iw _ 1 a b g o C u t;have k:=Uu (ZB (Lj (Ab a) 1 b).2);have A:ZK (ZB (Lj (Ab a) 1 b).2)=1:=(by rw[Bi,Ij]);rw[St (Np (Qq a) 1 b)] at k;have⟨x,l⟩:=ez_ (Cx (Ab a) c b);rw[l];have d:=Y l.s;unfold Cx at d;clear o l;generalize Lj (Ab a) 1 b=w at *;generalize aa w.2=r at *;refine q_ ?_;go_wp2_with fail
 apply n.m;rintro m D ⟨rfl,f,q⟩;have i:=K_ f q;clear n q;have z:=R_ 2 _ _ f;have y:=n_ 2 f;clear f;go_wp2_with fail
 apply (k _ O).m;rintro m G ⟨rfl,v⟩;obtain rfl:=v.s;clear k
 by_cases p:c<r
 ·have j:=Y (d.T (aD p));have h:=i.1.g;have s:=K_ h.1 (i.2.T h.2);clear d h;go_wp2;go_ret;rw[j];exact⟨X,s⟩
 have j:=Y (d.T (aC p));have h:¬(r:E)>c:=O;clear d;go_wp2;go_ret;rw[j];exact⟨X,i⟩
def Pl{a:ZT}{b c}(d:B a.1=c):(ZN a b).1[c]? =T b:=by subst d;exact ha_ a b
def OpR.q{d w' c}(a:OpR d c)(b:E_ d w'):OpR w' c:=
 ⟨a.A,a.vl,a.d,a.c.q b,Fa a.f b (Up a.f),Fa a.o b (Up a.o),a.e,a.g⟩
end Go.Proofs.YtfcgnpchbcmdeaaGreat
namespace Go.Proofs.YtfcgnpchbcmdeaaGreat
set_option linter.all false
set_option maxRecDepth 100000
set_option maxHeartbeats 8000000
open Go.ChangeShapes Go.WideShapes Go.ChangeAt Go.RowKit List Nat Go.World Go.Proofs.Tryz Go.Value Go.IntKind Go.Lib Go.Region
open Go.Deep
def ZjB{b}(a:DataW b):1<=Rows.uptoBulk a:=by
 cases a with
 |lit c=>cases c<;>simp[Rows.uptoBulk]
 |_=>simp[Rows.uptoBulk]
def Xy{b}:∀a:U (DataW b),F a<=Rows.uptoBulkAll a
 |[]=>s_
 |c::d=>by have:=ZjB c;have:=Xy d;simp[Rows.uptoBulkAll];omega
def ZaY{d}:∀c (a:DataW d),a∈c->Rows.uptoBulk a<=Rows.uptoBulkAll c
 |[],a,b=>by cases b
 | f::e,a,b=>by
  simp only[Rows.uptoBulkAll]
  rcases mem_cons.1 b with rfl|b
  omega;have:=ZaY e a b;omega
def tz{f}(b:H->DataW f)(c:H->U E):∀d:U H,(∀a∈d,F (c a)<=Rows.uptoBulk (b a))->F (d.flatMap c)<=Rows.uptoBulkAll (d.map b)
 |[],_=>s_
 |a::i,e=>by have j:=e a s_;have k:=tz b c i (λh g=>e h (by simp[g]));simp only[flatMap_cons,Qe,map_cons,Rows.uptoBulkAll];omega
section
variable {H:Type} {enc:TypeId×ZY->H} {w:ZT} {a:ZG}
def vk{q f x}(h:DataW.trod enc Y8 w 0 (λ_=>Z0) a q 25 f=T x):∃c b d e,f=[V c b d]/\b<=Y2/\Ck w c b e/\(c=ZP->b=0/\d=0)/\b<=Rows.uptoBulk x.1:=by
 rcases open_ints underlying25 underlying3 au h with⟨rfl,_⟩|⟨c,b,d,e,rfl,_,u,v,o,n,l,m⟩
 exact⟨ZP,0,0,[],X,O,⟨X,s_,ZM X⟩,λ_=>⟨X,X⟩,v_⟩;simp only[if_true] at o;have j:b<=Rows.uptoBulk x.1:=(by rw[n];simp only[Rows.uptoBulk];have:=Xy (lits (H:=H) ZQ (ZU b e));simp[lits] at this;simp[lits] at *;omega);refine⟨T c,b,d,ZU b e,X,O,⟨t_,λs p=>m s (aL p),?_⟩,s_,j⟩
 by_cases i:b=0
 exact ZM i;right;obtain⟨g,r,rfl,k⟩:=ints_at l O;refine⟨g,r,X,ji (k 0 O),λy t=>?_⟩
 grind
end
end Go.Proofs.YtfcgnpchbcmdeaaGreat
