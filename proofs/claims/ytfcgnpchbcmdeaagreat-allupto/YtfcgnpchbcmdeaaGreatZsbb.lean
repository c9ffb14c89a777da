import Derived.Test.YtfcgnpchbcmdeaaGreatZsba
open _root_ renaming Nat->H,List->U,Array->YZ,Int->E,rfl->X,Option->Y0,Bool->ZG,ByteArray->ZC
open Option renaming some->T,none->ZP
open Go renaming World->ZT,Value->ZY,madeCells->YV,strOfNums->ZB
open Go.Value renaming ownBlock->ZW,bool->ZR,agg->Y9,int->ZX,slice->ZH,pointer->Y7,string->YW,tuple->Y5
open Go.World renaming ownsRow->ZD,setCell->ZO,cell?->ZV,grownBy->Y3,alloc->ZN,drew->YY
open Or renaming inl->ZM,inr->ZJ
open List renaming length->F,getD->Z,replicate->Y6,drop->ZF,take->ZU
open Array renaming size->B
open Int renaming toNat->ZL
open Bool renaming true->Z0,false->ZZ
open Go.Ending renaming returned->ZI
open Go.IntKind renaming i64->ZQ
open Go.Proofs renaming intOf->ZA
open Go.Proofs.Tryz renaming prog->Y8
open Go.Obj renaming cells->YU
open Decidable renaming decide->ZE
open ByteArray renaming size->ZK
namespace Go.Proofs.YtfcgnpchbcmdeaaGreat
set_option linter.all false
set_option maxRecDepth 100000
set_option maxHeartbeats 16000000
open Go.RowKit List Nat Go.World Go.Proofs.Tryz Go.Value Go.IntKind Go.Lib Go.Region
def et(c:H->Prop)(f:ZT)(d:H):Prop:=∀a e b,f.1[a]? =T (O_ e b)->c a->b=d
section
variable {S:H->Prop} {w w':ZT} {a:H}
def et.M(f:et S w a){e c m l:H}{d:ZY}{n:U ZY}(j:ZD w e c m d l n)(i:c≠a):∀b,ZW d=T b->¬S b:=λb h k=>by have⟨o,g⟩:=Ac j h;exact i (f b _ c g k)
def et.at(d:et S w a){k b:H}{c:YZ ZY}(e:H_ w k c b)(f:b≠a):¬S k:=λg=>f (d k c b e g)
def et.x{a b:H}{c:YZ ZY}(f:H_ w a c b):et (λk=>k=a) w b:=λk d h g e=>w_
def et.D{d a h g:H}{c:ZY}{i:U ZY}(f:ZD w d a h c g i):et (λb=>ZW c=T b) w a:=λb j n m e=>by
 have⟨k,l⟩:=Ac f e
 grind
def Id.f{k:H}{m:ZY}{j:U H}{l:H}(o:Id w k m j l)(d:Aa S w w')(c:et S w a)(p:403≠a)(q:396≠a)(r:405≠a)(s:5≠a):Id w' k m j l:=by
 rcases o with⟨e,i,f,u,v,g,h,b⟩|⟨e,i,f,n,t,g,h,b⟩
 exact ZM ⟨e,i,f,u,v,g,h,d.g b.r (c.at b.r p),d.M b.M (c.M b.M r)⟩;exact ZJ ⟨e,i,f,n,t,g,h,d.g b.r (c.at b.r q),d.M b.M (c.M b.M s)⟩
def Pe.f{j:H}{h:ZY}{i:U (ZY×ZY)}{e:U BS}(d:Pe j w h i e)(g:Aa S w w')(q:et S w a)(k:403≠a)(l:396≠a)(m:405≠a)(n:5≠a)(p:∀c,ZW h=T c->¬S c)(o:∀b,b<F e->∀c,ZW (Z i b Lm).1=T c->¬S c):Pe j w' h i e:=
 ⟨g.M d.M p,d.y,λb f=>⟨g.M (d.j b f).1 (o b f),(d.j b f).2.f g q k l m n⟩⟩
def Jq.f{h:H}{k:ZY}{g:U (ZY×ZY)}{e:U KS}(c:Jq h w k g e)(f:Aa S w w')(i:et S w a)(l:172≠a)(m:9≠a)(n:∀b,b<F e->∀j,ZW (Z g b Lm).1=T j->¬S j):Jq h w' k g e:=
 ⟨f.M c.M (i.M c.M l),c.y,λb d=>⟨f.M (c.j b d).1 (n b d),f.M (c.j b d).2 (i.M (c.j b d).2 m)⟩⟩
end
structure iz(h:H)(f wr:ZT)(k m c d:H)(p:U E)(o e:ZY)(l:U (ZY×ZY))(g:U KS)(j:U (ZY×ZY))(i:U BS)(n:U E):Prop where
 r:wr.1[k]? =T (O_ #[o,e,N_] 168)
 w:Jq h wr o l g
 v:Pe h wr e j i
 u:Cn wr m p
 G:Ad wr 0 (L_ c d d) n
 L:F n=d
 t:Aa (λb=>b=m∨b=k) f wr
 z:∀b,ZW e=T b->B f.1<=b
 A:B f.1<=c
 y:∀a,a<F i->ZW (Z j a Lm).1≠T c
 x:∀a,a<F g->ZW (Z l a Lm).1≠T c
section
variable {c:H} {w wr w2:ZT} {db d a f:H} {l b:U E} {e vB:ZY} {kvs:U (ZY×ZY)} {Ks:U KS} {bvs:U (ZY×ZY)} {bs:U BS} {st:U E}
def iz.i(g:iz c w wr db d a f l e vB kvs Ks bvs bs st)(n:Cn w2 d b)(i:Aa (λm=>m=d) wr w2):iz c w w2 db d a f b e vB kvs Ks bvs bs st:=by have⟨S,o,_⟩:=g.u.r;have h:=et.x o;exact⟨i.g g.r (h.at g.r C),g.w.f i h C C (λk j=>h.M (g.w.j k j).1 C),g.v.f i h C C C C (h.M g.v.M C) (λk j=>h.M (g.v.j k j).1 C),n,i.M g.G (h.M g.G C),g.L,g.t.T (i.m (λm _ j=>ZM j)),g.z,g.A,g.y,g.x⟩
def iz.q(b:iz c w wr db d a f l e vB kvs Ks bvs bs st)(g:E_ wr w2):iz c w w2 db d a f l e vB kvs Ks bvs bs st:=b.i (b.u.q g) (.a g)
def iz.put(b:iz c w wr db d a f l e vB kvs Ks bvs bs st)(k:H)(m:E):iz c w (ZO wr (J a k) (I m)) db d a f l e vB kvs Ks bvs bs (st.set k m):=by have j:Aa _ wr (ZO wr _ (I m)):=(Aa.refl (λq=>q=a) _).setCell (p:=(J _ k)) (λ_=>X) _;have⟨v,s⟩:=Ac b.G (k:=a) X;have h:=et.x s;have⟨S,r,t,u⟩:=b.u.r;refine⟨j.g b.r (h.at b.r C),b.w.f j h C C (λi o q g n=>b.x i o (by rw[g,n])),b.v.f j h C C C C (h.M b.v.M C) (λi o q g n=>b.y i o (by rw[g,n])),⟨S,j.g r (h.at r C),t,u⟩,(b.G.put (k:=k) b.L.s m).1,by rw[length_set];exact b.L,b.t.setCell (p:=(J a k)) (λg=>by have:=b.A;simp at g;omega) _,b.z,b.A,b.y,b.x⟩
def iz.h{h:H}{r:YZ ZY}(b:iz c w wr db d a f l e vB kvs Ks bvs bs st)(t:H_ wr h r 163)(u:ZW vB≠T h)(y:B w.1<=h)(m:H){o:ZY}:iz c w (ZO wr (J h m) o) db d a f l e vB kvs Ks bvs bs st:=by have i:Aa _ _ (ZO wr _ o):=(Aa.refl (λk=>k=h) _).setCell (p:=(J _ m)) (λ_=>X) _;have g:=et.x t;have⟨q,n,v,x⟩:=b.u.r;exact⟨i.g b.r (g.at b.r C),b.w.f i g C C (λk j=>g.M (b.w.j k j).1 C),b.v.f i g C C C C (λk j s=>u (by rw[j,s])) (λk j=>g.M (b.v.j k j).1 C),⟨q,i.g n (g.at n C),v,x⟩,i.M b.G (g.M b.G C),b.L,b.t.setCell (p:=(J h m)) (λj=>by simp at j;omega) _,b.z,b.A,b.y,b.x⟩
def iz.j(b:iz c w wr db d a f l e vB kvs Ks bvs bs st):DkX wr db e kvs Ks:=⟨M_ 0 _ 168 (0,0) b.r,(Qb b.r).1,b.w.m v_⟩
def iz.D(b:iz c w wr db d a f l e vB kvs Ks bvs bs st):ZV wr (J db 1)=T vB:=M_ 1 _ 168 (0,0) b.r
def iz.P{t:ZT}{q j m:ZY}{b:BS}(g:iz c w wr db d a f l e vB kvs Ks bvs bs st)(A:Y3 wr t (ZW vB))(Q:ZD t 0 163 2 q (F bs+1) (Ov bvs++[j,m]))(N:ZW q=ZW vB∨ZW q=T (B wr.1))(D:Ad wr c j (An b.fs))(W:ZW j≠T a)(P:Id wr c m b.N b.g):iz c w (ZO t (J db 1) q) db d a f l e q kvs Ks (bvs++[(j,m)]) (bs++[b]) st:=by
 have n:=(Aa.refl _ _).grown A (λs hk _=>hk);have k:=et.D g.v.M;have⟨M,u,R,S⟩:=g.u.r;have z:=n.g g.r (k.at g.r C);have v:Aa _ _ (ZO t _ q):=(Aa.refl (λs=>s=db) _).setCell (p:=(J _ 1)) (λ_=>X) _;have p:=et.x z;have G:=g.w.f n k C C (λh i=>k.M (g.w.j h i).1 C);have L:=n.M g.G (k.M g.G C)
 have x:Pe c t q (bvs++[(j,m)]) (bs++[b]):=by
  refine⟨by rw[Qe,Vs];exact Q,by simp[g.v.y],λh i=>?_⟩;rw[Qe] at i;simp at i
  by_cases o:h<F bs
  have r:Z (bvs++[(j,m)]) h Lm=Z bvs h Lm:=(by simp[Z,getElem?_append_left (show h<F bvs by rw[g.v.y];exact o)]);have s:Z (bs++[b]) h Df=Z bs h Df:=w_;rw[r,s];exact⟨n.M (g.v.j h o).1 (k.M (g.v.j h o).1 C),(g.v.j h o).2.f n k C C C C⟩;have y:h=F bs:=O;subst y;have r:Z (bvs++[(j,m)]) (F bs) Lm=(j,m):=(by simp[Z,g.v.y.s]);have s:Z (bs++[b]) (F bs) Df=b:=(by simp[Z]);rw[r,s];exact⟨(n.M D (k.M D C)),(P.f n k C C C C)⟩
 refine⟨?_,G.f v p C C (λh i=>p.M (G.j h i).1 C),x.f v p C C C C (p.M x.M C) (λh i=>p.M (x.j h i).1 C),⟨M,v.g (n.g u (k.at u C)) (p.at (n.g u (k.at u C)) C),R,S⟩,v.M L (p.M L C),g.L,(g.t.grown A (λs hk h=>absurd (g.z s hk) O)).setCell (p:=(J db 1)) (λ_=>ZJ X) _,λs hk=>?_,g.A,λh i=>?_,g.x⟩;rw[hs_ _ db 1 _ 168 _ z];rfl
 ·rcases N with o|o
  rw[o] at hk;exact g.z s hk;rw[o] at hk;injection hk with hk;have:=g.t.size;omega
 rw[Qe] at i;simp at i
 by_cases o:h<F bs
 have r:Z (bvs++[(j,m)]) h Lm=Z bvs h Lm:=(by simp[Z,getElem?_append_left (show h<F bvs by rw[g.v.y];exact o)]);rw[r];exact g.y h o
 have y:h=F bs:=O;subst y;have r:Z (bvs++[(j,m)]) (F bs) Lm=(j,m):=by simp[Z,g.v.y.s]
 grind
end
def Jz(a c:U E):H->U E
 |0=>c
 |b+1=>(Jz a c b).set (ZL (Z a b 0)) (Z (Jz a c b) (ZL (Z a b 0)) 0+1)
def du{c b:U E}:∀a,F (Jz c b a)=F b
 |0=>X
 |a+1=>by simp only[Jz,length_set];exact du a
def pq{fs f:U E}{c:E}(e:∀a∈f,0<=a/\a<=c)(h:0<=c):∀b:H,∀a∈Jz fs f b,0<=a/\a<=c+b
 |0,a,d=>p_ (e a d)
 | b+1,a,d=>by
  have i:=pq (fs:=fs) e h b
  rcases mem_or_eq_of_mem_set d with g|g
  ·grind
  grind [Qf]
def Xg(a:U H)(b:H):U H:=if 4*nzN a<F a then a else a.map (· %2^Lib.bitLen b)
def Zen(q:H){j:H}(p G d:H)(o:Y0 Addr)(a3:ZY){D:ZY}(a0:U (ZY×ZY))(h:U KS)(i:U E){c:U H}(f:ZT)(w:DkX f q a3 a0 h)(s:Ad f G (V o j p) i)(z:F i=j)(A:j<=1000)(y:∀r∈i,0<=r/\r<F h)(v:∀K∈h,K.e.b<=16)(m:F c<=200)(t:∀x∈c,x<=255)(P:d<64)(S:Id f 0 D c d):C_ 231 #[P_ q,Y9 #[V o j p,D]] f (U_ (ZR (Dx h i (Xg c d))) f):=by
 rcases S with⟨l,a1,rfl,a6,a7,rfl,N,g⟩|⟨l,a1,rfl,L,a2,rfl,N,g⟩
 ·have e:∀a,_->ku a 0 _ _ _ _ _:=λa b=>⟨(b.block _ (Qb g.r).1).T g.r,(Aa.a (S:=λ_=>False) b).M g.M (λ_ _=>id)⟩;unfold Xg;rw[aD l]
  exact nr w s z A y v X m t (ZJ ⟨X,X⟩) (λa=>k_)
   (λa b=>vy (M_ 0 _ 403 (0,0) (e a b).r) (M_ 1 _ 403 (0,0) (e a b).r))
   (λa b k n=>Ri k c a (e a b) n O)
 have u:=Gj P;have e:∀a,E_ f a->_:=λa b=>g.q b;have a4:=Nat.mul_le_mul m u;unfold Xg;rw[aC l]
 refine nr w s z A y v s_ m (λx W=>?_) (ZM ⟨X,X⟩) (λa=>k_)
  (λa b=>we (M_ 0 _ 396 (0,0) (e a b).r) (M_ 1 _ 396 (0,0) (e a b).r))
  (λa b k n=>?_)
 obtain⟨Q,M,rfl⟩:=mem_map.1 W;exact aG (mod_le _ _) (t Q M);have R:k*Lib.bitLen d+Lib.bitLen d<=F c*Lib.bitLen d:=(by rw[<- succ_mul];exact aK _ n);have M:=Oe L a2 _ _ _ k a (e a b) (λQ=>Jf _ _ Q) u R O O;rw[Ni _ _ (Lib.bitLen d) (λa5 Q=>Mz c Q)] at M
 grind
def Zz(b:U KS)(c:H)(d:U E):H->Y0 (U BS×U E×U E)
 |0=>T ([],Y6 (F b) 0,d)
 | f+1=>match Zz b c d f with
  |none=>ZP
  |some (e,g,a)=>if(Vj b (lstK a)&&Dx b (lstK a) (Xg (Ix (lstR a) c (Dc b (lstK a))) (Dc b (lstK a))))=Z0 then T (e++[⟨(lstK a).map ZL,Ix (lstR a) c (Dc b (lstK a)),Dc b (lstK a)⟩],Jz (lstK a) g (F (lstK a)),rdColR (lstR a) c (Dc b (lstK a))) else ZP
def Zjn(a:U KS)(c:H)(b:U E){k m:H}(f:Zz a c b k=ZP)(g:k<=m):Zz a c b m=ZP:=by
 induction m with
 |zero=>grind
 | succ m d=>
  by_cases e:k=m+1
  ·grind
  simp only[Zz,d O]
structure BbX(d:ZT)(a:H)(c b:ZY):Prop where
 r:d.1[a]? =T (O_ #[c,b] 163)
section
variable {w w2:ZT} {bb c d:H} {b a:ZY}
def BbX.t(c:BbX w bb b a):ZV w (J bb 0)=T b:=M_ 0 _ 163 (0,0) c.r
def BbX.D(c:BbX w bb b a):ZV w (J bb 1)=T a:=M_ 1 _ 163 (0,0) c.r
def BbX.p{S:H->Prop}{c:H}(d:BbX w bb b a)(f:Aa S w w2)(g:et S w c)(e:163≠c):BbX w2 bb b a:=⟨f.g d.r (g.at d.r e)⟩
end
def Zgi{a:U E}(b:∀x∈a,0<=x):An (a.map ZL)=a:=by
 unfold An;rw[map_map]
 conv=>rhs;rw[<- map_id a]
 grind [map_congr_left]
def BdE(i:H)(a h:ZT)(c f:H)(p:ZY)(l:U (ZY×ZY))(b:U KS)(m:Y0 (U BS×U E×U E))(d:Ending):Prop:=match m with
 |none=>d=ZI (ZR ZZ)/\Aa (λe=>e=f∨e=c) a h
 |some (j,g,n)=>d=ZI (ZR (Dn g))/\∃o k,iz i a h c f (B a.1) (F b) n p o l b k j g
structure BdT(d:H)(a wr:ZT)(i m l:H)(k:U E)(o e:ZY)(j:U (ZY×ZY))(f:U KS)(h:U (ZY×ZY))(g:U BS)(n:U E)(b:H)(c p:ZY)(fs:U E):Prop where
 r:iz d a wr i m (B a.1) l k o e j f h g n
 fs:Ad wr d c fs
 t:BbX wr b c p
 x:ZW e≠T b
 v:B a.1<=b
 y:ZW c≠T (B a.1)
section
variable {b:H} {w wr w2:ZT} {db a d bb:H} {l g fs:U E} {e vB c f:ZY} {kvs:U (ZY×ZY)} {Ks:U KS} {bvs:U (ZY×ZY)} {bs:U BS} {st:U E}
def BdT.i(h:BdT b w wr db a d l e vB kvs Ks bvs bs st bb c f fs)(k:Cn w2 a g)(i:Aa (λm=>m=a) wr w2):BdT b w w2 db a d g e vB kvs Ks bvs bs st bb c f fs:=by have⟨S,n,_⟩:=h.r.u.r;have j:=et.x n;exact⟨h.r.i k i,i.M h.fs (j.M h.fs C),h.t.p i j C,h.x,h.v,h.y⟩
def BdT.q(g:BdT b w wr db a d l e vB kvs Ks bvs bs st bb c f fs)(h:E_ wr w2):=g.i (g.r.u.q h) (.a h)
def BdT.h{bv r}(f:iz b w wr db a (B w.1) d l e vB kvs Ks bvs bs st)(i:Ad w2 (B wr.1) c r)(m:Cn w2 a g)(j:Aa (λn=>n=a) wr w2)(o:b<=B w.1)(k:bb=B w2.1):BdT b w (ZN w2 (O_ #[c,bv] 163)) db a d g e vB kvs Ks bvs bs st bb c bv r:=by have p:=f.t.size;have q:=j.size;subst k;exact⟨(f.i m j).q r_,(i.m O).q r_,⟨hn_⟩,λh=>p_ (B_ f.v.M _ h).2,O,λh=>oj_ (B_ i _ h).1 (B_ f.G (B w.1) X).2⟩
def BdT.put(g:BdT b w wr db a d l e vB kvs Ks bvs bs st bb c f fs)(h:H)(i:E):BdT b w (ZO wr ⟨B w.1,h,ZP⟩ (I i)) db a d l e vB kvs Ks bvs bs (st.set h i) bb c f fs:=by have j:Aa _ wr (ZO wr ⟨_,h,_⟩ (I i)):=(Aa.refl (λk=>k=B w.1) _).setCell (p:=J (B w.1) h) (λ_=>X) _;have⟨p,n⟩:=Ac g.r.G (k:=B w.1) X;exact⟨g.r.put h i,j.M g.fs (λk o m=>g.y (by rw[o,m])),g.t.p j (et.x n) C,g.x,g.v,g.y⟩
def BdT.j(g:BdT b w wr db a d l e vB kvs Ks bvs bs st bb c f fs){h i j}(n:Id wr b h i j):BdT b w (ZO wr ⟨bb,1,ZP⟩ h) db a d l e vB kvs Ks bvs bs st bb c h fs/\Id (ZO wr ⟨bb,1,ZP⟩ h) b h i j:=by have k:Aa _ _ (ZO wr ⟨_,1,_⟩ h):=(Aa.refl (λm=>m=bb) _).setCell (p:=J _ 1) (λ_=>X) _;have m:=et.x g.t.r;exact⟨⟨g.r.h g.t.r g.x g.v 1,k.M g.fs (m.M g.fs C),⟨ht_ 1 _ _ _ g.t.r⟩,g.x,g.v,g.y⟩,n.f k m C C C C⟩
end
def Zm5{a:U E}(c:∀x∈a,0<=x/\x<=255):F (lstK a)<=255/\∀b∈lstK a,0<=b:=by
 have d:=Iu c 0;have e:a.headD 0=Z a 0 0:=by cases a<;>rfl
 grind [lstK]
def Zjm{b c f e d g a}(h:Zz b c f e=T (d,g,a)):Zz b c f (e+1)=if(Vj b (lstK a)&&Dx b (lstK a) (Xg (Ix (lstR a) c (Dc b (lstK a))) (Dc b (lstK a))))=Z0 then T (d++[⟨(lstK a).map ZL,Ix (lstR a) c (Dc b (lstK a)),Dc b (lstK a)⟩],Jz (lstK a) g (F (lstK a)),rdColR (lstR a) c (Dc b (lstK a))) else ZP:=by simp only[Zz,h]
def ZmZ{c a}(d:Vj c a=Z0)(e:∀b∈a,0<=b):(∀b∈a,0<=b/\b<F c)/\Dc c a<=40:=by grind [Vj]
def Zlu{a st:U E}{c d:H}(g:c<F a)(e:∀b∈a,0<=b/\b<d):∃b:H,Z a c 0=b/\b<d/\Jz a st (c+1)=(Jz a st c).set b (Z (Jz a st c) b 0+1):=by have f:=e (Z a c 0) w_;exact⟨ZL (Z a c 0),O,O,X⟩
def io(q r w h:H)(i:U E)(s:ZY)(v:U (ZY×ZY))(d:U KS)(e:ZT)(A:Cn e w i)(a1:H_ e r #[s,ZH ZP 0 0,ZH ZP 0 0] 168)(P:Jq q e s v d)(d3:q<=B e.1)(g0:F d<=1000)(d4:∀K∈d,K.e.b<=16)(e1:h<=200):Calls Y8 167 #[Y7 (T ⟨r,0,ZP⟩),Y7 (T ⟨w,0,ZP⟩),ZX ZQ (h:H)] e λn m=>BdE q e m r w s v d (Zz d h i.tail (ZL (i.headD 0))) n:=by
 have f7:=Iu A.a 0;have f9:i.headD 0=Z i 0 0:=(by cases i<;>rfl);obtain⟨k,d9⟩:∃k:H,i.headD 0=(k:E):=⟨ZL (i.headD 0),O⟩;have h2:k<=255:=O;rw[show ZL (i.headD 0)=k by omega];have⟨a5,S⟩:=ez_ (F d);have e0:=Gm (F d) O;have⟨g3,Q⟩:=W_ (ZN e (YU (YV #[I 0] (F d)) 3));have M:E_ e _:=Q ▸ r_;have f:Hid (iz q e g3 r w (B e.1) (F d) i s (ZH ZP 0 0) v d [] [] (Y6 (F d) 0)):=by refine⟨(M.block _ (Qb a1).1).T a1,P.q M,⟨rn_,X,s_⟩,A.q M,Q ▸ (Gl _ e 0 O v_),s_,.a M,by simp[ZW],x_,s_,λg d5 n=>?_⟩;have:=(B_ (P.j g d5).1 _ n).2;omega
 have a9:=Y d4;have h3:=A.lt;have⟨g1,g2,e8⟩:=(P.m v_).a;have d1:ZV e ⟨r,0,ZP⟩=T (ZH g1 (F d) g2):=(by rw[<- e8];exact n_ 0 a1);rw[S] at e0 f d1 g0 Q;have b2:=Eg _ i _ f.u;rw[d9] at b2;generalize i.tail=D at *;clear A a1 P d4 f7 f9 d9 M e8;refine q_ ?_;go_wp2_with fail
 rw[<- Q];apply b2.m;rintro n h9 ⟨rfl,e2,e5⟩;replace f:=Y (f.i e2 e5);clear e2 e5 e0 Q d1 b2;go_wp2_with fail
 go_loopw [19] (λm a=>∃(g:H) (N:U BS) (o G:U E) (a6:ZY) (a0:U (ZY×ZY)),m=ZX ZQ g/\g<=k/\F N<=g/\Hid (Zz d h D g=T (N,o,G))/\Hid (∀p∈o,0<=p/\p<=256*(g:E))/\Hid (iz q e a r w (B e.1) a5 G s a6 v d a0 N o)) (λm _=>k-ZL (ZA m))
 case atStart=>exact⟨0,[],_,D,_,_,X,v_,x_,by rw[<- S];rfl,λp a4=>p_ (eq_of_mem_replicate a4),f⟩
 clear f;obtain⟨g,N,o,G,a6,a0,rfl,d5,h0,K,b1,f⟩:=hrel
 by_cases d6:g<k
 case neg=>
  obtain rfl:g=k:=O;go_wp2_with fail
  apply (Zdi a5 a5 0 o wr f.G f.L O).m;rintro n f2 ⟨rfl,a⟩;obtain rfl:=a.s;go_wp2;go_ret;show BdE _ _ _ _ _ _ _ _ (Zz d h D g) _;rw[K];exact⟨X,a6,a0,S ▸ f⟩
 have⟨h1,d8⟩:=Zm5 f.u.a;have⟨b0,y,b3⟩:=y3_ d8 (Zjm K) (λA=>Zjn d h D (k:=g+1) (m:=k) A d6);have c7:=Zad G f.u;clear K d8;generalize lstK G=c,lstR G=W at *;go_wp2_with fail
 apply c7.m;rintro n f1 ⟨h8,rfl,c3,e3,e6⟩;obtain⟨t,z,rfl⟩:=c3.d;go_upto_region 5 with fail;have a:=Y (BdT.h (bv:=.nilIface) f c3 e3 e6 d3 X);clear f c3 e3 e6 c7;generalize (ZN f1) (YU #[ZH t (F c) z,.nilIface] 163)=g4,B f1.1=d0 at *;have l:=a.t.t;go_wp2_with fail
 apply (Zep r z q t s v d c g4 a.r.j a.fs X O b0 a9).m;rintro n i0 ⟨rfl,c8⟩;replace a:=Y (a.q c8);clear l c8
 cases a2:Vj d c
 ·have m:=b3 (by rw[y,a2];simp);go_wp2;go_ret;show BdE _ _ _ _ _ _ _ _ (Zz d h D k) _;rw[m];exact⟨X,a.r.t⟩
 have⟨d7,f8⟩:=ZmZ a2 b0;have R:=Y d7;rw[a2] at y;clear a2 d7;have⟨u,c5⟩:=ez_ (Dc d c);rw[c5] at y f8;have l:=a.t.t;go_wp2_with fail
 clear l;go_loopw [32] (λm p=>∃j:H,m=ZX ZQ j/\j<=F c/\Hid (BdT q e p r w a5 W s a6 v d a0 N (Jz c o j) d0 (ZH t (F c) z) .nilIface c)) (λm _=>F c-ZL (ZA m))
 case atStart=>exact⟨0,X,v_,a⟩
 clear a;obtain⟨j,rfl,P,a⟩:=hrel
 by_cases c1:j<F c
 ·obtain⟨b4,rfl,_,_,a8,_⟩:=a.fs.b X c1;obtain⟨m,L,a3,a7⟩:=Zlu (st:=o) c1 (by rw[S] at R;exact R);rw[L] at a8;have⟨b6,b7⟩:=a.r.G.c a.r.L.s a3;have a4:=pq (fs:=c) b1 O j (Z (Jz c _ j) m 0) (by rw[Qc,Qd (a.r.L ▸ a3)];exact Qf _);have x:=Y (a.put m (Z (Jz c o j) m 0+1));rw[<- a7] at x;clear L a7 a;generalize (Z (Jz c o j)) m 0=p at *;have b5:_=p+1:=Au O O;refine J_ ?_;exact⟨j+1,g_,c1,x⟩
 obtain rfl:j=F c:=O;have a8:=kz q t s c a.r.j a.fs X O R a9;rw[c5] at a8;have l:=a.t.t;go_wp2_with fail
 apply a8.m;rintro n g5 ⟨rfl,c9⟩;replace a:=Y (a.q c9);have c6:=Y a.r.u.a;clear c9 l a8;go_wp2_with fail
 apply (Za7 w h u W g5 a.r.u e1 O).m;rintro n g6 ⟨h6,rfl,c0,e4,e7⟩;obtain⟨b7,b6,rfl⟩:=c0.iface;have L:=c0.m (aG d3 a.r.t.size);replace a:=a.i e4 e7;have x:=a.t.D;have f6:=R_ 1 _ _ a.t.r;replace a:=Y (a.j L);clear e4 e7 c0 L;go_upto_region 13 with fail;clear x f6;generalize (ZO g6) (J d0 1) (.iface b7 (P_ b6))=f2 at *;have l:=a.1.t.t;have x:=a.1.t.D;go_wp2_with fail
 refine(Zen r z q u t s v d c f2 a.1.r.j a.1.fs X O R a9 (by rw[di c6 h O];exact e1) (λb4 a3=>by
  unfold Ix at a3;obtain⟨p,m,rfl⟩:=mem_map.1 a3;have:=(Uw c6 h (show u<64 by omega)).2 p m
  omega) O a.2.zero).m ?_
 rintro n f0 ⟨rfl,b5⟩;replace a:=K_ (a.1.q b5) (a.2.q b5);clear b5 l x
 cases c2:Dx d c (Xg (Ix W h u) u)
 ·have m:=b3 (by rw[y,c2];simp);go_wp2;go_ret;show BdE _ _ _ _ _ _ _ _ (Zz d h D k) _;rw[m];exact⟨X,a.1.r.t⟩
 rw[c2] at y;have f3:Hid (∀p∈Jz c o (F c),0<=p/\p<=256*((g+1:H):E)):=λp a4=>p_ (pq (fs:=c) b1 O _ p a4);clear b3 c2 b1;obtain⟨g7,g8,rfl⟩:=(a.1.r.v.m v_).a;have b8:=a.1.r.D;have l:=a.1.t.t;have x:=a.1.t.D;go_upto_region 15 with fail;refine Af (λm=>ZV m _=T _/\ZV m _=T _/\ZV m _=T _) 10 k_ ⟨b8,l,x⟩ (λhHeld=>?_);refine G_ ?_;refine on_ 6 λKK hK=>?_;go_simp;refine hK _ _ ⟨X_ b8,X_ l,X_ x⟩ (λhHeld=>?_);clear hK KK;try simp only[Act.put,tA_,tB_,tC_]
 refine on_ 7 λKK hK=>?_;have a7:E_ f0 (YY (ZN f0 (YU #[ZH t (F c) z,.iface b7 (P_ b6)] 163))):=r_.drew;obtain⟨m,L⟩:_/\_:=⟨a.1.q a7,a.2.q a7⟩;refine aq_ [ZH t (F c) z,.iface b7 (P_ b6)] m.r.v.M ?_;rintro h7 i1 ⟨e9,b9,d2,_,h5,h4,rfl⟩;have f4:=Y (m.r.P (b:=⟨c.map _,Ix W h u,u⟩) b9 e9 (d2.imp id And.left) (by rw[Zgi b0];exact m.fs) m.y L);have c4:=(Aa.refl _ _).grown b9 (λb4 a3 _=>a3);have a3:=c4.g m.r.r ((et.D m.r.v.M).at m.r.r C);have f5:=n_ 1 a3;have g9:=R_ 1 _ _ a3;have b4:BbX _ _ _ _:=⟨c4.g m.t.r m.x⟩;refine hK _ _ ⟨f5,b4.t,b4.D⟩ (λhHeld=>?_);clear hK KK e9 b9 d2 m L a7 a b8 l x c4 a3 b4;refine G_ ?_;refine le_ ?_;go_wp2;go_roundw;case rel=>exact⟨g+1,_,_,_,_,_,g_,d6,t_,y,f3,f4⟩
 case measure=>exact z_
def Ip(a:U XS)(x:XS):ZG:=ZE (F a=0)||ZE (Na (Z a (F a-1) Dm) x<0)
def sp(n:H){b0 a9 b1:ZY}{a1:U (ZY×ZY)}{a0:U BS}(b:U XS)(x:XS)(c:ZT)(e:DsX c n b0 a9 b1 a1 a0 b)(b8:F b<=1000000):C_ 234 #[P_ n,Y9 #[I (x.M:H),I (x.f:H),I (x.i:H)]] c (U_ (ZR (Ip b x)) c):=by
 have⟨c3,b2,a7⟩:=e.j.d;subst a7;have a3:=n_ 2 e.r;have W:=Y e.j;have P:K (∀(h:XS) (d:ZT),C_ 148 #[Y9 #[I (h.M:H),I (h.f:H),I (h.i:H)],Y9 #[I (x.M:H),I (x.f:H),I (x.i:H)]] d (U_ (ZX ZQ (Na h x)) d)):=λh d=>(Hz h x d).m (λ_ _ e=>⟨e.1,e.2.q⟩);have b6:K (Ip b x=(ZE (F b=0)||ZE (Na (Z b (F b-1) Dm) x<0))):=rfl;generalize Ip b x=t at *;have⟨l,g⟩:=W_ (ZN c (O_ #[I (x.M:H),I (x.f:H),I (x.i:H)] 184));have o:H_ l (B c.1) #[I (x.M:H),I (x.f:H),I (x.i:H)] 184:=g ▸ (ha_ c _);have i:K (E_ c l):=(by show Below _ _ _;rw[g];exact r_);have A:=n_ 0 o;have D:=n_ 1 o;have G:=n_ 2 o;have u:=T_ i a3;have R:=P.out;generalize a5:F b=p at *
 by_cases a4:p=0
 ·subst a4;have m:K (t=Z0):=w_;generalize x.M=s at *;generalize x.f=r at *;generalize x.i=q at *;refine q_ ?_;go_upto_region 1 with fail;rw[<- g];clear g;go_upto_region 2 with fail;generalize a:(-1:E)=f;have j:ZE (f<0)=Z0:=(by rw[<- a];rfl);go_quiet (fail);go_wp2;go_ret;exact⟨by rw[m];rfl,below_drewN i _⟩
 obtain⟨a,rfl⟩:∃a,p=a+1:=⟨p-1,O⟩;have b9:(((a+1:H):E)-1)=(a:E):=O;have b7:(a:E)<((a+1:H):E):=O;have⟨j,a6,c1,b3,b4,b5⟩:=W.b a5 (k:=a) O;have⟨v,w,y⟩:=k3_ i b3 b4 b5;subst a6;have m:K (t=ZE (Na (Z b a Dm) x<0)):=w_;have S:=R (Z b a Dm);generalize Na (Z b a Dm) x=a2 at *;generalize (Z b a Dm).M=N at *;generalize (Z b a Dm).f=M at *;generalize (Z b a Dm).i=L at *;generalize x.M=s at *;generalize x.f=r at *;generalize x.i=q at *;have Q:K (∀d:ZT,E_ l d->C_ 148 #[Y9 #[I (N:H),I (M:H),I (L:H)],Y9 #[I (s:H),I (r:H),I (q:H)]] d (U_ (ZX ZQ a2) l)):=λd z=>(S d).m (λ_ _ e=>⟨e.1,z.T (e.2.m z.size)⟩);generalize c0:a+1=a8 at *;refine q_ ?_
 go_upto_region 1 with fail;rw[<- g];clear g;go_upto_region 2 with fail;go_region_held3 (λf=>D_ f n 2 (L_ j a8 b2)/\D_ f j (a*3) (I (N:H))/\D_ f j (a*3+1) (I (M:H))/\D_ f j (a*3+2) (I (L:H))/\D_ f (B c.1) 0 (I (s:H))/\D_ f (B c.1) 1 (I (r:H))/\D_ f (B c.1) 2 (I (q:H))) (first|exact⟨u,v,w,y,A,D,G⟩|exact⟨T_ aA u,T_ aA v,T_ aA w,T_ aA y,T_ aA A,T_ aA D,T_ aA G⟩) (first|(go_at_call 148;apply (Q _ y_.drew).m;rintro f c2 ⟨rfl,aA⟩))
 have f:=Y (i.T (aA.m i.size));go_wp2;go_ret;exact⟨by rw[m];rfl,f⟩
def ZhL(a:Ft)(x:XS):ZG:=
 Wx (Z a.g x.f Aj).e (Z a.g x.f Aj).d (x.i:H)&&(ZE (0<Z (Xg (Z a.f (De a x.f) Df).N (Z a.f (De a x.f) Df).g) x.M 0)&&ZE (Z (Xg (Z a.f (De a x.f) Df).N (Z a.f (De a x.f) Df).g) x.M 0<Lv a (De a x.f) (Iy a x.f)))
def Fi(a:Ft)(b:H)(x:XS):ZG:=ZE (x.M<b)&&(ZE (x.f<F a.g)&&ZhL a x)
def ZpY{m:ZT}{q:ZY}{c:U H}{d:H}(s:F c<=200)(u:d<64)(w:Id m 0 q c d):∃i h g,q=.iface i (P_ g)/\(i=382/\h=323∨i=380/\h=371)/\(∀a:ZT,(method 535 i (P_ g) "At").run Y8 a=.ok (h,P_ g) a)/\∀a:ZT,E_ m a->∀b,b<F c->Calls Y8 h #[P_ g,I (b:H)] a (U_ (ZX ZQ (Z (Xg c d) b 0:H)) a):=by
 rcases w with⟨j,x,rfl,z,G,rfl,t,f⟩|⟨j,x,rfl,n,y,rfl,t,f⟩
 have k:∀a,_->ku a 0 _ _ _ _ _:=λa e=>⟨(e.block _ (Qb f.r).1).T f.r,(Aa.a (S:=λ_=>False) e).M f.M (λ_ _=>id)⟩;unfold Xg;rw[aD j];exact⟨380,371,z,X,ZJ ⟨X,X⟩,λa=>k_,λa e b l=>Ri b c a (k a e) l O⟩;have p:=Gj u;have k:∀a,E_ m a->_:=λa e=>f.q e;have A:=Nat.mul_le_mul s p;unfold Xg;rw[aC j];refine⟨382,323,n,X,ZM ⟨X,X⟩,λa=>k_,λa e b l=>?_⟩;have v:b*Lib.bitLen d+Lib.bitLen d<=F c*Lib.bitLen d:=(by rw[<- succ_mul];exact aK _ l);have o:=Oe n y _ _ _ b a (k a e) (λr=>Jf _ _ r) p v O O;rw[Ni (Z c b 0) (b*Lib.bitLen d) (Lib.bitLen d) (λD r=>Mz c r)] at o
 have r:Z (c.map (· %2^Lib.bitLen d)) b 0=Z c b 0%2^Lib.bitLen d:=w_;rw[r];exact o
def sk(s e:H){e6 e5 e7:ZY}{d9 c3:U (ZY×ZY)}(a1:U XS)(a:Ft)(x:XS)(f:ZT)(k:Ph f s e6 e5 e7 d9 c3 a1 a)(d1:0<F a.f)(d2:F a.f<=1000)(d4:e<=200)(M:∀y∈a.f,F y.N=e)(a7:∀y∈a.f,y.g<64)(p:∀K∈a.g,K.e.b<=16)(d3:0<F a.g)(a9:∀t,t<F a.g->Wh a t (De a t) (Iy a t)):Calls Y8 235 #[P_ s,Y9 #[I (x.M:H),I (x.f:H),I (x.i:H)]] f (U_ (ZR (Fi a e x)) f):=by
 obtain⟨e2,e8,_,_,_,_,rfl,_⟩:=k.w.at (i:=0) d3;have h:=Y (λd (l:E_ f d)=>(⟨k.v.q l,k.w.p (S:=λ_=>False) (Aa.a l) (λ_ _ _ _ _=>id),k.n,k.l⟩:Ph d s _ _ _ _ _ a1 a));obtain⟨g,b,r⟩:=x;have⟨b5,v⟩:=W_ (ZN f (O_ #[I (g:H),I (b:H),I (r:H)] 184));have c:E_ f _:=v ▸ r_;have o:H_ _ _ _ _:=v ▸ (ha_ f _);have b3:=n_ 0 o;have b4:=n_ 1 o;have e3:=n_ 2 o;have f5:=(Qb o).1;have a2:=n_ 0 (h _ c).v.r;have f2:=aJ _ _ a2;have b8:Hid (F (Z a.f 0 Df).N=e):=M _ w_;have m:=x3_ M a7 p;have W:=Y a9;clear k M a7 p a9 o;refine q_ ?_;go_upto_region 1 with fail;rw[<- v];clear v;refine rg_ _ 28 λhHeld=>?_;refine G_ ?_;refine oc_ 3 (Nd s _ _ (h _ c.drew).v d1) ?_;rintro D g1 ⟨rfl,j⟩;rw[b8]
 replace j:=bt_ y_.drew j;refine⟨_,X,j,λhHeld=>?_⟩
 by_cases N:g<e
 case neg=>
  have d0:(e:E)<=g:=O;refine G_ ?_;refine le_ ?_;go_wp2;go_ret;exact⟨by simp[Fi,N],bt_ c j⟩
 have d0:¬(e:E)<=g:=O
 by_cases q:b<F a.g
 case neg=>
  have a3:(F a.g:E)<=b:=O;refine G_ ?_;refine le_ ?_;go_wp2;go_ret;exact⟨by simp[Fi,q],bt_ c j⟩
 have a3:¬(F a.g:E)<=b:=O;have f1:=aE a3;have⟨d8,f6,c0,c4,c1,c5,d6,f3,c6,c7,c8,c9,_,_⟩:=(h b5 c).w.at q;obtain rfl:e2=d8:=w_;have w:=W _ q;have⟨a4,a6⟩:=(h f y_).v.v.j _ w.h;have u:Z a.f (De a b) Df∈a.f:=(by rw[Qc,Qd w.h];grind);have⟨Q,f0,A,b0,d5,f4,a5⟩:=ZpY ((m.1 _ u) ▸ d4) (m.2.1 _ u) a6;have⟨G,L,b1⟩:=a4.d;have a0:=Y (λd l=>Zcy _ _ _ _ _ _ _ _ _ _ a d (h d l) w d2);rw[b1,b0] at a0;have b7:=Y (λd l=>a5 d l _ ((m.1 _ u) ▸ N));have p:=m.2.2 (Z a.g _ Aj) (by rw[Qc,Qd q];grind);have b9:=Y (λd=>Wb c0 c1 c4 c5 (Z a.g b Aj).d r d X X (aG p C))
 have l:Hid (Fi a e ⟨g,b,r⟩=ZhL a ⟨g,b,r⟩):=(by show _=_;simp[Fi,N,q]);unfold ZhL at l;clear w a4 a6 u b0 a5 b1 h W m p d6;generalize Wx (Z a.g b Aj).e (Z a.g b Aj).d (r:H)=e0 at *;generalize (F (Z a.g b Aj).e.f)=f7,F (Z a.g b Aj).e.c=f9,(Z a.g b Aj).e.a=g5,(Z a.g b Aj).d=e9,Z (Xg (Z a.f (De a b) Df).N (Z a.f (De a b) Df).g) g 0=b6,Lv a (De a b) (Iy a b)=e1,F (An (Z a.f (De a b) Df).fs)=P,F a.g=f8 at *;refine G_ ?_;refine oc_ 26 (b9 _) ?_;rintro D g2 ⟨rfl,d⟩;replace d:=bt_ j d;refine⟨_,X,d,λhHeld=>G_ ?_⟩;refine le_ ?_
 cases e0
 ·go_wp2;go_ret;exact⟨by rw[l];rfl,bt_ c d⟩
 have g0:=X_ b4 d;go_wp2_with fail
 apply (a0 _ (bt_ c d)).m;rintro D R ⟨rfl,c2⟩;go_upto_region 4 with fail;have z:E_ b5 (ZN R (O_ #[V G P L,.iface Q (P_ A)] 163)):=bt_ (bt_ d c2) r_;have d7:=n_ 1 (ha_ R (O_ #[V G P L,.iface Q (P_ A)] 163));have e4:=X_ b3 z;generalize (ZN R) (O_ #[V G P L,.iface Q (P_ A)] 163)=g3 at *
 rcases d5 with⟨rfl,rfl⟩|⟨rfl,rfl⟩
 all_goals
  go_wp2_with fail
  apply (b7 _ (bt_ c z)).m;rintro D g4 ⟨rfl,n⟩;have n:=bt_ (bt_ c z) n;clear e4 d7 b3 b4 e3 c6 c7 c8 c9 a2
  by_cases b2:0<b6
  ·by_cases a8:b6<e1
   ·go_wp2;go_ret;exact⟨by rw[l];simp[b2,a8],n⟩
   go_wp2;go_ret;exact⟨by rw[l];simp[a8],n⟩
  go_wp2;go_ret;exact⟨by rw[l];simp[b2],n⟩
end Go.Proofs.YtfcgnpchbcmdeaaGreat
namespace Go.Proofs.YtfcgnpchbcmdeaaGreat
set_option linter.all false
set_option maxRecDepth 100000
set_option maxHeartbeats 16000000
open Go.RowKit Go.Lib Go.Sort List Nat Go.World Go.Proofs.Tryz Go.Value Go.IntKind Go.Lib Go.Region
def rdX(a:U E):XS:=⟨ZL (Z a 0 0),ZL (Z a 1 0),ZL (Z a 2 0)⟩
def Vr(b:Ft)(e:H)(d:U E):H->Y0 (U XS×U E)
 |0=>T ([],d)
 | f+1=>match Vr b e d f with
  |none=>ZP
  |some (c,a)=>if(Ip c (rdX a)&&Fi b e (rdX a))=Z0 then T (c++[rdX a],ZF 3 a) else ZP
def ZjY(a:Ft)(c:H)(b:U E){k m:H}(f:Vr a c b k=ZP)(g:k<=m):Vr a c b m=ZP:=by
 induction m with
 |zero=>grind
 | succ m d=>
  by_cases e:k=m+1
  ·grind
  simp only[Vr,d O]
def ZjX{b:Ft}{d:H}{f:U E}{e c a}(g:Vr b d f e=T (c,a)):Vr b d f (e+1)=if(Ip c (rdX a)&&Fi b d (rdX a))=Z0 then T (c++[rdX a],ZF 3 a) else ZP:=by simp only[Vr,g]
def Zpc{a:U E}(b:∀x∈a,0<=x/\x<=255):a.headD 0=((rdX a).M:E)/\a.tail.headD 0=((rdX a).f:E)/\a.tail.tail.headD 0=((rdX a).i:E)/\a.tail.tail.tail=ZF 3 a:=by rcases a with _|⟨x,_|⟨c,_|⟨d,a⟩⟩⟩<;>simp_all [rdX]<;>omega
def sn{a:U XS}{x:XS}(e:Em a)(c:Ip a x=Z0):Em (a++[x]):=by
 refine pairwise_append.2 ⟨e,s_,λm f b g=>?_⟩;simp only[mem_cons,not_mem_nil,or_false] at g;subst g;have l:=length_pos_of_mem f;unfold Ip at c;rw[aE O,Bool.false_or,decide_eq_true_eq] at c
 have j:(Z a (F a-1) Dm).M<b.M∨(Z a (F a-1) Dm).M=b.M/\(Z a (F a-1) Dm).f<b.f:=by
  have:ltOf Na (Z a (F a-1) Dm) b=Z0:=by unfold ltOf;simpa using c
  rw[(ltX (Z a (F a-1) Dm) b)] at this
  simpa using this
 obtain⟨h,i,rfl⟩:=aM f
 rcases Nat.lt_or_ge h (F a-1) with d|d
 ·have k:=pairwise_iff_getElem.1 e h (F a-1) i O d
  grind
 grind
structure ExS(d:H)(b wr:ZT)(e f:H)(l:U E)(n m g:ZY)(k j:U (ZY×ZY))(h:U KS)(i:U BS)(c:U XS):Prop where
 o:Vp d wr e n m g k j c ⟨h,i,c⟩
 u:Cn wr f l
 t:Aa (λa=>a=f∨a=e) b wr
 z:∀a,ZW g=T a->B b.1<=a
 p:d<=B b.1
section
variable {d:H} {w wr w2:ZT} {db b:H} {l e:U E} {c vB vX:ZY} {kvs bvs:U (ZY×ZY)} {Ks:U KS} {bs:U BS} {a:U XS}
def Vp.zero{e:H}{d:Ft}(b:Vp e wr db c vB vX kvs bvs a d):Ph wr db c vB vX kvs bvs a d:=⟨b.v.m v_,b.w.m v_,b.n,b.l⟩
def Vp.f{k:H->Prop}{e:H}{j:Ft}(b:Vp d wr db c vB vX kvs bvs a j)(g:Aa k wr w2)(f:et k wr e)(m:168≠e)(n:403≠e)(o:396≠e)(p:405≠e)(q:5≠e)(r:163≠e)(s:184≠e)(t:172≠e)(u:9≠e)(l:3≠e):Vp d w2 db c vB vX kvs bvs a j:=
 ⟨⟨g.g b.v.r (f.at b.v.r m),Pe.f b.v.v g f n o p q (f.M b.v.v.M r) (λi h=>f.M (b.v.v.j i h).1 l),g.M b.v.j (f.M b.v.j s)⟩,b.w.f g f t u (λi h=>f.M (b.w.j i h).1 l),b.n,b.l,b.o,b.x,b.p⟩
def ExS.i(f:ExS d w wr db b l c vB vX kvs bvs Ks bs a)(j:Cn w2 b e)(h:Aa (λg=>g=b) wr w2):ExS d w w2 db b e c vB vX kvs bvs Ks bs a:=by have⟨S,k,_⟩:=f.u.r;exact⟨f.o.f h (et.x k) C C C C C C C C C C,j,f.t.T (h.m (λg _ i=>ZM i)),f.z,f.p⟩
def ExS.q(e:ExS d w wr db b l c vB vX kvs bvs Ks bs a)(f:E_ wr w2):ExS d w w2 db b l c vB vX kvs bvs Ks bs a:=e.i (e.u.q f) (.a f)
def ExS.ab(f:ExS d w wr db b l c vB vX kvs bvs Ks bs a):C_ 165 #[P_ b] wr λg h=>g=ZI (ZX ZQ (l.headD 0))/\K (ExS d w h db b l.tail c vB vX kvs bvs Ks bs a):=(Eg b l wr f.u).m λ_ _ e=>⟨e.1,f.i e.2.1 e.2.2⟩
def ExS.G(e:ExS d w wr db b l c vB vX kvs bvs Ks bs a):ZV wr (J db 2)=T vX:=M_ 2 _ 168 (0,0) e.o.v.r
def ExS.P{h:ZT}{g:ZY}{x:XS}(e:ExS d w wr db b l c vB vX kvs bvs Ks bs a)(v:Ip a x=Z0)(n:Y3 wr h (ZW vX))(y:ZD h 0 184 3 g (F a+1) (Jw a++Cw x))(u:ZW g=ZW vX∨ZW g=T (B wr.1)):ExS d w (ZO h ⟨db,2,ZP⟩ g) db b l c vB g kvs bvs Ks bs (a++[x]):=by
 have k:=(Aa.refl _ wr).grown n (λf hk _=>hk);have i:=et.D e.o.v.j;have⟨t,j,z,A⟩:=e.u.r;have s:Aa (λf=>f=db) h (ZO h ⟨db,2,ZP⟩ g):=(Aa.refl (λf=>f=db) h).setCell (p:=J db 2) (λ_=>X) _;have p:=et.x (k.g e.o.v.r (i.at e.o.v.r C));have r:=e.o.w.f k i C C (λo m=>i.M (e.o.w.j o m).1 C)
 have q:∀f,ZW g=T f->B w.1<=f:=λf hk=>by
  rcases u with m|m
  rw[m] at hk;exact e.z f hk;rw[m] at hk;injection hk with hk;have:=e.t.size;omega
 refine⟨⟨e.o.v.P n (Nu.P y),r.f s p C C (λo m=>p.M (r.j o m).1 C),List.Perm.refl _,sn e.o.l v,e.o.o,e.o.x,λf hk=>aG e.p (q f hk)⟩,⟨t,s.g (k.g j (i.at j C)) (p.at (k.g j (i.at j C)) C),z,A⟩,(e.t.grown n (λf hk m=>absurd (e.z f hk) O)).setCell (p:=J db 2) (λ_=>ZJ X) _,q,e.p⟩
end
def ExE(i:H)(e f:ZT)(a d:H)(p o:ZY)(l k:U (ZY×ZY))(g:U KS)(j:U BS)(m:Y0 (U XS×U E))(b:Ending):Prop:=match m with
 |none=>b=ZI (ZR ZZ)/\Aa (λc=>c=d∨c=a) e f
 |some (h,n)=>b=ZI (ZR Z0)/\∃q,ExS i e f a d n p o q l k g j h
def Xa(s i p g:H)(n:U E)(M L:ZY)(G D:U (ZY×ZY))(e:U KS)(d:U BS)(h:ZT)(u:Cn h p n)(b2:Vp s h i M L (N_) G D [] ⟨e,d,[]⟩)(c7:s<=B h.1)(a8:0<F d)(b0:F d<=1000)(b5:g<=200)(a7:∀W∈d,F W.N=g)(b3:∀W∈d,W.g<64)(b1:∀K∈e,K.e.b<=16)(b4:0<F e)(b6:∀t,t<F e->Wh ⟨e,d,[]⟩ t (De ⟨e,d,[]⟩ t) (Iy ⟨e,d,[]⟩ t)):Calls Y8 168 #[P_ i,P_ p] h λj x=>ExE s h x i p M L G D e d (Vr ⟨e,d,[]⟩ g (ZF 2 n) (Lf n 2)) j:=by
 have d6:=zn u.a 2;have a:Hid (ExS s h h i p n M L (N_) G D e d []):=⟨b2,u,Aa.refl _ _,by simp[ZW],c7⟩;have a2:=qa p 2 n h u O;have a3:Hid (∀z m q f (b:XS),ExS s h z i p m M L q G D e d f->C_ 235 #[P_ i,Y9 #[I b.M,I b.f,I b.i]] z (U_ (ZR (Fi ⟨e,d,[]⟩ g b)) z)):=λz m q f b c5=>sk i g f ⟨e,d,f⟩ b z c5.o.zero a8 b0 b5 a7 b3 b1 b4 (λt c=>by have:=b6 t c;exact⟨this.h,this.i,this.g,this.j,this.A,this.n,this.q⟩);generalize (⟨e,d,[]⟩:Ft)=r at *;clear u b2 a8 b0 b5 a7 b3 b1 b4 b6;generalize Lf n 2=o,ZF 2 n=w at *;refine q_ ?_;go_wp2_with fail
 apply a2.m;rintro j w2 ⟨rfl,b7,b8⟩;replace a:=Y (a.i b7 b8);clear b7 b8 a2;go_wp2_with fail
 go_loopw [8] (λc k=>∃(l:H) (f:U XS) (m:U E) (q:ZY),c=ZX ZQ l/\l<=o/\F f<=l/\Hid (Vr r g w l=T (f,m))/\Hid (ExS s h k i p m M L q G D e d f)) (λc _=>o-ZL (ZA c))
 case atStart=>exact⟨0,[],w,_,X,v_,x_,X,a⟩
 clear a;obtain⟨l,f,m,q,rfl,d5,d7,K,a⟩:=hrel
 by_cases c6:l<o
 case neg=>
  obtain rfl:l=o:=O;go_wp2;go_ret;show ExE _ _ _ _ _ _ _ _ _ _ _ (Vr r g w l) _;rw[K];exact⟨X,q,a⟩
 have⟨y,Q,R⟩:=y3_ (Zpc a.u.a) (ZjX K) (λu=>ZjY r g w (k:=l+1) (m:=o) u c6);clear K;generalize rdX m=b,ZF 3 m=e0 at *;have k:=a.ab;rw[y.1] at k;go_wp2_with fail
 apply k.m;rintro j e2 ⟨rfl,a⟩;have k:=a.ab;rw[y.2.1] at k;go_wp2_with fail
 apply k.m;rintro j e3 ⟨rfl,a⟩;have k:=a.ab;rw[y.2.2.1,y.2.2.2] at k;go_wp2_with fail
 apply k.m;rintro j N ⟨rfl,a⟩;clear y k;go_upto_region 4 with fail;have c:=ha_ N (O_ #[I b.M,I b.f,I b.i] 184);have c2:Hid (ZW q≠T (B N.1)):=λj=>Nat.lt_irrefl _ (B_ a.o.v.j _ j).2;replace a:=Y (a.q (w2:=ZN N (O_ #[I b.M,I b.f,I b.i] 184)) r_);generalize (ZN N) (O_ #[I b.M,I b.f,I b.i] 184)=c0,B N.1=a4 at *;have a9:=(Qb c).1;have d0:=n_ 0 c;have d1:=n_ 1 c;have d2:=n_ 2 c;replace c:=Y c;go_wp2_with fail
 apply (sp i f b c0 (a.o.v.m v_) O).m;rintro j d3 ⟨rfl,P⟩;replace a:=Y (a.q P);have c9:=kb_ P
 cases v:Ip f b
 ·have x:=R (by rw[Q,v];rfl);go_wp2;go_ret;show ExE _ _ _ _ _ _ _ _ _ _ _ (Vr r g w o) _;rw[x];exact⟨X,a.t⟩
 go_wp2_with fail
 apply (a3 d3 _ _ f b a).m;rintro j c1 ⟨rfl,A⟩;replace a:=Y (a.q A);replace A:=bt_ P A
 cases a0:Fi r g b
 ·have x:=R (by rw[Q,v,a0];rfl);go_wp2;go_ret;show ExE _ _ _ _ _ _ _ _ _ _ _ (Vr r g w o) _;rw[x];exact⟨X,a.t⟩
 rw[v,a0] at Q;replace v:=Y v;replace c:=Y ((A.block a4 a9).T c);clear P c9 A d0 d1 d2 a0 R a3 a9;obtain⟨c3,c4,rfl⟩:=a.o.v.j.d;have a5:=a.G;go_upto_region 6 with fail;refine Af (λx=>ZV x _=T _/\ZV x _=T _/\ZV x _=T _/\ZV x _=T _) 10 k_ ⟨a5,n_ 0 c,n_ 1 c,n_ 2 c⟩ (λhHeld=>?_);refine G_ ?_;refine on_ 6 λKK hK=>?_;go_simp;refine hK _ _ ⟨X_ a5,X_ (n_ 0 c),X_ (n_ 1 c),X_ (n_ 2 c)⟩ (λhHeld=>?_);clear hK KK;try simp only[Act.put,tA_,tB_,tC_]
 refine on_ 7 λKK hK=>?_;replace a:=Y (a.q (w2:=YY (ZN c1 (O_ #[I b.M,I b.f,I b.i] 184))) r_.drew);replace c:=Y ((r_.drew.block (w':=YY (ZN c1 (O_ #[I b.M,I b.f,I b.i] 184))) _ (Qb c).1).T c);refine aq_ [I b.M,I b.f,I b.i] a.o.v.j ?_;rintro e1 c0 ⟨b9,x,a6,_,d9,d8,rfl⟩;have d4:=Y (a.P v x b9 (a6.imp id And.left));have a1:=((Aa.refl (λS=>ZW (ZH c3 (F f) c4)=T S) _).grown x (λS c8 _=>c8)).g a.o.v.r ((et.D a.o.v.j).at a.o.v.r C);have c8:=R_ 2 _ 168 a1;have S:=(x.block a4 (Qb c).1 c2.s).T c;refine hK _ _ ⟨(n_ 2 a1),n_ 0 S,n_ 1 S,n_ 2 S⟩ (λhHeld=>?_);clear hK KK b9 x a6 a c;refine G_ ?_;refine le_ ?_;go_wp2;go_roundw;case rel=>grind
 case measure=>exact z_
def Sm(b:U E):Prop:=∀a∈b,0<=a/\a<=255
section
variable {l:U E}
def Sm.tail(a:Sm l):Sm l.tail:=λc b=>a c (mem_of_mem_tail b)
theorem Sm.drop(a:Sm l)(c:H):Sm (ZF c l):=λd b=>a d (mem_of_mem_drop b)
theorem Sm.restW(b:Sm l):∀a,Sm (restW l a)
 |0=>b
 |a+1=>((Sm.restW b a).tail).drop _
theorem Sm.rdR(a:Sm l):Sm (rdR l):=by grind [Go.Proofs.YtfcgnpchbcmdeaaGreat.rdR,restW,drop]
def Sm.lstR(a:Sm l):Sm (lstR l):=a.tail.drop _
theorem Sm.rdColR(a:Sm l){c b:H}:Sm (rdColR l c b):=by unfold Go.Proofs.YtfcgnpchbcmdeaaGreat.rdColR;split;exact a.tail.tail.drop _;exact a.tail.drop _
theorem Sm.lstK(b:Sm l):∀a∈lstK l,0<=a:=λa c=>by obtain⟨d,_,rfl⟩:=mem_map.1 c;exact(Iu b.tail d).1
end
structure KOk(K:KS):Prop where
 w:Xl K
 g:K.e.b<=16
 b:ci K.e=Z0
 a:K.d<K.e.b+2
def qx{c:U ZC}(a:Di c=Z0):∀b∈c,ZK b<=8:=λb e=>by
 unfold Di Is at a;rw[all_eq_true] at a;obtain⟨f,d,rfl⟩:=aM e;have g:=a f (mem_range.2 d)
 grind [En]
theorem Zqg{a:U E}(g:Sm a)(b:(ci (Zl a)&&Oy (Zl a) (rdD a:H))=Z0):KOk ⟨Zl a,rdD a⟩:=by
 rw[Bool.and_eq_true] at b;have h:=b.1;have e:=b.2;have d:(Zl a).b<=16/\Di (Zl a).c=Z0:=(by grind [ci]);have j:=Iu g 2;refine⟨?_,d.1,h,?_⟩;unfold Xl;simp only;have c:=qx d.2;unfold Zl at c ⊢;split;rename_i f;rw[aD f] at c;exact ZJ ⟨X,X,by rw[ek];omega,c⟩;refine ZM ⟨X,X,by rw[cr];omega,λk f=>?_⟩;obtain⟨i,_,rfl⟩:=mem_map.1 f;have:=Zai (ZF (4*i) (ZF 3 a));omega;unfold Oy at e
 grind
def zd{g:U E}(k:Sm g):∀(c:H) (b:U KS) (d:U E),Xh g c=T (b,d)->F b=c/\(∀K∈b,KOk K)/\Sm d
 |0,b,d,a=>by grind [Xh]
 | c + 1,b,d,a=>by
  cases f:Xh g c with
  |none=>simp only[Xh,f] at a;cases a
  | some m=>
   obtain⟨h,e⟩:=m;have⟨i,n,j⟩:=zd k c h e f;simp only[Xh,f] at a
   by_cases l:(ci (Zl e)&&Oy (Zl e) (rdD e:H))=Z0
   ·rw[aD l] at a;simp only[Option.some.injEq,Prod.mk.injEq] at a;rw[<- a.1,<- a.2];refine⟨by simp[i],λK hK=>?_,j.rdR⟩
    grind [Zqg]
   grind
def ms{a:U E}{b c:H}{d:E}(e:b<F a):Z (a.set b d) c 0=if b=c then d else Z a c 0:=w_
def wh{a d:U E}(f:∀e∈a,0<=e/\e<F d)(c:H):∀b,b<=F a->Z (Jz a d b) c 0=Z d c 0+(((ZU b a).map ZL).count c:H)
 |0,_=>by simp[Jz]
 | b+1,k=>by
  have h:b<F a:=O;have i:Z a b 0∈a:=w_;have j:=f _ i;have l:=wh f c b O;have g:ZU (b+1) a=ZU b a++[Z a b 0]:=(by rw[Qi h];grind);simp only[Jz];rw[ms (by rw[du];omega),g,map_append,count_append]
  grind
def Qo{a:U KS}{b:U E}:Dc a b=Bk a (b.map ZL):=by unfold Dc Bk;rw[map_map];rfl
structure Zmd(b:U KS)(d:H)(a:BS):Prop where
 y:F a.N=d
 k:∀e∈a.N,e<=255
 h:a.g<=40
 o:0<F a.fs
 n:∀c∈a.fs,c<F b
 sum:a.g=Bk b a.fs
 j:Dx b (An a.fs) (Xg a.N a.g)=Z0
def kw{a:U KS}{f:H}{r:U E}(A:Sm r):∀(j:H) (d:U BS) (k o:U E),Zz a f r j=T (d,k,o)->F d=j/\F k=F a/\(∀p∈d,Zmd a f p)/\(∀g,Z k g 0=((d.flatMap (·.fs)).count g:H))/\Sm o
 |0,d,k,o,b=>by grind [Zz]
 | j + 1,d,k,o,b=>by
  cases q:Zz a f r j with
  |none=>simp only[Zz,q] at b;cases b
  | some M=>
   obtain⟨w,N,c⟩:=M;have⟨x,s,y,z,l⟩:=kw A j w N c q;simp only[Zz,q] at b
   by_cases n:(Vj a (lstK c)&&Dx a (lstK c) (Xg (Ix (lstR c) f (Dc a (lstK c))) (Dc a (lstK c))))=Z0
   ·rw[aD n] at b;simp only[Option.some.injEq,Prod.mk.injEq] at b;rw[<- b.1,<- b.2.1,<- b.2.2];rw[Bool.and_eq_true] at n;have i:=n.1;unfold Vj at i;simp only[Bool.and_eq_true,decide_eq_true_eq,all_eq_true] at i;have u:=l.lstK;have G:∀e∈_,_/\_:=λe h=>⟨u e h,i.1 e h⟩;have t:Dc a (lstK c)<64:=O;refine⟨by simp[x],by rw[du];exact s,λp D=>?_,λg=>?_,l.lstR.rdColR⟩
    ·rcases mem_append.1 D with m|m
     exact y p m;simp only[mem_cons,not_mem_nil,or_false] at m;subst m;refine⟨di l.lstR f t,λQ v=>?_,i.2.2,by simpa using i.2.1,λe h=>?_,Qo,by simp only;rw[Zgi u];exact n.2⟩;unfold Ix at v;obtain⟨P,L,rfl⟩:=mem_map.1 v;have:=(Uw l.lstR f t).2 P L;omega
     grind
    rw[wh (λe h=>s ▸ (G e h)) g _ x_,z g,flatMap_append,count_append,take_length];simp
   grind
def fh:∀(a:U BS),(∀b∈a,0<F b.fs)->F a<=F (a.flatMap (·.fs))/\∀b∈a,F b.fs<=F (a.flatMap (·.fs))
 |[],_=>s_
 | b::a,c=>by
  have⟨f,g⟩:=fh a (λe d=>c e (by simp[d]))
  grind
structure ZpP(a:U KS)(c:U BS):Prop where
 all:∀d,d<F a->∃b∈c,d∈b.fs
 l:F c<=F a
 r:∀b∈c,F b.fs<=F a
def Zcz{c:U KS}{a:U BS}{e:U E}(q:F e=F c)(l:∀d∈a,0<F d.fs)(p:∀d∈a,∀b∈d.fs,b<F c)(r:∀f,Z e f 0=((a.flatMap (·.fs)).count f:H))(g:Dn e=Z0):ZpP c a:=by
 unfold Dn at g;simp only[all_eq_true,decide_eq_true_eq] at g
 have o:∀b,b<F c->(a.flatMap (·.fs)).count b=1:=λb h=>by grind [Qf]
 have i:(a.flatMap (·.fs)).Perm (range (F c)):=w_;have m:=i.length_eq;rw[length_range] at m;have⟨n,j⟩:=fh a l;refine⟨λb h=>?_,O,λd k=>p_ (j d k)⟩;have:b∈a.flatMap (·.fs):=i.mem_iff.2 (mem_range.2 h)
 grind
structure ZpR(c:Ft)(d:H)(b:U XS):Prop where
 j:∀a∈b,Fi c d a=Z0
 y:∀a∈b.getLast?,F b<=a.M*4+a.f+1
def Ms{a:Ft}{b:H}{x:XS}(c:Fi a b x=Z0):x.M<b/\x.f<F a.g/\x.i<(Z a.g x.f Aj).e.b+2:=by grind [Fi,ZhL,Wx,Oy]
def ZjZ{D:Ft}{g:H}{n:U E}(t:F D.g<=4):∀(c:H) (d:U XS) (h:U E),Vr D g n c=T (d,h)->F d=c/\h=ZF (3*c) n/\ZpR D g d
 |0,d,h,b=>by simp only[Vr,Option.some.injEq,Prod.mk.injEq] at b;rw[<- b.1,<- b.2];exact⟨X,s_,s_,s_⟩
 | c + 1,d,h,b=>by
  cases m:Vr D g n c with
  |none=>simp only[Vr,m] at b;cases b
  | some u=>
   obtain⟨a,i⟩:=u;have⟨r,s,j⟩:=ZjZ t c a i m;simp only[Vr,m] at b
   by_cases k:(Ip a (rdX i)&&Fi D g (rdX i))=Z0
   ·rw[aD k] at b;simp only[Option.some.injEq,Prod.mk.injEq] at b;rw[<- b.1,<- b.2];rw[Bool.and_eq_true] at k;generalize rdX i=e at *;refine⟨by simp[r],by rw[s,drop_drop];congr 1,λp f=>?_,λp f=>?_⟩
    ·rcases mem_append.1 f with l|l
     exact j.j p l
     grind
    simp only[getLast?_append,getLast?_singleton,Option.some_or,Option.mem_def,Option.some.injEq] at f;subst f;rw[Qe,length_singleton]
    by_cases q:F a=0
    omega;have l:=k.1;unfold Ip at l;rw[aE q,Bool.false_or,decide_eq_true_eq] at l
    have x:(Z a (F a-1) Dm).M<e.M∨(Z a (F a-1) Dm).M=e.M/\(Z a (F a-1) Dm).f<e.f:=by
     have o:ltOf Na (Z a (F a-1) Dm) e=Z0:=by unfold ltOf;simpa using l
     rw[(ltX _ e)] at o
     simpa using o
    have o:a.getLast? =T (Z a (F a-1) Dm):=w_;have v:=j.y _ o;have w:=Ms (j.j _ (mem_of_getLast? o));omega
   grind
end Go.Proofs.YtfcgnpchbcmdeaaGreat
namespace Go.Proofs.YtfcgnpchbcmdeaaGreat
set_option linter.all false
set_option maxRecDepth 100000
set_option maxHeartbeats 16000000
open Go.RowKit List Nat Go.World Go.Proofs.Tryz Go.Value Go.IntKind Go.Lib Go.Region
def Ma(a:U E):Y0 (Ft×U E):=
 if 200<ZL (Z a 2 0)∨ZL (Z a 3 0)<1∨4<ZL (Z a 3 0) then ZP
 else match Xh (ZF 4 a) (ZL (Z a 3 0)) with
 |none=>ZP
 | some (b,d)=>match Zz b (ZL (Z a 2 0)) d.tail (ZL (d.headD 0)) with
  |none=>ZP
  | some (c,h,e)=>if Dn h=Z0 then match Vr ⟨b,c,[]⟩ (ZL (Z a 2 0)) (ZF 2 e) (Lf e 2) with
    |none=>ZP
    |some (f,g)=>T (⟨b,c,f⟩,g)
   else ZP
def Zdd(c d:ZT)(b g:H)(j:Y0 (Ft×U E))(f:Ending):Prop:=match j with
 |none=>f=ZI (ZR ZZ)/\Aa (λa=>a=g∨a=b) c d
 |some (e,_)=>f=ZI (ZR Z0)/\(∃l k m i h,Vp (B c.1) d b l k m i h e.r e)/\Aa (λa=>a=g∨a=b) c d
def Aa.f{h c w2:ZT}{f b:H}(d:Aa (λa=>a=b) h c)(e:Aa (λa=>a=b∨a=f) c w2):=(d.m (λ_ _ g=>ZM g)).T e
def Zdu{p:Prop}(h:p:=by
 have l:K (f=ZP):=w_;clear L;go_wp2;go_ret;show Zdd _ _ _ _ f _;rw[l.out]
 exact⟨X,s.out.m (λ_ _ h=>ZM h)⟩):p:=h
def Zha(m c:H)(b:U E)(e:ZT)(a6:Cn e c b)(c8:H_ e m #[N_,N_,N_] 168)(c9:m≠c):Calls Y8 99 #[P_ m,P_ c] e λh d=>Zdd e d m c (Ma b) h:=by
 have i:=a6.a;have d9:Hid (Sm b):=i;have e8:=Iu i 2;have e9:=Iu i 3;have c4:Hid (Calls Y8 164 #[P_ c,I 2] e λh d=>(∃a4,h=ZI (YW a4)/\Ab a4=ZU 2 b)/\Cn d c (ZF 2 b)/\Aa (λa=>a=c) e d):=ga c 2 b e a6;have a1:Hid (∀(t:ZT) (b:U E),Cn t c b->Calls Y8 165 #[P_ c] t λh d=>h=ZI (ZX ZQ (b.headD 0))/\Cn d c b.tail/\Aa (λa=>a=c) t d):=λt b e6=>Eg c b t e6;obtain⟨j,b2⟩:∃j:H,Z b 2 0=(j:E):=⟨ZL (Z b 2 0),O⟩;obtain⟨g,a7⟩:∃g:H,Z b 3 0=(g:E):=⟨ZL (Z b 3 0),O⟩;have G:Hid ((ZF 2 b).headD 0=(j:E)/\(ZF 2 b).tail=ZF 3 b/\(ZF 3 b).headD 0=(g:E)/\(ZF 3 b).tail=ZF 4 b):=⟨by rw[Fx];exact b2,Iq,by rw[Fx];exact a7,Iq⟩
 have L:Hid (Ma b=if 200<j∨g<1∨4<g then ZP else match Xh (ZF 4 b) g with
  |none=>ZP
  | some (d,r)=>match Zz d j r.tail (ZL (r.headD 0)) with
   |none=>ZP
   | some (n,D,p)=>if Dn D=Z0 then match Vr ⟨d,n,[]⟩ j (ZF 2 p) (Lf p 2) with
     |none=>ZP
     |some (u,x)=>T (⟨d,n,u⟩,x)
    else ZP):=by show _=_;unfold Ma;rw[b2,a7,Int.toNat_natCast,Int.toNat_natCast]
 have e0:Hid (∀t,Aa (λa=>a=c) e t->H_ t m #[N_,N_,N_] 168):=λt e7=>e7.g c8 c9;have f0:g<=255:=O;have f4:j<=255:=O;clear a6 c8 i e8 e9 b2 a7 c9;generalize Ma b=f at *;refine dl_ ?_;go_enter func99,ntmps99;go_wp2_with fail
 apply c4.out.m;rintro h d7 ⟨⟨a4,rfl,_⟩,d0,d3⟩;have c2:Hid (Aa (λa=>a=c) e d7):=d3;have v:=a1.out d7 _ d0;rw[G.out.1,G.out.2.1] at v;clear d0 d3 c4;go_wp2_with fail
 apply v.m;clear v;rintro h d8 ⟨rfl,d1,d4⟩;have c3:Hid (Aa (λa=>a=c) e d8):=c2.out.T d4;have v:=a1.out d8 _ d1;rw[G.out.2.2.1,G.out.2.2.2] at v;clear d1 d4 c2;go_wp2_with fail
 apply v.m;clear v;rintro h a0 ⟨rfl,d2,d5⟩;have s:Hid (Aa (λa=>a=c) e a0):=c3.out.T d5;have c1:Hid (Cn a0 c (ZF 4 b)):=d2;clear d2 d5 c3 G a1
 by_cases f1:200<j
 have e3:(200:E)<(j:E):=O;exact Zdu;have e3:¬(200:E)<(j:E):=O
 by_cases f2:g<1
 have e4:(g:E)<(1:E):=O;exact Zdu;have e4:¬(g:E)<(1:E):=O
 by_cases f3:4<g
 have e5:(4:E)<(g:E):=O;exact Zdu;have e5:¬(4:E)<(g:E):=O;have o:=dl m c g (ZF 4 b) a0 c1.out (e0.out a0 s.out) O;go_wp2_with fail
 apply o.m;clear o;intro h b7 o
 cases M:Xh (ZF 4 b) g with
 | none=>
  rw[M] at o;obtain⟨rfl,d⟩:=o;have l:Hid (f=ZP):=w_;have y:Hid (Aa (λa=>a=c∨a=m) e b7):=s.out.f d;clear L d M;go_wp2;go_ret;show Zdd _ _ _ _ f _;rw[l.out];exact⟨X,y.out⟩
 |some P=>
 obtain⟨d,r⟩:=P;rw[M] at o;obtain⟨rfl,Q,W,o⟩:=o;have⟨b0,b1,c7⟩:=zd (d9.out.drop 4) g d r M
 have a2 :Hid (f=match Zz d j r.tail (ZL (r.headD 0)) with
   |none=>ZP
   | some (n,D,p)=>if Dn D=Z0 then match Vr ⟨d,n,[]⟩ j (ZF 2 p) (Lf p 2) with
     |none=>ZP
     |some (u,x)=>T (⟨d,n,u⟩,x)
    else ZP):=w_
 have y:Hid (Aa (λa=>a=c∨a=m) e b7):=s.out.f o.t;have R:Hid ((∀K∈d,KOk K)/\Sm r/\F d=g):=⟨b1,c7,b0⟩;have k:=io (B e.1) m c j r Q W d b7 o.u o.r (o.w.m s.out.size) y.out.size O (λa l=>(b1 a l).g) O;have e2:Hid (∀a,ZW Q=T a->B e.1<=a):=λa a8=>aG s.out.size (o.z a a8);clear L M o b0 b1 c7 c1 s;go_wp2_with fail
 apply k.m;clear k;intro h b8 k
 cases A:Zz d j r.tail (ZL (r.headD 0)) with
 | none=>
  rw[A] at k;obtain⟨rfl,n⟩:=k;have l:Hid (f=ZP):=w_;have z:Hid (Aa (λa=>a=c∨a=m) e b8):=y.out.T n;clear a2 n A;go_wp2;go_ret;show Zdd _ _ _ _ f _;rw[l.out];exact⟨X,z.out⟩
 |some P=>
 obtain⟨n,D,p⟩:=P;rw[A] at k;obtain⟨rfl,b6,a5,k⟩:=k;have⟨c6,b5,w,b4,c5⟩:=kw R.out.2.1.tail _ n D p A;have z:Hid (Aa (λa=>a=c∨a=m) e b8):=y.out.T k.t
 cases b3:Dn D with
 | false=>
  have l:Hid (f=ZP):=w_;clear a2 A k b4 c6 b5 w c5 b3;go_wp2;go_ret;show Zdd _ _ _ _ f _;rw[l.out];exact⟨X,z.out⟩
 |true=>
 have N:=Zcz b5 (λl i=>(w l i).o) (λl i=>(w l i).n) b4 b3
 have c0 :Hid (f=match Vr ⟨d,n,[]⟩ j (ZF 2 p) (Lf p 2) with
     |none=>ZP
     |some (u,x)=>T (⟨d,n,u⟩,x)):=w_
 have b0:=R.out.2.2;have a9:0<F d:=O
 have q:=Xa (B e.1) m c j p Q b6 W a5 d n b8 k.u ⟨⟨k.r,k.v,rn_⟩,k.w,List.Perm.refl _,Pairwise.nil,e2.out,λa a8=>aG y.out.size (k.z a a8),by simp[ZW]⟩ z.out.size (by
   have⟨l,i,_⟩:=N.all 0 a9
   grind) (p_ N.l) O (λl i=>(w l i).y) (λl i=>p_ (w l i).h) (λu x=>(R.out.1 u x).g) a9
   (λx S=>Zgw (D:=⟨d,n,[]⟩) (N.all x S) (λl i=>p_ (N.r l i)) (λl i=>(w l i).n) (λu a3=>by
    have:=(R.out.1 (Z d u Aj) w_).g;show(Z d u Aj).e.b+2<=100
    omega))
 clear a2 A k b4 c6 b5 w c5 b3 N a9;go_wp2_with fail
 apply q.m;clear q;intro h b9 q
 cases S:Vr ⟨d,n,[]⟩ j (ZF 2 p) (Lf p 2) with
 | none=>
  rw[S] at q;obtain⟨rfl,u⟩:=q;have l:Hid (f=ZP):=w_;have a3:Hid (Aa (λa=>a=c∨a=m) e b9):=z.out.T u;clear c0 u S;go_wp2;go_ret;show Zdd _ _ _ _ f _;rw[l.out];exact⟨X,a3.out⟩
 | some P=>
  obtain⟨u,x⟩:=P;rw[S] at q;obtain⟨rfl,d6,q⟩:=q;have l:Hid (f=T (⟨d,n,u⟩,x)):=w_;have a3:Hid (Aa (λa=>a=c∨a=m) e b9):=z.out.T q.t;have e1:Hid (Vp (B e.1) b9 m Q b6 d6 W a5 u ⟨d,n,u⟩):=q.o;clear c0 q S;go_wp2;go_ret;show Zdd _ _ _ _ f _;rw[l.out];exact⟨X,⟨Q,b6,d6,W,a5,e1.out⟩,a3.out⟩
structure ZaG(a:Ft)(b:H):Prop where
 w:b<=200
 y:0<F a.g
 i:F a.g<=4
 g:∀K∈a.g,KOk K
 f:∀c∈a.f,Zmd a.g b c
 d:ZpP a.g a.f
 e:ZpR ⟨a.g,a.f,[]⟩ b a.r
def Zcm{a x:U E}{k:Ft}(d:Sm a)(b:Ma a=T (k,x)):ZaG k (ZL (Z a 2 0)):=by
 unfold Ma at b
 by_cases s:200<ZL (Z a 2 0)∨ZL (Z a 3 0)<1∨4<ZL (Z a 3 0)
 ·grind
 rw[aC s] at b
 cases n:Xh (ZF 4 a) (ZL (Z a 3 0)) with
 |none=>grind
 | some e=>
  obtain⟨c,i⟩:=e;simp only[n] at b;have⟨D,t,r⟩:=zd (d.drop 4) _ c i n
  cases l:Zz c (ZL (Z a 2 0)) i.tail (ZL (i.headD 0)) with
  |none=>grind
  | some e=>
   obtain⟨g,p,j⟩:=e;simp only[l] at b;have⟨A,v,h,u,z⟩:=kw r.tail _ g p j l
   cases o:Dn p with
   |false=>grind
   | true=>
    simp only[o,if_true] at b
    cases m:Vr ⟨c,g,[]⟩ (ZL (Z a 2 0)) (ZF 2 j) (Lf j 2) with
    |none=>grind
    | some e=>
     obtain⟨q,y⟩:=e;simp only[m,Option.some.injEq,Prod.mk.injEq] at b;have⟨_,_,w⟩:=ZjZ (D:=⟨c,g,[]⟩) (show F c<=4 by omega) _ q y m;rw[<- b.1];exact⟨O,w_,w_,t,h,(Zcz v (λf d=>(h f d).o) (λf d=>(h f d).n) u o),w⟩
def ZaG.k{a:Ft}{c:H}(b:ZaG a c):0<F a.f:=by
 have⟨d,e,_⟩:=b.d.all 0 b.y
 grind
def ZaG.u{b:Ft}{e:H}(a:ZaG b e):F b.r<=800:=by
 cases c:b.r.getLast? with
 |none=>grind
 | some d=>
  have f:=a.e.y d c;have g:=Ms (a.e.j d (mem_of_getLast? c));have h:=a.w;have i:=a.i
  grind
def ZaG.t{d:Ft}{l:H}(c:ZaG d l):∀a∈d.f,ZaF a:=λa f=>by
 have b:=c.f a f;have n:=b.h;have o:=c.d.r a f;have i:=c.w;have p:=c.i;have r:F a.N*Lib.bitLen a.g<=200*6:=Nat.mul_le_mul (b.y ▸ i) (Gj O);have t:=Mi a.N (F a.N);have s:=Dj (Cf a.N (Lib.bitLen a.g)) ((F a.N*Lib.bitLen a.g+7)/8) (F a.N*Lib.bitLen a.g);have q:=b.y;refine⟨O,λh j=>p_ (b.n h j),⟨O,λm k=>?_⟩,O,?_⟩
 ·have⟨e,g,_⟩:=(Rf _ _ m).1 k;refine⟨O,?_⟩;rw[g,Qc,Qd e];have:=b.k _ (Qf e)
  grind
 grind [Dq,Sr,Ia,Sj,Om]
def Zob{x a:ZC}(c:¬x=a):(x.toList==a.toList)=ZZ:=by
 rw[beq_eq_false_iff_ne,toList_data,toList_data];intro b;apply c
 cases x;cases a
 simp at b;rw[b]
def oe(b:U E):Y0 Ft:=match Ma b with
 |none=>ZP
 |some (a,_)=>if Br a a.r=b then T a else ZP
def Lp.q{base:H}{e w':ZT}{c:H}{b:Ft}(a:Lp base e c b)(d:E_ e w'):Lp base w' c b:=by obtain⟨j,i,k,h,g,f,a⟩:=a;exact⟨j,i,k,h,g,f,a.v.q d,a.w.q d,a.n,a.l,a.o,a.x,a.p⟩
def OpE(a c:ZT)(f:Y0 Ft)(d:Ending):Prop:=match f with
 |none=>d=ZI (Y5 #[Y7 ZP,ZR ZZ])/\E_ a c
 |some e=>∃b,d=ZI (Y5 #[Y7 (T ⟨b,0,ZP⟩),ZR Z0])/\Lp (B a.1) c b e/\B a.1<=b/\E_ a c
def ZkI{b:E}:∀a,Sm (Ba b a):=λa d c=>p_ (js b a d c)
def Qr(b:Ft)(c:U XS):Sm (Br b c):=λe d=>by
 unfold Br at d
 rcases mem_append.1 d with a|a
 have:=jx b c e a;omega;exact ZkI _ e a
def Ya{a:U E}(b:Sm a):Ab (ZB a)=a:=by
 unfold Ab ZB;simp only[map_map]
 conv=>rhs;rw[<- map_id a]
 refine map_congr_left λd c=>?_;have:=b d c;simp only[Function.comp,UInt8.toNat_ofNat',id];omega
def ZcJ{b:U E}{c:ZC}(d:Sm b):ZB b=c↔b=Ab c:=
 ⟨λa=>by rw[<- a,Ya d],λa=>by rw[a,Tv]⟩
def ZdQ(b:ZC)(c:ZT)(b2:ZK b<=140737488355328):C_ 59 #[Q_ b] c λv a=>OpE c a (oe (Ab b)) v:=by
 have⟨u,m⟩:=W_ (B c.1);have⟨j,n⟩:=W_ (ZN c (O_ #[N_,N_,N_] 168));have⟨q,A⟩:=W_ (ZN j (O_ #[Q_ b] 180));have⟨p,a1⟩:=W_ (B j.1);have y:E_ c j:=n ▸ r_;have W:H_ j u #[N_,N_,N_] 168:=(by rw[n,m];exact hn_);have R:E_ j q:=A ▸ r_;have a0:Cn q p (Ab b):=⟨b,by rw[A,a1];exact hn_,X,b2⟩;have b3:=(Qb W).1;have x:=y.T (R.m y.size);have i:=Zha u p (Ab b) q a0 ((R.block _ b3).T W) O;have N:K (∀t,Aa (λa=>a=p∨a=u) q t->E_ c t):=λt b6=>x.T (b6.b x.size (λg f=>p_ y.size));have h:=Y x.size
 have M:K (oe (Ab b)=match Ma (Ab b) with
  |none=>ZP
  |some (a,_)=>if Br a a.r=Ab b then T a else ZP):=rfl
 have a8:K (∀a o,Ma (Ab b)=T (a,o)->ZaG a (ZL (Z (Ab b) 2 0))):=λa o w=>Zcm a0.a w;generalize oe (Ab b)=P at *;generalize Ma (Ab b)=a9 at *;rw[m] at i;have b4:p=B c.1+1:=(by rw[a1,n];simp);refine q_ ?_;go_wp2_with fail
 rw[<- n,<- A,<- b4];apply i.m;intro v r i
 cases a9 with
 | none=>
  obtain⟨rfl,z⟩:=i;have⟨k,d⟩:=Y_ M.out (N r (m ▸ z));go_wp2;go_ret2
  rw[k];exact⟨X,d⟩
 | some b5=>
  obtain⟨a,o⟩:=b5;obtain⟨rfl,⟨a4,a3,a5,a2,Q,d⟩,z⟩:=i;have e:=a8 a o X;have D:=Y (N r (m ▸ z));have a6:K (Lp (B c.1) r (B c.1) a):=⟨a4,a3,a5,a2,Q,a.r,d.v.m h,d.w.m h,d.n,d.l,λg f=>aG h (d.o g f),λg f=>aG h (d.x g f),λg f=>aG h (d.p g f)⟩;have b1:=uc (B c.1) a4 a3 a5 a2 Q a.r a r d.zero e.k (λk l=>(e.g k l).w) e.i e.t (oj_ e.d.l e.i) (p_ e.u) (jx a a.r);have L:K (ZB (Br a a.r)=b↔Br a a.r=Ab b):=ZcJ (Qr a a.r);have k:=Y M.out;generalize ZB (Br a a.r)=b0 at *;go_wp2_with fail
  apply b1.m;rintro v b8 ⟨rfl,S⟩;have⟨G,a7⟩:=Y_ (D.T (S.m D.size)) (a6.q S)
  by_cases l:b0=b
  ·have s:K (P=T a):=(by show _=_;rw[k,aD (L.1 l)]);subst l;go_wp2;go_ret2
   rw[s];exact⟨_,X,a7,x_,G⟩
  have s:K (P=ZP):=(by show _=_;rw[k,aC (λw=>l (L.2 w))]);have b7:=Zob l;go_wp2;go_ret2
  rw[s];exact⟨X,G⟩
def OpG(a b:ZT)(g:Y0 Ft)(c:Ending):Prop:=match g with
 |none=>c=ZI (Y5 #[Y7 ZP,ZX ZQ 2])/\E_ a b
 |some e=>∃d f,c=ZI (Y5 #[Y7 (T ⟨d,0,ZP⟩),ZX ZQ 0])/\xq (B a.1) b d f e/\E_ a b
def uq(b:ZC)(e:ZT)(i:ZK b<=140737488355328):C_ 33 #[Q_ b] e λf a=>OpG e a (oe (Ab b)) f:=by
 have c:=ZdQ b e i;generalize oe (Ab b)=g at *;refine q_ ?_;go_wp2_with fail
 apply c.m;intro f l c
 cases g with
 | none=>
  obtain⟨rfl,d⟩:=c;go_wp2;go_ret2
  exact⟨X,d⟩
 | some m=>
  obtain⟨h,rfl,k,j,d⟩:=c;have a:=x3_ d k j;go_wp2;go_ret2
  exact⟨B l.1,h,X,⟨hn_,a.2.1.q r_,a.1.size,a.2.2⟩,a.1.alloc a.1.size _⟩
def Zp9(a:E):Ba a 4=[a%256,a/256%256,a/256/256%256,a/256/256/256%256]:=rfl
theorem ZnD{a:E}(c: -2147483648<=a)(d:a<=2147483647)(b:U E):pw (Ba a 4++b)=a:=by rw[Zp9];unfold pw;simp only[Lf,cons_append,nil_append,getD_cons_zero,getD_cons_succ,Nat.mul_zero,Nat.pow_zero,Nat.mul_one,reduceMul,reducePow,Nat.zero_add];simp[wrap,IntKind.bits,signed];omega
def Zq0{n:H}(b:n<65536)(a:U E):Lf (Ba (n:H) 2++a) 2=n/\ZF 2 (Ba (n:H) 2++a)=a:=by
 refine⟨?_,X⟩;show Lf ([(n:E)%256,(n:E)/256%256]++a) 2=n
 grind [Lf]
theorem tw(a:E)(b c:U E):Lr (a::b)++c=Ba a 4++(Lr b++c):=by unfold Lr;grind
theorem xf(a:ZC)(c:U ZC)(b:U E):Lw (a::c)++b=((ZK a:H):E)%256::Ab a++(Lw c++b):=by unfold Lw;grind
theorem ak{d:U E}:∀(b:U E) (a:H),a<=F b->ZF (4*a) (Lr b++d)=Lr (ZF a b)++d
 |_,0,_=>X
 |[],a+1,c=>by simp at c
 |e::b,a+1,c=>by rw[tw,show 4*(a+1)=4+4*a by omega,<- drop_drop,drop_left' (Dr e 4),drop_succ_cons];exact ak b a (by simpa using c)
theorem ZhP{a:U E}(d:∀b∈a,-2147483648<=b/\b<=2147483647)(c:U E):Tn (Lr a++c) (F a)=a:=by
 unfold Tn;apply ext_getElem;simp
 grind [ak,drop_eq_getElem_cons,tw,Qf,ZnD]
theorem vj{a:ZC}(d:ZK a<256){b:U E}:vi (((ZK a:H):E)%256::Ab a++b)=b/\gm (((ZK a:H):E)%256::Ab a++b)=a:=by
 have c:ZL ((((ZK a:H):E)%256::Ab a++b).headD 0)=ZK a:=w_
 grind [vi,Ci,gm,Tv]
theorem dm{e:U E}:∀(b:H) (a:U ZC),(∀c∈a,ZK c<256)->b<=F a->restW (Lw a++e) b=Lw (ZF b a)++e
 |0,_,_,_=>X
 |b+1,a,c,f=>by have d:b<F a:=O;simp only[restW];rw[dm b a c O,aN d];rw[xf];exact(vj (c _ (Qf d))).1
theorem ZiM{a:U ZC}(d:∀c∈a,ZK c<256)(b:U E):We (Lw a++b) (F a)=a:=by
 unfold We;apply ext_getElem;simp
 grind [dm,drop_eq_getElem_cons,xf,vj]
structure KRt(K:KS):Prop where
 ok:KOk K
 num:∀a∈K.e.f,-2147483648<=a/\a<=2147483647
def Zqf{K:KS}(f:KRt K)(b:U E):Zl (Ll K++b)=K.e/\rdD (Ll K++b)=K.d/\rdR (Ll K++b)=b:=by
 have k:=f.ok.a;have j:=f.ok.g;obtain⟨n,c⟩:=K;obtain⟨t,d,a⟩:=n;have l:=f.ok.w;have q:=f.num;unfold Xl at l;simp only at l k j q
 rcases l with⟨h,i,o,_⟩|⟨h,i,o,s⟩
 ·subst h i;have e:(⟨ZZ,d,[]⟩:ES).b=F d:=rfl;rw[e] at j k;have g:Ll ⟨⟨ZZ,d,[]⟩,c⟩++b=110::((c:H):E)%256::((F d:H):E)%256::(Lr d++b):=(by unfold Ll knB;simp[e]);rw[g];have m:ZL ((((F d:H):E)%256))=F d:=O;refine⟨?_,?_,?_⟩
  ·grind [Zl,ZhP]
  show ZL ((((c:H):E)%256))=c;omega
  grind [rdR,Lr,ak]
 subst h i;have e:(⟨Z0,[],a⟩:ES).b=F a:=rfl;rw[e] at j k;have g:Ll ⟨⟨Z0,[],a⟩,c⟩++b=119::((c:H):E)%256::((F a:H):E)%256::(Lw a++b):=(by unfold Ll ng;simp[e]);rw[g];have m:ZL ((((F a:H):E)%256))=F a:=O;have p:∀r∈a,ZK r<256:=w_;refine⟨?_,?_,?_⟩
 ·grind [Zl,ZiM]
 show ZL ((((c:H):E)%256))=c;omega;unfold rdR;rw[aD s_];show restW (Lw a++b) (ZL ((((F a:H):E)%256)))=b;rw[m,dm _ a p x_,drop_length];rfl
def zc{b:U KS}(e:∀K∈b,KRt K)(c:U E):∀a,a<=F b->Xh (b.flatMap Ll++c) a=T (ZU a b,(ZF a b).flatMap Ll++c)
 |0,_=>by simp[Xh]
 | a +1,j=>by
  have d:a<F b:=O;have hK:=e _ (Qf d);simp only[Xh];rw[zc e c a O];have f:(ZF a b).flatMap Ll++c=Ll b[a]++((ZF (a+1) b).flatMap Ll++c):=(by rw[aN d,flatMap_cons,append_assoc]);simp only;rw[f];have⟨g,h,i⟩:=Zqf hK ((ZF (a+1) b).flatMap Ll++c)
  rw[g,h,i,aD (by
   rw[hK.ok.b,Bool.true_and];unfold Oy;rw[decide_eq_true_eq];have:=hK.ok.a
   omega),Qi d]
theorem bh{a c:U E}{b:H}(d:b<F a):Z (a++c) b 0=Z a b 0:=w_
theorem Zea(a b:U E)(c:H):Z (a++b) (F a+c) 0=Z b c 0:=w_
def ZeY(b:U (H×H)):∀(c:H) (d:U E) (a:H),a<c->Z (Sd b c++d) (2*a) 0=((((Z b a (0,0)).1:H):E)-Bh b a)%256/\Z (Sd b c++d) (2*a+1) 0=(((Z b a (0,0)).2:H):E)%256
 |0,_,_,f=>O
 | c+1,d,a,f=>by
  simp only[Sd];rw[append_assoc]
  rcases Nat.lt_or_ge a c with e|e
  exact ZeY b c _ a e
  grind [Om,Zea]
def Zlx{N:U H}{n k:H}(a:k<F (Bu N n)):(Z (Bu N n) k (0,0)).1<n/\(Z (Bu N n) k (0,0)).2=Z N (Z (Bu N n) k (0,0)).1 0:=by grind [Qf,Rf]
def Zaj{N:U H}{n j k:H}(a:j<k)(b:k<F (Bu N n)):(Z (Bu N n) j (0,0)).1<(Z (Bu N n) k (0,0)).1:=by grind [pairwise_iff_getElem,Zo]
def ZcD{a:U H}{c b:H}(f:b<c)(e:Z a b 0≠0):∃d,d<F (Bu a c)/\(Z (Bu a c) d (0,0)).1=b:=by have h:(b,Z a b 0)∈Bu a c:=(Rf a c _).2 ⟨f,X,e⟩;have⟨d,g,i⟩:=aM h;exact⟨d,g,w_⟩
def ZaL(a:U (H×H))(b:H): -1<=Bh a b:=by unfold Bh;split<;>omega
def ZaN{N:U H}{n k:H}(a:k<F (Bu N n)):Bh (Bu N n) k<((Z (Bu N n) k (0,0)).1:H):=by unfold Bh;split;omega;have:=Zaj (N:=N) (n:=n) (j:=k-1) (k:=k) O a;omega
def Zak{a:U H}{b:H}(r:b<=200)(o:F a=b)(q:∀x∈a,x<=255)(f:U E):∀c,c<=F (Bu a b)->(Pz (Y6 b 0) (Sd (Bu a b) (F (Bu a b))++f) c).1=Bh (Bu a b) c/\∀d,d<b->Z (Pz (Y6 b 0) (Sd (Bu a b) (F (Bu a b))++f) c).2 d 0=if(d:E)<=Bh (Bu a b) c then((Z a d 0:H):E) else 0
 |0,_=>by grind [Bh,Pz]
 | c + 1,A=>by
  have⟨s,D⟩:=Zak r o q f c O;have⟨k,l⟩:=ZeY (Bu a b) (F (Bu a b)) f c O;have⟨G,t⟩:=Zlx (N:=a) (n:=b) (k:=c) O;have y:=ZaN (N:=a) (n:=b) (k:=c) O;have w:=ZaL (Bu a b) c
  have n:Bh (Bu a b) (c+1)=(((Z (Bu a b) c (0,0)).1:H):E):=by
   unfold Bh
   grind
  have z:∀d,d<b->Bh (Bu a b) c<(d:E)->d<(Z (Bu a b) c (0,0)).1->Z a d 0=0:=λd i h v=>by
   by_cases j:Z a d 0=0
   exact j;exfalso;have⟨g,p,u⟩:=ZcD i j
   rcases Nat.lt_or_ge g c with m|m
   ·unfold Bh at h;rw[aC O] at h
    rcases Nat.lt_or_ge g (c-1) with e|e
    have:=Zaj (N:=a) (n:=b) e O;omega
    grind
   rcases Nat.lt_or_ge c g with e|e
   have:=Zaj (N:=a) (n:=b) e p;omega
   grind
  have g:Z a (Z (Bu a b) c (0,0)).1 0<=255:=(by grind [Qf]);have e:Bh (Bu a b) c+(((Z (Bu a b) c (0,0)).1:H)-Bh (Bu a b) c)%256=(((Z (Bu a b) c (0,0)).1:H):E):=O;simp only[Pz];rw[s,k,l,n,e,t];generalize (Z (Bu a b) c (0,0)).1=j at *;refine⟨X,λd i=>?_⟩;rw[aD ⟨O,w_⟩,ms (by rw[Uy,length_replicate];omega),Int.toNat_natCast]
  grind
def Te{a b:U E}(e:F a=F b)(d:∀c,c<F a->Z a c 0=Z b c 0):a=b:=by grind [ext_getElem]
theorem Ga(a:U H):(An a).map ZL=a:=by
 unfold An;rw[map_map]
 conv=>rhs;rw[<- map_id a]
 exact map_congr_left λb _=>X
theorem dj{b:U H}{a:H}(o:a<=200)(j:F b=a)(n:∀x∈b,x<=255)(h:H)(c:U E):Hl (Sj (Bu b a)++c) a h=An b/\rdColR (Sj (Bu b a)++c) a h=c:=by
 have r:=Mi b a;have g:Sj (Bu b a)++c=115::((F (Bu b a):H):E)%256::(Sd (Bu b a) (F (Bu b a))++c):=(by unfold Sj;simp);have l:ZL ((((F (Bu b a):H):E)%256))=F (Bu b a):=O;rw[g];constructor
 ·unfold Hl;rw[aD (by rfl)];show(Pz (Y6 a 0) (Sd (Bu b a) (F (Bu b a))++c) (ZL (((F (Bu b a):H):E)%256))).2=_;rw[l];have⟨_,m⟩:=Zak o j n c (F (Bu b a)) x_;refine Te (by rw[Uy,length_replicate,Ak,j]) (λf e=>?_);rw[Uy,length_replicate] at e;rw[m f e,Bq]
  by_cases d:(f:E)<=Bh (Bu b a) (F (Bu b a))
  rw[aD d];rw[aC d]
  by_cases k:Z b f 0=0
  rw[k];rfl;exfalso;have⟨p,q,g⟩:=ZcD e k;unfold Bh at d;rw[aC O] at d
  rcases Nat.lt_or_ge p (F (Bu b a)-1) with i|i
  have:=Zaj (N:=b) (n:=a) i O;omega
  grind
 grind [rdColR,Om]
def Zli{c:U H}{b a:H}(j:F c=b)(n:∀x∈c,x<=a)(l:a<64)(e:U E):Hl (100::Bg (Cf c (Lib.bitLen a)) ((b*Lib.bitLen a+7)/8) (b*Lib.bitLen a)++e) b a=An c/\rdColR (100::Bg (Cf c (Lib.bitLen a)) ((b*Lib.bitLen a+7)/8) (b*Lib.bitLen a)++e) b a=e:=by
 have o:=Ml l;constructor
 ·unfold Hl;rw[aC s_];show dnN (Bg (Cf c (Lib.bitLen a)) ((b*Lib.bitLen a+7)/8) (b*Lib.bitLen a)++e) b (Lib.bitLen a)=_;generalize Lib.bitLen a=d at *
  have k:∀f,f<b*d->Vf (Bg (Cf c d) ((b*d+7)/8) (b*d)++e) f=Cf c d f:=λf q=>by grind [Vf,bh,Dj,Kj,Ug,Jf]
  unfold dnN;refine Te (by simp[Ak,j]) (λg h=>?_)
  have i:g<b:=by simpa using h
  rw[Bq,Qc,Qd h,Option.getD_some,getElem_map,getElem_range];have p:g*d+d<=b*d:=(by rw[<- succ_mul];exact aK _ i);rw[Ni _ _ d (λr m=>by rw[k _ O];exact Mz c m)];have m:Z c g 0<=a:=(by grind [Qf]);rw[mod_eq_of_lt O]
 unfold rdColR;rw[aC s_];exact drop_left' (Dj _ _ _)
def Zpe{b:U H}{d a:H}(j:d<=200)(g:F b=d)(h:∀x∈b,x<=a)(i:a<64)(c:U E):Ix (Ia b a++c) d a=b/\rdColR (Ia b a++c) d a=c:=by
 unfold Ix Ia;rw[g];split
 ·have⟨e,f⟩:=dj j g (λx k=>p_ (h x k)) a c;rw[e,f,Ga]
  grind
 have⟨e,f⟩:=Zli g h i c;rw[e,f,Ga]
 grind
def Zdn{a:U H}{b:H}(d:∀x∈a,x<=b)(c:b<64):Xg a b=a:=by
 unfold Xg;split;rfl
 conv=>rhs;rw[<- map_id a]
 refine map_congr_left λx e=>?_;have f:=d x e;have g:=Ml c;exact mod_eq_of_lt O
def Zgs{a:U H}(k:F a<256)(i:∀g∈a,g<256)(b:U E):lstK ([((F a:H):E)%256]++Sr a++b)=An a/\lstR ([((F a:H):E)%256]++Sr a++b)=b:=by
 have e:[((F a:H):E)%256]++Sr a++b=((F a:H):E)%256::(Sr a++b):=s_;have f:ZL ((((F a:H):E)%256))=F a:=O;have j:F (Sr a)=F a:=(by simp[Sr]);rw[e];constructor
 ·show(range (ZL ((((F a:H):E)%256)))).map (λc=>Z (Sr a++b) c 0)=_;rw[f];refine Te (by simp[Ak]) (λc d=>?_)
  have h:c<F a:=by simpa using d
  rw[Bq,Qc,Qd d,Option.getD_some,getElem_map,getElem_range,bh O];have:=i _ (Qf h);unfold Sr
  grind
 show ZF (ZL ((((F a:H):E)%256))) (Sr a++b)=b
 grind
end Go.Proofs.YtfcgnpchbcmdeaaGreat
namespace Go.Proofs.YtfcgnpchbcmdeaaGreat
set_option linter.all false
set_option maxRecDepth 100000
set_option maxHeartbeats 16000000
open Go.RowKit Go.Lib Go.Sort List Nat Go.World Go.Proofs.Tryz Go.Value Go.IntKind Go.Lib Go.Region
structure BRt(b:U KS)(d:H)(a:BS):Prop where
 y:F a.N=d
 k:∀e∈a.N,e<=a.g
 h:a.g<=40
 o:0<F a.fs
 A:F a.fs<256
 n:∀c∈a.fs,c<F b
 sum:a.g=Bk b a.fs
 j:Dx b (An a.fs) a.N=Z0
def ZaQ{e:U KS}{h:H}{b:U BS}(l:h<=200)(v:F e<256)(j:∀n∈b,BRt e h n)(d:U E):∀a,a<=F b->∃m,Zz e h (b.flatMap Dq++d) a=T (ZU a b,m,(ZF a b).flatMap Dq++d)
 |0,_=>⟨_,X⟩
 | a +1,x=>by
  have g:a<F b:=O;have c:=j _ (Qf g);have⟨m,w⟩:=ZaQ l v j d a O
  have o:(ZF a b).flatMap Dq++d=[((F b[a].fs:H):E)%256]++Sr b[a].fs++(Ia b[a].N b[a].g++((ZF (a+1) b).flatMap Dq++d)):=by
   rw[aN g,flatMap_cons];unfold Dq
   grind
  simp only[Zz];rw[w];simp only;rw[o];have⟨p,q⟩:=Zgs c.A (λi f=>p_ (c.n i f)) (Ia b[a].N b[a].g++((ZF (a+1) b).flatMap Dq++d));have k:Dc e (An b[a].fs)=b[a].g:=(by rw[Qo,Ga,c.sum]);have⟨r,s⟩:=Zpe l c.y c.k (p_ c.h) ((ZF (a+1) b).flatMap Dq++d)
  rw[p,q,k,r,s,Ga,Zdn c.k (p_ c.h),aD (by
   rw[c.j,Bool.and_true];unfold Vj;rw[k];simp only[Bool.and_eq_true,decide_eq_true_eq,all_eq_true];refine⟨λi f=>?_,by rw[Ak];exact c.o,c.h⟩;unfold An at f;obtain⟨t,u,rfl⟩:=mem_map.1 f;have:=c.n t u
   omega)]
  exact⟨_,by rw[Qi g]⟩
def Gu(c:U XS):Prop:=c.Pairwise λa b=>a.M<b.M∨a.M=b.M/\a.f<b.f
def Zbm{b:U XS}(g:Gu b){a:H}(f:a<F b):Ip (ZU a b) b[a]=Z0:=by
 unfold Ip;rw[length_take,Nat.min_eq_left O]
 by_cases d:a=0
 subst d;rfl;rw[aE d,Bool.false_or,decide_eq_true_eq];have e:Z (ZU a b) (a-1) Dm=b[a-1]:=w_;rw[e];have c:=ltX b[a-1] b[a];rw[aF (pairwise_iff_getElem.1 g (a-1) a O f O)] at c;unfold ltOf at c
 simpa using c
def Zpd{x:XS}(e:x.M<256/\x.f<256/\x.i<256)(a:U E):rdX (xB x++a)=x/\ZF 3 (xB x++a)=a:=by
 refine⟨?_,X⟩;obtain⟨b,c,d⟩:=x;simp only at e;show(⟨ZL ((b:E)%256),ZL ((c:E)%256),ZL ((d:E)%256)⟩:XS)=_
 grind
def Zj0{e:Ft}{i:H}{a:U XS}(h:Gu a)(g:∀x∈a,Fi e i x=Z0)(f:∀x∈a,x.M<256/\x.f<256/\x.i<256)(c:U E):∀b,b<=F a->Vr e i (a.flatMap xB++c) b=T (ZU b a,(ZF b a).flatMap xB++c)
 |0,_=>by simp[Vr]
 |b+1,m=>by have d:b<F a:=O;simp only[Vr];rw[Zj0 h g f c b O];have j:(ZF b a).flatMap xB++c=xB a[b]++((ZF (b+1) a).flatMap xB++c):=(by rw[aN d,flatMap_cons,append_assoc]);simp only;rw[j];have⟨k,l⟩:=Zpd (f _ (Qf d)) ((ZF (b+1) a).flatMap xB++c);rw[k,l,aD (by rw[Zbm h d,g _ (Qf d)];rfl),Qi d]
structure DRt(c:H)(a:Ft)(b:U XS):Prop where
 w:c<=200
 y:0<F a.g
 i:F a.g<=4
 k:0<F a.f
 l:F a.f<=4
 g:∀K∈a.g,KRt K
 f:∀d∈a.f,BRt a.g c d
 h:(a.f.flatMap (·.fs)).Perm (range (F a.g))
 r:Gu b
 j:∀e∈b,Fi ⟨a.g,a.f,[]⟩ c e=Z0
 u:F b<=800
def Zcl{e:H}{a:Ft}{b:U XS}(c:DRt e a b):Ma (Br a b)=T (⟨a.g,a.f,b⟩,Ba (Gy (Hv a b)) 4):=by
 have z:F (Z a.f 0 Df).N=e:=(by rw[Qc,Qd c.k];exact(c.f _ (Qf _)).y);have⟨d,q⟩:=W_ (Ba (Gy (Hv a b)) 4);have u:=c.w;have w:=c.i;have y:=c.y;have x:=c.l;have D:=c.u;have k:Br a b=71::82::(e:E)%256::(F a.g:E)%256::(a.g.flatMap Ll++((F a.f:E)%256::(a.f.flatMap Dq++(Ba (F b:H) 2++(b.flatMap xB++d))))):=(by grind [Br,Hv]);rw[<- q];have j:=Qr a b;rw[k] at j ⊢;have p:ZL (Z (71::82::(e:E)%256::(F a.g:E)%256::(a.g.flatMap Ll++((F a.f:E)%256::(a.f.flatMap Dq++(Ba (F b:H) 2++(b.flatMap xB++d))))):U E) 2 0)=e:=w_
 have o:ZL (Z (71::82::(e:E)%256::(F a.g:E)%256::(a.g.flatMap Ll++((F a.f:E)%256::(a.f.flatMap Dq++(Ba (F b:H) 2++(b.flatMap xB++d))))):U E) 3 0)=F a.g:=by show ZL ((F a.g:E)%256)=F a.g;omega
 unfold Ma;rw[p,o,aC O];have n:ZF 4 (71::82::(e:E)%256::(F a.g:E)%256::(a.g.flatMap Ll++((F a.f:E)%256::(a.f.flatMap Dq++(Ba (F b:H) 2++(b.flatMap xB++d))))):U E)=a.g.flatMap Ll++((F a.f:E)%256::(a.f.flatMap Dq++(Ba (F b:H) 2++(b.flatMap xB++d)))):=rfl;rw[n,zc c.g _ (F a.g) x_,take_length,drop_length];simp only[flatMap_nil,nil_append,tail_cons,headD_cons];rw[show ZL ((F a.f:E)%256)=F a.f by omega];have⟨t,g⟩:=ZaQ c.w O c.f (Ba (F b:H) 2++(b.flatMap xB++d)) (F a.f) x_;rw[g];rw[take_length,drop_length] at g ⊢;simp only[flatMap_nil,nil_append] at g ⊢
 have⟨_,A,_,r,_⟩:=kw (λh i=>j h (mem_cons_of_mem _ (mem_cons_of_mem _ (mem_cons_of_mem _ (mem_cons_of_mem _ (mem_append_right _ (mem_cons_of_mem _ i))))))) _ _ _ _ g
 have s:Dn t=Z0:=by
  unfold Dn;rw[all_eq_true];intro m l;obtain⟨h,i,rfl⟩:=aM l;have f:=r h;rw[c.h.count_eq h,nodup_range.count,aD (mem_range.2 O),Qc,Qd i] at f
  simpa using f
 rw[aD s];have⟨l,m⟩:=Zq0 (n:=F b) O (b.flatMap xB++d);rw[l,m,Zj0 c.r c.j (λh i=>?_) d (F b) x_,take_length,drop_length];rfl;have f:=Ms (c.j h i);simp only at f;have v:=(c.g (Z a.g h.f Aj) w_).ok.g;omega
def ZhQ{d:H}{a:Ft}{b:U XS}(c:DRt d a b):oe (Br a b)=T ⟨a.g,a.f,b⟩:=by unfold oe;rw[Zcl c];exact aD X
end Go.Proofs.YtfcgnpchbcmdeaaGreat
