import Derived.Test.YtfcgnpchbcmdeaaGreatZsav
open _root_ renaming Nat->H,Int->E,Bool->ZG,List->U,rfl->X,Option->Y0,Array->YZ,ByteArray->ZC
open Go renaming Value->ZY,maxLen->Y2,World->ZT,madeCells->YV,strOfNums->ZB
open Go.Value renaming bool->ZR,int->ZX,agg->Y9,pointer->Y7,tuple->Y5,ownBlock->ZW,slice->ZH,string->YW
open Option renaming some->T,none->ZP
open Go.World renaming cell?->ZV,ownsRow->ZD,alloc->ZN,setCell->ZO,grownBy->Y3,frozen?->YT,drewN->Y1
open Array renaming size->B,toList->Y4
open Bool renaming false->ZZ,true->Z0
open Go.IntKind renaming i64->ZQ
open Or renaming inl->ZM,inr->ZJ
open Go.Ending renaming returned->ZI
open Int renaming toNat->ZL
open List renaming length->F,getD->Z,replicate->Y6,take->ZU,drop->ZF
open Go.Proofs renaming intOf->ZA
open Go.Proofs.Tryz renaming prog->Y8
open ByteArray renaming size->ZK
namespace Go.Proofs.YtfcgnpchbcmdeaaGreat
set_option linter.all false
set_option maxRecDepth 100000
set_option maxHeartbeats 4000000
open Go.RowKit List Nat Go.World Go.Proofs.Tryz Go.Value Go.IntKind Go.Lib Go.Region
def ftC(d:H->ZG)(c b:H->E)(a:H):ZY:=if a%3=0 then ZR (d (a/3)) else if a%3=1 then I (c (a/3)) else I (b (a/3))
def ftL(d:H->ZG)(c a:H->E)(b:H):U ZY:=(range (b*3)).map (ftC d c a)
def jq{e d b c a}(f:a<c*3):(ftL e d b c)[a]? =T (ftC e d b a):=by simp[ftL,f]
def Zhm{l h b c m k i}(d:Du l h b c m k i):∀a g,(ftL m k i c)[a]? =T g->ZV l (((J h b):Addr).add a)=T g:=λa g hu=>by
 have n:a<c*3:=(by grind [ftL]);rw[jq n] at hu;injection hu with hu;subst hu;rw[Addr.add_lit];have f:a/3<c:=O;unfold ftC
 by_cases e:a%3=0
 rw[aD e,<- d.t _ f,show b+a/3*3=b+a by omega]
 by_cases j:a%3=1
 rw[aC e,aD j,<- d.D _ f,show b+a/3*3+1=b+a by omega];rw[aC e,aC j,<- d.G _ f,show b+a/3*3+2=b+a by omega]
def Zhn{d k b a l j i e}(c:ZD d k 51 3 (L_ b a l) a (ftL j i e a))(m:a<=Y2):Du d b 0 a j i e/\b<B d.1:=by
 have g:b<B d.1:=by
  rcases c.2 with⟨f,_⟩|⟨p,h,n,f,_,o,_⟩
  ·cases f
  grind
 refine⟨⟨m,λ_=>g,λh f=>?_,λh f=>?_,λh f=>?_⟩,g⟩
 ·rw[Nat.zero_add,c.cellAt _ O,jq O]
  grind [ftC]
 ·rw[Nat.zero_add,c.cellAt _ O,jq O]
  grind [ftC]
 rw[Nat.zero_add,c.cellAt _ O,jq O]
 grind [ftC]
def ZeM{c a i d f e k j h b}(r:a<=Y2)(l:Ed b c a k j h)(n:Ih a d f e k j h=ZZ):C_ 123 #[Y9 #[V c a i,I d,I f,I e]] b (U_ (Y5 #[Y7 ZP,ZX ZQ 1]) b):=by
 have g:K (Below _ b (ZN b (O_ #[V c a i,I d,I f,I e] 37))):=r_;have q:=Y (l.q g);have p:K (ZfO (Ih a d f e k j h)=1):=(by rw[n];rfl);clear l n;refine dl_ ?_;go_enter func123,ntmps123;go_wp2_with fail
 generalize (ZN b) (O_ #[V c a i,I d,I f,I e] 37)=t at *;apply (Rh c a _ _ _ r q).m;rintro s u ⟨rfl,m⟩;rw[p];have o:=Y (g.T (m.m g.size));clear m;go_wp2;go_ret2
 exact⟨X,o⟩
def Zcf{c i b l d f e q o k a}(h:Du a c i b q o k)(A:Ih b d f e q o k=Z0):C_ 123 #[Y9 #[V (T (J c i)) b l,I d,I f,I e]] a λQ m=>∃j g n,Q=ZI (Y5 #[Y7 (T ⟨j,0,ZP⟩),ZX ZQ 0])/\ra m j g b n d f e ⟨#[]⟩ 0 0 ZZ/\Du m g 0 b q o k/\g≠j/\B a.1<=g/\B a.1<=j/\g<B m.1/\E_ a m:=by
 have⟨c8,c9,_,_,_,_,_,_,_⟩:=Nb A;have b3:=h.lt O;have a2:=h.k;have v:K (Below _ a (ZN a (O_ #[V (T (J c i)) b l,I d,I f,I e] 37))):=r_;have u:K ((ZN a (O_ #[V (T (J c i)) b l,I d,I f,I e] 37)).1[_]? =_):=ha_ a _
 have w:K (∀x,E_ a x->Du x c i b q o k):=λx R=>by have n:=λm=>R.cell (p:=(J c m)) b3;exact⟨h.k,λ_=>p_ R.size,λj g=>(n _).T (h.t j g),λj g=>(n _).T (h.D j g),λj g=>(n _).T (h.G j g)⟩
 have a5:K (ZfO (Ih b d f e q o k)=0):=(by rw[A];rfl);have⟨c1,b4,b8,b9,c0⟩:=info_parts ZoL;clear h A;refine dl_ ?_;go_enter func123,ntmps123;go_wp2_with fail
 generalize (ZN a) (O_ #[V (T (J c i)) b l,I d,I f,I e] 37)=d2 at *;apply (Rh _ b _ _ _ a2 (ZJ ⟨c,i,X,w _ v⟩)).m;rintro Q d3 ⟨rfl,y⟩;rw[a5];have b5:=(Qb u).1;have G:=(y.block _ b5).T u;have b0:=n_ 0 G;have⟨s,r⟩:=Y_ G (v.T (y.m O));have b7:=r.size;clear y G;go_wp2_with (at_builtin;refine wpList_append_own _ X _ _ _ X (B a.1+1) 51 c1 _ 3 24 underlying35 b4 b8 b9 c0 X C (V _ 0 0) 0 [] X ⟨X,ZM ⟨X,X⟩⟩ _ b l _ X (by simp[ftL]) (Zhm (w _ r)) ?_ ?_ ?_ ?_ ?_)
 intro m g;simp only[ftL,mem_map] at g;obtain⟨j,_,rfl⟩:=g;unfold ftC;split;rfl;split<;>rfl;omega;omega;have:=(Qb s).1;omega;intro d1 M L D b6;have P:Aa (λ_=>False) _ _:=(Aa.refl _ _).grown D (λn z _=>by cases z);have t:=(P.block _ (Qb s).1 id).T s
 rcases L.2 with⟨_,c7⟩|⟨g,j,c6,rfl,d0,_⟩
 omega;have b1:=n_ 0 t;have b2:=R_ 0 _ _ t;have m:=ht_ 0 _ _ (L_ g b j) t;have S:=r.grown D b7 (λn z=>by cases z);have W:Below _ a (ZO M (J (B a.1) 0) (L_ g b j)):=S.setCell x_ _;have a4:Aa _ _ (ZO M _ (L_ g b j)):=(Aa.refl (λn=>n=B a.1) _).setCell (p:=(J (B a.1) 0)) (λ_=>X) _;have a3:=a4.M L (λn N z=>by subst z;simp[ZW] at N;omega);clear s r b0 b6 L D P;go_upto_region 7 with fail;generalize (ZO M) (J (B a.1) 0) (L_ g b j)=N at *;have c2:=n_ 0 m;have c3:=n_ 1 m;have c4:=n_ 2 m;have c5:=n_ 3 m;obtain⟨a0,a1⟩:=Zhn a3 a2;have a6:K (_/\_/\B a.1<=g/\_):=⟨a0,a1,O,W⟩;clear b1 b2 t m S W a4 a3 a0 a1 w v u;go_wp2;go_ret2
 have z:Below _ N (ZN N (O_ #[L_ g b j,I d,I f,I e,Q_ ⟨#[]⟩,I 0,I 0,ZR ZZ] 278)):=r_;obtain⟨a7,a8,a9,n⟩:=a6;exact⟨B N.1,g,j,X,hn_,a7.q z,O,a9,n.size,Qh a8 z.size,n.T (z.m n.size)⟩
def Zgo(a b:E):E:=if a<0∨b<=a then 0 else a
def Mu{a b} c:C_ 74 #[I a,I b] c (V_ (ZX ZQ (Zgo a b)) c):=by
 unfold Zgo
 by_cases d:a<0
 ·rw[aD (ZM d)];refine dl_ ?_;go_enter func74,ntmps74;go_wp2;go_ret;exact⟨X,X⟩
 by_cases e:b<=a
 ·rw[aD (ZJ e)];go_enter func74,ntmps74;go_wp2;go_ret;exact⟨X,X⟩
 rw[aC O];go_enter func74,ntmps74;go_wp2;go_ret;exact⟨X,X⟩
def Pu b {n}(c:0<n):∃a:H,a<n/\Zgo b n=a:=by unfold Zgo;split;exact⟨0,c,X⟩;exact⟨ZL b,O,O⟩
def Og(b:U E)(c a:H):ZY:=if a<F b then I (Z b a 0) else if a<c then I (-7-a) else I 0
def ZbC{i:ZT}{e b a f d}(h:f=Y6 (b+8) (I 0))(g:d=a.map (ZX ZQ))(c:F a=b)(j:i.1[e]? =T (O_ (splice f 0 d).toArray 3)):i.rowIs e 3 (b+8) (Og a b):=by
 refine⟨_,j,?_,λl k=>?_⟩;simp[splice,h,g,c];subst h g c;have c:F (List.map (ZX ZQ) a)=F a:=s_;unfold Og splice
 grind
def ig{p a k h b}(t:Ck b (T p) a h)(a0:a<=2097152):C_ 112 #[V (T p) a k] b λi c=>i=ZI (ZH (T ⟨B b.1,0,ZP⟩) a (a+8))/\c.rowIs (B b.1) 3 (a+8) (Og h (a+8))/\E_ b c:=by
 have⟨a3,a4,a5,a6,a7⟩:=info_parts Zkv;have j:=Y t;clear t;have a1:∀d:_,(binOp _ _ _ _).run _ d=.ok (ZR ZZ) d:=λd=>run_eql_slice_nil d 25 3 (T p) a k 0 0 underlying25;obtain⟨f,l⟩:∃f:U ZY,f=Y6 (a+8) (I 0):=⟨_,X⟩;obtain⟨g,q⟩:∃g:U ZY,g=h.map (ZX ZQ):=⟨_,X⟩;have W:∀d:ZT,(Instr.makeSlice 25 (I (a+8)) (I (a+8))).run Y8 d=.ok (L_ (B d.1) (a+8) (a+8)) (ZN d (O_ f.toArray 3)):=by intro d;have:=run_make_row' (P:=Y8) 25 3 (I 0) 8 underlying25 Zkv X ZQ ZQ (a+8) O O d;rw[show((a+8:H):E)=(a:E)+8 by omega] at this;rw[this,l];congr 3;apply Array.ext;simp[YV];intro c v w;simp[YV,mod_one]
 have⟨y,n⟩:=Y_ l q;have N:F f=a+8:=(by rw[l];simp);have r:F g=a:=(by rw[q];simp[j.out.1]);clear l q;have M:(prog.info? 3).map (·.size)=T 1:=w_
 have s:K (∀d:ZT,E_ b d->0<F g->∃o,T p=T o/\∀e c,g[e]? =T c->ZV d (o.add e)=T c):=λd A u=>by
  refine⟨p,X,λe c x=>?_⟩;obtain⟨v,_,w|⟨m,o,i,L,D⟩⟩:=j.out;omega;simp at i;subst i;have z:((J m o):Addr).add e=(J m (o+e)):=(by unfold Addr.add;split<;>simp_all);have G:e<a:=w_;rw[z,A.cell (p:=(J m (o+e))) L,D e G,<- x,n]
  grind
 obtain⟨m,P,D,L⟩:∃m:ZT,(Builtin.copy_ #[25,25] 3 #[L_ (B b.1) (a+8) (a+8),V (T p) a k]).run Y8 (ZN b (O_ f.toArray 3))=.ok (I a) m/\K (m.rowIs (B b.1) 3 (a+8) (Og h a))/\E_ b m:=by
  have v:Below _ b (ZN b (O_ f.toArray 3)):=r_;have w:(ZN b (O_ f.toArray 3)).1[_]? =_:=ha_ b _
  have z:∀e c,g[e]? =T c->ZV (ZN b (O_ f.toArray 3)) (p.add e)=T c:=λe c x=>by
   have u:0<F g:=w_;have⟨o,i,G⟩:=s _ v u
   grind
  have o:=run_copy_row (P:=Y8) _ 25 25 3 3 _ 0 (a+8) (a+8) p a k _ 3 g underlying25 M w w_ z t_ (by rw[n];intro c i;simp at i;obtain⟨_,_,rfl⟩:=i;rfl);refine⟨_,by rw[o,r];rfl,?_,below_setRow v x_ _⟩;apply ZbC y n j.1;have:=setRow_heap (ZN b (O_ f.toArray 3)) (B b.1) f.toArray (ZU 0 (Y4 f.toArray)++g++ZF (0+F g) (Y4 f.toArray)).toArray 3 (0,0) w;rw[r] at this;rw[this];simp[splice,r]
 clear s;refine dl_ ?_;go_enter func112,ntmps112;go_wp2_with fail
 go_loopw [4] (λe i=>∃c:H,a<=c/\c<=a+8/\e=ZX ZQ c/\K (i.rowIs (B b.1) 3 (a+8) (Og h c))/\E_ b i) (λe _=>a+8-ZL (ZA e))
 case atStart=>grind
 obtain⟨c,R,S,rfl,i,o⟩:=hrel
 by_cases w:c<a+8
 ·have z:0<=(c:E):=O;have G:c<(a:E)+8:=O;have v:=i.cell w;have Q:=i.frozen c
  have x:K ((ZO wr (J (B b.1) c) (I (-7-c))).rowIs (B b.1) 3 (a+8) (Og h (c+1))):=(i.set c _).congr (λe _=>by
   have a2:=j.1
   grind [Og])
  have e:Below _ b (ZO wr (J (B b.1) c) (I (-7-(c:_)))):=o.setCell x_ _;generalize Og h c c=a2 at v;go_wp2
  grind [ZA]
 have e:c=a+8:=O;subst e;go_wp2;go_ret;exact⟨X,i,o⟩
def Rp(b:U E)(c a:H):ZY:=if a<c then I (-9) else Og b (F b+8) a
def eb{k b o c d g}(p:Ck g (T k) b d)(Q:b<=2097152)(y:g.rowIs c 3 (b+8) (Og d (b+8)))(S:0<b->k.block≠c):C_ 113 #[L_ c b (b+8),V (T k) b o] g λf a=>f=ZI (ZR Z0)/\Y3 g a (T c):=by
 have j:=Y p;have r:K (g.rowIs c 3 (b+8) (Rp d 0)):=(by have f:=p.1.s;subst f;exact y);have R:∀e:_,(binOp _ _ _ _).run _ e=.ok (ZR ZZ) e:=λe=>run_eql_slice_nil e 25 3 (T k) b o 0 0 underlying25;refine q_ ?_;go_wp2_with fail
 go_loopw [6,7] (λl h i=>∃a:H,a<=b+8/\l=ZR Z0/\h=ZX ZQ a/\K (i.rowIs c 3 (b+8) (Rp d a))/\K (Y3 g i (T c))) (λ_ h _=>b+8-ZL (ZA h))
 exact⟨0,v_,X,X,r,grownBy.refl _ _⟩;obtain⟨a,P,rfl,rfl,h,i⟩:=hrel;have x:=h.lt
 by_cases w:a<b+8
 ·have A:0<=(a:E):=O;have D:a<(b:E)+8:=O;have m:=h.cell w;have N:=h.frozen a;have n:K (∀e:ZT,e.rowIs c 3 (b+8) (Rp d a)->(ZO e (J c a) (I (-9))).rowIs c 3 (b+8) (Rp d (a+1))):=λe t=>(t.set a _).congr (λl _=>by grind [Rp])
  by_cases q:a<b
  ·have l:Rp d a a=I (Z d a 0):=(by unfold Rp Og;rw[aC O,aD (j.1 ▸ q)]);rw[l] at m;obtain⟨G,_,L|⟨z,W,f,M,u⟩⟩:=j.out;omega;simp at f;subst f;have v:=i.cell (u a q) w_;have s:a<(b:E):=O;generalize (Z d) a 0=a0 at m v;go_wp2_with fail
   go_big_quiet (fail);refine J_ ?_;exact⟨a+1,O,X,g_,n _ (h.of_block ((below_drewN y_ _).block c x)),Aq (Hi i (Lc (below_drewN y_ _))) _⟩
  have l:Rp d a a=I (-7-a):=(by unfold Rp Og;rw[aC O,aC (p_ j.1),aD (p_ j.1)]);rw[l] at m;have s:¬a<(b:E):=O;go_wp2_with fail
  go_roundw;exact⟨a+1,O,X,g_,n _ h,Aq i _⟩;exact z_
 have l:a=b+8:=O;subst l;go_wp2;go_ret;exact⟨X,i⟩
def Vz{P b} i z A {j k d g} n f h y {c m a}(x:P.underlying i=T (.slice j))(u:P.info? j=T k)(q:H_ b d c m)(s:F a=Nat.min h g*k.size)(v:∀l e,a[l]? =T e->ZV b (f.add l)=T e)(p:F a<=B c)(o:∀e∈a,e.oneCell'=Z0):(Builtin.copy_ #[i,z] A #[L_ d g n,V (T f) h y]).run P b=.ok (goInt (Nat.min h g)) (b.setRow d (ZU 0 (Y4 c)++a++ZF (0+F a) (Y4 c)).toArray):=by have r:=run_loadCells_list (P:=P) b f _ v;have w:=run_storeCells_at P d 0 m _ 0 _ b q (by simpa using p) o;have t:=s.s;simp[Builtin.copy_,run_underlying x,Builtin.lenOf,Builtin.firstCells,sizeOf,typeInfo,u,t,r,w]
def Oz(c b:H):U Cd:=(range b).map λa=>⟨-7-(c+a:H),0,0,0⟩
def Hj(a:U Cd)(b:H):U Cd:=(a++Oz (F a) b)++Y6 (8-b) e0
theorem Mr a {b}(c:b<=8):F (Hj a b)=F a+8:=by simp[Hj,Oz];omega
def ZkD{b a}(c:a<8):Hj b a=(b++Oz (F b) a)++e0::Y6 (8-(a+1)) e0:=by unfold Hj;rw[show 8-a=8-(a+1)+1 by omega,replicate_succ]
def Zek{b a}(_:a<8):Hj b (a+1)=(b++Oz (F b) a)++⟨-7-(F b+a:H),0,0,0⟩::Y6 (8-(a+1)) e0:=by unfold Hj Oz;rw[range_succ];simp
theorem ZdS{j g b d}(h:Ln j g b d):∀a i,(flat d)[a]? =T i->ZV j (((J g b):Addr).add a)=T i:=by
 intro a i l;have k:((J g b):Addr).add a=(J g (b+a)):=(by unfold Addr.add;split<;>simp_all);have m:a<F d*4:=(by grind [Cg]);have e:a/4<F d:=O;have f:=Zbl d _ (a%4) e O;rw[show a/4*4+a%4=a by omega,l] at f;rw[k]
 rcases(show a%4=0∨a%4=1∨a%4=2∨a%4=3 by omega) with c|c|c|c
 rw[show b+a=b+a/4*4 by omega,h.v _ e,f,c];rfl;rw[show b+a=b+a/4*4+1 by omega,h.t _ e,f,c];rfl;rw[show b+a=b+a/4*4+2 by omega,h.h _ e,f,c];rfl;rw[show b+a=b+a/4*4+3 by omega,h.g _ e,f,c];rfl
def ic{h b l c}(u:Cj c (T h) b)(W:F b<=2097152):C_ 118 #[V (T h) (F b) l] c λj a=>j=ZI (ZH (T ⟨B c.1,0,ZP⟩) (F b) (F b+8))/\Ai a (B c.1) (L_ (B c.1) (F b+8) (F b+8)) (Hj b 8)/\E_ c a:=by
 have⟨b3,R,b1,a2,b2⟩:=info_parts bq;have a1:∀f:_,(binOp _ _ _ _).run _ f=.ok (ZR ZZ) f:=λf=>run_eql_slice_nil f 29 _ (T h) (F b) l 0 0 underlying29;have⟨a,g⟩:=W_ (F b);have a0:∀f:ZT,(Instr.makeSlice 29 (I (a+8)) (I (a+8))).run Y8 f=.ok (L_ (B f.1) (a+8) (a+8)) (ZN f (O_ (YV #[I 0,I 0,I 0,I 0] ((a+8)*4)) 98)):=λ_=>mk_ 4;have⟨e,m⟩:=W_ (YV #[I 0,I 0,I 0,I 0] ((a+8)*4));rw[<- m] at a0;have x:B e=(a+8)*4:=m ▸ (size_madeCells _ _);have w:Y4 e=flat (Y6 (a+8) e0):=m ▸ (ve)
 obtain⟨p,a6,G,Q⟩:∃p:ZT,(Builtin.copy_ #[29,29] 3 #[L_ (B c.1) (a+8) (a+8),V (T h) a l]).run Y8 (ZN c (O_ e 98))=.ok (I a) p/\K (Ai p (B c.1) (L_ (B c.1) (a+8) (a+8)) (Hj b 0))/\E_ c p:=by
  have k:Below _ c (ZN c (O_ e 98)):=r_;have n:(ZN c (O_ e 98)).1[_]? =_:=ha_ c _;have o:Nat.min a (a+8)=a:=Nat.min_eq_left O
  have s:∀d i,(flat b)[d]? =T i->ZV (ZN c (O_ e 98)) (h.add d)=T i:=λd i v=>by
   obtain⟨_,r|⟨q,y,j,t⟩⟩:=u.q k
   ·grind [Cg]
   grind [ZdS]
  have q:=Vz (P:=Y8) 29 29 3 (a+8) h a l underlying29 R n (by rw[o,a2,Cg,g]) s (by rw[Cg,x];omega) (Vt b);rw[o] at q;refine⟨_,q,?_,below_setRow k x_ _⟩;have j:=setRow_heap _ _ _ (ZU 0 (Y4 e)++flat b++ZF (0+F (flat b)) (Y4 e)).toArray _ _ n;have r:ZU 0 (Y4 e)++flat b++ZF (0+F (flat b)) (Y4 e)=flat (Hj b 0):=(by rw[w,take_zero,nil_append,Nat.zero_add,Cg,<- g,<- replicate_append_replicate,Cb,drop_left' (by rw[Cg];simp)];simp[Hj,Oz,Cb]);rw[r] at j ⊢;refine⟨by rw[Cg],ZJ ⟨B c.1,a+8,_,by rw[Mr b O,g],x_,j,by grind [Mr],by unfold Y2;omega,?_,?_⟩⟩;simp[Cg,Mr,g];exact aI (by simp[Cg])
 have b0:=Q.size;have a7:=(B_ G (B c.1) X).2;have s:=Y g;rw[<- g] at a1 ⊢;have a9:a<=2097152:=O;clear g w x W u m;refine q_ ?_;go_wp2_with fail
 go_loopw [4] (λi j=>∃d:H,d<=8/\i=ZX ZQ ((a:E)+(d:E))/\K (Ai j (B c.1) (ZH (T ⟨B c.1,0,ZP⟩) (a+8) (a+8)) (Hj b d))/\E_ c j) (λi _=>a+8-ZL (ZA i))
 grind
 obtain⟨d,a8,rfl,t,v⟩:=hrel
 by_cases y:d<8
 ·have⟨i,r⟩:=W_ (a+d);have S:a+d=(i:E):=O;have o:=t.out;have n:F (Hj b d)=a+8:=(by rw[Mr b (show d<=8 by omega),s]);rw[ZkD y] at o n;have q:F (b++Oz (F b) d)=i:=w_;have⟨L,M,N,P,a5⟩:=o.at n.s q;have⟨D,k,j⟩:=y3_ o n.s q
  have z:K (Hj b _=_++(⟨_-(i:_),0,0,0⟩:_)::_):=show _=_ by rw[Zek y,r,s]
  simp only[e0] at L M N P;have a3:0<=(i:E):=O;have a4:i<(a:E)+8:=O;have A:=Y r;clear o n q r;rw[S];go_wp2;go_roundw
  case rel=>
   refine⟨d+1,O,w_,?_,?_⟩;rw[z];exact((((D.b k s_ (Ul j)).b (k.T s_) s_ (Mn j _)).b (k.T s_) s_ (Mo j _)).b (k.T s_) s_ (Mp j _));exact((((v.setCell x_ _).setCell x_ _).setCell x_ _).setCell x_ _)
  have:=A.out;simp[ZA];omega
 have i:d=8:=O;subst i;go_wp2;go_ret;exact⟨X,t,v⟩
def m9:Cd:=⟨-9,0,0,0⟩
def Pc(b:U Cd)(a:H):U Cd:=Y6 a m9++ZF a (Hj b 8)
def Zfj a {b}(c:b<=F a+8):F (Pc a b)=F a+8:=by grind [Pc,Mr]
def ZkE b {a}(c:a<F b+8):Z (Hj b 8) a e0=if a<F b then Z b a e0 else⟨-7-a,0,0,0⟩:=by grind [Hj,Oz]
def ZiO a {b}(c:b<F a+8):Pc a b=Y6 b m9++(if b<F a then Z a b e0 else⟨-7-b,0,0,0⟩)::ZF (b+1) (Hj a 8):=by
 have d:b<F (Hj a 8):=(by rw[Mr a O];exact c);unfold Pc;rw[aN d,<- ZkE a c]
 grind
def ZcX b a:Pc b (a+1)=Y6 a m9++m9::ZF (a+1) (Hj b 8):=by unfold Pc;rw[replicate_succ'];simp
def dz{r b v j t k}(A:Cj k (T r) b)(Q:F b<=2097152)(D:Ai k t (L_ j (F b+8) (F b+8)) (Hj b 8))(R:0<F b->r.block≠j):C_ 119 #[L_ j (F b) (F b+8),V (T r) (F b) v] k λq a=>q=ZI (ZR Z0)/\Y3 k a (T j):=by
 have M:=Y A;have⟨c,o⟩:=W_ (F b);have i:=Y o
 have L:K (Ai k t (L_ j (c+8) (c+8)) (Pc b 0)):=by rw[o];simpa [Pc,Hid] using D
 rw[<- o];rw[<- o] at Q R;clear A D o;have a9:∀p:_,(binOp _ _ _ _).run _ p=.ok (ZR ZZ) p:=λp=>run_eql_slice_nil p 29 _ (T r) c v 0 0 underlying29;refine q_ ?_;go_wp2_with fail
 go_loopw [6,7] (λf d e=>∃a:H,a<=c+8/\f=ZR Z0/\d=ZX ZQ a/\K (Ai e t (ZH (T ⟨j,0,ZP⟩) (c+8) (c+8)) (Pc b a))/\K (Y3 k e (T j))) (λ_ d _=>c+8-ZL (ZA d))
 exact⟨0,v_,X,X,L,grownBy.refl _ _⟩;obtain⟨a,a7,rfl,rfl,G,h⟩:=hrel
 by_cases a6:a<c+8
 ·have W:0<=(a:E):=O;have a0:a<(c:E)+8:=O;have f:=G.out;have e:F (Pc b a)=c+8:=(by rw[Zfj b (p_ i.out),i]);rw[ZiO b (p_ i.out)] at f e;have m:F (Y6 a m9)=a:=s_;have u:K (_=_++(⟨_,0,0,0⟩:Cd)::_):=ZcX b a;have g:=Y m
  by_cases a8:a<c
  ·rw[aD (p_ i.out)] at f e;have⟨w,x,y,z,P⟩:=f.at e.s m;have⟨s,d⟩:=Y_ f e.s;obtain⟨_,a5|⟨S,b0,q,l⟩⟩:=M;have:=i.out;omega;simp at q;subst q;have n:a<F b:=p_ i.out;have a1:=h.cell (l.v a n) w_;have a2:=h.cell (l.t a n) w_;have a3:=h.cell (l.h a n) w_;have a4:=h.cell (l.g a n) w_;have N:a<(c:E):=O;clear l f e m n;generalize (Z b) a e0=b1 at *;go_wp2_with fail
   go_big_quiet (fail);go_wp2;go_roundw
   case rel=>
    refine⟨a+1,O,X,g_,?_,?_⟩;rw[u];exact(((((s.q (below_drewN y_ _)).b d s_ (Ul g)).b (d.T s_) s_ (Mn g _)).b (d.T s_) s_ (Mo g _)).b (d.T s_) s_ (Mp g _));exact Aq (Aq (Aq (Aq (Hi h (Lc (below_drewN y_ _))) _) _) _) _
   exact z_
  rw[aC (p_ i.out)] at f e;have⟨w,x,y,z,P⟩:=f.at e.s m;have⟨s,d⟩:=Y_ f e.s;have N:¬a<(c:E):=O;clear f e m;simp only at w x y z;go_wp2_with fail
  go_roundw
  case rel=>
   refine⟨a+1,O,X,g_,?_,?_⟩;rw[u];exact((((s.b d s_ (Ul g)).b (d.T s_) s_ (Mn g _)).b (d.T s_) s_ (Mo g _)).b (d.T s_) s_ (Mp g _));exact Aq (Aq (Aq (Aq h _) _) _) _
  exact z_
 have d:a=c+8:=O;subst d;go_wp2;go_ret;exact⟨X,h⟩
def Zn4 a:(binOp .eql 25 (N_) (N_)).run Y8 a=.ok (ZR Z0) a:=run_eql_slice_nil a 25 3 ZP 0 0 0 0 underlying25
def Zn5 a:(binOp .eql 29 (N_) (N_)).run Y8 a=.ok (ZR Z0) a:=run_eql_slice_nil a 29 98 ZP 0 0 0 0 underlying29
def ii{a}:C_ 112 #[N_] a (V_ (ZH ZP 0 0) a):=by have b:=Zn4;refine er_ ?_;exact⟨X,X⟩
def ec{b a}:C_ 113 #[b,N_] a (V_ (ZR Z0) a):=by have c:=Zn4;refine er_ ?_;exact⟨X,X⟩
def ie{a}:C_ 118 #[N_] a (V_ (ZH ZP 0 0) a):=by have b:=Zn5;refine er_ ?_;exact⟨X,X⟩
def ea{b a}:C_ 119 #[b,N_] a (V_ (ZR Z0) a):=by have c:=Zn5;refine er_ ?_;exact⟨X,X⟩
def Rs(f:ZT)(g:H)(e:ZY)(d:Y0 Addr)(a h:H)(c:U E):Prop:=
 (d=ZP/\a=0/\h=0/\c=[]/\e=ZH ZP 0 0)∨∃i b,d=T i/\e=L_ b a (a+8)/\g<=b/\b<B f.1/\F c=a/\(∀j∈c,(Lit.int ZQ j).wf=Z0)/\f.rowIs b 3 (a+8) (Og c (a+8))
def Rs.q{i w' base h b g c j}(a:Rs i base h b g c j)(f:E_ i w'):Rs w' base h b g c j:=by
 rcases a with a|⟨t,d,l,m,n,e,o,p,k,q,r,s⟩
 exact ZM a;exact ZJ ⟨t,d,l,m,n,Qh e f.size,o,p,k,(f.block d e).T q,r,s⟩
def Rs.h{b i f h a j g}(m:Rs b i f h a j g):∃c k,f=ZH c a k/\Ck b c a g:=by
 rcases m with⟨rfl,rfl,rfl,rfl,rfl⟩|⟨v,d,rfl,rfl,s,n,o,p,l,q,t,r⟩
 exact⟨ZP,0,X,X,s_,ZM X⟩;refine⟨_,_,X,o,p,ZJ ⟨d,0,X,n,λe u=>?_⟩⟩;rw[Nat.zero_add,cell_of_row b d e l 3 (0,0) q,r e O];unfold Og
 grind
def uy{a b f i c}(d:Ck c a b i)(l:a=ZP->b=0/\f=0)(k:b<=2097152):C_ 112 #[V a b f] c λg e=>∃h,g=ZI h/\Rs e (B c.1) h a b f i/\E_ c e:=by
 cases a with
 | none=>
  obtain⟨rfl,rfl⟩:=l X;apply (ii).m;rintro g e ⟨rfl,rfl⟩;exact⟨_,X,ZM ⟨X,X,X,eq_nil_of_length_eq_zero d.1,X⟩,y_⟩
 | some m=>
  apply (ig d k).m;rintro g e ⟨rfl,h,j⟩;refine⟨_,X,ZJ ⟨m,B c.1,X,X,x_,?_,d.1,d.2.1,h⟩,j⟩;obtain⟨n,o,_⟩:=h
  grind
def qc{b a h g m f c}(i:Rs c g f b a h m)(j:Ck c b a m)(w:∀d k,b=T ⟨d,k,ZP⟩->0<a->d<g)(p:a<=2097152):C_ 113 #[f,V b a h] c λe l=>e=ZI (ZR Z0)/\Y3 c l (ZW f):=by
 rcases i with⟨rfl,rfl,rfl,rfl,rfl⟩|⟨x,q,rfl,rfl,s,t,u,v,n⟩
 ·apply (ec).m
  grind [Ay]
 refine(eb j p n (λr e=>?_)).m ?_
 ·rcases j.2.2 with i|⟨d,k,l,_,_⟩
  omega
  grind
 rintro e l ⟨rfl,o⟩;exact⟨X,o⟩
def Rs.D{b c f g j h k}(i:Rs b c f g j h k){a}(e:ZW f=T a):c<=a/\a<B b.1/\∃d,b.1[a]? =T (O_ d 3):=by
 rcases i with⟨rfl,rfl,rfl,rfl,rfl⟩|⟨s,l,rfl,rfl,m,n,o,p,d,q,r⟩
 ·cases e
 simp[ZW] at e
 grind
def Ck.p{S f w' d c j}(k:Ck f d c j)(i:Aa S f w')(q:∀a b,d=T ⟨a,b,ZP⟩->0<c->¬S a):Ck w' d c j:=by
 obtain⟨m,n,e⟩:=k;refine⟨m,n,?_⟩
 rcases e with e|⟨a,b,rfl,g,o⟩
 exact ZM e
 by_cases l:c=0
 exact ZM l;refine ZJ ⟨a,b,X,Qh g i.size,λh p=>?_⟩;rw[cb_ (w:=f) (a:=(J a (b+h))) (i.block a g (q a b X O))];exact o h p
def Rr(h:ZT)(d:H)(e:ZY)(c:Y0 Addr)(f:H)(a:U Cd):Prop:=
 (c=ZP/\a=[]/\f=0/\e=ZH ZP 0 0)∨∃g b,c=T g/\e=L_ b (F a) (F a+8)/\d<=b/\Ai h d (L_ b (F a+8) (F a+8)) (Hj a 8)
def Rr.q{f w' base e c d b}(a:Rr f base e c d b)(l:E_ f w'):Rr w' base e c d b:=by
 rcases a with a|⟨m,g,h,i,j,k⟩
 exact ZM a;exact ZJ ⟨m,g,h,i,j,k.q l⟩
def Rr.h{f h e g i a}(k:Rr f h e g i a)(r:F a<=2097152):∃b c,e=ZH b (F a) c/\Cj f b a/\(b=ZP->c=0):=by
 rcases k with⟨rfl,rfl,rfl,rfl⟩|⟨s,p,rfl,rfl,q,d⟩
 exact⟨ZP,0,X,⟨s_,ZM X⟩,λ_=>X⟩;have j:Hj a 8=a++Oz (F a) 8:=(by unfold Hj;simp);rw[j] at d;have l:=d.g (by simp[Oz]) X;have⟨b,c,m,n,o⟩:=l.h O
 grind
def bz{b e} a {c}(h:Cj c b a)(k:b=ZP->a=[]/\e=0)(j:F a<=2097152):C_ 118 #[V b (F a) e] c λf d=>∃g,f=ZI g/\Rr d (B c.1) g b e a/\E_ c d:=by
 cases b with
 | none=>
  obtain⟨rfl,rfl⟩:=k X;apply (ie).m;rintro f d ⟨rfl,rfl⟩;exact⟨_,X,ZM ⟨X,X,X,X⟩,y_⟩
 | some l=>
  apply (ic h j).m;rintro f d ⟨rfl,g,i⟩;exact⟨_,X,ZJ ⟨l,B c.1,X,X,x_,g⟩,i⟩
def Xd b h {g} a {f} c (i:Rr c g f b h a)(j:Cj c b a)(s:∀d k,b=T ⟨d,k,ZP⟩->0<F a->d<g)(o:F a<=2097152):C_ 119 #[f,V b (F a) h] c λe l=>e=ZI (ZR Z0)/\Y3 c l (ZW f):=by
 rcases i with⟨rfl,rfl,rfl,rfl⟩|⟨t,p,rfl,rfl,r,m⟩
 ·apply (ea).m
  grind [Ay]
 refine(dz j o m (λq e=>?_)).m ?_
 ·rcases j.2 with i|⟨d,k,l,_⟩
  omega
  grind
 rintro e l ⟨rfl,n⟩;exact⟨X,n⟩
def Rr.D{e c d g h f}(j:Rr e c d g h f){b}(a:ZW d=T b):c<=b/\b<B e.1:=by
 rcases j with⟨rfl,rfl,rfl,rfl⟩|⟨m,i,rfl,rfl,k,l⟩
 ·cases a
 simp[ZW] at a;subst a;exact⟨k,(B_ l i X).2⟩
def ZmX:(prog.info? 51).map (λa=>(a.zero,a.size,a.bytes))=T (T (Y9 #[ZR ZZ,I 0,I 0]),3,24):=k_
def gv(f:ZT)(e d:H)(c:H->ZG×E×E):Prop:=∃b:YZ ZY,f.1[e]? =T (O_ b 51)/\B b=d*3/\∀a,a<d->b[a*3]? =T (ZR (c a).1)/\b[a*3+1]? =T (I (c a).2.1)/\b[a*3+2]? =T (I (c a).2.2)
section
variable {w w':ZT} {g N:H} {f:H->ZG×E×E}
def gv.lt(a:gv w g N f):g<B w.1:=by
 obtain⟨b,c,_⟩:=a
 grind
def gv.cells(a:gv w g N f){i}(j:i<N):ZV w (J g (i*3))=T (ZR (f i).1)/\ZV w (J g (i*3+1))=T (I (f i).2.1)/\ZV w (J g (i*3+2))=T (I (f i).2.2)/\∀b,YT w (J g b)=ZZ:=by
 obtain⟨c,d,e,h⟩:=a
 grind [cell_of_row,frozen_of_row]
def gv.put(e:gv w g N f){k}(r:k<N){a b c}:gv (ZO (ZO (ZO w (J g (k*3)) (ZR a)) (J g (k*3+1)) (I b)) (J g (k*3+2)) (I c)) g N (λi=>if i=k then(a,b,c) else f i):=by
 obtain⟨q,h,j,l⟩:=e;refine⟨_,hs_ _ g _ _ _ _ (hs_ _ g _ _ _ _ (hs_ _ g _ _ _ _ h)),by simp[j],λi m=>?_⟩
 by_cases d:i=k
 ·subst d;simp only[if_true];refine⟨?_,?_,?_⟩
  ·grind
  ·grind
  grind
 simp only[aC d];have⟨n,o,p⟩:=l i m;refine⟨?_,?_,?_⟩;rw[aH O,aH O,aH O];exact n;rw[aH O,aH O,aH O];exact o;rw[aH O,aH O,aH O];exact p
def gv.p{S}(b:gv w g N f)(h:Aa S w w')(e:¬S g):gv w' g N f:=by obtain⟨a,c,d⟩:=b;exact⟨a,h.g c e,d⟩
def gv.q(a:gv w g N f)(b:E_ w w'):gv w' g N f:=a.p (.a (S:=λ_=>False) b) id
def gv.congr{b}(d:gv w g N f)(i:∀a,a<N->b a=f a):gv w g N b:=by obtain⟨c,e,h,j⟩:=d;exact⟨c,e,h,λa k=>w_⟩
def gv.c(a:gv w g N f){b h e c}(l:b<=N)(j:b<=Y2)(k:∀i,i<b->f i=(h i,e i,c i)):Du w g 0 b h e c:=by
 refine⟨j,λ_=>a.lt,λi d=>?_,λi d=>?_,λi d=>?_⟩
 ·have:=(a.cells (i:=i) O).1
  grind
 ·have:=(a.cells (i:=i) O).2.1
  grind
 have:=(a.cells (i:=i) O).2.2.1
 grind
end
def Tj(b:H)(f:H->ZG)(e c:H->E)(d a:H):ZG×E×E:=if a<b then(f a,e a,c a) else if a<b+d then(ZZ,0,-7-a) else(ZZ,0,0)
def ZhA b f e d a c:Tj b f e d (a+1) c=if c=b+a then(ZZ,0,-7-((b+a:H):E)) else Tj b f e d a c:=by grind [Tj]
def Zbi(d:H->ZG)(c b:H->E)(a:H):ZY:=if a%3=0 then ZR (d (a/3)) else if a%3=1 then I (c (a/3)) else I (b (a/3))
def ca{p a s m l h c}(j:Du c p.block p.off a m l h)(Q:0<a->p=(J p.block p.off))(a7:a<=2097152):C_ 122 #[V (T p) a s] c λo b=>o=ZI (ZH (T ⟨B c.1,0,ZP⟩) a (a+8))/\gv b (B c.1) (a+8) (Tj a m l h 8)/\E_ c b:=by
 have⟨b1,a2,a9,a5,b0⟩:=info_parts ZmX;obtain⟨n,d,w⟩:=p
 have L:_:=λa6=>by have:=Q a6;injection this
 have j:=j;clear Q;have a8:∀f:_,(binOp _ _ _ _).run _ f=.ok (ZR ZZ) f:=λf=>run_eql_slice_nil f 35 _ (T ⟨n,d,w⟩) a s 0 0 underlying35;have P:∀f:ZT,(Instr.makeSlice 35 (I (a+8)) (I (a+8))).run Y8 f=.ok (L_ (B f.1) (a+8) (a+8)) (ZN f (O_ (YV #[ZR ZZ,I 0,I 0] ((a+8)*3)) 51)):=λ_=>mk_ 3;have⟨e,u⟩:=W_ (YV #[ZR ZZ,I 0,I 0] ((a+8)*3))
 have G:∀i,i<a+8->e[i*3]? =T (ZR ZZ)/\e[i*3+1]? =T (I 0)/\e[i*3+2]? =T (I 0):=λi q=>by rw[u];refine⟨?_,?_,?_⟩;simp[YV,show i*3<(a+8)*3 by omega,show i*3%3=0 by omega];simp[YV,show i*3+1<(a+8)*3 by omega,show(i*3+1)%3=1 by omega];simp[YV,show i*3+2<(a+8)*3 by omega,show(i*3+2)%3=2 by omega]
 have W:=u ▸ (size_madeCells _ _);rw[<- u] at P
 obtain⟨v,a0,x,z⟩:∃v:ZT,(Builtin.copy_ #[35,35] 3 #[L_ (B c.1) (a+8) (a+8),V (T ⟨n,d,w⟩) a s]).run Y8 (ZN c (O_ e 51))=.ok (I a) v/\K (gv v (B c.1) (a+8) (Tj a m l h 0))/\E_ c v:=by
  have y:Below _ c (ZN c (O_ e 51)):=r_;have A:(ZN c (O_ e 51)).1[_]? =_:=ha_ c _;have N:Nat.min a (a+8)=a:=Nat.min_eq_left O;have⟨g,D⟩:=W_ ((range (a*3)).map (Zbi m l h));have a1:F g=a*3:=by rw[D];simp
  have t:∀b,b<a*3->g[b]? =T (Zbi m l h b):=λb hj=>w_
  have a4:∀b r,g[b]? =T r->ZV (ZN c (O_ e 51)) ((⟨n,d,w⟩:Addr).add b)=T r:=λb r hj=>by
   have R:b<a*3:=w_;rw[L O];rw[t b R] at hj;injection hj with hj;subst hj;have M:((J n d):Addr).add b=(J n (d+b)):=(by unfold Addr.add;split<;>simp_all);have q:b/3<a:=O;rw[M,y.cell (p:=(J n (d+b))) (j.lt O)];unfold Zbi
   rcases(show b%3=0∨b%3=1∨b%3=2 by omega) with o|o|o
   rw[aD o,show d+b=d+b/3*3 by omega];exact j.t _ q;rw[aC O,aD o,show d+b=d+b/3*3+1 by omega];exact j.D _ q;rw[aC O,aC O,show d+b=d+b/3*3+2 by omega];exact j.G _ q
  have a3:∀r∈g,r.oneCell'=Z0:=λr S=>by rw[D] at S;obtain⟨b,_,rfl⟩:=mem_map.1 S;unfold Zbi;split;rfl;split<;>rfl
  have R:=Vz (P:=Y8) 35 35 3 (a+8) _ a s underlying35 a2 A (by rw[N,a5,a1]) a4 O a3;rw[N] at R;refine⟨_,R,?_,below_setRow y x_ _⟩;refine⟨_,(setRow_heap _ _ _ _ _ _ A),w_,λi q=>?_⟩
  have o:∀b,(ZU 0 (Y4 e)++g++ZF (0+F g) (Y4 e)).toArray[b]? =if b<a*3 then g[b]? else e[b]?:=λb=>by
   simp only[take_zero,nil_append,Nat.zero_add,getElem?_toArray]
   by_cases hj:b<a*3
   ·grind
   grind
  rw[o,o,o];unfold Tj
  by_cases M:i<a
  rw[aD (show i*3<a*3 by omega),aD (show i*3+1<a*3 by omega),aD (show i*3+2<a*3 by omega),aD M,t _ O,t _ O,t _ O];unfold Zbi;refine⟨?_,?_,?_⟩;rw[aD O,show i*3/3=i by omega];rw[aC O,aD O,show(i*3+1)/3=i by omega];rw[aC O,aC O,show(i*3+2)/3=i by omega];rw[aC (show ¬i*3<a*3 by omega),aC (show ¬i*3+1<a*3 by omega),aC (show ¬i*3+2<a*3 by omega),aC M,aC (show ¬i<a+0 by omega)];exact G i q
 clear G W j u L;refine q_ ?_;go_upto_region 6 with fail;go_loopw [4] (λg o=>∃b:H,b<=8/\g=ZX ZQ ((a+b:H):E)/\K (gv o (B c.1) (a+8) (Tj a m l h b))/\K (E_ c o)) (λg _=>a+8-ZL (ZA g))
 exact⟨0,O,s_,x,z⟩;clear x z a0 P;obtain⟨b,a1,rfl,g,r⟩:=hrel
 by_cases a3:b<8
 ·have⟨k,o⟩:=Z_ (a+b);have A:K (gv (ZO (ZO (ZO wr (J (B c.1) (k*3)) (ZR ZZ)) (J (B c.1) (k*3+1)) (I 0)) (J (B c.1) (k*3+2)) (I (-7-k))) (B c.1) (a+8) (Tj a m l h (b+1))):=(by refine(g.put (k:=k) O).congr (λi _=>?_);rw[ZhA,o]);have y:K (Below _ c (ZO (ZO (ZO wr (J (B c.1) (k*3)) (ZR ZZ)) (J (B c.1) (k*3+1)) (I 0)) (J (B c.1) (k*3+2)) (I (-7-(k:E))))):=((r.setCell x_ _).setCell x_ _).setCell x_ _;have⟨M,N,R,S⟩:=g.cells (i:=k) O;have D:k<(a:E)+8:=O;have t:=Y o;rw[o];clear o g r;go_wp2;go_roundw;exact⟨b+1,O,by rw[<- Nat.add_assoc,t];go_num,A,y⟩;have:=t.out;simp[ZA];omega
 have o:b=8:=O;subst o;go_wp2;go_ret;exact⟨X,g,r⟩
def stF(d:H)(f:H->ZG)(e b:H->E)(c a:H):ZG×E×E:=if a<c then(ZZ,0,-9) else Tj d f e b 8 a
def ZlB d f e c b a:stF d f e c (b+1) a=if a=b then(ZZ,0,-9) else stF d f e c b a:=by grind [stF]
def Zp{h b x f e d c g}(G:Du g h.block h.off b e d c)(M:0<b->h=(J h.block h.off))(a6:b<=2097152)(P:gv g f (b+8) (Tj b e d c 8))(N:0<b->h.block≠f):C_ 124 #[L_ f b (b+8),V (T h) b x] g λj k=>j=ZI (ZR Z0)/\Aa (λa=>a=f) g k:=by
 obtain⟨j,R,Q⟩:=h
 have z:K _:=λS=>by have:=M S;injection this
 have o:=Y G;have a7:∀q:_,(binOp _ _ _ _).run _ q=.ok (ZR ZZ) q:=λq=>run_eql_slice_nil q 35 _ (T ⟨j,R,Q⟩) b x 0 0 underlying35;refine q_ ?_;go_upto_region 6 with fail;go_loopw [6,7] (λm k l=>∃a:H,a<=b+8/\m=ZR Z0/\k=ZX ZQ a/\K (gv l f (b+8) (stF b e d c a))/\K (Aa (λa=>a=f) g l)) (λ_ k _=>b+8-ZL (ZA k))
 exact⟨0,v_,X,X,(P.congr (λi _=>by unfold stF;rw[aC O])),Aa.refl _ _⟩;obtain⟨a,a5,rfl,rfl,w,k⟩:=hrel
 by_cases y:a<b+8
 ·have W:0<=(a:E):=O;have a0:a<(b:E)+8:=O;have⟨l,m,n,a1⟩:=w.cells (i:=a) y;have D:stF b e d c a a=Tj b e d c 8 a:=(by unfold stF;grind);rw[D] at l m n
  have p:K (∀s,_/\Aa _ g (ZO (ZO (ZO (Y1 wr s) _ (ZR ZZ)) _ (I 0)) _ (I (-9)))):=λs=>
   ⟨((w.q (below_drewN y_ s)).put y).congr (λi _=>ZlB b e d c a i),(((k.q (below_drewN y_ s)).setCell (p:=(J f (a*3))) (λ_=>X) _).setCell (p:=(J f (a*3+1))) (λ_=>X) _).setCell (p:=(J f (a*3+2))) (λ_=>X) _⟩
  by_cases r:a<b
  ·have A:a<(b:E):=O;have t:Tj b e d c 8 a=(e a,d a,c a):=(by unfold Tj;rw[aD r]);rw[t] at l m n;simp only at l m n;have u:=o.lt O;have v:=(Y N) O;have L:=z O;subst L;have a2:=(cb_ (w:=g) (a:=(J j _)) (k.block j u v)).T (o.t a r);have a3:=(cb_ (w:=g) (a:=(J j _)) (k.block j u v)).T (o.D a r);have a4:=(cb_ (w:=g) (a:=(J j _)) (k.block j u v)).T (o.G a r);generalize e a=b0,d a=a9,c a=a8 at *;go_upto_region 9 with fail;go_quiet (fail);refine J_ ?_;exact⟨a+1,O,s_,g_,(p _).1,(p _).2⟩
  have A:¬a<(b:E):=O;have t:Tj b e d c 8 a=(ZZ,0,-7-(a:E)):=(by unfold Tj;grind);rw[t] at l m n;simp only at l m n;refine J_ ?_;exact⟨a+1,O,s_,g_,(p 0).1,(p 0).2⟩
 have l:¬a<(b:E)+8:=O;go_wp2;go_ret;exact⟨X,k⟩
section
variable {w w':ZT} {base n c:H} {a:Y0 Addr} {o:ZY} {wd:H->ZG} {sc ct:H->E}
def Mw(w:ZT)(base:H)(o:ZY)(a:Y0 Addr)(n:H)(wd:H->ZG)(sc ct:H->E):Prop:=
 (a=ZP/\n=0/\o=ZH ZP 0 0)∨∃c b,a=T c/\o=L_ b n (n+8)/\base<=b/\b<B w.1/\gv w b (n+8) (Tj n wd sc ct 8)
def Mw.p{S}(b:Mw w base o a n wd sc ct)(f:Aa S w w')(k:∀e,base<=e->¬S e):Mw w' base o a n wd sc ct:=by
 rcases b with b|⟨l,c,g,h,d,i,j⟩
 exact ZM b;exact ZJ ⟨l,c,g,h,d,Qh i f.size,j.p f (k c d)⟩
def Mw.D(e:Mw w base o a n wd sc ct){b}(c:ZW o=T b):base<=b/\b<B w.1:=by
 rcases e with⟨_,_,rfl⟩|⟨h,d,_,rfl,f,g,_⟩
 ·cases c
 have:T d=T b:=c
 grind
def Mw.q(b:Mw w base o a n wd sc ct)(c:E_ w w'):Mw w' base o a n wd sc ct:=by
 rcases b with b|⟨j,d,e,f,g,h,i⟩
 exact ZM b;exact ZJ ⟨j,d,e,f,g,Qh h c.size,i.q c⟩
def Mw.d(d:Mw w base o a n wd sc ct):∃b c,o=ZH b n c:=by
 rcases d with⟨_,rfl,rfl⟩|⟨f,e,_,rfl,_⟩
 ·grind
 grind
def Mw.h{b c}(e:Mw w base (V b n c) a n wd sc ct)(i:n<=2097152):Ed w b n wd sc ct:=by
 rcases e with⟨_,f,_⟩|⟨k,d,_,h2,_,_,g⟩
 exact ZM f;injection h2 with h2;exact ZJ ⟨d,0,h2,g.c O (by unfold Y2;omega) (λj h=>by unfold Tj;rw[aD h])⟩
def cd{n c w}:C_ 122 #[V ZP n c] w (V_ (ZH ZP 0 0) w):=by have b:∀a:_,(binOp _ _ _ _).run _ a=.ok (ZR Z0) a:=λa=>run_eql_slice_nil a 35 _ ZP n c 0 0 underlying35;refine er_ ?_;exact⟨X,X⟩
def Zq{o n c w}:C_ 124 #[o,V ZP n c] w (V_ (ZR Z0) w):=by have b:∀a:_,(binOp _ _ _ _).run _ a=.ok (ZR Z0) a:=λa=>run_eql_slice_nil a 35 _ ZP n c 0 0 underlying35;refine er_ ?_;exact⟨X,X⟩
def Ed.at{a}(b:Ed w (T a) n wd sc ct)(g:n<=2097152):Du w a.block a.off n wd sc ct/\(0<n->a=(J a.block a.off)):=by
 rcases b with rfl|⟨d,h,e,f⟩
 exact⟨⟨O,λb=>O,λi c=>O,λi c=>O,λi c=>O⟩,λb=>O⟩
 grind
def ux{a n c m l k w}(d:Ed w a n m l k)(f:n<=2097152):C_ 122 #[V a n c] w λb w'=>∃o,b=ZI o/\Mw w' (B w.1) o a n m l k/\E_ w w':=by
 cases a with
 | none=>
  apply (cd).m;rintro b w' ⟨rfl,rfl⟩;refine⟨_,X,ZM ⟨X,?_,X⟩,y_⟩
  rcases d with d|⟨_,_,b,_⟩
  exact d
  cases b
 | some j=>
  have⟨g,h⟩:=d.at f;apply (ca g h f).m;rintro b w' ⟨rfl,e,i⟩;exact⟨_,X,ZJ ⟨j,B w.1,X,X,x_,e.lt,e⟩,i⟩
def qb{a n c s v t u o w}(g:Mw w s o a n v t u)(l:Ed w a n v t u)(r:∀d,a=T d->0<n->d.block<s)(e:n<=2097152):C_ 124 #[o,V a n c] w λb w'=>b=ZI (ZR Z0)/\Aa (λf=>ZW o=T f) w w':=by
 rcases g with⟨rfl,rfl,rfl⟩|⟨d,m,rfl,rfl,p,q,j⟩
 ·apply (Zq).m
  grind [Aa.refl]
 have⟨h,i⟩:=l.at e;apply (Zp h i e j (λb=>w_)).m;rintro b w' ⟨rfl,k⟩;exact⟨X,k.m (λf _ b=>by subst b;rfl)⟩
end
def Nw(b:U E)(a:U Cd):Prop:=Bc a/\∀c∈a,c.v∈b
def Nw.nil{a}:Nw a []:=⟨Bc.nil,s_⟩
def Nw.y{U a}(b:Nw U a):F a<=F U:=b.1.y b.2
def ZnN(i:U E)(e:H)(j:YZ ZY)(l:E)(g:ZT)(k:Ending)(b:ZT):Prop:=
 k=ZI (ZR Z0)/\∃d c f,Wi b e d c f/\(∀h∈c,Nw i h)/\f<=l+1/\(∀a,a≠0->a≠4->a≠5->a≠12->d[a]? =j[a]?)/\Below e g b/\Zfl g b
def Rs.p{S k w' d b c i e l}(a:Rs k d b c i e l)(j:Aa S k w')(v:∀h,ZW b=T h->¬S h):Rs w' d b c i e l:=by
 rcases a with a|⟨w,f,n,g,o,p,q,r,m,s,t,u⟩
 exact ZM a;exact ZJ ⟨w,f,n,g,o,Qh p j.size,q,r,m,j.g s (v f (by rw[g];rfl)),t,u⟩
def Hh{d e c}(a:Y3 d e c):Aa (λb=>T b=c) d e:=⟨a.os,a.tape,a.output,a.size,λb f g=>a.block b f g⟩
def Fa{h i c f j}(k:Ck h c f j){b}(a:Below b h i)(n:∀d g,c=T ⟨d,g,ZP⟩->0<f->d<b):Ck i c f j:=
 k.p (S:=λe=>b<=e) ⟨a.os,a.tape,a.output,a.size,λe _ p=>a.block e O⟩ (λd g l m o=>w_)
def Up{f b d g}(c:Ck f b d g):∀a e,b=T ⟨a,e,ZP⟩->0<d->a<B f.1:=λa e i k=>by
 rcases c.2.2 with c|⟨h,m,j,l,_⟩
 omega
 grind
def Zib{i m f}(d:Ej (Ao i m) f){g:U E}(p:∀j∈i,Ey j∈g):∀a∈Bo 0 f,a.v∈g:=by
 intro a k
 have⟨_,_,_,c,b,n,_⟩:=pe (λc b=>by
  rw[d.g c b];have⟨h,e,a⟩:=d.e c b;rw[<- a]
  exact ZlP (λo l=>(Jm l).1.1) h e) a k
 have⟨h,e,l⟩:=d.e c b;have⟨_,_,j,q,o⟩:=Jm e
 grind
def Rr.p{S i w' f c e g d}(b:Rr i f c e g d)(q:Aa S i w')(o:∀a,ZW c=T a->¬S a):Rr w' f c e g d:=by
 rcases b with b|⟨p,j,k,h,l,m⟩
 exact ZM b;exact ZJ ⟨p,j,k,h,l,q.M m (λa n=>o a (h ▸ n))⟩
def yr{g c b}(e:Cj g c b):∀a f,c=T ⟨a,f,ZP⟩->0<F b->a<B g.1:=λa f h i=>by
 rcases e.2 with e|⟨k,l,d,j⟩
 omega;rw[h] at d;simp at d;have:=j.lt i;omega
def Il{h i d c}(b:Cj h d c){f}(g:Below f h i)(l:∀a e,d=T ⟨a,e,ZP⟩->0<F c->a<f):Cj i d c:=by
 refine⟨b.1,?_⟩
 rcases b.2 with b|⟨a,e,rfl,k⟩
 exact ZM b;exact ZJ ⟨a,e,X,k.block g.size (λj=>g.block a (l a _ X j))⟩
def lr{e a b c}(d:Cj e a b)(j:a=ZP->c=0):a=ZP->b=[]/\c=0:=λg=>by
 rcases d.2 with d|⟨f,k,h,i⟩
 ·grind
 grind
def ZnN.a{f g b d e i a}(h:Wi e g b a d)(k:∀j∈a,Nw f j)(c:E_ e i):ZnN f g b d e (ZI (ZR Z0)) i:=
 ⟨X,b,a,d,h.q c,k,O,λ_ _ _ _ _=>X,c.m (Nat.le_of_lt h.lt),Zfl.a c⟩
structure Cu where
 k:H
 z:ZG
def Pd(d:ZT)(c:H)(b:ZC)(a:Cu):Prop:=d.1[c]? =T (O_ #[Q_ b,I a.k,ZR a.z] 288)
def Lj(c:U E)(b:H)(a:Cu):Cu×U E:=if a.z=ZZ/\a.k+b<=F c then(⟨a.k+b,ZZ⟩,ZU b (ZF a.k c)) else(⟨a.k,Z0⟩,Y6 b 0)
def Cx(b:U E)(c:E)(a:Cu):Cu×H:=if c<aa (Lj b 1 a).2 then(⟨(Lj b 1 a).1.k,Z0⟩,0) else((Lj b 1 a).1,aa (Lj b 1 a).2)
def Tz{a:U E}{n}{b:Cu}(c:b.k<=F a):(Lj a n b).1.k<=F a:=by unfold Lj;grind
def Ic{a:U E}{d}{b:Cu}(c:b.k<=F a):(Cx a d b).1.k<=F a:=by have:=Tz (n:=1) c;unfold Cx;split<;>simpa
theorem Ij(c:U E) a b:F (Lj c a b).2=a:=by unfold Lj;grind
def Np{b:U E}(e:∀a∈b,0<=a/\a<256) d c:∀a∈(Lj b d c).2,0<=a/\a<256:=λa f=>by grind [Lj]
def Jl{c:U E}(e:∀d∈c,0<=d/\d<256) a b:(Cx c a b).2<256/\(0<=a->((Cx c a b).2:E)<=a):=by
 have f:=bp _ (Np e 1 b);rw[Ij] at f;unfold Cx
 grind
def ZmL(b:ZC)(a c:H):ZB (ZU c (ZF a (Ab b)))=b.extract a (a+c):=by
 have e:Ab (b.extract a (a+c))=ZU c (ZF a (Ab b)):=by
  unfold Ab
  grind [ByteArray.data_extract,Array.toList_extract,map_drop,map_take]
 rw[<- e];generalize b.extract a (a+c)=d
 cases d with
 | mk f=>
  unfold ZB Ab;congr 1;apply Array.ext';simp[map_map,Function.comp_def]
def St{a:U E}(c:∀b∈a,0<=b/\b<256):Ab (ZB a)=a:=by
 unfold Ab ZB;simp only[map_map]
 conv=>rhs;rw[<- map_id a]
 grind [map_congr_left,UInt8.toNat_ofNat']
def Pd.g{b a d e}(f:Pd b a d e):Pd (ZO b (J a 2) (ZR Z0)) a d ⟨e.k,Z0⟩/\Aa (λc=>c=a) b (ZO b (J a 2) (ZR Z0)):=
 ⟨hs_ _ a 2 _ 288 _ f,(Aa.refl (λc=>c=a) _).setCell (p:=(J a 2)) (λ_=>X) _⟩
def Pd.drewN{d c a b}(e:Pd d c a b) f:Pd (Y1 d f) c a b:=by unfold Pd;rw[heap_drewN];exact e
def Pd.q{d w' c a b}(e:Pd d c a b)(f:E_ d w'):Pd w' c a b:=(Aa.a (S:=λ_=>False) f).g e id
def Iw c (a:H)(b:ZC)(j:Cu) d (g:Pd d c b j)(v:a<=1000000)(M:ZK b<=4000000)(x:j.k<=ZK b):C_ 182 #[P_ c,I a] d λk e=>k=ZI (YW (ZB (Lj (Ab b) a j).2))/\Pd e c b (Lj (Ab b) a j).1/\Aa (λh=>h=c) d e:=by
 obtain⟨e,q⟩:=j;have r:=n_ 0 g;have n:=n_ 1 g;have o:=n_ 2 g;simp only at x n o;have s:=R_ 1 _ _ g;have t:=R_ 2 _ _ g;have u:F (Ab b)=ZK b:=(by simp[Ab]);have⟨f,l⟩:=Z_ (e+a);have N:i64.wrap ((e:E)+a)=f:=by rw[Au O O];omega
 by_cases p:q=ZZ/\f<=ZK b
 ·obtain⟨rfl,L⟩:=p;have m:K (Lj (Ab b) a ⟨e,ZZ⟩=(⟨f,ZZ⟩,ZU a (ZF e (Ab b)))):=(by rw[<- l];exact aD ⟨X,w_⟩);have w:K (ZB (ZU a (ZF e (Ab b)))=b.extract e f):=(by rw[<- l];exact ZmL b e a);have i:K (∀a,Pd (ZO (Y1 d a) (J c 1) (I f)) c b ⟨f,ZZ⟩/\Aa (λh=>h=c) d (ZO (Y1 d a) (J c 1) (I f))):=λa=>⟨ht_ 1 _ _ _ (g.drewN a),((Aa.refl (λh=>h=c) d).drewN a).setCell (p:=(J _ 1)) (λ_=>X) _⟩;have P:i64.wrap ((f:E)-a)=e:=(by rw[Au O O];omega);have A:0<=(e:E):=O;have D:e<=(f:E):=O;have G:f<=(ZK b:E):=O;clear g u l;refine q_ ?_;go_wp2_with fail
  go_quiet (fail);go_upto_region 5 with fail;have h:=i nq;have y:=n_ 0 h.1;have z:=n_ 1 h.1;clear i r n o s t;generalize (ZO (Y1 d nq)) _ _=k at *;go_quiet (fail);go_wp2;go_ret;rw[m,w];exact⟨X,h.1.drewN _,h.2.drewN _⟩
 have m:K (Lj (Ab b) a ⟨e,q⟩=(⟨e,Z0⟩,Y6 a 0)):=aC (λk=>p ⟨k.1,w_⟩);have i:K (∀a,Pd (ZO (Y1 d a) (J c 2) (ZR Z0)) c b ⟨e,Z0⟩/\Aa (λh=>h=c) d (ZO (Y1 d a) (J c 2) (ZR Z0))):=λa=>⟨ht_ 2 _ _ _ (g.drewN a),((Aa.refl (λh=>h=c) d).drewN a).setCell (p:=(J _ 2)) (λ_=>X) _⟩;have z:=Rd a v;clear g u l;refine q_ ?_;go_wp2_with fail
 go_cut [22] (λh k=>h=ZR Z0/\∃nq,k=Y1 d nq)
 case first=>
  cases q
  ·have h:=Nat.lt_of_not_le (λk=>p ⟨X,k⟩);go_quiet (fail);go_wp2;go_meet
   grind
  go_quiet (fail);go_wp2;go_meet
  grind
 obtain⟨rfl,nq,w⟩:=hcut;subst w;go_upto_region 3 with fail;have h:=i nq;clear i r n o s t;generalize (ZO (Y1 d nq)) _ _=k at *;have y:=Pn _ _ (Rb a k _ v x_);go_wp2;go_ret;rw[m];exact⟨X,h.1.q r_,h.2.alloc _⟩
def Cl e (c:E)(a:ZC)(b:Cu) g (o:Pd g e a b)(u:ZK a<=4000000)(t:b.k<=ZK a):C_ 183 #[P_ e,I c] g λm d=>m=ZI (ZX ZQ (Cx (Ab a) c b).2)/\Pd d e a (Cx (Ab a) c b).1/\Aa (λf=>f=e) g d:=by
 have n:=Iw _ 1 a b g o C u t;have k:=Uu (ZB (Lj (Ab a) 1 b).2);have A:ZK (ZB (Lj (Ab a) 1 b).2)=1:=(by rw[Bi,Ij]);rw[St (Np (Qq a) 1 b)] at k;have⟨x,l⟩:=ez_ (Cx (Ab a) c b);rw[l];have d:=Y l.s;unfold Cx at d;clear o l;generalize Lj (Ab a) 1 b=w at *;generalize aa w.2=r at *;refine q_ ?_;go_wp2_with fail
 apply n.m;rintro m D ⟨rfl,f,q⟩;have i:=K_ f q;clear n q;have z:=R_ 2 _ _ f;have y:=n_ 2 f;clear f;go_wp2_with fail
 apply (k _ O).m;rintro m G ⟨rfl,v⟩;obtain rfl:=v.s;clear k
 by_cases p:c<r
 ·have j:=Y (d.T (aD p));have h:=i.1.g;have s:=K_ h.1 (i.2.T h.2);clear d h;go_wp2;go_ret;rw[j];exact⟨X,s⟩
 have j:=Y (d.T (aC p));have h:¬(r:E)>c:=O;clear d;go_wp2;go_ret;rw[j];exact⟨X,i⟩
def Pl{a:ZT}{b c}(d:B a.1=c):(ZN a b).1[c]? =T b:=by subst d;exact ha_ a b
def OpR.q{d w' c}(a:OpR d c)(b:E_ d w'):OpR w' c:=
 ⟨a.A,a.vl,a.d,a.c.q b,Fa a.f b (Up a.f),Fa a.o b (Up a.o),a.e,a.g⟩
end Go.Proofs.YtfcgnpchbcmdeaaGreat
namespace Go.Proofs.YtfcgnpchbcmdeaaGreat
set_option linter.all false
set_option maxRecDepth 100000
set_option maxHeartbeats 4000000
open Go.ChangeShapes Go.WideShapes Go.ChangeAt Go.RowKit List Nat Go.World Go.Proofs.Tryz Go.Value Go.IntKind Go.Lib Go.Region
open Go.Deep
def ZjB{b}(a:DataW b):1<=Rows.uptoBulk a:=by
 cases a with
 |lit c=>cases c<;>simp[Rows.uptoBulk]
 |_=>simp[Rows.uptoBulk]
def Xy{b}:∀a:U (DataW b),F a<=Rows.uptoBulkAll a
 |[]=>s_
 |c::d=>by have:=ZjB c;have:=Xy d;simp[Rows.uptoBulkAll];omega
def ZaY{d}:∀c (a:DataW d),a∈c->Rows.uptoBulk a<=Rows.uptoBulkAll c
 |[],a,b=>by cases b
 | f::e,a,b=>by
  simp only[Rows.uptoBulkAll]
  rcases mem_cons.1 b with rfl|b
  omega;have:=ZaY e a b;omega
def tz{f}(b:H->DataW f)(c:H->U E):∀d:U H,(∀a∈d,F (c a)<=Rows.uptoBulk (b a))->F (d.flatMap c)<=Rows.uptoBulkAll (d.map b)
 |[],_=>s_
 |a::i,e=>by have j:=e a s_;have k:=tz b c i (λh g=>e h (by simp[g]));simp only[flatMap_cons,Qe,map_cons,Rows.uptoBulkAll];omega
section
variable {H:Type} {enc:TypeId×ZY->H} {w:ZT} {a:ZG}
def vk{q f x}(h:DataW.trod enc Y8 w 0 (λ_=>Z0) a q 25 f=T x):∃c b d e,f=[V c b d]/\b<=Y2/\Ck w c b e/\(c=ZP->b=0/\d=0)/\b<=Rows.uptoBulk x.1:=by
 rcases open_ints underlying25 underlying3 au h with⟨rfl,_⟩|⟨c,b,d,e,rfl,_,u,v,o,n,l,m⟩
 exact⟨ZP,0,0,[],X,O,⟨X,s_,ZM X⟩,λ_=>⟨X,X⟩,v_⟩;simp only[if_true] at o;have j:b<=Rows.uptoBulk x.1:=(by rw[n];simp only[Rows.uptoBulk];have:=Xy (lits (H:=H) ZQ (ZU b e));simp[lits] at this;simp[lits] at *;omega);refine⟨T c,b,d,ZU b e,X,O,⟨t_,λs p=>m s (aL p),?_⟩,s_,j⟩
 by_cases i:b=0
 exact ZM i;right;obtain⟨g,r,rfl,k⟩:=ints_at l O;refine⟨g,r,X,ji (k 0 O),λy t=>?_⟩
 grind
end
end Go.Proofs.YtfcgnpchbcmdeaaGreat
