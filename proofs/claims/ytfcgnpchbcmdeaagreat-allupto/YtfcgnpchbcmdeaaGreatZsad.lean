import Derived.Test.YtfcgnpchbcmdeaaGreatHdc
open _root_ renaming Nat->H,Array->YZ,Bool->ZG,List->U,rfl->X,Int->E,List->Z1,Option->Y0,rfl->Z7
open Go renaming World->ZT,Value->ZY,maxLen->Y2
open Bool renaming true->Z0,false->ZZ
open Array renaming setIfInBounds->YS,size->B,toList->Y4
open Option renaming some->T,none->ZP
open Or renaming inr->ZJ,inl->ZM
open Go.World renaming drew->YY,cell?->ZV,alloc->ZN,ownsRow->ZD,grownBy->Y3,drewN->Y1,frozen?->YT,setCell->ZO
open Go.Proofs.Tryz renaming prog->Y8
open Go.Obj renaming cells->YU
open Go.Ending renaming returned->ZI
open Decidable renaming decide->ZE
open List renaming length->F,getD->Z,take->ZU
open Go.Value renaming ownBlock->ZW,slice->ZH,bool->ZR,agg->Y9,int->ZX
open Int renaming toNat->ZL
open Go.IntKind renaming i64->ZQ
namespace Go.Proofs.YtfcgnpchbcmdeaaGreat
set_option linter.all false
set_option maxRecDepth 100000
set_option maxHeartbeats 4000000
open Go List Nat Go.World Go.Proofs.Tryz Go.Value Go.IntKind Go.Lib Go.Region
section
variable {P:Program} {a:YZ Oper} {Q:Exit->Act->ZT->Prop} {b:Region.Mode} {S:ZT->Prop} {c:H}
def Db(P:Program)(b:Region.Mode)(a:YZ Oper)(Q:Exit->Act->ZT->Prop)(S:ZT->Prop)(c:H):H->YZ ZG->Act->ZT->Prop
 |0,d,e,f=>ready b a d=[]/\Q .normal e f
 | j+1,d,e,f=>
  (ready b a d=[]->Q .normal e f)/\
  ∀g∈ready b a d,wpOp P a Q g (λi h=>((YS d g Z0).getD c ZZ=Z0∨S h)/\Db P b a Q S c j (YS d g Z0) i h) e f
def qy:∀(d:H)(g:YZ ZG)(f:Act)(h:ZT),Db P b a Q S c d g f h->wpAny P b a Q d g f h
 |0,_,_,_,e=>e
 |d+1,_,_,_,e=>⟨e.1,λl k=>wpOp_mono (λi m j=>qy d _ i m j.2) (e.2 l k)⟩
def nh(b:Region.Mode)(a:YZ Oper)(g:YZ ZG)(f:H)(d:U H):ZG:=
 d.all λe=>!g.getD e Z0&&((a[e]?).map λh=>h.after.any λc=>binds b c&&(c.on==f||d.contains c.on)).getD ZZ
structure Zda(b)(a:YZ Oper)(h:YZ ZG)(g)(c:U H):Prop where
 j:∀e∈c,h.getD e Z0=ZZ
 i:∀e∈c,∃f,a[e]? =T f/\∃d∈f.after,binds b d=Z0/\(d.on=g∨d.on∈c)
def Zhy{f e c}(d:nh b a f e c=Z0):Zda b a f e c:=by
 unfold nh at d;rw[all_eq_true] at d;refine⟨λh g=>?_,λh g=>?_⟩
 ·grind
 grind
def Zbq{b:YZ ZG}{a}(c:b.getD a Z0=ZZ):b.getD a ZZ=ZZ:=w_
def Zda.d{d h e}(g:Zda b a d h e)(q:d.getD h Z0=ZZ){c}(m:c∈e):c ∉ ready b a d:=λp=>by
 obtain⟨_,r,n,j⟩:=mem_ready.1 p;obtain⟨s,ho',i,l,k,o⟩:=g.i c m;rw[n] at ho';injection ho' with ho';subst ho';have:=j i l k
 rcases o with f|f
 ·grind
 rw[Zbq (g.j _ f)] at this;cases this
def Zda.set{h f d c}(e:Zda b a h f c)(k:d ∉ c):Zda b a (YS h d Z0) f c:=
 ⟨λg i=>by
  have j:d≠g:=w_
  rw[getD_set_ne Z0 j];exact e.j g i,e.i⟩
def Zav{f l M u}(L:c∈u)(D:a[f]? =T l)(a1:∀(e:H) a2 z n,a[e]? =T a2->a2.op≠ .select z n)(a6:∀N g j,Q (.panic N) (g.put l.dst M) j->Q (.panic N) g j):∀o i g j,(∀e s,a[e]? =T s->e≠f->i.getD e Z0=ZZ->(∀d∈s.after,binds b d=Z0->d.on≠f)->l.apart a s=Z0)->f∈ready b a i->Zda b a i f u->YieldsIf P a S l M g->S j->Db P b a Q S c o (YS i f Z0) (g.put l.dst M) j->Db P b a Q S c (o+1) i g j:=by
 intro o
 induction o with
 | zero=>
  intro i g j _ x _ y p m;refine⟨λa3=>w_,λe q=>?_⟩
  by_cases h:e=f
  subst h;exact y.wpOp D p ⟨ZJ p,m⟩;have:=ready_mono q h;rw[m.1] at this
  cases this
 | succ o b6=>
  intro i g j W x w y p m;have r:=(mem_ready.1 x).1;refine⟨λa3=>w_,λe q=>?_⟩
  by_cases h:e=f
  subst h;exact y.wpOp D p ⟨ZJ p,m⟩;have a4:=m.2 e (ready_mono q h);obtain⟨a9,s,G,b9⟩:=mem_ready.1 q;have a0:e ∉ u:=λd=>w.d r d q;have a8:f ∉ u:=λd=>w.d r d x;have b4:f≠_:=λd=>a8 (d ▸ L);have b5:e≠_:=λd=>a0 (d ▸ L);have b3:∀d∈s.after,binds b d=Z0->d.on≠f:=w_;have a5:=wpOp_putIf G (W e _ G h a9 b3) (λz n=>a1 f _ _ n D) (λz n=>a1 e _ _ n G) a6 y a4
  have a7:∀k t,a[k]? =T t->k≠f->(YS i e Z0).getD k Z0=ZZ->
    (∀d∈t.after,binds b d=Z0->d.on≠f)->l.apart a t=Z0:=λk t b0 b1 r b2=>by
   refine W k t b0 b1 ?_ b2
   by_cases v:e=k
   ·grind
   rw[getD_set_ne Z0 v] at r;exact r
  refine wpOp_mono (λb8 b7 A=>?_) a5
  have R:S b7:=by
   rcases A.2.1 with v|v
   ·rw[getD_set_ne ZZ b5,getD_set_ne ZZ b4,Zbq (w.j c L)] at v
    cases v
   exact v
  refine⟨ZJ R,b6 _ _ _ a7 (ready_mono x (Ne.s h)) (w.set a0) A.1 R ?_⟩;rw[Array.setIfInBounds_comm _ _ h];exact A.2.2
def ZcW{f h i l g d e} j (m:a[f]? =T h)
  (t:noSelect a=Z0) (r:free b a g f=Z0) (s:(ready b a g).contains f=Z0) (u:j.contains c=Z0) (o:nh b a g f j=Z0)
  (p:∀k d e,Q (.panic k) (d.put h.dst i) e->Q (.panic k) d e) (v:YieldsIf P a S h i d) (q:S e)
  (n:Db P b a Q S c l (YS g f Z0) (d.put h.dst i) e):=
 Zav (by simpa using u) m (noSelect_spec t) p l g d e (free_spec m r) (by simpa using s) (Zhy o) v q n
def Fr{g d h}(f:ready b a g=[])(e:Q .normal d h):∀i,Db P b a Q S c i g d h
 |0=>⟨f,e⟩
 |_+1=>⟨λ_=>e,by rw[f];simp⟩
def Zfg{i g k j e d}(q:ready b a j=[i])(p:a[i]? =T g)(m:∀f:Act->ZT->Prop,Shut (∀e d,S d->(S d->Db P b a Q S c k (YS j i Z0) e d)->f e d)->if wanted g (yielded a e.tmps)=Z0 then Oper.wp P g e d f Q else f (e.put g.dst undef) d):Db P b a Q S c (k+1) j e d:=by refine⟨λr=>w_,λs h=>?_⟩;rw[q] at h;simp only[mem_cons,not_mem_nil,or_false] at h;subst h;exact wpOp_step p (λf n=>m _ (λe d l o=>n e d ⟨ZJ l,o l⟩))
def ZcV{g i k h d e}(p:ready b a h=[g])(o:a[g]? =T i)(q:(YS h g Z0).getD c ZZ=Z0)(l:∀f:Act->ZT->Prop,Shut (∀d e,Db P b a Q S c k (YS h g Z0) d e->f d e)->if wanted i (yielded a d.tmps)=Z0 then Oper.wp P i d e f Q else f (d.put i.dst undef) e):Db P b a Q S c (k+1) h d e:=by refine⟨λr=>w_,λs j=>?_⟩;rw[p] at j;simp only[mem_cons,not_mem_nil,or_false] at j;subst j;exact wpOp_step o (λf m=>l _ (λd e n=>m d e ⟨ZM q,n⟩))
def Af{h d b} S c (g:P.follows .mixedOrders=Z0)(f:S (YY b))(e:S (YY b)->Db P .any a Q S c (B a) (Array.replicate (B a) ZZ) d (YY b)):(Code.region h a Z0).wp P Q d b:=
 wp_region_any g (qy _ _ _ _ (e f))
end
section
variable {P:Program} {a:YZ Oper} {Q:Exit->Act->ZT->Prop} {b:Region.Mode} {S:ZT->Prop} {c:H}
def Mj{i g v k f d e} h (u:(Y4 a)[i]? =T g)
  (r:noSelect a=Z0) (p:free b a f i=Z0) (q:(ready b a f).contains i=Z0) (s:h.contains c=Z0) (m:nh b a f i h=Z0)
  (n:∀j d e,Q (.panic j) (d.put g.dst v) e->Q (.panic j) d e) (t:YieldsIf P a S g v d) (o:S e)
  (l:Db P b a Q S c k (YS f i Z0) (d.put g.dst v) e):=
 ZcW h w_ r p q s m n t o l
def gq{h f j i e d}(l:ready b a i=[h])(m:(Y4 a)[h]? =T f)
  (k:∀g:Act->ZT->Prop,Shut (∀e d,S d->(S d->Db P b a Q S c j (YS i h Z0) e d)->g e d)->if wanted f (yielded a e.tmps)=Z0 then Oper.wp P f e d g Q else g (e.put f.dst undef) d):=Zfg l w_ k
def Ew{i f j h d e}(l:ready b a h=[i])(n:(Y4 a)[i]? =T f)(m:(YS h i Z0).getD c ZZ=Z0)
  (k:∀g:Act->ZT->Prop,Shut (∀d e,Db P b a Q S c j (YS h i Z0) d e->g d e)->if wanted f (yielded a d.tmps)=Z0 then Oper.wp P f d e g Q else g (d.put f.dst undef) e):=ZcV l w_ m k
end
section
variable {P:Program} {ops:Array Oper} {Q:Exit->Act->World->Prop} {md:Region.Mode} {S:World->Prop} {stop:Nat}
def tkM{e:Oper}{v:Value}{d:Nat}{b:Array Bool}{a:Act}{w:World}(W:List Nat)(i:Nat)(y:∀w,S w->(execOp a.eval e).run P w=.ok (.value v) w)(h:Db P md ops Q S stop d (b.setIfInBounds i true) (a.put e.dst v) w)(f:ops.toList[i]? =some e:=by rfl)(hs:noSelect ops=true:=by kernel_rfl)(hf:free md ops b i=true:=by kernel_rfl)(hr:(ready md ops b).contains i=true:=by kernel_rfl)(hstop:W.contains stop=true:=by kernel_rfl)(hL:nh md ops b i W=true:=by kernel_rfl)(hQ:∀c a w,Q (.panic c) (a.put e.dst v) w->Q (.panic c) a w:=by exact λ_ _ _ h=>h)(hg:wanted e (yielded ops a.tmps)=true:=by rfl)(hS:S w:=by assumption):Db P md ops Q S stop (d+1) b a w:=Mj W f hs hf hr hstop hL hQ (Or.inl ⟨hg,y⟩) hS h
end
def sA{α:Type _}(xs:List α)(i:Nat)(a:α):xs.toArray.setIfInBounds i a=(xs.set i a).toArray:=setIfInBounds_toArray xs i a
def sB{α:Type _}{x:α}{xs:List α}{i:Nat}{a:α}:(x::xs).set (i+1) a=x::xs.set i a:=rfl
def sC{α:Type _}{x:α}{xs:List α}{a:α}:(x::xs).set 0 a=a::xs:=rfl
end Go.Proofs.YtfcgnpchbcmdeaaGreat
namespace Go.Proofs.YtfcgnpchbcmdeaaGreat
open List Nat Go.World Go.Proofs.Tryz Go.Value Go.IntKind Go.Lib Go.Region
set_option linter.all false
set_option maxRecDepth 100000
set_option maxHeartbeats 4000000
section
variable {P:Program} {a:YZ Oper} {Q:Exit->Act->ZT->Prop} {b:Region.Mode} {S:ZT->Prop} {c:H}
def Zf9(b:Region.Mode)(a:YZ Oper)(g:YZ ZG)(f:H):U H:=
 (range (B a)).foldl (λc e=>if !g.getD e Z0&&((a[e]?).map λh=>h.after.any λd=>binds b d&&(d.on==f||c.contains d.on)).getD ZZ then c++[e] else c) []
def tkP{g:Oper}{i:ZY}{l:H}{f:YZ ZG}{e j:Act}{w:ZT}(d:H)
  (h:Db P b a Q S c l (YS f d Z0) j w) (s:(Y4 a)[d]? =T g:=by rfl)
  (u:noSelect a=Z0:=by kernel_rfl) (q:free b a f d=Z0:=by kernel_rfl) (t:(ready b a f).contains d=Z0:=by kernel_rfl) (v:(Zf9 b a f d).contains c=Z0:=by kernel_rfl) (m:nh b a f d (Zf9 b a f d)=Z0:=by kernel_rfl)
  (r:wanted g (yielded a e.tmps)=Z0:=by rfl) (o:S w:=by assumption)
  (x:∀w,S w->(execOp e.eval g).run P w=.ok (.value i) w:=by intro w hSw;(first|obtain⟨_,_,_,_,_⟩:=hSw|obtain⟨_,_,_,_⟩:=hSw|obtain⟨_,_,_⟩:=hSw|obtain⟨_,_⟩:=hSw|skip);go_simp;try with_reducible rfl)
  (p:e.put g.dst i=j:=by(try simp only[Act.put,setIfInBounds_toArray,set_cons_succ,set_cons_zero]);exact rfl)
  (n:∀k e w,Q (.panic k) (e.put g.dst i) w->Q (.panic k) e w:=by exact λ_ _ _ h=>h):=Mj _ s u q t v m n (ZM ⟨r,x⟩) o (p ▸ h)
end
end Go.Proofs.YtfcgnpchbcmdeaaGreat
namespace Go.Proofs.YtfcgnpchbcmdeaaGreat
set_option linter.all false
set_option maxRecDepth 100000
set_option maxHeartbeats 4000000
open Go.RowKit List Nat Go.World Go.Proofs.Tryz Go.Value Go.IntKind Go.Lib Go.Region
def kb_{b:H}{c d:ZT}(e:Below b c d):∀a:Addr,a.block<b->ZV d a=ZV c a:=λ_ f=>e.cell f
def bt_{a b c:ZT}(d:E_ a b)(e:E_ b c):E_ a c:=d.T (e.m d.size)
def q_{a b:Prop}(x:b)(c:b->a:=by intro x;(try delta C_ U_ V_ I P_ L_ V N_ Q_ J);go_in;exact x):a:=c x
def ew_{a b:Prop}(x:b)(c:b->a:=by intro x;(try delta C_ U_ V_ I P_ L_ V N_ Q_ J);go_in;go_wp2_with fail;exact x):a:=c x
def er_{a b:Prop}(x:b)(c:b->a:=by intro x;(try delta C_ U_ V_ I P_ L_ V N_ Q_ J);go_in;go_wp2;go_ret;exact x):a:=c x
def wm_{d:H}{b:YZ ZY}{g:ZT}{a:Ending->ZT->Prop}{e f:Prop}(c:Calls Y8 d b g a)(x:f)(h:Calls Y8 d b g a->f->e:=by intro c x;go_wp2_with fail;refine c.m ?_;exact x):e:=h c x
def wr_{a b:Prop}(x:b)(c:b->a:=by intro x;go_wp2;go_ret;exact x):a:=c x
end Go.Proofs.YtfcgnpchbcmdeaaGreat
namespace Go.Proofs.YtfcgnpchbcmdeaaGreat
open List Nat Go.World Go.Proofs.Tryz Go.Value Go.IntKind Go.Lib Go.Region
set_option linter.all false
set_option maxRecDepth 100000
set_option maxHeartbeats 4000000
section
variable {P:Program} {a:YZ Oper} {Q:Exit->Act->ZT->Prop} {c:Region.Mode} {S:ZT->Prop} {b:H}
def okS(c:Region.Mode)(a:YZ Oper)(e:YZ ZG)(d b:H):ZG:=
 noSelect a&&free c a e d&&(ready c a e).contains d&&(Zf9 c a e d).contains b&&nh c a e d (Zf9 c a e d)
def tkS{e:Oper}{i:ZY}{l:H}{g:YZ ZG}{d j:Act}{w:ZT}(f:H)(h:Db P c a Q S b l (YS g f Z0) j w)(s:(Y4 a)[f]? =T e:=by rfl)
  (m:okS c a g f b=Z0:=by decide+kernel) (p:S w:=by assumption)
  (x:YieldsIf P a S e i d:=by first|(refine .inl ⟨by rfl,?_⟩;intro w y;(first|have y:=kb_ y|obtain⟨_,_,_,_,_,_,_,_⟩:=y|obtain⟨_,_,_,_,_,_⟩:=y|obtain⟨_,_,_,_,_⟩:=y|obtain⟨_,_,_,_⟩:=y|obtain⟨_,_,_⟩:=y|obtain⟨_,_⟩:=y|skip);go_simp;(try with_reducible rfl);done)|exact .inr ⟨by rfl,rfl⟩)
  (q:d.put e.dst i=j:=by(try simp only[Act.put,setIfInBounds_toArray,set_cons_succ,set_cons_zero]);exact rfl)
  (o:∀k d w,Q (.panic k) (d.put e.dst i) w->Q (.panic k) d w:=by exact λ_ _ _ h=>h):Db P c a Q S b (l+1) g d w:=by
 simp only[okS,Bool.and_eq_true] at m;obtain⟨⟨⟨⟨u,r⟩,t⟩,v⟩,n⟩:=m;exact Mj _ s u r t v n o x p (q ▸ h)
def rg_{h e c}(d:ZT)(b:H)(f:E_ d (YY c)->Db P .any a Q (E_ d) b (B a) (Array.replicate (B a) ZZ) e (YY c))(hS:E_ d (YY c):=by first|exact y_.drew|(refine Below.drew ?_;assumption))(g:P.follows .mixedOrders=Z0:=by kernel_rfl):(Code.region h a Z0).wp P Q e c:=Af _ _ g hS f
def on_{f j i e d}(h:H)(k:∀g:Act->ZT->Prop,Shut (∀e d,S d->(S d->Db P c a Q S b j (YS i h Z0) e d)->g e d)->if wanted f (yielded a e.tmps)=Z0 then Oper.wp P f e d g Q else g (e.put f.dst undef) d)(l:(Y4 a)[h]? =T f:=by rfl)(m:ready c a i=[h]:=by kernel_rfl):Db P c a Q S b (j+1) i e d:=gq m l k
def la1_{g i f d e}(j:∀h:Act->ZT->Prop,Shut (∀d e,Db P c a Q S b i (YS f b Z0) d e->h d e)->if wanted g (yielded a d.tmps)=Z0 then Oper.wp P g d e h Q else h (d.put g.dst undef) e)(k:(Y4 a)[b]? =T g:=by rfl)(l:ready c a f=[b]:=by kernel_rfl)(m:(YS f b Z0).getD b ZZ=Z0:=by kernel_rfl):Db P c a Q S b (i+1) f d e:=Ew l k m j
end
def tA_{d:Type _}(c:U d)(b:H)(a:d):YS c.toArray b a=(c.set b a).toArray:=setIfInBounds_toArray c b a
def tB_{a:Type _}{x:a}{d:U a}{c:H}{b:a}:(x::d).set (c+1) b=x::d.set c b:=rfl
def tC_{a:Type _}{x:a}{c:U a}{b:a}:(x::c).set 0 b=b::c:=rfl
def G_{a b:Prop}(x:b)(c:(True->b)->a:=by intro x;(try simp only[Act.put,tA_,tB_,tC_]);(try refine tkS 0 ?_);(try refine tkS 1 ?_);(try refine tkS 2 ?_);(try refine tkS 3 ?_);(try refine tkS 4 ?_);(try refine tkS 5 ?_);(try refine tkS 6 ?_);(try refine tkS 7 ?_);(try refine tkS 8 ?_);(try refine tkS 9 ?_);(try refine tkS 10 ?_);(try refine tkS 11 ?_);(try refine tkS 12 ?_);(try refine tkS 13 ?_);(try refine tkS 14 ?_);(try refine tkS 15 ?_);(try refine tkS 16 ?_);(try refine tkS 17 ?_);(try refine tkS 18 ?_);(try refine tkS 19 ?_);(try refine tkS 20 ?_);(try refine tkS 21 ?_);(try refine tkS 22 ?_);(try refine tkS 23 ?_);(try refine tkS 24 ?_);(try refine tkS 25 ?_);(try refine tkS 26 ?_);(try refine tkS 27 ?_);(try refine tkS 28 ?_);(try refine tkS 29 ?_);(try refine tkS 30 ?_);(try refine tkS 31 ?_);(try refine tkS 32 ?_);(try refine tkS 33 ?_);(try refine tkS 34 ?_);(try refine tkS 35 ?_);(try refine tkS 36 ?_);(try refine tkS 37 ?_);(try refine tkS 38 ?_);(try refine tkS 39 ?_);(try refine tkS 40 ?_);exact x trivial):a:=c λ_=>x
def le_{a b:Prop}(x:b)(c:(True->b)->a:=by intro x;refine la1_ (λKK hK=>?_);go_simp;refine hK _ _ ?_;clear hK KK;(try simp only[Act.put,tA_,tB_,tC_]);refine Fr k_ ?_ _;exact x trivial):a:=c λ_=>x
end Go.Proofs.YtfcgnpchbcmdeaaGreat
namespace Go.Proofs.YtfcgnpchbcmdeaaGreat
set_option linter.all false
set_option maxRecDepth 100000
set_option maxHeartbeats 4000000
open Go.RowKit List Nat Go.World Go.Proofs.Tryz Go.Value Go.IntKind Go.Lib Go.Region
def lt_{a:ZT}{b d e}(c:ZV a (J b d)=T e):b<B a.1:=aJ a _ c
def na_(a:ZT)(c:YZ ZY)(d:H):∃b,b=ZN a (YU c d)/\E_ a b/\H_ b (B a.1) c d:=⟨_,X,r_,hn_⟩
def oc_{d:YZ Oper}{g:Exit->Act->ZT->Prop}{l:Region.Mode}{f:ZT->Prop}{q:H}{c p k b w o n}{m:Ending->ZT->Prop}(j:H)(r:C_ o n w m)(h:∀e a,m e a->∃v,e=ZI v/\f a/\(f a->Db Y8 l d g f q p (YS k j Z0) (b.put c.dst v) a))(t:(Y4 d)[j]? =T c:=by rfl)(u:ready l d k=[j]:=by kernel_rfl)(x:∀y:Act->ZT->Prop,C_ o n w (λe a=>∃v,e=ZI v/\y (b.put c.dst v) a)->if wanted c (yielded d b.tmps)=Z0 then Oper.wp Y8 c b w y g else y (b.put c.dst undef) w:=by intro y h;go_simp;refine Calls.m h ?_;rintro e w ⟨v,rfl,z⟩;first|exact z|(revert z;go_simp;done)|(revert z;go_simp;exact id)):
  Db Y8 l d g f q (p+1) k b w:=
 gq u t λ_ hK=>x _ (r.m λe a s=>(h e a s).imp λ_ i=>⟨i.1,hK _ _ i.2.1 i.2.2⟩)
def one_new(b:ZT) d e:∀a c,(Y4 d)[a]? =T c->ZV (ZN b (YU d e)) (((J (B b.1) 0):Addr).add a)=T c:=by
 intro a c g;have f:((J (B b.1) 0):Addr).add a=(J (B b.1) a):=by unfold Addr.add;split<;>simp_all
 grind [cell_of_row,heap_alloc_new]
def one_at{w:ZT}{g c t}(d:B w.1=g):∀a b,(Y4 c)[a]? =T b->ZV (ZN w (YU c t)) (((J g 0):Addr).add a)=T b:=d ▸ one_new w c t
def apB(c:Program)(f d b:H):ZG:=
 match c.underlying f,c.info? d with
 |some (.slice e),T a=>e==d&&a.size==b&&ZE (0<b)&&ZE (a.bytes<=64)&&(match a.zero with|some g=>B g.cells==b|none=>ZZ)
 |_,_=>ZZ
def run_ap{k b q h ty w u p e v l d c o}(s:apB k h w u=Z0)(f:ZD b q w u p e v)(t:F o=d*u)(y:∀a1 D,o[a1]? =T D->ZV b (l.add a1)=T D)(Q:∀D∈o,D.oneCell'=Z0)(b0:0<d)(G:e+d<=Y2)(a6:(e+d)*64<=140737488355328)(a4:q<=B b.1):∃i j,(Builtin.append_ #[h,h] ty #[p,ZH (T l) d c]).run k b=.ok i j/\ZD j q w u i (e+d) (v++o)/\Y3 b j (ZW p)/\(ZW i=ZW p∨ZW i=T (B b.1)/\Below (B b.1) b j)/\ZD j q w u p e v/\∃g m,i=L_ g (e+d) m:=by
 unfold apB at s;split at s;case h_2=>cases s
 rename_i r n A x;simp only[Bool.and_eq_true,beq_iff_eq,decide_eq_true_eq] at s;obtain⟨⟨⟨⟨rfl,rfl⟩,b2⟩,a3⟩,L⟩:=s;split at L;case h_2=>cases L
 rename_i N M;have S:(e+d)*n.bytes<=140737488355328:=aG (mul_le_mul_left _ a3) a6;obtain⟨i,j,z,R,a2,_⟩:=run_append_own (P:=k) b q h ty r n N _ _ A x M X X (by simpa using L) b2 p e v f l d c o t y Q G S a4;refine⟨i,j,z,R,a2,?_⟩;rw[<- and_assoc];refine⟨?_,?_⟩
 rcases f.2 with⟨rfl,rfl⟩|⟨g,m,P,rfl,a5,W,b1,a7,a8,b3⟩
 have a:=run_append_nil (P:=k) b h ty r n N A x M l d c _ t y b0 (by simp only[Y2] at G;omega) w_;rw[z] at a;simp only[Result.ok.injEq] at a;have:v=[]:=eq_nil_of_length_eq_zero (by simpa using f.1);subst this;exact⟨ZJ ⟨by rw[a.1];rfl,by rw[a.2];exact(y_.drew).alloc s_ _⟩,rn_⟩
 ·by_cases a0:e+d<=m
  have a9:e*n.size+F o<=B P:=(by rw[t,a8,<- Nat.add_mul];exact aK _ a0);have a:=run_append_room (P:=k) b h ty r n A x g e _ _ W l d c _ t y Q a0 a9;rw[z] at a;simp only[Result.ok.injEq] at a;refine⟨ZM (by rw[a.1];rfl),?_⟩;rw[a.2];refine⟨f.1,ZJ ⟨g,m,_,X,a5,setRow_heap b g _ _ r _ W,b1,a7,?_,?_⟩⟩<;>grind;have a:=run_append_grow (P:=k) b h ty r n N A x M _ e m _ f.1 (f.cells (g:=g) X) l d c _ t y O (by simp only[Y2] at G;omega) (growslice_fits O S);rw[z] at a;simp only[Result.ok.injEq] at a;rw[a.1,a.2];exact⟨ZJ ⟨X,(y_.drew).alloc s_ _⟩,ra_ (w:=YY b) f _⟩
 rcases R.2 with⟨_,a0⟩|⟨g,m,P,a,_⟩
 omega
 grind
section
variable {w:ZT} {d:YZ Oper} {f:U Oper} {o:Oper} {a:Act} {K:Act->ZT->Prop} {Q:Exit->Act->ZT->Prop} {E:Prop} {s x:Operand} {t e:TypeId} {v:ZY} {size base n m c:H} {xs:U ZY} {b:Addr}
def aq_(h:U ZY)(M:ZD w base e size v n xs)(p:∀f g,Hid (ZD g base e size f (n+m) (xs++h)/\Y3 w g (ZW v)/\(ZW f=ZW v∨ZW f=T (B w.1)/\Below (B w.1) w g)/\ZD g base e size v n xs/\∃l k,f=L_ l (n+m) k)->K (a.put o.dst f) g)(z:o.guard=ZP:=by rfl)(L:o.op=.call {callee:=.builtin .append,args:=#[s,x],argTypes:=#[t,t]}:=by rfl)(P:a.eval s=v:=by first|rfl|simp[Act.eval])(R:a.eval x=ZH (T b) m c:=by first|rfl|simp[Act.eval])(D:F h=m*size:=by rfl)(hnews:∀j i,h[j]? =T i->ZV w (b.add j)=T i:=by first|exact one_new _ _ _|exact one_at s_)(h1:∀i∈h,i.oneCell'=Z0:=by simp[oneCell'])(G:0<m:=by decide)(r:n+m<=Y2:=by unfold maxLen;omega)(y:(n+m)*64<=140737488355328:=by omega)(u:base<=B w.1:=by first|omega|(simp<;>omega))(A:apB Y8 t e size=Z0:=by kernel_rfl):if wanted o (yielded d a.tmps)=Z0 then Oper.wp Y8 o a w K Q else E:=by
 rw[aD (by simp[wanted,z])];obtain⟨f,g,N,q⟩:=run_ap (ty:=o.type) (c:=c) A M D hnews h1 G r y u;unfold Oper.wp;simp only[execOp,L,resolve,invoke,builtin,Sem.run_bind,Sem.run_pure,Result.andThen_ok,map_toArray,map_cons,map_nil,P,R,N];exact p _ _ q
def ap_(g:U ZY)(P:ZD w base e size v n xs)(q:∀h i,Hid (ZD i base e size h (n+m) (xs++g)/\Y3 w i (ZW v)/\(ZW h=ZW v∨ZW h=T (B w.1)/\Below (B w.1) w i)/\ZD i base e size v n xs/\∃p l,h=L_ p (n+m) l)->wpList Y8 d Q f (a.put o.dst h) i)(A:o.guard=ZP:=by rfl)(N:o.op=.call {callee:=.builtin .append,args:=#[s,x],argTypes:=#[t,t]}:=by rfl)(R:a.eval s=v:=by first|rfl|simp[Act.eval])(S:a.eval x=ZH (T b) m c:=by first|rfl|simp[Act.eval])(G:F g=m*size:=by rfl)(M:∀k j,g[k]? =T j->ZV w (b.add k)=T j:=by first|exact one_new _ _ _|exact one_at s_)(h1:∀j∈g,j.oneCell'=Z0:=by simp[oneCell'])(L:0<m:=by decide)(u:n+m<=Y2:=by unfold maxLen;omega)(z:(n+m)*64<=140737488355328:=by omega)(y:base<=B w.1:=by first|omega|(simp<;>omega))(D:apB Y8 t e size=Z0:=by kernel_rfl):wpList Y8 d Q (o::f) a w:=
 wpList_step λ_ hK=>aq_ g P (λ_ _ r=>hK _ _ (q _ _ r)) A N R S G M h1 L u z y D
end
def ip{P} d y j q e f x m Q (u:P.underlying j=T (.slice e))(r:P.info? e=T f)(M:f.zero=T x)(a2:f.size=m)(S:f.bytes=Q)(b4:B x.cells=m)(b2:0<m) v c A (i:ZD d y e m v c A) k b o p (l:F p=b*m)(s:∀a7 N,p[a7]? =T N->ZV d (k.add a7)=T N)(R:∀N∈p,N.oneCell'=Z0)(b1:0<b)(G:c+b<=Y2)(W:(c+b)*Q<=140737488355328)(a9:y<=B d.1):∃n w,(Builtin.append_ #[j,j] q #[v,ZH (T k) b o]).run P d=.ok n w/\ZD w y e m n (c+b) (A++p)/\Y3 d w (ZW v)/\(ZW n=ZW v∨ZW n=T (B d.1))/\ZD w y e m v c A/\∃g h,n=L_ g (c+b) h:=by
 have⟨n,w,t,a3,a8,b5⟩:=run_append_own (P:=P) d y j q e f x m Q u r M a2 S b4 b2 v c A i k b o p l s R G W a9
 have b0:∃g h,n=L_ g (c+b) h:=by
  rcases a3.2 with⟨_,z⟩|⟨g,h,D,a,_⟩
  omega
  grind
 refine⟨n,w,t,a3,a8,?_,?_,b0⟩
 ·subst a2 S
  rcases i.2 with⟨rfl,rfl⟩|⟨g,h,D,rfl,a4,L,a6,a5,a0,b3⟩
  have a:=run_append_nil (P:=P) d j q e f x u r M k b o _ l s b1 (by simp only[Y2] at G;omega) w_;rw[t] at a;simp only[Result.ok.injEq] at a;right;rw[a.1];rfl
  by_cases z:c+b<=h
  have a1:c*f.size+F p<=B D:=(by rw[l,a0,<- Nat.add_mul];exact aK _ z);have a:=run_append_room (P:=P) d j q e f u r g c _ _ L k b o _ l s R z a1;rw[t] at a;simp only[Result.ok.injEq] at a;left;rw[a.1];rfl;have a1:=i.cells (g:=g) X;have a:=run_append_grow (P:=P) d j q e f x u r M _ c h _ i.1 a1 k b o _ l s O (by simp only[Y2] at G;omega) (growslice_fits O W);rw[t] at a;simp only[Result.ok.injEq] at a;right;rw[a.1];rfl
 subst a2 S
 rcases i.2 with⟨rfl,rfl⟩|⟨g,h,D,rfl,a4,L,a6,a5,a0,b3⟩
 have:A=[]:=eq_nil_of_length_eq_zero (by simpa using i.1);subst this;exact rn_
 by_cases z:c+b<=h
 ·have a1:c*f.size+F p<=B D:=(by rw[l,a0,<- Nat.add_mul];exact aK _ z);have a:=run_append_room (P:=P) d j q e f u r g c _ _ L k b o _ l s R z a1;rw[t] at a;simp only[Result.ok.injEq] at a;rw[a.2];refine⟨i.1,ZJ ⟨g,h,_,X,a4,setRow_heap d g _ _ e _ L,a6,a5,?_,?_⟩⟩
  ·grind
  grind
 have a1:=i.cells (g:=g) X;have a:=run_append_grow (P:=P) d j q e f x u r M _ c h _ i.1 a1 k b o _ l s O (by simp only[Y2] at G;omega) (growslice_fits O W);rw[t] at a;simp only[Result.ok.injEq] at a;rw[a.2];exact ra_ (w:=YY d) i _
end Go.Proofs.YtfcgnpchbcmdeaaGreat
namespace Go.Proofs.YtfcgnpchbcmdeaaGreat
open List Nat Go.World Go.Proofs.Tryz Go.Value Go.IntKind Go.Lib Go.Region
set_option linter.all false
set_option maxRecDepth 100000
set_option maxHeartbeats 4000000
structure Cd where
 v:E
 t:E
 h:E
 g:E
def Ey(z:E):E:=if 1000000000<z then 1000000000 else if z< -1000000000 then -1000000000 else z
def Kd(z:E):E:=if z<1∨1000<z then 1 else z
def Ao(vs ws:U E):U (E×E):=(zip vs ws).map λp=>(Ey p.1,Kd p.2)
theorem Lh(b a:U E):F (Ao b a)=min (F b) (F a):=by simp[Ao]
def Qj:U (E×E)->E->E
  |[],_=>0
  |p::r,v=>(if p.1=v then p.2 else 0)+Qj r v
def Nr(a b:U (E×E))(v:E):Qj (a++b) v=Qj a v+Qj b v:=by
 induction a with
 |nil=>simp[Qj]
 |cons p r ih=>simp only[cons_append,Qj,ih];omega
def ZlR{a b:U (E×E)}(h:a.Perm b){v:E}:Qj a v=Qj b v:=by
 induction h with
 |nil=>rfl
 |cons x _ ih=>simp only[Qj,ih]
 |swap x y l=>simp only[Qj];omega
 |trans _ _ h1 h2=>exact h1.T h2
def qt{a:U (E×E)}{v:E}(h:∀p∈a,p.1≠v):Qj a v=0:=by
 induction a with
 |nil=>rfl
 |cons p r ih=>simp only[Qj];rw[aC (h p s_),ih (λq hq=>h q (by simp[hq]))];rfl
structure Ej(ps M:U (E×E)):Prop where
 f:M.Pairwise λp q=>p.1<q.1
 e:∀p∈M,∃q∈ps,q.1=p.1
 all:∀q∈ps,∃p∈M,p.1=q.1
 g:∀p∈M,p.2=Qj ps p.1
def Zgt:∀{M N:U (E×E)},M.Pairwise (λp q=>p.1<q.1)->N.Pairwise (λp q=>p.1<q.1)->(∀p,p∈M↔p∈N)->M=N
 |[],[],_,_,_=>X
 |[],q::_,_,_,h=>absurd ((h q).2 s_) s_
 |p::_,[],_,_,h=>absurd ((h p).1 s_) s_
 | p ::M,q::N,hM,hN,h=>by
  rw[pairwise_cons] at hM hN
  have hpq:p=q:=by
   rcases mem_cons.1 ((h p).1 s_) with e|e
   exact e
   rcases mem_cons.1 ((h q).2 s_) with a|a
   exact a.s;have c:=hN.1 p e;have b:=hM.1 q a;omega
  subst hpq;congr 1;refine Zgt hM.2 hN.2 λr=>⟨λhr=>?_,λhr=>?_⟩
  ·rcases mem_cons.1 ((h r).1 (by simp[hr])) with e|e
   have:=hM.1 r hr;rw[e] at this;omega;exact e
  rcases mem_cons.1 ((h r).2 (by simp[hr])) with e|e
  have:=hN.1 r hr;rw[e] at this;omega;exact e
def Ej.a{h M N:U (E×E)}(b:Ej h M)(d:Ej h N):M=N:=by refine Zgt b.f d.f λp=>⟨λhp=>?_,λhp=>?_⟩;obtain⟨q,g,e⟩:=b.e p hp;obtain⟨r,c,f⟩:=d.all q g;have a:p=r:=Prod.ext O (by rw[b.g p hp,d.g r c,f,e]);exact a ▸ c;obtain⟨q,g,e⟩:=d.e p hp;obtain⟨r,c,f⟩:=b.all q g;have a:p=r:=Prod.ext O (by rw[d.g p hp,b.g r c,f,e]);exact a ▸ c
def Ej.n{ps qs M:U (E×E)}(h:Ej ps M)(hp:ps.Perm qs):Ej qs M:=
 ⟨h.f,λp hpM=>let ⟨q,hq,e⟩:=h.e p hpM;⟨q,hp.mem_iff.1 hq,e⟩,λq hq=>h.all q (hp.mem_iff.2 hq),λp hpM=>(h.g p hpM).T (ZlR hp)⟩
def Ej.P{g M:U (E×E)}(h:Ej g M){p:E×E}(f:∀q∈g,q.1<p.1):Ej (g++[p]) (M++[p]):=by
 refine⟨?_,?_,?_,?_⟩;rw[pairwise_append];refine⟨h.f,s_,λa c b hb=>?_⟩;simp at hb;subst hb;obtain⟨q,d,e⟩:=h.e a c;have:=f q d;omega
 ·intro a c
  rcases mem_append.1 c with c|c
  obtain⟨q,d,e⟩:=h.e a c;exact⟨q,by simp[d],e⟩;simp at c;subst c;exact⟨a,s_,X⟩
 ·intro q d
  rcases mem_append.1 d with d|d
  obtain⟨a,c,e⟩:=h.all q d;exact⟨a,by simp[c],e⟩;simp at d;subst d;exact⟨q,s_,X⟩
 intro a c;rw[Nr]
 rcases mem_append.1 c with c|c
 obtain⟨q,d,e⟩:=h.e a c;have:=f q d;simp only[Qj];rw[aC O,h.g a c];omega;simp at c;subst c;rw[qt (λq d=>by have:=f q d;omega)];simp[Qj]
def Ej.c{g M:U (E×E)}{v w:E}(h:Ej g (M++[(v,w)]))(u:E):Ej (g++[(v,u)]) (M++[(v,w+u)]):=by
 have f:=h.f;rw[pairwise_append] at f;refine⟨?_,?_,?_,?_⟩;rw[pairwise_append];refine⟨f.1,s_,λa c b hb=>?_⟩;simp at hb;subst hb;exact f.2.2 a c (v,w) s_
 ·intro a c
  rcases mem_append.1 c with c|c
  obtain⟨q,d,e⟩:=h.e a (by simp[c]);exact⟨q,by simp[d],e⟩;simp at c;subst c;exact⟨(v,u),s_,X⟩
 ·intro q d
  rcases mem_append.1 d with d|d
  ·obtain⟨a,c,e⟩:=h.all q d
   rcases mem_append.1 c with c|c
   exact⟨a,by simp[c],e⟩;simp at c;subst c;exact⟨(v,w+u),s_,e⟩
  simp at d;subst d;exact⟨(v,w+u),s_,X⟩
 intro a c;rw[Nr]
 rcases mem_append.1 c with c|c
 have:=f.2.2 a c (v,w) s_;simp only[Qj];simp only at this;rw[aC O,h.g a (by simp[c])];omega;simp at c;subst c;have:=h.g (v,w) s_;simp only[Qj,if_true] at *;omega
def Ej.nil:Ej [] []:=⟨s_,s_,s_,s_⟩
def Bo:E->U (E×E)->U Cd
  |_,[]=>[]
  |low,p::r=>⟨p.1,low,low+p.2,p.2⟩::Bo (low+p.2) r
def Bv:U (E×E)->E
  |[]=>0
  |p::r=>p.2+Bv r
def Tx(a b:U (E×E)):Bv (a++b)=Bv a+Bv b:=by
 induction a with
 |nil=>simp[Bv]
 |cons p r ih=>simp only[cons_append,Bv,ih];omega
theorem Zk(c:E)(a b:U (E×E)):Bo c (a++b)=Bo c a++Bo (c+Bv a) b:=by
 induction a generalizing c with
 |nil=>simp[Bo,Bv]
 |cons p r ih=>simp only[cons_append,Bo,ih,Bv];rw[show c+p.2+Bv r=c+(p.2+Bv r) by omega]
def Pw(b:E)(a:U (E×E)):F (Bo b a)=F a:=by
 induction a generalizing b with
 |nil=>rfl
 |cons p r ih=>simp[Bo,ih]
structure Bc(L:U Cd):Prop where
 j:∀e∈L,0<=e.t/\1<=e.g/\e.t+e.g<=e.h/\e.h<=1000000000000/\ -1000000000<=e.v/\e.v<=1000000000
 i:L.Pairwise λe f=>e.v<f.v/\e.t+e.g<=f.t/\e.h<=f.h-f.g
def Bc.nil:Bc []:=⟨s_,s_⟩
def Bc.e{L M:U Cd}(h:Bc L)(hs:M.Sublist L):Bc M:=⟨λe he=>h.j e (hs.subset he),h.i.sublist hs⟩
def pe{b:E}{a:U (E×E)}(d:∀p∈a,1<=p.2):∀e∈Bo b a,b<=e.t/\e.h=e.t+e.g/\e.h<=b+Bv a/\∃p∈a,p.1=e.v/\p.2=e.g:=by
 induction a generalizing b with
 |nil=>simp[Bo]
 | cons p r ih=>
  intro e c;have f:=d p s_
  have g:0<=Bv r:=by
   clear ih c f
   induction r with
   |nil=>simp[Bv]
   |cons q r ih=>simp only[Bv];have:=d q s_;have:=ih (λx hx=>d x (by simp at hx ⊢;rcases hx with h|h<;>simp[h]));omega
  rcases mem_cons.1 c with rfl|c
  refine⟨?_,?_,?_,p,s_,X,X⟩;exact Int.le_refl _;rfl;simp only[Bv];omega;obtain⟨n,i,m,q,j,l,k⟩:=ih (λx hx=>d x (by simp[hx])) e c;simp only[Bv];exact⟨O,i,O,q,by simp[j],l,k⟩
def Zid{b:E}{a:U (E×E)}(d:∀p∈a,1<=p.2)(c:a.Pairwise λp q=>p.1<q.1):(Bo b a).Pairwise λe f=>e.v<f.v/\e.t+e.g<=f.t/\e.h<=f.h-f.g:=by
 induction a generalizing b with
 |nil=>simp[Bo]
 | cons p r ih=>
  rw[pairwise_cons] at c;simp only[Bo];rw[pairwise_cons];refine⟨λf hf=>?_,ih (λx hx=>d x (by simp[hx])) c.2⟩;obtain⟨j,h,_,q,g,k,i⟩:=pe (λx hx=>d x (by simp[hx])) f hf;have:=c.1 q g;simp only;omega
def Zic{a:U (E×E)}(b:∀p∈a,1<=p.2)(d:a.Pairwise λp q=>p.1<q.1)(f:∀p∈a,-1000000000<=p.1/\p.1<=1000000000)(k:Bv a<=1000000000000):Bc (Bo 0 a):=by refine⟨λe he=>?_,Zid b d⟩;obtain⟨j,g,h,q,c,l,i⟩:=pe b e he;have:=f q c;have:=b q c;omega
def Zv{a}(d:∀b∈a,1<=b.2):∀c,0<=Qj a c:=by
 induction a with
 |nil=>intro c;simp[Qj]
 | cons b f e=>
  grind [Qj]
def ZlP{a}(d:∀b∈a,1<=b.2):∀c∈a,1<=Qj a c.1:=by
 induction a with
 |nil=>simp
 | cons b j i=>
  intro c e;have h:=d b s_;simp only[Qj]
  rcases mem_cons.1 e with rfl|e
  have:=Zv (λg f=>d g (mem_cons_of_mem _ f)) c.1;simp;omega
  grind
def Sk(a:U (E×E)):U (E×E)->E
 |[]=>0
 |c::b=>Qj a c.1+Sk a b
def ZiH b d a (e:0<=b.2)(f:a.Pairwise λc b=>c.1<b.1):Sk (b::d) a<=Sk d a+b.2/\((∀c∈a,c.1≠b.1)->Sk (b::d) a=Sk d a):=by
 induction a with
 |nil=>simp[Sk];exact e
 | cons c a g=>
  rw[pairwise_cons] at f
  grind [Sk,Qj]
def qq a:Sk [] a=0:=by
 induction a with
 |nil=>rfl
 |cons c a b=>simp[Sk,Qj,b]
def Zar{ps a}(g:∀b∈ps,1<=b.2)(d:a.Pairwise λb c=>b.1<c.1):Sk ps a<=Bv ps:=by
 induction ps with
 |nil=>simp[qq,Bv]
 | cons c e h=>
  have f:=(ZiH c e a w_ d).1
  grind [Bv]
def Zt{c a}(d:∀b∈a,b.2=Qj c b.1):Bv a=Sk c a:=by
 induction a with
 |nil=>rfl
 |cons b a e=>grind [Bv,Sk]
def Uz{ps}(b:∀a∈ps,a.2<=1000):Bv ps<=1000*F ps:=by
 induction ps with
 |nil=>simp[Bv]
 | cons d e c=>
  grind [Bv]
def Zg0{a}:1<=Kd a/\Kd a<=1000:=by unfold Kd;split<;>omega
def ZgZ{a}: -1000000000<=Ey a/\Ey a<=1000000000:=by unfold Ey;omega
def Jm{c f a}(b:a∈Ao c f):(1<=a.2/\a.2<=1000)/\(-1000000000<=a.1/\a.1<=1000000000)/\∃g∈c,a.1=Ey g:=by unfold Ao at b;obtain⟨e,d,rfl⟩:=mem_map.1 b;exact⟨Zg0,ZgZ,e.1,(of_mem_zip d).1,X⟩
def Ej.j{e g h}(b:Ej (Ao e g) h)(k:F e<=2097152):Bc (Bo 0 h):=by
 have c:∀a∈Ao e g,_:=λa c=>(Jm c).1.1;refine Zic ?_ b.f ?_ ?_;intro a d;obtain⟨j,f,i⟩:=b.e a d;rw[b.g a d,<- i];exact ZlP c j f;intro a d;obtain⟨j,f,i⟩:=b.e a d;have:=(Jm f).2.1;omega;have d:=Zar c b.f;have f:=Uz (λa c=>(Jm c).1.2:∀a∈Ao e g,a.2<=1000);rw[Zt b.g]
 grind [Lh]
def e0:Cd:=⟨0,0,0,0⟩
def Ae(a:U Cd):E:=if F a=0 then 0 else(Z a (F a-1) e0).h
def Co(b:U Cd)(a:H):E:=if a=0 then 0 else(Z b (a-1) e0).t+(Z b (a-1) e0).g
def Dz(a:U Cd)(b:H):E:=if b=F a then Ae a else(Z a b e0).h-(Z a b e0).g
def seen(c:U Cd)(b:H)(a:Cd):Cd:=⟨a.v,a.t+Co c b,a.h+Dz c b,a.g⟩
def Pb(a b:Cd):Cd:=⟨a.v,a.t+b.t,a.h+b.h,a.g+b.g⟩
def Ef(a b:U Cd):H->H->H->U Cd
 |0,_,_=>[]
 | e+1,c,d=>
  if c<F a/\(d<F b->(Z a c e0).v<(Z b d e0).v) then seen b d (Z a c e0)::Ef a b e (c+1) d
  else if d<F b/\(c<F a->(Z b d e0).v<(Z a c e0).v) then seen a c (Z b d e0)::Ef a b e c (d+1)
  else if c<F a/\d<F b then Pb (Z a c e0) (Z b d e0)::Ef a b e (c+1) (d+1)
  else[]
def Bf(a b:U Cd):U Cd:=Ef a b (F a+F b) 0 0
theorem Qx{e f}:∀d c a b,F e-a+(F f-b)<=d->F e-a+(F f-b)<=c->Ef e f d a b=Ef e f c a b
 |0,0,_,_,_,_=>X
 |0,c+1,a,b,g,_=>by grind [Ef]
 |d+1,0,a,b,_,g=>by grind [Ef]
 |d+1,c+1,a,b,g,h=>by simp only[Ef];split;rw[Qx d c (a+1) b O O];split;rw[Qx d c a (b+1) O O];split;rw[Qx d c (a+1) (b+1) O O];rfl
def Oj(a b:U Cd)(c d:H):U Cd:=Ef a b (F a-c+(F b-d)) c d
def ph a b:Oj a b 0 0=Bf a b:=by unfold Oj Bf;simp
def Znw{a b c d}(f:c<F a)(e:d<F b->(Z a c e0).v<(Z b d e0).v):Oj a b c d=seen b d (Z a c e0)::Oj a b (c+1) d:=by
 unfold Oj;rw[show F a-c+(F b-d)=(F a-(c+1)+(F b-d))+1 by omega];simp only[Ef]
 grind
def Znx{a b c d}(f:d<F b)(e:c<F a->(Z b d e0).v<(Z a c e0).v):Oj a b c d=seen a c (Z b d e0)::Oj a b c (d+1):=by
 unfold Oj;rw[show F a-c+(F b-d)=(F a-c+(F b-(d+1)))+1 by omega]
 grind [Ef]
def Zlm{a b c d}(f:c<F a)(g:d<F b)(e:(Z a c e0).v=(Z b d e0).v):Oj a b c d=Pb (Z a c e0) (Z b d e0)::Oj a b (c+1) (d+1):=by
 unfold Oj;rw[show F a-c+(F b-d)=(F a-(c+1)+(F b-(d+1))+1)+1 by omega]
 grind [Ef,Qx]
def vv{a b c d}(e:¬c<F a)(f:¬d<F b):Oj a b c d=[]:=by unfold Oj;rw[show F a-c+(F b-d)=0 by omega];rfl
def Yo{a:U Cd}{b}(c:b<F a):Z a b e0∈a:=w_
def Bc.at{a}(b:Bc a){i}(c:i<F a):=b.j _ (Yo c)
def Bc.lt{a}(b:Bc a){i j}(d:i<j)(c:j<F a):(Z a i e0).v<(Z a j e0).v/\(Z a i e0).t+(Z a i e0).g<=(Z a j e0).t/\(Z a i e0).h<=(Z a j e0).h-(Z a j e0).g:=by
 have:=pairwise_iff_getElem.1 b.i i j O c d
 grind
def Kl{b}(c:Bc b){a}(d:a<F b):(Z b a e0).h<=Dz b (a+1)/\Dz b a<=Dz b (a+1)/\Dz b a=(Z b a e0).h-(Z b a e0).g:=by
 have e:=c.at d;have f:Dz b a=(Z b a e0).h-(Z b a e0).g:=by unfold Dz;omega
 have g:(Z b a e0).h<=Dz b (a+1):=by
  unfold Dz;split
  ·grind [Ae]
  exact(c.lt (show a<a+1 by omega) O).2.2
 omega
def My{b}(c:Bc b){a}(d:a<F b):Co b a<=(Z b a e0).t/\Co b (a+1)=(Z b a e0).t+(Z b a e0).g:=by refine⟨?_,by unfold Co;simp⟩;unfold Co;split;exact(c.at d).1;exact(c.lt (show a-1<a by omega) d).2.1
def Nq{a}(c:Bc a){b}(e:b<F a):(Z a b e0).h<=Ae a:=by
 unfold Ae;rw[aC O]
 by_cases d:b=F a-1
 ·grind
 have f:=(c.lt (show b<F a-1 by omega) O).2.2;have g:=c.at (show F a-1<F a by omega);omega
def jz{a}(c:Bc a){b}(f:b<=F a):Dz a b<=Ae a/\0<=Co a b/\Co a b<=Dz a b:=by
 by_cases e:b=F a
 have d:Dz a b=Ae a:=(by unfold Dz;rw[aD e]);rw[d];refine⟨Int.le_refl _,?_,?_⟩;unfold Co;split;omega;have:=c.at (show b-1<F a by omega);omega;unfold Co Ae;split;omega;have:=c.at (show b-1<F a by omega);grind;have d:b<F a:=O;have g:=Kl c d;have h:=Nq c d;have i:=c.at d;have j:=My c d;refine⟨O,?_,?_⟩;unfold Co;split;omega;have:=c.at (show b-1<F a by omega);omega;omega
structure Zfk(b c)(d e)(a:Cd):Prop where
 t:Co b d+Co c e<=a.t
 h:Dz b d+Dz c e<=a.h-a.g
 l:a.h<=Ae b+Ae c
 g:1<=a.g
 n:a.t+a.g<=a.h
 i:0<d->(Z b (d-1) e0).v<a.v
 k:0<e->(Z c (e-1) e0).v<a.v
 j:(∃f∈b,f.v=a.v)∨∃f∈c,f.v=a.v
def Zfk.a{c d}(i:Bc c)(j:Bc d){a b f g h}(e:Zfk c d f g h)(t:a<=f)(w:b<=g)(u:f<=a+1)(x:g<=b+1)(v:f<=F c)(y:g<=F d):Zfk c d a b h:=by
 have r:Co c a<=Co c f/\Dz c a<=Dz c f/\(0<a->(Z c (a-1) e0).v<h.v):=by
  by_cases k:f=a
  subst k;exact⟨Int.le_refl _,Int.le_refl _,e.i⟩;obtain rfl:f=a+1:=O;have l:=My i (show a<F c by omega);have m:=Kl i (show a<F c by omega);have o:=i.at (show a<F c by omega);refine⟨O,O,λn=>?_⟩;have p:=(i.lt (show a-1<a by omega) O).1;have q:=e.i O
  grind
 have s:Co d b<=Co d g/\Dz d b<=Dz d g/\(0<b->(Z d (b-1) e0).v<h.v):=by
  by_cases k:g=b
  subst k;exact⟨Int.le_refl _,Int.le_refl _,e.k⟩;obtain rfl:g=b+1:=O;have l:=My j (show b<F d by omega);have m:=Kl j (show b<F d by omega);have o:=j.at (show b<F d by omega);refine⟨O,O,λn=>?_⟩;have p:=(j.lt (show b-1<b by omega) O).1;have q:=e.k O
  grind
 have l:=e.t;have m:=e.h;exact⟨O,O,e.l,e.g,e.n,r.2.2,s.2.2,e.j⟩
def Zfs(a b:Cd):Prop:=a.v<b.v/\a.t+a.g<=b.t/\a.h<=b.h-b.g
def Le{j k}(d:Bc j)(e:Bc k):∀l b c,b<=F j->c<=F k->(b<F j->0<c->(Z k (c-1) e0).v<(Z j b e0).v)->(c<F k->0<b->(Z j (b-1) e0).v<(Z k c e0).v)->(∀g∈Ef j k l b c,Zfk j k b c g)/\(Ef j k l b c).Pairwise Zfs
 |0,b,c,_,_,_,_=>by simp[Ef]
 | l + 1,b,c,o,p,w,x=>by
  simp only[Ef];split
  ·rename_i a;have m:=d.at a.1;have q:=My d a.1;have r:=Kl d a.1;have s:=Nq d a.1;have t:=jz e p;have i:=Le d e l (b+1) c O p (λf h=>by have:=w a.1 h;have:=(d.lt (show b<b+1 by omega) f).1;omega) (λf _=>by simpa using a.2 f);refine⟨λg f=>?_,?_⟩
   ·rcases mem_cons.1 f with rfl|f
    refine⟨?_,?_,?_,m.2.1,?_,?_,λh=>w a.1 h,ZM ⟨_,Yo a.1,X⟩⟩;simp only[seen];omega;simp only[seen];omega;simp only[seen];omega;simp only[seen];omega;intro h;exact(d.lt (show b-1<b by omega) a.1).1;exact(i.1 g f).a d e O O O O O p
   rw[pairwise_cons];refine⟨λg f=>?_,i.2⟩;have h:=i.1 g f;have u:=h.t;have v:=h.h;have n:=h.i O
   grind [Zfs,seen]
  split
  ·rename_i _ a;have m:=e.at a.1;have q:=My e a.1;have r:=Kl e a.1;have s:=Nq e a.1;have t:=jz d o;have i:=Le d e l b (c+1) o O (λf _=>by simpa using a.2 f) (λf h=>by have:=x a.1 h;have:=(e.lt (show c<c+1 by omega) f).1;omega);refine⟨λg f=>?_,?_⟩
   ·rcases mem_cons.1 f with rfl|f
    refine⟨?_,?_,?_,m.2.1,?_,λh=>x a.1 h,?_,ZJ ⟨_,Yo a.1,X⟩⟩;simp only[seen];omega;simp only[seen];omega;simp only[seen];omega;simp only[seen];omega;intro h;exact(e.lt (show c-1<c by omega) a.1).1;exact(i.1 g f).a d e O O O O o O
   rw[pairwise_cons];refine⟨λg f=>?_,i.2⟩;have h:=i.1 g f;have u:=h.t;have v:=h.h;have n:=h.k O
   grind [Zfs,seen]
  split
  ·rename_i D G a;have L:(Z j b e0).v=(Z k c e0).v:=O;have m:=d.at a.1;have q:=My d a.1;have r:=Kl d a.1;have s:=Nq d a.1;have t:=e.at a.2;have y:=My e a.2;have z:=Kl e a.2;have A:=Nq e a.2;have i:=Le d e l (b+1) (c+1) O O (λf _=>by have:=(d.lt (show b<b+1 by omega) f).1;grind) (λf _=>by have:=(e.lt (show c<c+1 by omega) f).1;grind);refine⟨λg f=>?_,?_⟩
   ·rcases mem_cons.1 f with rfl|f
    ·refine⟨?_,?_,?_,?_,?_,?_,?_,ZM ⟨_,Yo a.1,X⟩⟩;simp only[Pb];omega;simp only[Pb];omega;simp only[Pb];omega;simp only[Pb];omega;simp only[Pb];omega;intro h;exact(d.lt (show b-1<b by omega) a.1).1
     grind [Pb]
    exact(i.1 g f).a d e O O O O O O
   rw[pairwise_cons];refine⟨λg f=>?_,i.2⟩;have h:=i.1 g f;have u:=h.t;have v:=h.h;have n:=h.i O;simp only[Nat.add_sub_cancel] at n;unfold Zfs;simp only[Pb];omega
  simp
def Fy{b c}(g:Bc b)(h:Bc c)(p:Ae b+Ae c<=1000000000000):Bc (Bf b c):=by
 have a:=Le g h (F b+F c) 0 0 O O (λ_ a=>absurd a O) (λ_ a=>absurd a O);refine⟨λj k=>?_,a.2⟩;have d:=a.1 j k;have l:=d.t;have m:=d.l;have n:=d.g;have o:=d.n;have:Co b 0=0:=rfl;have:Co c 0=0:=rfl
 rcases d.j with⟨e,f,i⟩|⟨e,f,i⟩
 have:=g.j e f;omega;have:=h.j e f;omega
theorem Wt{b c}(f:Bc b)(g:Bc c):∀d∈Bf b c,(∃e∈b,e.v=d.v)∨∃e∈c,e.v=d.v:=by have a:=Le f g (F b+F c) 0 0 O O (λ_ a=>absurd a O) (λ_ a=>absurd a O);exact λd h=>(a.1 d h).j
def Jt(a:U Cd)(b:H):E:=(Z a b e0).t+(Z a b e0).h
def ZkQ{a}(b:Bc a){c d}(f:c<d)(e:d<F a):Jt a c<Jt a d:=by have g:=b.lt f e;have h:=b.at (show c<F a by omega);have i:=b.at e;unfold Jt;omega
def Rz(a:U Cd)(d:H)(c b:H):ZG:=ZE ((Jt a b+Jt a (b+1))*(d-1)<4*c*Ae a)
def Ht(b:H->ZG):H->H->H
 |0,a=>a
 |c+1,a=>if b a=Z0 then Ht b c (a+1) else a
def Tc c:∀b a,a<=Ht c b a/\Ht c b a<=a+b/\(∀d,a<=d->d<Ht c b a->c d=Z0)/\(Ht c b a=a+b∨c (Ht c b a)=ZZ)
 |0,a=>by simp[Ht];omega
 | b+1,a=>by
  have d:=Tc c b (a+1)
  grind [Ht]
def Cy(a:U Cd)(c b:H):H:=Ht (Rz a c b) (F a-3) 1
structure ZaE(b:U Cd)(e d a):Prop where
 f:1<=a
 k:a+2<=F b
 l:∀c,1<=c->c<a->Rz b e d c=Z0
 j:a+2=F b∨Rz b e d a=ZZ
def Gi a c b (d:3<=F a):ZaE a c b (Cy a c b):=by have:=Tc (Rz a c b) (F a-3) 1;unfold Cy;exact⟨this.1,O,this.2.2.1,w_⟩
def ZaE.a{g i h e d}(c:ZaE g i h e)(b:ZaE g i h d):e=d:=by
 rcases Nat.lt_trichotomy e d with a|a|a
 ·have j:=b.l e c.f a
  rcases c.j with f|f
  have:=b.k;omega
  grind
 exact a;have j:=c.l d b.f a
 rcases b.j with f|f
 have:=c.k;omega
 grind
def Dk{a}(b:Bc a):0<=Ae a/\Ae a<=1000000000000:=by unfold Ae;split;omega;have:=b.at (show F a-1<F a by omega);omega
def vh{a}(e:Bc a){d c b}(f:Rz a d c b=Z0):Rz a d (c+1) b=Z0:=by
 unfold Rz at *;have g:=(Dk e).1
 grind
theorem aj{a}(h:Bc a) c b (d:3<=F a):Cy a c b<=Cy a c (b+1):=by
 have e:=Gi a c b d;have f:=Gi a c (b+1) d
 by_cases i:Cy a c b<=Cy a c (b+1)
 exact i;have j:=vh h (e.l _ f.f O)
 rcases f.j with g|g
 have:=e.k;omega
 grind
def Jy(b:U Cd)(c a:H):H:=if a=0 then 0 else Cy b c a
def Fd(a:U Cd)(c:H):H->U Cd
 |0=>[Z a 0 e0]
 |b+1=>if Cy a c (b+1)=Jy a c b then Fd a c b else Fd a c b++[Z a (Cy a c (b+1)) e0]
def Ep(a:U Cd)(b:E):U Cd:=
 if F a<=max b 2 then a else Fd a (ZL (max b 2)) (ZL (max b 2)-2)++[Z a (F a-1) e0]
theorem Rm{a:U Cd}{b}(c:b<F a):ZU (b+1) a=ZU b a++[Z a b e0]:=by grind [Qi]
def Zbw{a}(e:Bc a) c (d:3<=F a):∀b,(Fd a c b).Sublist (ZU (Jy a c b+1) a)/\Jy a c b+2<=F a/\Jy a c b<=Cy a c (b+1)
 |0=>by grind [Jy,Rm,Fd]
 | b+1=>by
  have h:=Zbw e c d b;have f:=Gi a c (b+1) d;have g:Jy a c (b+1)=Cy a c (b+1):=(by simp[Jy]);rw[g];refine⟨?_,f.k,aj e c _ d⟩;simp only[Fd];split
  ·grind
  rename_i i;rw[Rm (show Cy a c (b+1)<F a by have:=f.k;omega)];refine List.Sublist.append ?_ (List.Sublist.refl _);apply h.1.T;exact take_sublist_take_left O
theorem Ge{a}(d:Bc a) b:(Ep a b).Sublist a:=by
 unfold Ep;split
 ·grind
 rename_i g;have e:3<=F a:=O;have f:=Zbw d (ZL (max b 2)) e (ZL (max b 2)-2);have c:a=ZU (F a-1+1) a:=w_
 conv=>rhs;rw[c]
 rw[Rm (show F a-1<F a by omega)];refine List.Sublist.append (f.1.T ?_) (List.Sublist.refl _)
 grind
def Vq(a:U Cd)(d c b:H):E:=if Jt a b*(d-1)-2*c*Ae a<0 then -(Jt a b*(d-1)-2*c*Ae a) else Jt a b*(d-1)-2*c*Ae a
def uf{a}(f:Bc a){b e d c}(k:2<=b)(h:d<c)(g:c<F a):Vq a b e c<Vq a b e d↔(Jt a d+Jt a c)*(b-1)<4*e*Ae a:=by
 have i:=ZkQ f h g;have j:_<_*((b:E)-1):=Int.mul_lt_mul_of_pos_right i O
 grind [Vq]
def Zdq{a}(f:Bc a){b d c}(i:2<=b)(k:2<=c)(l:c+1<F a):(if Vq a b d c<Vq a b d (min (c-1) (Cy a b d)) then c else min (c-1) (Cy a b d))=min c (Cy a b d):=by
 have g:=Gi a b d O
 by_cases j:c-1<Cy a b d
 rw[show min (c-1) (Cy a b d)=c-1 by omega];have e:=g.l _ O j;unfold Rz at e;rw[decide_eq_true_eq,show c-1+1=c by omega] at e;rw[aD ((uf f i (show c-1<c by omega) O).2 e)];omega;rw[show min (c-1) (Cy a b d)=Cy a b d by omega];rw[if_neg,show min c (Cy a b d)=Cy a b d by omega];rw[uf f i (show Cy a b d<c by omega) O]
 have h:Rz a b d (Cy a b d)=ZZ:=by
  rcases g.j with e|e
  omega;exact e
 unfold Rz at h;rw[decide_eq_false_iff_not] at h
 have m:Jt a (Cy a b d+1)<=Jt a c:=by
  by_cases e:Cy a b d+1=c
  ·grind
  exact Int.le_of_lt (ZkQ f O O)
 have:(Jt a (Cy a b d)+Jt a (Cy a b d+1))*((b:E)-1)<=(Jt a (Cy a b d)+Jt a c)*((b:E)-1):=Int.mul_le_mul_of_nonneg_right O O;omega
def Kp(a:U Cd)(e d b:H):ZG:=(range d).any λc=>Cy a e (c+1)==b
def Zfz{b}(e:Bc b) d (f:3<=F b):∀c a,Cy b d a<=Cy b d (a+c)
 |0,_=>x_
 |c+1,a=>aG (Zfz e d f c a) (aj e d (a+c) f)
def ZiE{a}(g:Bc a) c b (e:3<=F a):Kp a c b (Cy a c (b+1))=ZE (Cy a c (b+1)=Jy a c b):=by
 have j:=(Gi a c (b+1) e).f;rw[Bool.eq_iff_iff,decide_eq_true_eq];unfold Kp;rw[any_eq_true];constructor
 ·rintro⟨f,h,d⟩;simp at h d;have i:=Zfz g c e (b-(f+1)) (f+1)
  grind [aj,Jy]
 intro d;unfold Jy at d;split at d;omega;exact⟨b-1,t_,w_⟩
def Zfa a d c b:Kp a d (c+1) b=(Kp a d c b||Cy a d (c+1)==b):=by grind [Kp]
def Zkn{x b c a f:E}(g:0<a)(j:0<=c)(i:c<a)(h:b*a+c=f):x<(if 0<c then b+1 else b)↔x*a<f:=by constructor;intro d;split at d;have:x*a<=b*a:=Int.mul_le_mul_of_nonneg_right O O;omega;have:x*a<b*a:=Int.mul_lt_mul_of_pos_right d g;omega;intro d;split;have e:x*a<(b+1)*a:=w_;exact Int.lt_of_mul_lt_mul_right e O;have e:x*a<b*a:=O;exact Int.lt_of_mul_lt_mul_right e O
def Zko{c:Z1 Cd}{U:Z1 E}(e:c.Pairwise λa b=>a.v<b.v/\a.t+a.g<=b.t/\a.h<=b.h-b.g)(d:∀a∈c,a.v∈U):F c<=F U:=by
 induction c generalizing U with
 |nil=>simp
 | cons a c h=>
  rw[pairwise_cons] at e;have i:=d a s_
  have j:=h (U:=U.erase _) e.2 (λb f=>by
   have g:b.v≠a.v:=w_
   exact(mem_erase_of_ne g).2 (d b (by simp[f])))
  grind
def Bc.y{a}(c:Bc a){U:Z1 E}(d:∀b∈a,b.v∈U):F a<=F U:=Zko c.i d
end Go.Proofs.YtfcgnpchbcmdeaaGreat
namespace Go.Proofs.YtfcgnpchbcmdeaaGreat
set_option linter.all false
set_option maxRecDepth 100000
set_option maxHeartbeats 4000000
open Go.RowKit List Nat Go.World Go.Proofs.Tryz Go.Value Go.IntKind Go.Lib Go.Region
def Tr{a b}(c:a=b):ZI (ZR a)=ZI (ZR b):=by rw[c]
def qw{a c b d}:C_ 61 #[I a,I c,I b] d (V_ (ZR (ZE (c<=a)&&ZE (a<=b))) d):=by
 refine q_ ?_;go_wp2
 all_goals go_ret
 all_goals exact⟨by simp[*]<;>omega,X⟩
def Xf{a c b d}(e:c<=a/\a<=b):C_ 61 #[I a,I c,I b] d (V_ (ZR Z0) d):=by
 apply (qw).m
 grind
def xd{a c b d}(e:¬(c<=a/\a<=b)):C_ 61 #[I a,I c,I b] d (V_ (ZR ZZ) d):=by
 apply (qw).m
 grind
def Nf(c:ZG)(b a:E):ZG:=if c=Z0 then ZE (b=0/\1<=a/\a<=1000) else ZE (0<=b/\b<=3/\a=0)
def sg{b d c e}:C_ 159 #[Y9 #[ZR b,I d,I c]] e (U_ (ZR (Nf b d c)) e):=by
 cases b
 ·refine q_ ?_;go_wp2
  all_goals go_ret
  all_goals refine⟨?_,r_⟩
  all_goals (refine congrArg (λa=>ZI (ZR a)) (Bool.eq_iff_iff.2 ?_);simp[Nf]<;>omega)
 refine q_ ?_;go_wp2
 all_goals go_ret
 all_goals refine⟨?_,r_⟩
 all_goals (refine congrArg (λa=>ZI (ZR a)) (Bool.eq_iff_iff.2 ?_);simp[Nf]<;>omega)
structure Du(c:ZT)(b d a)(g:H->ZG)(f e:H->E):Prop where
 k:a<=Y2
 lt:0<a->b<B c.1
 t:∀i,i<a->ZV c (J b (d+i*3))=T (ZR (g i))
 D:∀i,i<a->ZV c (J b (d+i*3+1))=T (I (f i))
 G:∀i,i<a->ZV c (J b (d+i*3+2))=T (I (e i))
def Wl(e:H->ZG)(d b:H->E)(c:H):ZG:=(range c).all λa=>Nf (e a) (d a) (b a)
def ts d c b a:Wl d c b (a+1)=(Wl d c b a&&Nf (d a) (c a) (b a)):=by unfold Wl;grind
def Zmj{e d b a c}(f:a<c)(g:Nf (e a) (d a) (b a)=ZZ):Wl e d b c=ZZ:=by unfold Wl;grind
def gw{k o c p i g e h}(d:Du h k o c i g e):C_ 95 #[V (T (J k o)) c p] h (U_ (ZR (Wl i g e c)) h):=by
 have r:=d.k;unfold Y2 at r;refine q_ ?_;go_wp2_with fail
 go_loopw [7] (λb f=>∃a:H,a<=c/\b=I a/\Wl i g e a=Z0/\E_ h f) (m1_ c)
 exact⟨0,v_,X,X,y_⟩;obtain⟨a,x,rfl,l,b⟩:=hrel
 by_cases f:a<c
 ·have w:=d.lt O;have t:=T_ b (d.t a f);have u:=T_ b (d.D a f);have v:=T_ b (d.G a f);go_wp2_with fail
  apply (sg).m;rintro s y ⟨rfl,q⟩;have m:=(b.alloc b.size _).T (q.m (by have:=b.size;simp;omega))
  cases n:Nf (i a) (g a) (e a)
  ·have j:=Y n;go_wp2;go_ret;refine⟨?_,m⟩;exact Tr (Zmj f j).s
  have j:=Y n;refine J_ ?_;exact⟨a+1,O,g_,by rw[ts,l,j];rfl,m⟩
 have j:c=a:=O;subst j;go_wp2;go_ret;exact⟨Tr l.s,b⟩
def ah{c d a}:C_ 95 #[V c 0 d] a (U_ (ZR Z0) a):=by
 refine q_ ?_;go_wp2_with fail
 go_loopw [7] (λb e=>b=I 0/\e=a) (λb _=>0)
 grind
 obtain⟨rfl,rfl⟩:=hrel;go_wp2;go_ret;exact⟨X,y_⟩
def Ed(g:ZT)(d:Y0 Addr)(b:H)(h:H->ZG)(f e:H->E):Prop:=
 b=0∨∃a c,d=T ⟨a,c,ZP⟩/\Du g a c b h f e
def rq{d b h g f e c}(a:Ed c d b g f e):C_ 95 #[V d b h] c (U_ (ZR (Wl g f e b)) c):=by
 rcases a with rfl|⟨i,j,rfl,a⟩
 exact ah;exact gw a
def Du.q{j w' e h g k i f}(a:Du j e h g k i f)(d:E_ j w'):Du w' e h g k i f:=
 ⟨a.k,λl=>Qh (a.lt l) d.size,λc b=>T_ d (a.t c b),λc b=>T_ d (a.D c b),λc b=>T_ d (a.G c b)⟩
def Ed.q{e w' a c f d b}(h:Ed e a c f d b)(j:E_ e w'):Ed w' a c f d b:=by
 rcases h with rfl|⟨g,k,rfl,i⟩
 exact ZM X;exact ZJ ⟨g,k,X,i.q j⟩
def ZfO(a:ZG):E:=if a=Z0 then 0 else 1
def Ih(b:H)(a d c:E)(g:H->ZG)(f e:H->E):ZG:=
 ZE ((1:E)<=b/\(b:E)<=4/\2<=a/\a<=16/\a<=d/\d<=32/\0<=c/\c<=20)&&Wl g f e b
def Qu{c a j d h e i g f b}(m:a<=Y2)(k:Ed b c a i g f):C_ 56 #[Y9 #[V c a j,I d,I h,I e]] b (U_ (ZR (Ih a d h e i g f)) b):=by
 unfold Y2 at m;refine q_ ?_;go_wp2_with (first|(go_at_call 95;apply (rq (k.q r_)).m;rintro n o ⟨rfl,l⟩)|go_in)
 all_goals go_ret
 ·refine⟨Tr ?_,r_.T (l.m s_)⟩;unfold Ih
  grind
 all_goals exact⟨Tr (by simp[Ih];omega),r_⟩
def ZgY{i a l b f c h e d g}(p:a<=Y2)(m:Ed g i a h e d):C_ 67 #[Y9 #[V i a l,I b,I f,I c]] g (U_ (ZX ZQ (ZfO (Ih a b f c h e d))) g):=by
 cases o:Ih a b f c h e d
 all_goals
  have k:=Y o;refine q_ ?_;go_wp2_with fail
  apply (Qu p (m.q r_)).m;rintro q r ⟨j,n⟩;rw[k] at j;subst j;go_wp2;go_ret;exact⟨X,r_.T (n.m s_)⟩
def Ee{a b}:C_ 68 #[I a] b (V_ (ZX ZQ a) b):=by refine er_ ?_;exact⟨X,X⟩
structure Ln(c:ZT)(b d)(a:U Cd):Prop where
 lt:0<F a->b<B c.1
 v:∀i,i<F a->ZV c (J b (d+i*4))=T (I (Z a i e0).v)
 t:∀i,i<F a->ZV c (J b (d+i*4+1))=T (I (Z a i e0).t)
 h:∀i,i<F a->ZV c (J b (d+i*4+2))=T (I (Z a i e0).h)
 g:∀i,i<F a->ZV c (J b (d+i*4+3))=T (I (Z a i e0).g)
def Cj(e:ZT)(d:Y0 Addr)(a:U Cd):Prop:=F a<=4194304/\(F a=0∨∃b c,d=T ⟨b,c,ZP⟩/\Ln e b c a)
def Ln.block{h w' c i f}(d:Ln h c i f)(k:B h.1<=B w'.1)(j:0<F f->w'.1[c]? =h.1[c]?):Ln w' c i f:=by have e:=λg l=>cb_ (a:=(J c l)) (j g);exact⟨λg=>Qh (d.lt g) k,λb a=>(e O _).T (d.v b a),λb a=>(e O _).T (d.t b a),λb a=>(e O _).T (d.h b a),λb a=>(e O _).T (d.g b a)⟩
def Ln.q{d w' a g e}(b:Ln d a g e)(c:E_ d w'):=b.block c.size λf=>c.block a (b.lt f)
def Cj.q{e w' c b}(a:Cj e c b)(h:E_ e w'):Cj w' c b:=by rcases a with⟨d,a|⟨f,i,g,a⟩⟩;exact⟨d,ZM a⟩;exact⟨d,ZJ ⟨f,i,g,a.q h⟩⟩
def Cj.drewN{e b a}(c:Cj e b a) d:=c.q (below_drewN y_ d)
def Zm{a b}(c:a=b):ZI (I a)=ZI (I b):=by rw[c]
def Zdv{p:Prop}(h:p:=by
 rcases b with⟨j,b|⟨n,o,rfl,b⟩⟩;exact absurd b c;have d:=b.h (F a-1) O;have l:=aO O;have m:Ae a=(Z a (F a-1) e0).h:=(by unfold Ae;rw[aC c]);have f:=Y m;generalize (Z a (F a-1) e0).h=p at d f;obtain⟨h,k⟩:∃h,F a=h+1:=⟨F a-1,O⟩;rw[k] at d j l ⊢;simp only[Nat.add_sub_cancel] at d;refine q_ ?_;go_wp2;go_ret
 exact⟨Zm f.s,X⟩):p:=h
def ZgE g a i e (b:Cj e g a):C_ 117 #[V g (F a) i] e (V_ (ZX ZQ (Ae a)) e):=by
 by_cases c:F a=0
 refine er_ ?_;exact⟨Zm (by simp[Ae,c]),X⟩;exact Zdv
def Zas{g} a {i e}(b:Cj e g a):C_ 176 #[V g (F a) i] e (V_ (ZX ZQ (Ae a)) e):=by
 by_cases c:F a=0
 refine er_ ?_;exact⟨Zm (by simp[Ae,c]),X⟩;exact Zdv
def ZcR{g} a {i e}(b:Cj e g a):C_ 87 #[V g (F a) i] e (V_ (ZX ZQ (Ae a)) e):=by
 by_cases c:F a=0
 refine er_ ?_;exact⟨Zm (by simp[Ae,c]),X⟩;exact Zdv
def al{a d}:C_ 79 #[I a] d (V_ (ZX ZQ (Ey a)) d):=by
 unfold Ey
 by_cases c:1000000000<a
 ·have b:¬a< -1000000000:=O;rw[aD c];refine q_ ?_;go_wp2;go_ret;exact⟨X,X⟩
 rw[aC c]
 by_cases b:a< -1000000000
 all_goals
  first|rw[aD b]|rw[aC b]
  refine q_ ?_;go_wp2;go_ret;exact⟨X,X⟩
def Xw{b a}:C_ 80 #[I b] a (V_ (ZX ZQ (Kd b)) a):=by
 refine q_ ?_;go_wp2
 all_goals go_ret
 all_goals exact⟨Zm (by unfold Kd;omega),X⟩
def Zpj x a {b}(c:0<=x.t/\0<=x.h/\0<=x.g/\x.t<=1000000000000/\x.h<=1000000000000/\x.g<=1000000000000)(d:0<=a.t/\0<=a.h/\0<=a.g/\a.t<=1000000000000/\a.h<=1000000000000/\a.g<=1000000000000):C_ 86 #[Y9 #[I x.v,I x.t,I x.h,I x.g],Y9 #[I a.v,I a.t,I a.h,I a.g]] b (U_ (Y9 #[ZX ZQ (Pb x a).v,ZX ZQ (Pb x a).t,ZX ZQ (Pb x a).h,ZX ZQ (Pb x a).g]) b):=by obtain⟨e,f,g,h,i,j⟩:=c;obtain⟨k,l,m,n,o,p⟩:=d;refine q_ ?_;go_wp2;exact bodyPost_ret (v:=Y9 #[I x.v,I (x.t+a.t),I (x.h+a.h),I (x.g+a.g)]) (by simp[results,results86,go_sem]) X ⟨X,(r_.alloc s_ _).alloc t_ _⟩
def iv g b {j} a {f}(c:Cj f g b)(k:Bc b)(q:a<=F b):C_ 152 #[V g (F b) j,I a] f λd h=>d=ZI (ZX ZQ (Co b a))/\∃e,h=Y1 f e:=by
 cases a with
 | zero=>
  refine er_ ?_;exact⟨Zm X,0,X⟩
 | succ a=>
  rcases c with⟨r,c|⟨l,s,rfl,c⟩⟩;omega;have h:=c.t a O;have i:=c.g a O;have e:=k.at (show a<F b by omega)
  have d:K (Co b (a+1)=(Z b a e0).t+(Z b a e0).g):=show _=_ by simp[Co]
  generalize (Z b a e0).t=t at h d e;generalize (Z b a e0).g=u at i d e;obtain⟨m,n,o,p,_⟩:=e;refine q_ ?_;go_wp2;go_quiet (fail);go_wp2;go_ret;exact⟨Zm d.s,_,X⟩
def de g a {k} b {f}(c:Cj f g a)(l:Bc a)(r:b<=F a):C_ 153 #[V g (F a) k,I b] f λe i=>e=ZI (ZX ZQ (Dz a b))/\∃d,i=Y1 f d:=by
 by_cases h:b=F a
 ·subst h
  have d:K (Dz a _=_):=show _=_ by unfold Dz;rw[aD X]
  refine q_ ?_;go_wp2_with fail
  apply (ZcR a c).m;rintro e i ⟨rfl,rfl⟩;go_wp2;go_ret;exact⟨Zm d.s,0,X⟩
 rcases c with⟨_,c|⟨m,s,rfl,c⟩⟩;omega;have i:=c.h b O;have j:=c.g b O;have e:=l.at (show b<F a by omega)
 have d:K (Dz a b=_):=show _=_ by unfold Dz;rw[aC h]
 generalize (Z a b e0).h=t at i d e;generalize (Z a b e0).g=u at j d e;obtain⟨n,o,p,q,_⟩:=e;refine q_ ?_;go_wp2;go_quiet (fail);go_wp2;go_ret;exact⟨Zm d.s,_,X⟩
def Ds(a:U Cd)(b:H)(c:E):Cd:=if b<F a/\(Z a b e0).v=c then Z a b e0 else⟨c,Co a b,Dz a b,0⟩
def Ka(b:ZT)(a:H)(c d e f:E):Prop:=b.1[a]? =T (O_ #[I c,I d,I e,I f] 98)
def Ka.cells{b a e f g h}(c:Ka b a e f g h):ZV b (J a 0)=T (I e)/\ZV b (J a 1)=T (I f)/\ZV b (J a 2)=T (I g)/\ZV b (J a 3)=T (I h)/\(∀d,YT b (J a d)=ZZ):=by unfold Ka at c;refine⟨?_,?_,?_,?_,λd=>fr_ b a d _ _ c⟩<;>simp[ZV,c]
def Ka.lt{b a d e f g}(c:Ka b a d e f g):a<B b.1:=(Qb c).1
def Ka.b{b a d h e f}(g:Ka b a d h e f){c}:Ka (ZO b (J a 1) (I c)) a d c e f:=by have:=hs_ b a 1 _ 98 (I c) g;exact this
def Ka.h{b a d e f g}(h:Ka b a d e f g){p}(i:a≠p.block){c}:Ka (ZO b p c) a d e f g:=by unfold Ka at *;rw[Below.heap_setCell b p c a i];exact h
def Ka.alloc{w a d e f g}(b:Ka w a d e f g) c:Ka (ZN w c) a d e f g:=by have h:=b.lt;unfold Ka at *;rw[hb_ w c a h];exact b
def Ka.a(a:ZT) b c d e:Ka (ZN a (O_ #[I b,I c,I d,I e] 98)) (B a.1) b c d e:=ha_ a _
def Ka.drew{b a c d e f}(g:Ka b a c d e f):Ka (YY b) a c d e f:=g
def Zb2{t} a L c {d} e (N:Cj e t a)(M:Bc a)(b5:c<=F a)(R:∀j,j<c->(Z a j e0).v<d)(P:c<F a->d<=(Z a c e0).v):C_ 175 #[V t (F a) L,I d] e (U_ (Y9 #[ZX ZQ (Ds a c d).v,ZX ZQ (Ds a c d).t,ZX ZQ (Ds a c d).h,ZX ZQ (Ds a c d).g]) e):=by
 have s:=Y N;have y:=Y M;have z:=Y R;have G:=Y P;refine dl_ ?_;go_enter func175,ntmps175;go_wp2_with fail
 apply (Zas a (s.q r_)).m;rintro a6 c4 ⟨rfl,rfl⟩;go_wp2_with fail
 go_loopw [6] (λj f=>∃b:H,b<=c/\j=I b/\E_ e f/\Ka f (B e.1) 0 0 0 0/\Ka f (B e.1+1) d (Co a b) (Ae a) 0) (m1_ (F a))
 case atStart=>
  refine⟨0,v_,X,r_.alloc s_ _,?_,?_⟩;exact(Ka.a e 0 0 0 0).alloc _;have b:B (ZN e (O_ #[I 0,I 0,I 0,I 0] 98)).1=B e.1+1:=s_;have:=Ka.a (ZN e (O_ #[I 0,I 0,I 0,I 0] 98)) d 0 (Ae a) 0;rw[b] at this;exact this
 obtain⟨b,b6,rfl,m,v,u⟩:=hrel;obtain⟨o,p,q,r,c2⟩:=v.cells;obtain⟨b7,b8,b9,c0,c1⟩:=u.cells;have D:=Y v;have A:=Y u
 by_cases f:b<F a
 ·rcases s.out with⟨_,b3|⟨a1,c3,rfl,l⟩⟩;omega;have b4:=l.lt O;have h:=l.q m;have a2:=h.v b f;have a3:=h.t b f;have a4:=h.h b f;have a5:=h.g b f;obtain⟨a7,a8,a9,b0,b1,b2⟩:=(y.at f)
  by_cases Q:b<c
  ·have w:=z b Q;have S:((Z a b e0).v==d)=_:=aO O
   have g:K (Co a (b+1)=(Z a b e0).t+(Z a b e0).g):=show _=_ by simp[Co]
   generalize (Z a b e0).v=W,(Z a b e0).t=a0,(Z a b e0).h=k,(Z a b e0).g=x at *;go_wp2_with fail
   go_region
   all_goals go_wp2
   all_goals
    go_roundw
    case rel=>
     refine⟨b+1,O,g_,(m.setCell s_ _).drew,(D.h s_).drew,?_⟩;rw[g];exact(A.b).drew
    case measure=>exact z_
  have n:c=b:=O;subst n;have w:=G f
  by_cases i:(Z a c e0).v=d
  ·have g:K (Ds a _ d=_):=show _=_ by unfold Ds;rw[aD ⟨f,i⟩]
   have S:=beq_iff_eq.2 i;clear l h i w;generalize (Z a) c e0=k at *;go_wp2;exact bodyPost_ret (v:=Y9 #[I k.v,I k.t,I k.h,I k.g]) (by simp[results,results175,go_sem,o,p,q,r]) X ⟨by rw[g],(((m.setCell s_ _).setCell s_ _).setCell s_ _).setCell s_ _⟩
  have g:K (Ds a _ d=⟨d,_,_-_,0⟩):=show _=_ by unfold Ds;rw[aC (λk=>i k.2)];unfold Dz;rw[aC O]
  have S:d<(Z a c e0).v:=O;generalize (Z a c e0).v=W,(Z a c e0).t=a0,(Z a c e0).h=k,(Z a c e0).g=x at *;go_wp2_with fail
  go_region
  all_goals go_wp2
  all_goals exact bodyPost_ret (v:=Y9 #[I d,I (Co a c),I (k-x),I 0]) (by simp[results,results175,go_sem,o,p,q,r]) X ⟨by rw[g],(by repeat(first|omega|with_reducible apply Below.drew|with_reducible refine Below.setCell ?_ s_ _))⟩
 have n:c=b:=O;subst n
 have g:K (Ds a _ d=⟨d,_,Ae a,0⟩):=show _=_ by unfold Ds;rw[aC (λk=>f k.1)];unfold Dz;rw[aD O]
 go_wp2;exact bodyPost_ret (v:=Y9 #[I d,I (Co a c),I (Ae a),I 0]) (by simp[results,results175,go_sem,o,p,q,r]) X ⟨by rw[g],(by repeat(first|omega|with_reducible apply Below.drew|with_reducible refine Below.setCell ?_ s_ _))⟩
def Es(a:Cd):U ZY:=[I a.v,I a.t,I a.h,I a.g]
def flat:U Cd->U ZY
 |[]=>[]
 |b::a=>Es b++flat a
theorem Cb a b:flat (a++b)=flat a++flat b:=by
 induction a with
 |nil=>rfl
 |cons e d c=>simp[flat,c]
theorem Cg a:F (flat a)=F a*4:=by
 induction a with
 |nil=>rfl
 |cons c a b=>simp[flat,Es,b];omega
def Zkc x:flat [x]=[I x.v,I x.t,I x.h,I x.g]:=rfl
def bq:(prog.info? 98).map (λa=>(a.zero,a.size,a.bytes))=T (T (Y9 #[I 0,I 0,I 0,I 0]),4,32):=k_
def Ai(d:ZT)(b:H)(c:ZY)(a:U Cd):Prop:=ZD d b 98 4 c (F a) (flat a)
def Ai.nil b a:Ai b a (N_) []:=ownsRow_nil b a 98 4
def Ai.alloc{w b d a}(e:Ai w b d a) c:Ai (ZN w c) b d a:=ra_ e c
def Ai.q{f w' base e a}(c:Ai f base e a)(j:E_ f w'):Ai w' base e a:=by
 refine⟨c.1,?_⟩
 rcases c.2 with l|⟨b,g,h,i,k,d,m⟩
 exact ZM l;exact ZJ ⟨b,g,h,i,k,(j.block b (Qb d).1).T d,m⟩
def Us d e:∀a b c,F (Ef d e a b c)<=a
 |0,_,_=>by simp[Ef]
 | a+1,b,c=>by
  have f:=Us d e a (b+1) c;have g:=Us d e a b (c+1);have h:=Us d e a (b+1) (c+1)
  grind [Ef]
theorem Mq a b:F (Bf a b)<=F a+F b:=Us a b _ 0 0
def Zc(b c:U Cd)(d e:H)(a:E):Cd:=⟨a,(Ds b d a).t+(Ds c e a).t,(Ds b d a).h+(Ds c e a).h,(Ds b d a).g+(Ds c e a).g⟩
theorem dc{a b}(c:b<F a):Ds a b (Z a b e0).v=Z a b e0:=by unfold Ds;grind
theorem ot{a b c}(d:b<F a->(Z a b e0).v≠c):Ds a b c=⟨c,Co a b,Dz a b,0⟩:=by unfold Ds;grind
def Znf{a c b d}(e:b<F a)(f:d<F c->(Z a b e0).v<(Z c d e0).v):Zc a c b d (Z a b e0).v=seen c d (Z a b e0):=by unfold Zc seen;rw[dc e,ot (λg=>O)];simp
def Zng{c a d b}(f:b<F a)(e:d<F c->(Z a b e0).v<(Z c d e0).v):Zc c a d b (Z a b e0).v=seen c d (Z a b e0):=by grind [Zc,seen,dc,ot,Cd.mk.injEq]
def ZkV{a c b d}(f:b<F a)(g:d<F c)(e:(Z a b e0).v=(Z c d e0).v):Zc a c b d (Z a b e0).v=Pb (Z a b e0) (Z c d e0):=by grind [Zc,Pb,dc]
def Zb1{a}(d:Bc a){b}(f:b<=F a) c:0<=(Ds a b c).t/\(Ds a b c).t<=1000000000000/\0<=(Ds a b c).h/\(Ds a b c).h<=1000000000000/\0<=(Ds a b c).g/\(Ds a b c).g<=1000000000000:=by
 unfold Ds;split;rename_i e;have:=d.at e.1;omega;have e:=jz d f;have g:=Dk d
 grind
structure Ot(c d:U Cd)(a b):Prop where
 h:a<=F c
 e:b<=F d
 i:a<F c->0<b->(Z d (b-1) e0).v<(Z c a e0).v
 k:b<F d->0<a->(Z c (a-1) e0).v<(Z d b e0).v
def ai{c}(f:Bc c){a d}(h:a<=F c)(g:0<a->(Z c (a-1) e0).v<d):∀b,b<a->(Z c b e0).v<d:=by
 intro b i
 by_cases e:b=a-1
 rw[e];exact(g O);have:=(f.lt (show b<a-1 by omega) O).1;omega
def Ot.a{a c}(g:Bc a){b d}(f:Ot a c b d)(j:b<F a)(h:d<F c->(Z a b e0).v<(Z c d e0).v):Ot a c (b+1) d:=
 ⟨O,f.e,λe i=>oj_ (f.i j i) (g.lt (show b<b+1 by omega) e).1,λe _=>by simpa using h e⟩
def Ot.b{c b}(g:Bc b){d a}(f:Ot c b d a)(j:a<F b)(h:d<F c->(Z b a e0).v<(Z c d e0).v):Ot c b d (a+1):=
 ⟨f.h,O,λe _=>by simpa using h e,λe i=>oj_ (f.k j i) (g.lt (show a<a+1 by omega) e).1⟩
def Ot.c{c d}(f:Bc c)(g:Bc d){a b}(h:Ot c d a b)(j:a<F c)(k:b<F d)(i:(Z c a e0).v=(Z d b e0).v):Ot c d (a+1) (b+1):=
 ⟨O,O,λe _=>gh_ (f.lt (show a<a+1 by omega) e).1,λe _=>gh_ (g.lt (show b<b+1 by omega) e).1⟩
structure So(a b)(c d)(e):Prop where
 n:Ot a b c d
 f:e++Oj a b c d=Bf a b
def So.y{a b f g c}(d:So a b f g c):F c<=F a+F b:=by have e:=congrArg F d.f;have h:=Mq a b;simp at e;omega
def So.a{a b}(i:Bc a){c d g}(h:So a b c d g)(f:c<F a)(e:d<F b->(Z a c e0).v<(Z b d e0).v):So a b (c+1) d (g++[seen b d (Z a c e0)]):=
 ⟨h.n.a i f e,by rw[append_assoc,<- h.f,Znw f e];rfl⟩
def So.b{a b}(i:Bc b){c d g}(h:So a b c d g)(f:d<F b)(e:c<F a->(Z b d e0).v<(Z a c e0).v):So a b c (d+1) (g++[seen a c (Z b d e0)]):=
 ⟨h.n.b i f e,by rw[append_assoc,<- h.f,Znx f e];rfl⟩
def So.c{a b}(j:Bc a)(k:Bc b){c d h}(i:So a b c d h)(f:c<F a)(g:d<F b)(e:(Z a c e0).v=(Z b d e0).v):So a b (c+1) (d+1) (h++[Pb (Z a c e0) (Z b d e0)]):=
 ⟨i.n.c j k f g e,by rw[append_assoc,<- i.f,Zlm f g e];rfl⟩
def Ai.P{c a b L}{x:Cd}(d:ZD c a 98 4 b (F L+1) (flat L++[I x.v,I x.t,I x.h,I x.g])):Ai c a b (L++[x]):=by unfold Ai;rw[Cb,Zkc,Qe];exact d
def Cj.g{e g f d i}(b:Cj e f d)(h:E_ e g)(j:i<F d):∃a c,f=T ⟨a,c,ZP⟩/\ZV g (J a (c+i*4))=T (I (Z d i e0).v)/\a<B e.1:=by rcases b with⟨_,k|⟨a,c,rfl,b⟩⟩;omega;exact⟨a,c,X,T_ h (b.v i j),b.lt O⟩
def NxJ(a b:U Cd)(e f:H)(i:U Cd)(d:E)(g h:H):Prop:=So a b g h (i++[Zc a b e f d])/\(∀c,c<e->(Z a c e0).v<d)/\(e<F a->d<=(Z a e e0).v)/\(∀c,c<f->(Z b c e0).v<d)/\(f<F b->d<=(Z b f e0).v)
def Zqk{d c b a n}(j:Bc d)(k:Bc c)(h:So d c b a n)(g:b<F d∨a<F c):∃i p m,NxJ d c b a n i p m/\((b<F d/\i=(Z d b e0).v/\p=b+1/\(a<F c/\i<(Z c a e0).v/\a=m∨a<F c/\i=(Z c a e0).v/\m=a+1∨¬a<F c/\a=m))∨a<F c/\i=(Z c a e0).v/\m=a+1/\b=p/\(b<F d/\i<(Z d b e0).v∨¬b<F d)):=by
 have s:=h.n.h;have q:=h.n.e;have t:∀e g,NxJ d c b a n (Z d b e0).v (b+1) a:=λe g=>⟨Znf e g ▸ h.a j e g,λr l=>(j.lt l e).1,λ_=>Int.le_refl _,ai k q (h.n.i e),λf=>Int.le_of_lt (g f)⟩;have u:∀f g,NxJ d c b a n (Z c a e0).v b (a+1):=λf g=>⟨Zng f g ▸ h.b k f g,ai j s (h.n.k f),λe=>Int.le_of_lt (g e),λr l=>(k.lt l f).1,λ_=>Int.le_refl _⟩
 by_cases e:b<F d
 ·by_cases f:a<F c
  ·rcases Int.lt_trichotomy (Z d b e0).v (Z c a e0).v with w|o|v
   ·grind
   exact⟨_,_,_,⟨ZkV e f o ▸ h.c j k e f o,λr l=>(j.lt l e).1,λ_=>Int.le_refl _,ai k q (h.n.i e),λ_=>O⟩,ZM ⟨e,X,X,ZJ (ZM ⟨f,o,X⟩)⟩⟩
   grind
  grind
 grind
def bkJ{p:Prop}(h:p:=by
 obtain⟨p1,p2,p3,p4,p5,p6⟩:=P1;obtain⟨q1,q2,q3,q4,q5,q6⟩:=P2;go_wp2_with fail
 go_big_quiet (fail);go_wp2_with fail
 apply (HPA _ (HEA.q (below_drewN y_ _))).m;rintro e w1 ⟨rfl,hb1⟩;have hbw1:Below wr.1.size _ _:=(below_drewN y_ _).T hb1;have HEB1:=Y (HEB.q hbw1);go_wp2_with fail
 apply (HPB _ (HEB1.q r_)).m;rintro e w2 ⟨rfl,hb2⟩;have hX:Ka w2 w1.1.size pa.v pa.t pa.h pa.g:=(by unfold Ka;rw[hb2.block _ s_];exact hn_);have⟨_,x1,x2,x3,_⟩:=hX.cells;have hzz:w1.1.size<w2.1.size:=(by have:=hb2.size;simp at this;omega);have hbw2:=hbw1.T ((r_.T (hb2.m s_)).m hbw1.size);have HO2:=Y (HO.q hbw2);have hs2:=aG hsz hbw2.size;go_wp2_with (at_builtin;refine wpList_append_own _ rfl (.tmp 60) (.tmp 78) 29 rfl w.1.size 98 i0 _ 4 32 underlying29 hinf hz0 hz1 hz2 rfl C _ out.length (flat out) rfl ((HO2.alloc _).alloc _) _ 1 1 [I vp,I (pa.t+pb.t),I (pa.h+pb.h),I (pa.g+pb.g)] rfl rfl ?_ ?_ ?_ ?_ ?_ ?_)
 have:=one_new (w2.alloc (O_ #[I pb.v,I pb.t,I pb.h,I pb.g] 98)) #[I vp,I (pa.t+pb.t),I (pa.h+pb.h),I (pa.g+pb.g)] 98;rw[show(w2.alloc (O_ #[I pb.v,I pb.t,I pb.h,I pb.g] 98)).1.size=w2.1.size+1 by simp] at this;exact this
 ·intro u hu;simp at hu;rcases hu with rfl|rfl|rfl|rfl<;>rfl
 unfold maxLen;omega;omega;simp;omega;intro v3 w3 hown3 hgrow _;have hb3:=(((hbw2.m hsz).alloc hs2 _).alloc t_ _).grown hgrow t_ (λk hk=>(HO2.lt k hk).1);have hb4:=hbel.T hb3;try have ca3:=(hb3.cell (p:=(J b1 (o1+i*4))) hbb1).T ca0
 try have cb3:=(hb3.cell (p:=(J b2 (o2+j*4))) hbb2).T cb0
 have HF:K (Ai w3 w.1.size v3 (out++[X])):=HNX ▸ (Ai.P hown3);try clear ca0
 try clear cb0
 go_wp2;go_roundw
 case rel=>first|exact⟨i+1,j,_,g_,g_,⟨HX,HF⟩,hb4⟩|exact⟨i+1,j+1,_,g_,g_,⟨HX,HF⟩,hb4⟩|exact⟨i,j+1,_,g_,g_,⟨HX,HF⟩,hb4⟩
 case measure=>simp[intOf];omega):p:=h
def Tp s t b a N P w (x:Cj w s b)(y:Cj w t a)(Q:Bc b)(R:Bc a):C_ 120 #[V s (F b) N,V t (F a) P] w λe c=>∃v,e=ZI v/\Ai c (B w.1) v (Bf b a)/\E_ w c:=by
 have⟨i0,hinf,hz0,hz1,hz2⟩:=info_parts bq;have b3:=x.1;have b4:=y.1;have⟨G,L,p,q⟩:=y4_ x y Q R;clear x y Q R;refine dl_ ?_;go_enter func120,ntmps120;go_wp2_with fail
 go_loopw [5,6,7] (λg c d f=>∃(i j:H) (out:U Cd),c=I i/\d=I j/\K (So b a i j out/\Ai f (B w.1) g out)/\E_ w f) (λ_ c d _=>(F b-ZL (intOf c))+(F a-ZL (intOf d)))
 case atStart=>exact⟨0,0,[],Z7,Z7,⟨⟨⟨v_,v_,λ_ h=>absurd h O,λ_ h=>absurd h O⟩,by simp[ph]⟩,Ai.nil _ _⟩,y_⟩
 obtain⟨i,j,out,rfl,rfl,a3,hbel⟩:=hrel;obtain⟨l,a0⟩:=a3;have a8:=l.y;have hi:=l.n.h;have W:=l.n.e;have hsz:=hbel.size;have A:=G.q hbel;have D:=L.q hbel;have⟨HEA,HEB,HO,r⟩:=y4_ A D a0 l;clear l a0 A D
 by_cases S:i<F b∨j<F a
 ·obtain⟨vp,a9,b0,⟨hX,a1,n,a2,o⟩,m⟩:=Zqk p q r S;have P1:=Zb1 p hi vp;have P2:=Zb1 q W vp;have HPA:K (∀g,Cj g s b->_):=λg z=>Zb2 b N i g z p hi a1 n;have HPB:K (∀g,Cj g t a->_):=λg z=>Zb2 a P j g z q W a2 o;have HNX:K (Zc b a i j vp=⟨vp,(Ds b i vp).t+(Ds a j vp).t,(Ds b i vp).h+(Ds a j vp).h,(Ds b i vp).g+(Ds a j vp).g⟩):=rfl;have HX:=Y hX;have f:=λh=>G.g hbel (i:=i) h;have c:=λh=>L.g hbel (i:=j) h;clear hX a1 n a2 o r S;generalize Zc b a i j vp=X,Ds b i vp=pa,Ds a j vp=pb,(Z b i e0).v=n,(Z a j e0).v=o at *
  rcases m with⟨k,rfl,rfl,m⟩|⟨d,rfl,rfl,rfl,m⟩
  ·obtain⟨b1,o1,rfl,ca0,hbb1⟩:=f k;have a4:=F_ i (F b)
   rcases m with⟨d,a7,rfl⟩|⟨d,rfl,rfl⟩|⟨d,rfl⟩
   obtain⟨b2,o2,rfl,cb0,hbb2⟩:=c d;have M:=F_ j (F a);have a5:ZE (vp<=o)=_:=aF O;have a6:(o==vp)=_:=aO O;have u:ZE (F a<=j)=_:=aE O;clear f c;exact bkJ;obtain⟨b2,o2,rfl,cb0,hbb2⟩:=c d;have M:=F_ j (F a);have u:ZE (F a<=j)=_:=aE O;clear f c;exact bkJ;have M:ZE ((F a:_)<=(j:E))=_:=aF O;have u:ZE (F a<=j)=_:=aF O;clear f c;exact bkJ
  obtain⟨b2,o2,rfl,cb0,hbb2⟩:=c d;have M:=F_ j (F a);have u:ZE (F a<=j)=_:=aE O
  rcases m with⟨k,a7⟩|k
  obtain⟨b1,o1,rfl,ca0,hbb1⟩:=f k;have a4:=F_ i (F b);have a5:ZE (n<=vp)=_:=aE O;have a6:(n==vp)=_:=aO O;clear f c;exact bkJ;have a4:ZE ((i:_)<(F b:E))=_:=aE O;clear f c;exact bkJ
 have k:¬i<F b:=O;have d:¬j<F a:=O;have c:out=Bf b a:=(by have:=r.f;rw[vv k d,append_nil] at this;exact this);have f:=Y (c ▸ HO);clear c;go_wp2;go_ret;exact⟨_,Z7,f,hbel⟩
end Go.Proofs.YtfcgnpchbcmdeaaGreat
