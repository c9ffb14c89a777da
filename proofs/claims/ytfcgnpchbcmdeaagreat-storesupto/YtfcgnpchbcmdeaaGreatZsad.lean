import Derived.Test.YtfcgnpchbcmdeaaGreatHda
open _root_ renaming Nat->H,Array->YZ,Bool->ZG,List->U,Int->E,rfl->X,List->Z1
open Go renaming World->ZT,Value->ZY
open Bool renaming true->Z0,false->ZZ
open Array renaming setIfInBounds->YS,size->B,toList->Y4
open Option renaming some->T
open Or renaming inr->ZJ,inl->ZM
open Go.World renaming drew->YY
open List renaming length->F,getD->Z,take->ZU
open Decidable renaming decide->ZE
open Int renaming toNat->ZL
namespace Go.Proofs.YtfcgnpchbcmdeaaGreat
set_option linter.all false
open Go List Nat Go.World Go.Proofs.Tryz Go.Value Go.IntKind Go.Lib Go.Region
section
variable {P:Program} {a:YZ Oper} {Q:Exit->Act->ZT->Prop} {b:Region.Mode} {S:ZT->Prop} {c:H}
def Db(P:Program)(b:Region.Mode)(a:YZ Oper)(Q:Exit->Act->ZT->Prop)(S:ZT->Prop)(c:H):H->YZ ZG->Act->ZT->Prop
 |0,d,e,f=>ready b a d=[]/\Q .normal e f
 | j+1,d,e,f=>
  (ready b a d=[]->Q .normal e f)/\
  ∀g∈ready b a d,wpOp P a Q g (λi h=>((YS d g Z0).getD c ZZ=Z0∨S h)/\Db P b a Q S c j (YS d g Z0) i h) e f
def qy:∀(d:H)(g:YZ ZG)(f:Act)(h:ZT),Db P b a Q S c d g f h->wpAny P b a Q d g f h
 |0,_,_,_,e=>e
 |d+1,_,_,_,e=>⟨e.1,λl k=>wpOp_mono (λi m j=>qy d _ i m j.2) (e.2 l k)⟩
def nh(b:Region.Mode)(a:YZ Oper)(g:YZ ZG)(f:H)(d:U H):ZG:=
 d.all λe=>!g.getD e Z0&&((a[e]?).map λh=>h.after.any λc=>binds b c&&(c.on==f||d.contains c.on)).getD ZZ
structure Zda(b)(a:YZ Oper)(h:YZ ZG)(g)(c:U H):Prop where
 j:∀e∈c,h.getD e Z0=ZZ
 i:∀e∈c,∃f,a[e]? =T f/\∃d∈f.after,binds b d=Z0/\(d.on=g∨d.on∈c)
def Zhy{f e c}(d:nh b a f e c=Z0):Zda b a f e c:=by
 unfold nh at d;rw[all_eq_true] at d;refine⟨λh g=>?_,λh g=>?_⟩
 ·grind
 grind
def Zbq{b:YZ ZG}{a}(c:b.getD a Z0=ZZ):b.getD a ZZ=ZZ:=w_
def Zda.d{d h e}(g:Zda b a d h e)(q:d.getD h Z0=ZZ){c}(m:c∈e):c ∉ ready b a d:=λp=>by
 obtain⟨_,r,n,j⟩:=mem_ready.1 p;obtain⟨s,ho',i,l,k,o⟩:=g.i c m;rw[n] at ho';injection ho' with ho';subst ho';have:=j i l k
 rcases o with f|f
 ·grind
 rw[Zbq (g.j _ f)] at this;cases this
def Zda.set{h f d c}(e:Zda b a h f c)(k:d ∉ c):Zda b a (YS h d Z0) f c:=
 ⟨λg i=>by
  have j:d≠g:=w_
  rw[getD_set_ne Z0 j];exact e.j g i,e.i⟩
def Zav{f l M u}(L:c∈u)(D:a[f]? =T l)(a1:∀(e:H) a2 z n,a[e]? =T a2->a2.op≠ .select z n)(a6:∀N g j,Q (.panic N) (g.put l.dst M) j->Q (.panic N) g j):∀o i g j,(∀e s,a[e]? =T s->e≠f->i.getD e Z0=ZZ->(∀d∈s.after,binds b d=Z0->d.on≠f)->l.apart a s=Z0)->f∈ready b a i->Zda b a i f u->YieldsIf P a S l M g->S j->Db P b a Q S c o (YS i f Z0) (g.put l.dst M) j->Db P b a Q S c (o+1) i g j:=by
 intro o
 induction o with
 | zero=>
  intro i g j _ x _ y p m;refine⟨λa3=>w_,λe q=>?_⟩
  by_cases h:e=f
  subst h;exact y.wpOp D p ⟨ZJ p,m⟩;have:=ready_mono q h;rw[m.1] at this
  cases this
 | succ o b6=>
  intro i g j W x w y p m;have r:=(mem_ready.1 x).1;refine⟨λa3=>w_,λe q=>?_⟩
  by_cases h:e=f
  subst h;exact y.wpOp D p ⟨ZJ p,m⟩;have a4:=m.2 e (ready_mono q h);obtain⟨a9,s,G,b9⟩:=mem_ready.1 q;have a0:e ∉ u:=λd=>w.d r d q;have a8:f ∉ u:=λd=>w.d r d x;have b4:f≠_:=λd=>a8 (d ▸ L);have b5:e≠_:=λd=>a0 (d ▸ L);have b3:∀d∈s.after,binds b d=Z0->d.on≠f:=w_;have a5:=wpOp_putIf G (W e _ G h a9 b3) (λz n=>a1 f _ _ n D) (λz n=>a1 e _ _ n G) a6 y a4
  have a7:∀k t,a[k]? =T t->k≠f->(YS i e Z0).getD k Z0=ZZ->
    (∀d∈t.after,binds b d=Z0->d.on≠f)->l.apart a t=Z0:=λk t b0 b1 r b2=>by
   refine W k t b0 b1 ?_ b2
   by_cases v:e=k
   ·grind
   rw[getD_set_ne Z0 v] at r;exact r
  refine wpOp_mono (λb8 b7 A=>?_) a5
  have R:S b7:=by
   rcases A.2.1 with v|v
   ·rw[getD_set_ne ZZ b5,getD_set_ne ZZ b4,Zbq (w.j c L)] at v
    cases v
   exact v
  refine⟨ZJ R,b6 _ _ _ a7 (ready_mono x (Ne.s h)) (w.set a0) A.1 R ?_⟩;rw[Array.setIfInBounds_comm _ _ h];exact A.2.2
def ZcW{f h i l g d e} j (m:a[f]? =T h)
  (t:noSelect a=Z0) (r:free b a g f=Z0) (s:(ready b a g).contains f=Z0) (u:j.contains c=Z0) (o:nh b a g f j=Z0)
  (p:∀k d e,Q (.panic k) (d.put h.dst i) e->Q (.panic k) d e) (v:YieldsIf P a S h i d) (q:S e)
  (n:Db P b a Q S c l (YS g f Z0) (d.put h.dst i) e):=
 Zav (by simpa using u) m (noSelect_spec t) p l g d e (free_spec m r) (by simpa using s) (Zhy o) v q n
def Fr{g d h}(f:ready b a g=[])(e:Q .normal d h):∀i,Db P b a Q S c i g d h
 |0=>⟨f,e⟩
 |_+1=>⟨λ_=>e,by rw[f];simp⟩
def Zfg{i g k j e d}(q:ready b a j=[i])(p:a[i]? =T g)(m:∀f:Act->ZT->Prop,Shut (∀e d,S d->(S d->Db P b a Q S c k (YS j i Z0) e d)->f e d)->if wanted g (yielded a e.tmps)=Z0 then Oper.wp P g e d f Q else f (e.put g.dst undef) d):Db P b a Q S c (k+1) j e d:=by refine⟨λr=>w_,λs h=>?_⟩;rw[q] at h;simp only[mem_cons,not_mem_nil,or_false] at h;subst h;exact wpOp_step p (λf n=>m _ (λe d l o=>n e d ⟨ZJ l,o l⟩))
def ZcV{g i k h d e}(p:ready b a h=[g])(o:a[g]? =T i)(q:(YS h g Z0).getD c ZZ=Z0)(l:∀f:Act->ZT->Prop,Shut (∀d e,Db P b a Q S c k (YS h g Z0) d e->f d e)->if wanted i (yielded a d.tmps)=Z0 then Oper.wp P i d e f Q else f (d.put i.dst undef) e):Db P b a Q S c (k+1) h d e:=by refine⟨λr=>w_,λs j=>?_⟩;rw[p] at j;simp only[mem_cons,not_mem_nil,or_false] at j;subst j;exact wpOp_step o (λf m=>l _ (λd e n=>m d e ⟨ZM q,n⟩))
def Af{h d b} S c (g:P.follows .mixedOrders=Z0)(f:S (YY b))(e:S (YY b)->Db P .any a Q S c (B a) (Array.replicate (B a) ZZ) d (YY b)):(Code.region h a Z0).wp P Q d b:=
 wp_region_any g (qy _ _ _ _ (e f))
end
section
variable {P:Program} {a:YZ Oper} {Q:Exit->Act->ZT->Prop} {b:Region.Mode} {S:ZT->Prop} {c:H}
def Mj{i g v k f d e} h (u:(Y4 a)[i]? =T g)
  (r:noSelect a=Z0) (p:free b a f i=Z0) (q:(ready b a f).contains i=Z0) (s:h.contains c=Z0) (m:nh b a f i h=Z0)
  (n:∀j d e,Q (.panic j) (d.put g.dst v) e->Q (.panic j) d e) (t:YieldsIf P a S g v d) (o:S e)
  (l:Db P b a Q S c k (YS f i Z0) (d.put g.dst v) e):=
 ZcW h w_ r p q s m n t o l
def gq{h f j i e d}(l:ready b a i=[h])(m:(Y4 a)[h]? =T f)
  (k:∀g:Act->ZT->Prop,Shut (∀e d,S d->(S d->Db P b a Q S c j (YS i h Z0) e d)->g e d)->if wanted f (yielded a e.tmps)=Z0 then Oper.wp P f e d g Q else g (e.put f.dst undef) d):=Zfg l w_ k
def Ew{i f j h d e}(l:ready b a h=[i])(n:(Y4 a)[i]? =T f)(m:(YS h i Z0).getD c ZZ=Z0)
  (k:∀g:Act->ZT->Prop,Shut (∀d e,Db P b a Q S c j (YS h i Z0) d e->g d e)->if wanted f (yielded a d.tmps)=Z0 then Oper.wp P f d e g Q else g (d.put f.dst undef) e):=ZcV l w_ m k
end
section
variable {P:Program} {ops:Array Oper} {Q:Exit->Act->World->Prop} {md:Region.Mode} {S:World->Prop} {stop:Nat}
def tkM{e:Oper}{v:Value}{d:Nat}{b:Array Bool}{a:Act}{w:World}(W:List Nat)(i:Nat)(y:∀w,S w->(execOp a.eval e).run P w=.ok (.value v) w)(h:Db P md ops Q S stop d (b.setIfInBounds i true) (a.put e.dst v) w)(f:ops.toList[i]? =some e:=by rfl)(hs:noSelect ops=true:=by kernel_rfl)(hf:free md ops b i=true:=by kernel_rfl)(hr:(ready md ops b).contains i=true:=by kernel_rfl)(hstop:W.contains stop=true:=by kernel_rfl)(hL:nh md ops b i W=true:=by kernel_rfl)(hQ:∀c a w,Q (.panic c) (a.put e.dst v) w->Q (.panic c) a w:=by exact λ_ _ _ h=>h)(hg:wanted e (yielded ops a.tmps)=true:=by rfl)(hS:S w:=by assumption):Db P md ops Q S stop (d+1) b a w:=Mj W f hs hf hr hstop hL hQ (Or.inl ⟨hg,y⟩) hS h
end
def sA{α:Type _}(xs:List α)(i:Nat)(a:α):xs.toArray.setIfInBounds i a=(xs.set i a).toArray:=setIfInBounds_toArray xs i a
def sB{α:Type _}{x:α}{xs:List α}{i:Nat}{a:α}:(x::xs).set (i+1) a=x::xs.set i a:=rfl
def sC{α:Type _}{x:α}{xs:List α}{a:α}:(x::xs).set 0 a=a::xs:=rfl
end Go.Proofs.YtfcgnpchbcmdeaaGreat
namespace Go.Proofs.YtfcgnpchbcmdeaaGreat
open List Nat Go.World Go.Proofs.Tryz Go.Value Go.IntKind Go.Lib Go.Region
set_option linter.all false
section
variable {P:Program} {a:YZ Oper} {Q:Exit->Act->ZT->Prop} {b:Region.Mode} {S:ZT->Prop} {c:H}
def Zf9(b:Region.Mode)(a:YZ Oper)(g:YZ ZG)(f:H):U H:=
 (range (B a)).foldl (λc e=>if !g.getD e Z0&&((a[e]?).map λh=>h.after.any λd=>binds b d&&(d.on==f||c.contains d.on)).getD ZZ then c++[e] else c) []
def tkP{g:Oper}{i:ZY}{l:H}{f:YZ ZG}{e j:Act}{w:ZT}(d:H)
  (h:Db P b a Q S c l (YS f d Z0) j w) (s:(Y4 a)[d]? =T g:=by rfl)
  (u:noSelect a=Z0:=by kernel_rfl) (q:free b a f d=Z0:=by kernel_rfl) (t:(ready b a f).contains d=Z0:=by kernel_rfl) (v:(Zf9 b a f d).contains c=Z0:=by kernel_rfl) (m:nh b a f d (Zf9 b a f d)=Z0:=by kernel_rfl)
  (r:wanted g (yielded a e.tmps)=Z0:=by rfl) (o:S w:=by assumption)
  (x:∀w,S w->(execOp e.eval g).run P w=.ok (.value i) w:=by intro w hSw;(first|obtain⟨_,_,_,_,_⟩:=hSw|obtain⟨_,_,_,_⟩:=hSw|obtain⟨_,_,_⟩:=hSw|obtain⟨_,_⟩:=hSw|skip);go_simp;try with_reducible rfl)
  (p:e.put g.dst i=j:=by(try simp only[Act.put,setIfInBounds_toArray,set_cons_succ,set_cons_zero]);exact rfl)
  (n:∀k e w,Q (.panic k) (e.put g.dst i) w->Q (.panic k) e w:=by exact λ_ _ _ h=>h):=Mj _ s u q t v m n (ZM ⟨r,x⟩) o (p ▸ h)
end
structure Cd where
 v:E
 t:E
 h:E
 g:E
def Ey(z:E):E:=if 1000000000<z then 1000000000 else if z< -1000000000 then -1000000000 else z
def Kd(z:E):E:=if z<1∨1000<z then 1 else z
def Ao(vs ws:U E):U (E×E):=(zip vs ws).map λp=>(Ey p.1,Kd p.2)
theorem Lh(a b:U E):F (Ao a b)=min (F a) (F b):=by simp[Ao]
def Qj:U (E×E)->E->E
  |[],_=>0
  |p::r,v=>(if p.1=v then p.2 else 0)+Qj r v
def Nr(a b:U (E×E))(v:E):Qj (a++b) v=Qj a v+Qj b v:=by
 induction a with
 |nil=>simp[Qj]
 |cons p r ih=>simp only[cons_append,Qj,ih];omega
def ZlR{a b:U (E×E)}(h:a.Perm b){v:E}:Qj a v=Qj b v:=by
 induction h with
 |nil=>rfl
 |cons x _ ih=>simp only[Qj,ih]
 |swap x y l=>simp only[Qj];omega
 |trans _ _ h1 h2=>exact h1.T h2
def qt{a:U (E×E)}{v:E}(h:∀p∈a,p.1≠v):Qj a v=0:=by
 induction a with
 |nil=>rfl
 |cons p r ih=>simp only[Qj];rw[aC (h p s_),ih (λq hq=>h q (by simp[hq]))];rfl
structure Ej(ps M:U (E×E)):Prop where
 f:M.Pairwise λp q=>p.1<q.1
 e:∀p∈M,∃q∈ps,q.1=p.1
 all:∀q∈ps,∃p∈M,p.1=q.1
 g:∀p∈M,p.2=Qj ps p.1
def Zgt:∀{M N:U (E×E)},M.Pairwise (λp q=>p.1<q.1)->N.Pairwise (λp q=>p.1<q.1)->(∀p,p∈M↔p∈N)->M=N
 |[],[],_,_,_=>X
 |[],q::_,_,_,h=>absurd ((h q).2 s_) s_
 |p::_,[],_,_,h=>absurd ((h p).1 s_) s_
 | p ::M,q::N,hM,hN,h=>by
  rw[pairwise_cons] at hM hN
  have hpq:p=q:=by
   rcases mem_cons.1 ((h p).1 s_) with e|e
   exact e
   rcases mem_cons.1 ((h q).2 s_) with a|a
   exact a.s;have c:=hN.1 p e;have b:=hM.1 q a;omega
  subst hpq;congr 1;refine Zgt hM.2 hN.2 λr=>⟨λhr=>?_,λhr=>?_⟩
  ·rcases mem_cons.1 ((h r).1 (by simp[hr])) with e|e
   have:=hM.1 r hr;rw[e] at this;omega;exact e
  rcases mem_cons.1 ((h r).2 (by simp[hr])) with e|e
  have:=hN.1 r hr;rw[e] at this;omega;exact e
def Ej.a{h M N:U (E×E)}(c:Ej h M)(d:Ej h N):M=N:=by refine Zgt c.f d.f λp=>⟨λhp=>?_,λhp=>?_⟩;obtain⟨q,g,e⟩:=c.e p hp;obtain⟨r,b,f⟩:=d.all q g;have a:p=r:=Prod.ext O (by rw[c.g p hp,d.g r b,f,e]);exact a ▸ b;obtain⟨q,g,e⟩:=d.e p hp;obtain⟨r,b,f⟩:=c.all q g;have a:p=r:=Prod.ext O (by rw[d.g p hp,c.g r b,f,e]);exact a ▸ b
def Ej.n{ps qs M:U (E×E)}(h:Ej ps M)(hp:ps.Perm qs):Ej qs M:=
 ⟨h.f,λp hpM=>let ⟨q,hq,e⟩:=h.e p hpM;⟨q,hp.mem_iff.1 hq,e⟩,λq hq=>h.all q (hp.mem_iff.2 hq),λp hpM=>(h.g p hpM).T (ZlR hp)⟩
def Ej.P{g M:U (E×E)}(h:Ej g M){p:E×E}(f:∀q∈g,q.1<p.1):Ej (g++[p]) (M++[p]):=by
 refine⟨?_,?_,?_,?_⟩;rw[pairwise_append];refine⟨h.f,s_,λa c b hb=>?_⟩;simp at hb;subst hb;obtain⟨q,d,e⟩:=h.e a c;have:=f q d;omega
 ·intro a c
  rcases mem_append.1 c with c|c
  obtain⟨q,d,e⟩:=h.e a c;exact⟨q,by simp[d],e⟩;simp at c;subst c;exact⟨a,s_,X⟩
 ·intro q d
  rcases mem_append.1 d with d|d
  obtain⟨a,c,e⟩:=h.all q d;exact⟨a,by simp[c],e⟩;simp at d;subst d;exact⟨q,s_,X⟩
 intro a c;rw[Nr]
 rcases mem_append.1 c with c|c
 obtain⟨q,d,e⟩:=h.e a c;have:=f q d;simp only[Qj];rw[aC O,h.g a c];omega;simp at c;subst c;rw[qt (λq d=>by have:=f q d;omega)];simp[Qj]
def Ej.c{g M:U (E×E)}{v w:E}(h:Ej g (M++[(v,w)]))(u:E):Ej (g++[(v,u)]) (M++[(v,w+u)]):=by
 have f:=h.f;rw[pairwise_append] at f;refine⟨?_,?_,?_,?_⟩;rw[pairwise_append];refine⟨f.1,s_,λa c b hb=>?_⟩;simp at hb;subst hb;exact f.2.2 a c (v,w) s_
 ·intro a c
  rcases mem_append.1 c with c|c
  obtain⟨q,d,e⟩:=h.e a (by simp[c]);exact⟨q,by simp[d],e⟩;simp at c;subst c;exact⟨(v,u),s_,X⟩
 ·intro q d
  rcases mem_append.1 d with d|d
  ·obtain⟨a,c,e⟩:=h.all q d
   rcases mem_append.1 c with c|c
   exact⟨a,by simp[c],e⟩;simp at c;subst c;exact⟨(v,w+u),s_,e⟩
  simp at d;subst d;exact⟨(v,w+u),s_,X⟩
 intro a c;rw[Nr]
 rcases mem_append.1 c with c|c
 have:=f.2.2 a c (v,w) s_;simp only[Qj];simp only at this;rw[aC O,h.g a (by simp[c])];omega;simp at c;subst c;have:=h.g (v,w) s_;simp only[Qj,if_true] at *;omega
def Ej.nil:Ej [] []:=⟨s_,s_,s_,s_⟩
def Bo:E->U (E×E)->U Cd
  |_,[]=>[]
  |low,p::r=>⟨p.1,low,low+p.2,p.2⟩::Bo (low+p.2) r
def Bv:U (E×E)->E
  |[]=>0
  |p::r=>p.2+Bv r
def Tx(a b:U (E×E)):Bv (a++b)=Bv a+Bv b:=by
 induction a with
 |nil=>simp[Bv]
 |cons p r ih=>simp only[cons_append,Bv,ih];omega
theorem Zk(c:E)(a b:U (E×E)):Bo c (a++b)=Bo c a++Bo (c+Bv a) b:=by
 induction a generalizing c with
 |nil=>simp[Bo,Bv]
 |cons p r ih=>simp only[cons_append,Bo,ih,Bv];rw[show c+p.2+Bv r=c+(p.2+Bv r) by omega]
def Pw(b:E)(a:U (E×E)):F (Bo b a)=F a:=by
 induction a generalizing b with
 |nil=>rfl
 |cons p r ih=>simp[Bo,ih]
structure Bc(L:U Cd):Prop where
 j:∀e∈L,0<=e.t/\1<=e.g/\e.t+e.g<=e.h/\e.h<=1000000000000/\ -1000000000<=e.v/\e.v<=1000000000
 i:L.Pairwise λe f=>e.v<f.v/\e.t+e.g<=f.t/\e.h<=f.h-f.g
def Bc.nil:Bc []:=⟨s_,s_⟩
def Bc.e{L M:U Cd}(h:Bc L)(hs:M.Sublist L):Bc M:=⟨λe he=>h.j e (hs.subset he),h.i.sublist hs⟩
def pe{b:E}{a:U (E×E)}(d:∀p∈a,1<=p.2):∀e∈Bo b a,b<=e.t/\e.h=e.t+e.g/\e.h<=b+Bv a/\∃p∈a,p.1=e.v/\p.2=e.g:=by
 induction a generalizing b with
 |nil=>simp[Bo]
 | cons p r ih=>
  intro e c;have f:=d p s_
  have g:0<=Bv r:=by
   clear ih c f
   induction r with
   |nil=>simp[Bv]
   |cons q r ih=>simp only[Bv];have:=d q s_;have:=ih (λx hx=>d x (by simp at hx ⊢;rcases hx with h|h<;>simp[h]));omega
  rcases mem_cons.1 c with rfl|c
  refine⟨?_,?_,?_,p,s_,X,X⟩;exact Int.le_refl _;rfl;simp only[Bv];omega;obtain⟨m,i,n,q,k,j,l⟩:=ih (λx hx=>d x (by simp[hx])) e c;simp only[Bv];exact⟨O,i,O,q,by simp[k],j,l⟩
def Zid{b:E}{a:U (E×E)}(d:∀p∈a,1<=p.2)(c:a.Pairwise λp q=>p.1<q.1):(Bo b a).Pairwise λe f=>e.v<f.v/\e.t+e.g<=f.t/\e.h<=f.h-f.g:=by
 induction a generalizing b with
 |nil=>simp[Bo]
 | cons p r ih=>
  rw[pairwise_cons] at c;simp only[Bo];rw[pairwise_cons];refine⟨λf hf=>?_,ih (λx hx=>d x (by simp[hx])) c.2⟩;obtain⟨h,i,_,q,g,j,k⟩:=pe (λx hx=>d x (by simp[hx])) f hf;have:=c.1 q g;simp only;omega
def Zic{a:U (E×E)}(b:∀p∈a,1<=p.2)(d:a.Pairwise λp q=>p.1<q.1)(f:∀p∈a,-1000000000<=p.1/\p.1<=1000000000)(j:Bv a<=1000000000000):Bc (Bo 0 a):=by refine⟨λe he=>?_,Zid b d⟩;obtain⟨i,k,l,q,c,g,h⟩:=pe b e he;have:=f q c;have:=b q c;omega
def Zv{a}(d:∀b∈a,1<=b.2):∀c,0<=Qj a c:=by
 induction a with
 |nil=>intro c;simp[Qj]
 | cons b f e=>
  grind [Qj]
def ZlP{a}(d:∀b∈a,1<=b.2):∀c∈a,1<=Qj a c.1:=by
 induction a with
 |nil=>simp
 | cons b j i=>
  intro c e;have h:=d b s_;simp only[Qj]
  rcases mem_cons.1 e with rfl|e
  have:=Zv (λg f=>d g (mem_cons_of_mem _ f)) c.1;simp;omega
  grind
def Sk(a:U (E×E)):U (E×E)->E
 |[]=>0
 |c::b=>Qj a c.1+Sk a b
def ZiH b d a (e:0<=b.2)(f:a.Pairwise λc b=>c.1<b.1):Sk (b::d) a<=Sk d a+b.2/\((∀c∈a,c.1≠b.1)->Sk (b::d) a=Sk d a):=by
 induction a with
 |nil=>simp[Sk];exact e
 | cons c a g=>
  rw[pairwise_cons] at f
  grind [Sk,Qj]
def qq a:Sk [] a=0:=by
 induction a with
 |nil=>rfl
 |cons c a b=>simp[Sk,Qj,b]
def Zar{ps a}(g:∀b∈ps,1<=b.2)(d:a.Pairwise λb c=>b.1<c.1):Sk ps a<=Bv ps:=by
 induction ps with
 |nil=>simp[qq,Bv]
 | cons c e h=>
  have f:=(ZiH c e a w_ d).1
  grind [Bv]
def Zt{c a}(d:∀b∈a,b.2=Qj c b.1):Bv a=Sk c a:=by
 induction a with
 |nil=>rfl
 |cons b a e=>grind [Bv,Sk]
def Uz{ps}(b:∀a∈ps,a.2<=1000):Bv ps<=1000*F ps:=by
 induction ps with
 |nil=>simp[Bv]
 | cons d e c=>
  grind [Bv]
def Zg0{a}:1<=Kd a/\Kd a<=1000:=by unfold Kd;split<;>omega
def ZgZ{a}: -1000000000<=Ey a/\Ey a<=1000000000:=by unfold Ey;omega
def Jm{c f a}(b:a∈Ao c f):(1<=a.2/\a.2<=1000)/\(-1000000000<=a.1/\a.1<=1000000000)/\∃g∈c,a.1=Ey g:=by unfold Ao at b;obtain⟨e,d,rfl⟩:=mem_map.1 b;exact⟨Zg0,ZgZ,e.1,(of_mem_zip d).1,X⟩
def Ej.j{e g h}(b:Ej (Ao e g) h)(k:F e<=2097152):Bc (Bo 0 h):=by
 have c:∀a∈Ao e g,_:=λa c=>(Jm c).1.1;refine Zic ?_ b.f ?_ ?_;intro a d;obtain⟨j,f,i⟩:=b.e a d;rw[b.g a d,<- i];exact ZlP c j f;intro a d;obtain⟨j,f,i⟩:=b.e a d;have:=(Jm f).2.1;omega;have d:=Zar c b.f;have f:=Uz (λa c=>(Jm c).1.2:∀a∈Ao e g,a.2<=1000);rw[Zt b.g]
 grind [Lh]
def e0:Cd:=⟨0,0,0,0⟩
def Ae(a:U Cd):E:=if F a=0 then 0 else(Z a (F a-1) e0).h
def Co(b:U Cd)(a:H):E:=if a=0 then 0 else(Z b (a-1) e0).t+(Z b (a-1) e0).g
def Dz(a:U Cd)(b:H):E:=if b=F a then Ae a else(Z a b e0).h-(Z a b e0).g
def seen(c:U Cd)(b:H)(a:Cd):Cd:=⟨a.v,a.t+Co c b,a.h+Dz c b,a.g⟩
def Pb(a b:Cd):Cd:=⟨a.v,a.t+b.t,a.h+b.h,a.g+b.g⟩
def Ef(a b:U Cd):H->H->H->U Cd
 |0,_,_=>[]
 | e+1,c,d=>
  if c<F a/\(d<F b->(Z a c e0).v<(Z b d e0).v) then seen b d (Z a c e0)::Ef a b e (c+1) d
  else if d<F b/\(c<F a->(Z b d e0).v<(Z a c e0).v) then seen a c (Z b d e0)::Ef a b e c (d+1)
  else if c<F a/\d<F b then Pb (Z a c e0) (Z b d e0)::Ef a b e (c+1) (d+1)
  else[]
def Bf(a b:U Cd):U Cd:=Ef a b (F a+F b) 0 0
theorem Qx{e f}:∀d c a b,F e-a+(F f-b)<=d->F e-a+(F f-b)<=c->Ef e f d a b=Ef e f c a b
 |0,0,_,_,_,_=>X
 |0,c+1,a,b,g,_=>by grind [Ef]
 |d+1,0,a,b,_,g=>by grind [Ef]
 |d+1,c+1,a,b,g,h=>by simp only[Ef];split;rw[Qx d c (a+1) b O O];split;rw[Qx d c a (b+1) O O];split;rw[Qx d c (a+1) (b+1) O O];rfl
def Oj(a b:U Cd)(c d:H):U Cd:=Ef a b (F a-c+(F b-d)) c d
def ph a b:Oj a b 0 0=Bf a b:=by unfold Oj Bf;simp
def Znw{a b c d}(f:c<F a)(e:d<F b->(Z a c e0).v<(Z b d e0).v):Oj a b c d=seen b d (Z a c e0)::Oj a b (c+1) d:=by
 unfold Oj;rw[show F a-c+(F b-d)=(F a-(c+1)+(F b-d))+1 by omega];simp only[Ef]
 grind
def Znx{a b c d}(f:d<F b)(e:c<F a->(Z b d e0).v<(Z a c e0).v):Oj a b c d=seen a c (Z b d e0)::Oj a b c (d+1):=by
 unfold Oj;rw[show F a-c+(F b-d)=(F a-c+(F b-(d+1)))+1 by omega]
 grind [Ef]
def Zlm{a b c d}(f:c<F a)(g:d<F b)(e:(Z a c e0).v=(Z b d e0).v):Oj a b c d=Pb (Z a c e0) (Z b d e0)::Oj a b (c+1) (d+1):=by
 unfold Oj;rw[show F a-c+(F b-d)=(F a-(c+1)+(F b-(d+1))+1)+1 by omega]
 grind [Ef,Qx]
def vv{a b c d}(e:¬c<F a)(f:¬d<F b):Oj a b c d=[]:=by unfold Oj;rw[show F a-c+(F b-d)=0 by omega];rfl
def Yo{a:U Cd}{b}(c:b<F a):Z a b e0∈a:=w_
def Bc.at{a}(b:Bc a){i}(c:i<F a):=b.j _ (Yo c)
def Bc.lt{a}(b:Bc a){i j}(d:i<j)(c:j<F a):(Z a i e0).v<(Z a j e0).v/\(Z a i e0).t+(Z a i e0).g<=(Z a j e0).t/\(Z a i e0).h<=(Z a j e0).h-(Z a j e0).g:=by
 have:=pairwise_iff_getElem.1 b.i i j O c d
 grind
def Kl{b}(c:Bc b){a}(d:a<F b):(Z b a e0).h<=Dz b (a+1)/\Dz b a<=Dz b (a+1)/\Dz b a=(Z b a e0).h-(Z b a e0).g:=by
 have e:=c.at d;have f:Dz b a=(Z b a e0).h-(Z b a e0).g:=by unfold Dz;omega
 have g:(Z b a e0).h<=Dz b (a+1):=by
  unfold Dz;split
  ·grind [Ae]
  exact(c.lt (show a<a+1 by omega) O).2.2
 omega
def My{b}(c:Bc b){a}(d:a<F b):Co b a<=(Z b a e0).t/\Co b (a+1)=(Z b a e0).t+(Z b a e0).g:=by refine⟨?_,by unfold Co;simp⟩;unfold Co;split;exact(c.at d).1;exact(c.lt (show a-1<a by omega) d).2.1
def Nq{a}(c:Bc a){b}(e:b<F a):(Z a b e0).h<=Ae a:=by
 unfold Ae;rw[aC O]
 by_cases d:b=F a-1
 ·grind
 have f:=(c.lt (show b<F a-1 by omega) O).2.2;have g:=c.at (show F a-1<F a by omega);omega
def jz{a}(c:Bc a){b}(f:b<=F a):Dz a b<=Ae a/\0<=Co a b/\Co a b<=Dz a b:=by
 by_cases e:b=F a
 have d:Dz a b=Ae a:=(by unfold Dz;rw[aD e]);rw[d];refine⟨Int.le_refl _,?_,?_⟩;unfold Co;split;omega;have:=c.at (show b-1<F a by omega);omega;unfold Co Ae;split;omega;have:=c.at (show b-1<F a by omega);grind;have d:b<F a:=O;have g:=Kl c d;have h:=Nq c d;have i:=c.at d;have j:=My c d;refine⟨O,?_,?_⟩;unfold Co;split;omega;have:=c.at (show b-1<F a by omega);omega;omega
structure Zfk(b c)(d e)(a:Cd):Prop where
 t:Co b d+Co c e<=a.t
 h:Dz b d+Dz c e<=a.h-a.g
 l:a.h<=Ae b+Ae c
 g:1<=a.g
 n:a.t+a.g<=a.h
 i:0<d->(Z b (d-1) e0).v<a.v
 k:0<e->(Z c (e-1) e0).v<a.v
 j:(∃f∈b,f.v=a.v)∨∃f∈c,f.v=a.v
def Zfk.a{c d}(i:Bc c)(j:Bc d){a b f g h}(e:Zfk c d f g h)(t:a<=f)(w:b<=g)(u:f<=a+1)(x:g<=b+1)(v:f<=F c)(y:g<=F d):Zfk c d a b h:=by
 have r:Co c a<=Co c f/\Dz c a<=Dz c f/\(0<a->(Z c (a-1) e0).v<h.v):=by
  by_cases k:f=a
  subst k;exact⟨Int.le_refl _,Int.le_refl _,e.i⟩;obtain rfl:f=a+1:=O;have l:=My i (show a<F c by omega);have m:=Kl i (show a<F c by omega);have o:=i.at (show a<F c by omega);refine⟨O,O,λn=>?_⟩;have p:=(i.lt (show a-1<a by omega) O).1;have q:=e.i O
  grind
 have s:Co d b<=Co d g/\Dz d b<=Dz d g/\(0<b->(Z d (b-1) e0).v<h.v):=by
  by_cases k:g=b
  subst k;exact⟨Int.le_refl _,Int.le_refl _,e.k⟩;obtain rfl:g=b+1:=O;have l:=My j (show b<F d by omega);have m:=Kl j (show b<F d by omega);have o:=j.at (show b<F d by omega);refine⟨O,O,λn=>?_⟩;have p:=(j.lt (show b-1<b by omega) O).1;have q:=e.k O
  grind
 have l:=e.t;have m:=e.h;exact⟨O,O,e.l,e.g,e.n,r.2.2,s.2.2,e.j⟩
def Zfs(a b:Cd):Prop:=a.v<b.v/\a.t+a.g<=b.t/\a.h<=b.h-b.g
def Le{j k}(d:Bc j)(e:Bc k):∀l b c,b<=F j->c<=F k->(b<F j->0<c->(Z k (c-1) e0).v<(Z j b e0).v)->(c<F k->0<b->(Z j (b-1) e0).v<(Z k c e0).v)->(∀g∈Ef j k l b c,Zfk j k b c g)/\(Ef j k l b c).Pairwise Zfs
 |0,b,c,_,_,_,_=>by simp[Ef]
 | l + 1,b,c,o,p,w,x=>by
  simp only[Ef];split
  ·rename_i a;have m:=d.at a.1;have q:=My d a.1;have r:=Kl d a.1;have s:=Nq d a.1;have t:=jz e p;have i:=Le d e l (b+1) c O p (λf h=>by have:=w a.1 h;have:=(d.lt (show b<b+1 by omega) f).1;omega) (λf _=>by simpa using a.2 f);refine⟨λg f=>?_,?_⟩
   ·rcases mem_cons.1 f with rfl|f
    refine⟨?_,?_,?_,m.2.1,?_,?_,λh=>w a.1 h,ZM ⟨_,Yo a.1,X⟩⟩;simp only[seen];omega;simp only[seen];omega;simp only[seen];omega;simp only[seen];omega;intro h;exact(d.lt (show b-1<b by omega) a.1).1;exact(i.1 g f).a d e O O O O O p
   rw[pairwise_cons];refine⟨λg f=>?_,i.2⟩;have h:=i.1 g f;have u:=h.t;have v:=h.h;have n:=h.i O
   grind [Zfs,seen]
  split
  ·rename_i _ a;have m:=e.at a.1;have q:=My e a.1;have r:=Kl e a.1;have s:=Nq e a.1;have t:=jz d o;have i:=Le d e l b (c+1) o O (λf _=>by simpa using a.2 f) (λf h=>by have:=x a.1 h;have:=(e.lt (show c<c+1 by omega) f).1;omega);refine⟨λg f=>?_,?_⟩
   ·rcases mem_cons.1 f with rfl|f
    refine⟨?_,?_,?_,m.2.1,?_,λh=>x a.1 h,?_,ZJ ⟨_,Yo a.1,X⟩⟩;simp only[seen];omega;simp only[seen];omega;simp only[seen];omega;simp only[seen];omega;intro h;exact(e.lt (show c-1<c by omega) a.1).1;exact(i.1 g f).a d e O O O O o O
   rw[pairwise_cons];refine⟨λg f=>?_,i.2⟩;have h:=i.1 g f;have u:=h.t;have v:=h.h;have n:=h.k O
   grind [Zfs,seen]
  split
  ·rename_i D G a;have L:(Z j b e0).v=(Z k c e0).v:=O;have m:=d.at a.1;have q:=My d a.1;have r:=Kl d a.1;have s:=Nq d a.1;have t:=e.at a.2;have y:=My e a.2;have z:=Kl e a.2;have A:=Nq e a.2;have i:=Le d e l (b+1) (c+1) O O (λf _=>by have:=(d.lt (show b<b+1 by omega) f).1;grind) (λf _=>by have:=(e.lt (show c<c+1 by omega) f).1;grind);refine⟨λg f=>?_,?_⟩
   ·rcases mem_cons.1 f with rfl|f
    ·refine⟨?_,?_,?_,?_,?_,?_,?_,ZM ⟨_,Yo a.1,X⟩⟩;simp only[Pb];omega;simp only[Pb];omega;simp only[Pb];omega;simp only[Pb];omega;simp only[Pb];omega;intro h;exact(d.lt (show b-1<b by omega) a.1).1
     grind [Pb]
    exact(i.1 g f).a d e O O O O O O
   rw[pairwise_cons];refine⟨λg f=>?_,i.2⟩;have h:=i.1 g f;have u:=h.t;have v:=h.h;have n:=h.i O;simp only[Nat.add_sub_cancel] at n;unfold Zfs;simp only[Pb];omega
  simp
def Fy{b c}(g:Bc b)(h:Bc c)(p:Ae b+Ae c<=1000000000000):Bc (Bf b c):=by
 have a:=Le g h (F b+F c) 0 0 O O (λ_ a=>absurd a O) (λ_ a=>absurd a O);refine⟨λj k=>?_,a.2⟩;have d:=a.1 j k;have l:=d.t;have m:=d.l;have n:=d.g;have o:=d.n;have:Co b 0=0:=rfl;have:Co c 0=0:=rfl
 rcases d.j with⟨e,f,i⟩|⟨e,f,i⟩
 have:=g.j e f;omega;have:=h.j e f;omega
theorem Wt{b c}(f:Bc b)(g:Bc c):∀d∈Bf b c,(∃e∈b,e.v=d.v)∨∃e∈c,e.v=d.v:=by have a:=Le f g (F b+F c) 0 0 O O (λ_ a=>absurd a O) (λ_ a=>absurd a O);exact λd h=>(a.1 d h).j
def Jt(a:U Cd)(b:H):E:=(Z a b e0).t+(Z a b e0).h
def ZkQ{a}(b:Bc a){c d}(f:c<d)(e:d<F a):Jt a c<Jt a d:=by have g:=b.lt f e;have h:=b.at (show c<F a by omega);have i:=b.at e;unfold Jt;omega
def Rz(a:U Cd)(d:H)(c b:H):ZG:=ZE ((Jt a b+Jt a (b+1))*(d-1)<4*c*Ae a)
def Ht(b:H->ZG):H->H->H
 |0,a=>a
 |c+1,a=>if b a=Z0 then Ht b c (a+1) else a
def Tc c:∀b a,a<=Ht c b a/\Ht c b a<=a+b/\(∀d,a<=d->d<Ht c b a->c d=Z0)/\(Ht c b a=a+b∨c (Ht c b a)=ZZ)
 |0,a=>by simp[Ht];omega
 | b+1,a=>by
  have d:=Tc c b (a+1)
  grind [Ht]
def Cy(a:U Cd)(c b:H):H:=Ht (Rz a c b) (F a-3) 1
structure ZaE(b:U Cd)(e d a):Prop where
 f:1<=a
 k:a+2<=F b
 l:∀c,1<=c->c<a->Rz b e d c=Z0
 j:a+2=F b∨Rz b e d a=ZZ
def Gi a c b (d:3<=F a):ZaE a c b (Cy a c b):=by have:=Tc (Rz a c b) (F a-3) 1;unfold Cy;exact⟨this.1,O,this.2.2.1,w_⟩
def ZaE.a{g i h e d}(c:ZaE g i h e)(b:ZaE g i h d):e=d:=by
 rcases Nat.lt_trichotomy e d with a|a|a
 ·have j:=b.l e c.f a
  rcases c.j with f|f
  have:=b.k;omega
  grind
 exact a;have j:=c.l d b.f a
 rcases b.j with f|f
 have:=c.k;omega
 grind
def Dk{a}(b:Bc a):0<=Ae a/\Ae a<=1000000000000:=by unfold Ae;split;omega;have:=b.at (show F a-1<F a by omega);omega
def vh{a}(e:Bc a){d c b}(f:Rz a d c b=Z0):Rz a d (c+1) b=Z0:=by
 unfold Rz at *;have g:=(Dk e).1
 grind
theorem aj{a}(h:Bc a) c b (d:3<=F a):Cy a c b<=Cy a c (b+1):=by
 have e:=Gi a c b d;have f:=Gi a c (b+1) d
 by_cases i:Cy a c b<=Cy a c (b+1)
 exact i;have j:=vh h (e.l _ f.f O)
 rcases f.j with g|g
 have:=e.k;omega
 grind
def Jy(b:U Cd)(c a:H):H:=if a=0 then 0 else Cy b c a
def Fd(a:U Cd)(c:H):H->U Cd
 |0=>[Z a 0 e0]
 |b+1=>if Cy a c (b+1)=Jy a c b then Fd a c b else Fd a c b++[Z a (Cy a c (b+1)) e0]
def Ep(a:U Cd)(b:E):U Cd:=
 if F a<=max b 2 then a else Fd a (ZL (max b 2)) (ZL (max b 2)-2)++[Z a (F a-1) e0]
theorem Rm{a:U Cd}{b}(c:b<F a):ZU (b+1) a=ZU b a++[Z a b e0]:=by grind [Qi]
def Zbw{a}(e:Bc a) c (d:3<=F a):∀b,(Fd a c b).Sublist (ZU (Jy a c b+1) a)/\Jy a c b+2<=F a/\Jy a c b<=Cy a c (b+1)
 |0=>by grind [Jy,Rm,Fd]
 | b+1=>by
  have h:=Zbw e c d b;have f:=Gi a c (b+1) d;have g:Jy a c (b+1)=Cy a c (b+1):=(by simp[Jy]);rw[g];refine⟨?_,f.k,aj e c _ d⟩;simp only[Fd];split
  ·grind
  rename_i i;rw[Rm (show Cy a c (b+1)<F a by have:=f.k;omega)];refine List.Sublist.append ?_ (List.Sublist.refl _);apply h.1.T;exact take_sublist_take_left O
theorem Ge{a}(d:Bc a) b:(Ep a b).Sublist a:=by
 unfold Ep;split
 ·grind
 rename_i g;have e:3<=F a:=O;have f:=Zbw d (ZL (max b 2)) e (ZL (max b 2)-2);have c:a=ZU (F a-1+1) a:=w_
 conv=>rhs;rw[c]
 rw[Rm (show F a-1<F a by omega)];refine List.Sublist.append (f.1.T ?_) (List.Sublist.refl _)
 grind
def Vq(a:U Cd)(d c b:H):E:=if Jt a b*(d-1)-2*c*Ae a<0 then -(Jt a b*(d-1)-2*c*Ae a) else Jt a b*(d-1)-2*c*Ae a
def uf{a}(f:Bc a){b e d c}(k:2<=b)(h:d<c)(g:c<F a):Vq a b e c<Vq a b e d↔(Jt a d+Jt a c)*(b-1)<4*e*Ae a:=by
 have i:=ZkQ f h g;have j:_<_*((b:E)-1):=Int.mul_lt_mul_of_pos_right i O
 grind [Vq]
def Zdq{a}(f:Bc a){b d c}(i:2<=b)(k:2<=c)(l:c+1<F a):(if Vq a b d c<Vq a b d (min (c-1) (Cy a b d)) then c else min (c-1) (Cy a b d))=min c (Cy a b d):=by
 have g:=Gi a b d O
 by_cases j:c-1<Cy a b d
 rw[show min (c-1) (Cy a b d)=c-1 by omega];have e:=g.l _ O j;unfold Rz at e;rw[decide_eq_true_eq,show c-1+1=c by omega] at e;rw[aD ((uf f i (show c-1<c by omega) O).2 e)];omega;rw[show min (c-1) (Cy a b d)=Cy a b d by omega];rw[if_neg,show min c (Cy a b d)=Cy a b d by omega];rw[uf f i (show Cy a b d<c by omega) O]
 have h:Rz a b d (Cy a b d)=ZZ:=by
  rcases g.j with e|e
  omega;exact e
 unfold Rz at h;rw[decide_eq_false_iff_not] at h
 have m:Jt a (Cy a b d+1)<=Jt a c:=by
  by_cases e:Cy a b d+1=c
  ·grind
  exact Int.le_of_lt (ZkQ f O O)
 have:(Jt a (Cy a b d)+Jt a (Cy a b d+1))*((b:E)-1)<=(Jt a (Cy a b d)+Jt a c)*((b:E)-1):=Int.mul_le_mul_of_nonneg_right O O;omega
def Kp(a:U Cd)(e d b:H):ZG:=(range d).any λc=>Cy a e (c+1)==b
def Zfz{b}(e:Bc b) d (f:3<=F b):∀c a,Cy b d a<=Cy b d (a+c)
 |0,_=>x_
 |c+1,a=>aG (Zfz e d f c a) (aj e d (a+c) f)
def ZiE{a}(g:Bc a) c b (e:3<=F a):Kp a c b (Cy a c (b+1))=ZE (Cy a c (b+1)=Jy a c b):=by
 have j:=(Gi a c (b+1) e).f;rw[Bool.eq_iff_iff,decide_eq_true_eq];unfold Kp;rw[any_eq_true];constructor
 ·rintro⟨f,h,d⟩;simp at h d;have i:=Zfz g c e (b-(f+1)) (f+1)
  grind [aj,Jy]
 intro d;unfold Jy at d;split at d;omega;exact⟨b-1,t_,w_⟩
def Zfa a d c b:Kp a d (c+1) b=(Kp a d c b||Cy a d (c+1)==b):=by grind [Kp]
def Zkn{x b c a f:E}(g:0<a)(j:0<=c)(i:c<a)(h:b*a+c=f):x<(if 0<c then b+1 else b)↔x*a<f:=by constructor;intro d;split at d;have:x*a<=b*a:=Int.mul_le_mul_of_nonneg_right O O;omega;have:x*a<b*a:=Int.mul_lt_mul_of_pos_right d g;omega;intro d;split;have e:x*a<(b+1)*a:=w_;exact Int.lt_of_mul_lt_mul_right e O;have e:x*a<b*a:=O;exact Int.lt_of_mul_lt_mul_right e O
def Zko{c:Z1 Cd}{U:Z1 E}(e:c.Pairwise λa b=>a.v<b.v/\a.t+a.g<=b.t/\a.h<=b.h-b.g)(d:∀a∈c,a.v∈U):F c<=F U:=by
 induction c generalizing U with
 |nil=>simp
 | cons a c h=>
  rw[pairwise_cons] at e;have i:=d a s_
  have j:=h (U:=U.erase _) e.2 (λb f=>by
   have g:b.v≠a.v:=w_
   exact(mem_erase_of_ne g).2 (d b (by simp[f])))
  grind
def Bc.y{a}(c:Bc a){U:Z1 E}(d:∀b∈a,b.v∈U):F a<=F U:=Zko c.i d
def ZhF:U (E×E)->E->E
  |[],_=>0
  |a::c,b=>(if a.1<b then a.2 else 0)+ZhF c b
structure jf(b)(c:U Cd):Prop where
 j:∀a∈c,a.t<=ZhF b a.v/\ZhF b a.v+Qj b a.v<=a.h/\a.g<=Qj b a.v
 f:∀d∈b,∃a∈c,a.v<=d.1
 g:∀d∈b,∃a∈c,d.1<=a.v
 e:Ae c=Bv b
theorem Ur d e:∀i b c,F d-b+(F e-c)<=i->(∀a,b<=a->a<F d->∃f∈Ef d e i b c,f.v=(Z d a e0).v)/\(∀a,c<=a->a<F e->∃f∈Ef d e i b c,f.v=(Z e a e0).v)
 |0,b,c,j=>⟨λa g h=>O,λa g h=>O⟩
 | i + 1,b,c,j=>by
  simp only[Ef];split
  ·rename_i m;have⟨k,l⟩:=Ur d e i (b+1) c O;refine⟨λa g h=>?_,λa g h=>?_⟩
   ·by_cases f:a=b
    subst f;exact⟨_,mem_cons_self,X⟩
    grind
   grind
  rename_i m;split
  ·rename_i n;have⟨k,l⟩:=Ur d e i b (c+1) O;refine⟨λa g h=>?_,λa g h=>?_⟩
   ·grind
   by_cases f:a=c
   subst f;exact⟨_,mem_cons_self,X⟩
   grind
  rename_i n;split
  ·rename_i p
   have o:(Z d b e0).v=(Z e c e0).v:=by
    rcases Int.lt_trichotomy (Z d b e0).v (Z e c e0).v with j|j|j
    omega;exact j;omega
   have⟨k,l⟩:=Ur d e i (b+1) (c+1) O;refine⟨λa g h=>?_,λa g h=>?_⟩
   ·by_cases f:a=b
    subst f;exact⟨_,mem_cons_self,X⟩
    grind
   by_cases f:a=c
   subst f;exact⟨_,mem_cons_self,o⟩
   grind
  grind
theorem qr c b a:Ae (c::b::a)=Ae (b::a):=by unfold Ae;simp[Z]
theorem wq a:Ae [a]=a.h:=by simp[Ae]
theorem fo{a b}:∀c f g,f<=F a->g<=F b->F a-f+(F b-g)<=c->(f<F a∨g<F b)->Ae (Ef a b c f g)=Ae a+Ae b
 |0,f,g,_,_,k,l=>O
 | c + 1,f,g,s,t,k,l=>by
  have v:∀h d e,d<=F a->e<=F b->F a-d+(F b-e)<=c->(d=F a->e=F b->h.h=Ae a+Ae b)->Ae (h::Ef a b c d e)=Ae a+Ae b:=λh d e n o p u=>by
   by_cases j:d<F a∨e<F b
   ·have i:=fo c _ _ n o p j
    cases m:Ef a b c d e with
    | nil=>
     grind [Ur]
    | cons r q=>
     rw[m] at i;rw[qr];exact i
   have i:Ef a b c d e=[]:=by
    cases c with
    |zero=>rfl
    | succ c=>
     grind [Ef]
   grind [wq]
  simp only[Ef];split
  ·grind [Ae,seen,Dz]
  rename_i i;split
  ·grind [Ae,seen,Dz]
  grind [Ae,Pb]
def ZkP{b:U Cd}{c}(d:c∈b):∃a,a<F b/\Z b a e0=c:=by obtain⟨a,e,rfl⟩:=aM d;exact⟨a,e,w_⟩
def ZcQ{d}(g:d.Pairwise λa b=>a.1<b.1) b h:Sk (b::h) d=Sk h d+(if ∃a∈d,a.1=b.1 then b.2 else 0):=by
 induction d with
 |nil=>simp[Sk]
 | cons a e m=>
  rw[pairwise_cons] at g;have:=m g.2;simp only[Sk,Qj];rw[this]
  by_cases f:b.1=a.1
  ·rw[aD f];have j:∃c∈a::e,_=_:=⟨a,s_,f.s⟩
   grind
  rw[aC f]
  by_cases i:∃c∈e,c.1=b.1
  ·have j:∃c∈a::e,c.1=b.1:=by obtain⟨c,l,k⟩:=i;exact⟨c,by simp[l],k⟩
   grind
  grind
def ZgD{c:U (E×E)}(f:c.Pairwise λa b=>a.1<b.1){x}:∀d:U (E×E),(∀b∈d,∃a∈c,a.1=b.1)->Sk d (c.filter λa=>ZE (a.1<x))=ZhF d x
 |[],_=>by simp[ZhF,qq]
 | b ::h,e=>by
  rw[ZcQ (f.sublist filter_sublist),ZgD f h (λi g=>e i (by simp[g]))];simp only[ZhF]
  by_cases g:b.1<x
  ·rw[aD g,aD ?_];omega;have⟨a,j,i⟩:=e b s_
   grind
  grind
def ZgC{b:U (E×E)}(f:b.Pairwise λc a=>c.1<a.1):∀d:U (E×E),(∀a∈d,∃c∈b,c.1=a.1)->Sk d b=Bv d
 |[],_=>by simp[Bv,qq]
 |a::h,e=>by rw[ZcQ f,ZgC f h (λi g=>e i (by simp[g])),aD (e a s_)];simp only[Bv];omega
def Zck{x:E}:∀g i,g.Pairwise (λd b=>d.1<b.1)->∀a∈Bo i g,a.t=i+Bv (g.filter λd=>ZE (d.1<a.v))
 |[],_,_=>by simp[Bo]
 | d ::j,i,h=>by
  rw[pairwise_cons] at h;intro a c;simp only[Bo] at c
  rcases mem_cons.1 c with rfl|c
  ·have:(d::j).filter (λb=>ZE (b.1<d.1))=[]:=by
    rw[filter_eq_nil_iff];intro b f
    rcases mem_cons.1 f with rfl|f
    simp
    grind
   grind [Bv]
  have m:=Zck (x:=x) j _ h.2 a c
  have n:d.1<a.v:=by
   have:∀(e:U (E×E)) (k:E) (a:Cd),a∈Bo k e->∃b∈e,b.1=a.v:=by
    intro e
    induction e with
    |nil=>intro k a c;simp[Bo] at c
    | cons b e f=>
     grind [Bo]
   have⟨b,f,l⟩:=this j _ a c;have:=h.1 b f;omega
  grind [Bv]
def Uv:∀(b:U (E×E)) (c:E),(∀a∈Bo c b,∃d∈b,d.1=a.v/\d.2=a.g/\a.h=a.t+a.g)/\(∀d∈b,∃a∈Bo c b,a.v=d.1)/\(b≠[]->Ae (Bo c b)=c+Bv b)
  |[],c=>by simp[Bo]
  | d ::e,c=>by
    have⟨g,h,i⟩:=Uv e (c+d.2);refine⟨λa j=>?_,λf k=>?_,λ_=>?_⟩
    · grind [Bo]
    · simp only[Bo]
      grind [mem_cons_self]
    cases e with
    |nil=>simp[Bo,wq,Bv]
    | cons f e=>
      grind [Bo,qr,Bv]
def jf.a{f e}(a:Ej f e):jf f (Bo 0 e):=by
 have⟨n,s,o⟩:=Uv e 0;have k:∀i:_,(∀c∈i,_)->_:=λi m=>Zt (λc b=>a.g c (m c b));refine⟨λd j=>?_,λg h=>?_,λg h=>?_,?_⟩
 ·have⟨c,b,q,r,p⟩:=n d j;have l:=Zck (x:=0) e 0 a.f d j;rw[k _ (λc b=>(mem_filter.1 b).1),ZgD a.f f a.all] at l;have:=a.g c b
  grind
 ·have⟨c,b,d⟩:=a.all g h
  grind
 ·have⟨c,b,d⟩:=a.all g h
  grind
 by_cases d:e=[]
 ·subst d
  have:f=[]:=by
   cases f with
   |nil=>rfl
   |cons g l=>obtain⟨c,b,_⟩:=a.all g s_;cases b
  subst this;rfl
 rw[o d,k e (λ_ b=>b),ZgC a.f f a.all];omega
end Go.Proofs.YtfcgnpchbcmdeaaGreat
namespace Go.Proofs.YtfcgnpchbcmdeaaGreat
set_option linter.all false
open Go List Nat Go.World Go.Proofs.Tryz Go.Value Go.IntKind Go.Lib Go.Region
section
variable {P:Program} {a:YZ Oper} {Q:Exit->Act->ZT->Prop} {b:Region.Mode} {S:ZT->Prop} {c:H}
def Ro{i j k l n h e d}(t:ready b a h=[i,j])(v:(Y4 a)[i]? =T k)(w:(Y4 a)[j]? =T l)(q:∀f:Act->ZT->Prop,Shut (∀e d,S d->(S d->Db P b a Q S c n (YS h i Z0) e d)->f e d)->if wanted k (yielded a e.tmps)=Z0 then Oper.wp P k e d f Q else f (e.put k.dst undef) d)(r:∀f:Act->ZT->Prop,Shut (∀e d,S d->(S d->Db P b a Q S c n (YS h j Z0) e d)->f e d)->if wanted l (yielded a e.tmps)=Z0 then Oper.wp P l e d f Q else f (e.put l.dst undef) d):Db P b a Q S c (n+1) h e d:=by
 refine⟨λu=>w_,λx p=>?_⟩;rw[t] at p;simp only[mem_cons,not_mem_nil,or_false] at p
 rcases p with m|m
 subst m;exact wpOp_step w_ (λf s=>q _ (λe d g o=>s e d ⟨ZJ g,o g⟩));subst m;exact wpOp_step w_ (λf s=>r _ (λe d g o=>s e d ⟨ZJ g,o g⟩))
end
end Go.Proofs.YtfcgnpchbcmdeaaGreat
