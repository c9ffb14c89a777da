import Derived.Test.YtfcgnpchbcmdeaaGreatZoad
namespace Go.Proofs.YtfcgnpchbcmdeaaGreat
set_option linter.all false
set_option maxHeartbeats 1000000
open Go List Nat World Go.Proofs.Tryz Value IntKind Lib Region
section
variable {P:Program} {a:Array Oper} {Q:Exit->Act->World->Prop} {b:Region.Mode} {S:World->Prop} {c:Nat}
def Ma{i g v k f d e} h (u:a.toList[i]? =some g)
  (r:noSelect a=true) (p:free b a f i=true) (q:(ready b a f).contains i=true) (s:h.contains c=true) (m:kt b a f i h=true)
  (n:∀j d e,Q (.panic j) (d.put g.dst v) e->Q (.panic j) d e) (t:YieldsIf P a S g v d) (o:S e)
  (l:Cy P b a Q S c k (f.setIfInBounds i true) (d.put g.dst v) e):=
 Zb3 h w_ r p q s m n t o l
def ek{h f j i e d}(l:ready b a i=[h])(m:a.toList[h]? =some f)
  (k:∀g:Act->World->Prop,Shut (∀e d,S d->(S d->Cy P b a Q S c j (i.setIfInBounds h true) e d)->g e d)->if wanted f (yielded a e.tmps)=true then Oper.wp P f e d g Q else g (e.put f.dst undef) d):=Zee l w_ k
def Eu{i f j h d e}(l:ready b a h=[i])(n:a.toList[i]? =some f)(m:(h.setIfInBounds i true).getD c false=true)
  (k:∀g:Act->World->Prop,Shut (∀d e,Cy P b a Q S c j (h.setIfInBounds i true) d e->g d e)->if wanted f (yielded a d.tmps)=true then Oper.wp P f d e g Q else g (d.put f.dst undef) e):=Zb2 l w_ m k
end
section
variable {P:Program} {ops:Array Oper} {Q:Exit->Act->World->Prop} {md:Region.Mode} {S:World->Prop} {stop:Nat}
def tkM{e:Oper}{v:Value}{d:Nat}{b:Array Bool}{a:Act}{w:World}(W:List Nat)(i:Nat)(y:∀w,S w->(execOp a.eval e).run P w=.ok (.value v) w)(h:Cy P md ops Q S stop d (b.setIfInBounds i true) (a.put e.dst v) w)(f:ops.toList[i]? =some e:=by rfl)(hs:noSelect ops=true:=by kernel_rfl)(hf:free md ops b i=true:=by kernel_rfl)(hr:(ready md ops b).contains i=true:=by kernel_rfl)(hstop:W.contains stop=true:=by kernel_rfl)(hL:kt md ops b i W=true:=by kernel_rfl)(hQ:∀c a w,Q (.panic c) (a.put e.dst v) w->Q (.panic c) a w:=by exact λ_ _ _ h=>h)(hg:wanted e (yielded ops a.tmps)=true:=by rfl)(hS:S w:=by assumption):Cy P md ops Q S stop (d+1) b a w:=Ma W f hs hf hr hstop hL hQ (Or.inl ⟨hg,y⟩) hS h
end
def sA{α:Type _}(xs:List α)(i:Nat)(a:α):xs.toArray.setIfInBounds i a=(xs.set i a).toArray:=setIfInBounds_toArray xs i a
def sB{α:Type _}{x:α}{xs:List α}{i:Nat}{a:α}:(x::xs).set (i+1) a=x::xs.set i a:=rfl
def sC{α:Type _}{x:α}{xs:List α}{a:α}:(x::xs).set 0 a=a::xs:=rfl
end Go.Proofs.YtfcgnpchbcmdeaaGreat
namespace Go.Proofs.YtfcgnpchbcmdeaaGreat
open List Nat World Go.Proofs.Tryz Value IntKind Lib Region
set_option linter.all false
set_option maxHeartbeats 1000000
section
variable {P:Program} {a:Array Oper} {Q:Exit->Act->World->Prop} {b:Region.Mode} {S:World->Prop} {c:Nat}
def Ze4(b:Region.Mode)(a:Array Oper)(g:Array Bool)(f:Nat):List Nat:=
 (range a.size).foldl (λc e=>if !g.getD e true&&((a[e]?).map λh=>h.after.any λd=>binds b d&&(d.on==f||c.contains d.on)).getD false then c++[e] else c) []
def tkP{g:Oper}{i:Value}{l:Nat}{f:Array Bool}{e j:Act}{w:World}(d:Nat)
  (h:Cy P b a Q S c l (f.setIfInBounds d true) j w) (s:a.toList[d]? =some g:=by rfl)
  (u:noSelect a=true:=by kernel_rfl) (q:free b a f d=true:=by kernel_rfl) (t:(ready b a f).contains d=true:=by kernel_rfl) (v:(Ze4 b a f d).contains c=true:=by kernel_rfl) (m:kt b a f d (Ze4 b a f d)=true:=by kernel_rfl)
  (r:wanted g (yielded a e.tmps)=true:=by rfl) (o:S w:=by assumption)
  (x:∀w,S w->(execOp e.eval g).run P w=.ok (.value i) w:=by intro w hSw;(first|obtain⟨_,_,_,_,_⟩:=hSw|obtain⟨_,_,_,_⟩:=hSw|obtain⟨_,_,_⟩:=hSw|obtain⟨_,_⟩:=hSw|skip);go_simp;try with_reducible rfl)
  (p:e.put g.dst i=j:=by(try simp only[Act.put,setIfInBounds_toArray,set_cons_succ,set_cons_zero]);exact rfl)
  (n:∀k e w,Q (.panic k) (e.put g.dst i) w->Q (.panic k) e w:=by exact λ_ _ _ h=>h):=Ma _ s u q t v m n (Or.inl ⟨r,x⟩) o (p ▸ h)
end
section
variable {P:Program} {a:Array Oper} {Q:Exit->Act->World->Prop} {c:Region.Mode} {S:World->Prop} {b:Nat}
def okS(c:Region.Mode)(a:Array Oper)(e:Array Bool)(d b:Nat):Bool:=
 noSelect a&&free c a e d&&(ready c a e).contains d&&(Ze4 c a e d).contains b&&kt c a e d (Ze4 c a e d)
def tkS{e:Oper}{i:Value}{l:Nat}{g:Array Bool}{d j:Act}{w:World}(f:Nat)(h:Cy P c a Q S b l (g.setIfInBounds f true) j w)(s:a.toList[f]? =some e:=by rfl)(m:okS c a g f b=true:=by decide+kernel)(p:S w:=by assumption)(x:YieldsIf P a S e i d:=by first|(refine .inl ⟨by rfl,?_⟩;intro w y;(first|have y:=kb_ y|obtain⟨_,_,_,_,_,_,_,_⟩:=y|obtain⟨_,_,_,_,_,_⟩:=y|obtain⟨_,_,_,_,_⟩:=y|obtain⟨_,_,_,_⟩:=y|obtain⟨_,_,_⟩:=y|obtain⟨_,_⟩:=y|skip);go_simp;(try with_reducible rfl);done)|exact .inr ⟨by rfl,rfl⟩)(q:d.put e.dst i=j:=by(try simp only[Act.put,setIfInBounds_toArray,set_cons_succ,set_cons_zero]);exact rfl)
  (o:∀k d w,Q (.panic k) (d.put e.dst i) w->Q (.panic k) d w:=by exact λ_ _ _ h=>h):Cy P c a Q S b (l+1) g d w:=by
 simp only[okS,Bool.and_eq_true] at m;obtain⟨⟨⟨⟨u,r⟩,t⟩,v⟩,n⟩:=m;exact Ma _ s u r t v n o x p (q ▸ h)
def rg_{h e c}(d:World)(b:Nat)(f:E_ d c.drew->Cy P .any a Q (E_ d) b a.size (Array.replicate a.size false) e c.drew)(hS:E_ d c.drew:=by first|exact y_.drew|(refine Below.drew ?_;assumption))(g:P.follows .mixedOrders=true:=by kernel_rfl):(Code.region h a true).wp P Q e c:=Af _ b g hS f
def on_{f j i e d}(h:Nat)(k:∀g:Act->World->Prop,Shut (∀e d,S d->(S d->Cy P c a Q S b j (i.setIfInBounds h true) e d)->g e d)->if wanted f (yielded a e.tmps)=true then Oper.wp P f e d g Q else g (e.put f.dst undef) d)(l:a.toList[h]? =some f:=by rfl)(m:ready c a i=[h]:=by kernel_rfl):Cy P c a Q S b (j+1) i e d:=ek m l k
def la1_{g i f d e}(j:∀h:Act->World->Prop,Shut (∀d e,Cy P c a Q S b i (f.setIfInBounds b true) d e->h d e)->if wanted g (yielded a d.tmps)=true then Oper.wp P g d e h Q else h (d.put g.dst undef) e)(k:a.toList[b]? =some g:=by rfl)(l:ready c a f=[b]:=by kernel_rfl)(m:(f.setIfInBounds b true).getD b false=true:=by kernel_rfl):Cy P c a Q S b (i+1) f d e:=Eu l k m j
end
def tA_{d:Type _}(c:List d)(b:Nat)(a:d):c.toArray.setIfInBounds b a=(c.set b a).toArray:=setIfInBounds_toArray c b a
def tB_{a:Type _}{x:a}{d:List a}{c:Nat}{b:a}:(x::d).set (c+1) b=x::d.set c b:=rfl
def tC_{a:Type _}{x:a}{c:List a}{b:a}:(x::c).set 0 b=b::c:=rfl
def K_{a b:Prop}(x:b)(c:(True->b)->a:=by intro x;(try simp only[Act.put,tA_,tB_,tC_]);(try refine tkS 0 ?_);(try refine tkS 1 ?_);(try refine tkS 2 ?_);(try refine tkS 3 ?_);(try refine tkS 4 ?_);(try refine tkS 5 ?_);(try refine tkS 6 ?_);(try refine tkS 7 ?_);(try refine tkS 8 ?_);(try refine tkS 9 ?_);(try refine tkS 10 ?_);(try refine tkS 11 ?_);(try refine tkS 12 ?_);(try refine tkS 13 ?_);(try refine tkS 14 ?_);(try refine tkS 15 ?_);(try refine tkS 16 ?_);(try refine tkS 17 ?_);(try refine tkS 18 ?_);(try refine tkS 19 ?_);(try refine tkS 20 ?_);(try refine tkS 21 ?_);(try refine tkS 22 ?_);(try refine tkS 23 ?_);(try refine tkS 24 ?_);(try refine tkS 25 ?_);(try refine tkS 26 ?_);(try refine tkS 27 ?_);(try refine tkS 28 ?_);(try refine tkS 29 ?_);(try refine tkS 30 ?_);(try refine tkS 31 ?_);(try refine tkS 32 ?_);(try refine tkS 33 ?_);(try refine tkS 34 ?_);(try refine tkS 35 ?_);(try refine tkS 36 ?_);(try refine tkS 37 ?_);(try refine tkS 38 ?_);(try refine tkS 39 ?_);(try refine tkS 40 ?_);exact x trivial):a:=c λ_=>x
def le_{a b:Prop}(x:b)(c:(True->b)->a:=by intro x;refine la1_ (λKK hK=>?_);go_simp;refine hK _ _ ?_;clear hK KK;(try simp only[Act.put,tA_,tB_,tC_]);refine Fn k_ ?_ _;exact x trivial):a:=c λ_=>x
end Go.Proofs.YtfcgnpchbcmdeaaGreat
namespace Go.Proofs.YtfcgnpchbcmdeaaGreat
set_option linter.all false
set_option maxHeartbeats 1000000
open Go.RowKit List Nat World Go.Proofs.Tryz Value IntKind Lib Region
def lt_{a:World}{b d e}(c:a.cell? (J b d)=some e):b<a.1.size:=aJ a _ c
def na_(a:World)(c:Array Value)(d:Nat):∃b,b=a.alloc (.cells c d)/\E_ a b/\H_ b a.1.size c d:=⟨_,rfl,q_,hn_⟩
def oc_{d:Array Oper}{g:Exit->Act->World->Prop}{l:Region.Mode}{f:World->Prop}{q:Nat}{c p k b w o n}{m:Ending->World->Prop}(j:Nat)(r:C_ o n w m)(h:∀e a,m e a->∃v,e=.returned v/\f a/\(f a->Cy prog l d g f q p (k.setIfInBounds j true) (b.put c.dst v) a))(t:d.toList[j]? =some c:=by rfl)(u:ready l d k=[j]:=by kernel_rfl)(x:∀y:Act->World->Prop,C_ o n w (λe a=>∃v,e=.returned v/\y (b.put c.dst v) a)->if wanted c (yielded d b.tmps)=true then Oper.wp prog c b w y g else y (b.put c.dst undef) w:=by intro y h;go_simp;refine Calls.m h ?_;rintro e w ⟨v,rfl,z⟩;first|exact z|(revert z;go_simp;done)|(revert z;go_simp;exact id)):
  Cy prog l d g f q (p+1) k b w:=
 ek u t λ_ hK=>x _ (r.m λe a s=>(h e a s).imp λ_ i=>⟨i.1,hK _ _ i.2.1 i.2.2⟩)
def one_new(b:World) d e:∀a c,d.toList[a]? =some c->(b.alloc (.cells d e)).cell? (((J b.1.size 0):Addr).add a)=some c:=by
 intro a c g;have f:((J b.1.size 0):Addr).add a=(J b.1.size a):=by unfold Addr.add;split<;>simp_all
 grind [cell_of_row,heap_alloc_new]
def one_at{w:World}{g c t}(d:w.1.size=g):∀a b,c.toList[a]? =some b->(w.alloc (.cells c t)).cell? (((J g 0):Addr).add a)=some b:=d ▸ one_new w c t
def apB(c:Program)(f d b:Nat):Bool:=
 match c.underlying f,c.info? d with
 |some (.slice e),some a=>e==d&&a.size==b&&decide (0<b)&&decide (a.bytes<=64)&&(match a.zero with|some g=>g.cells.size==b|none=>false)
 |_,_=>false
def run_ap{k b q h ty w u p e v l d c o}(s:apB k h w u=true)(f:b.ownsRow q w u p e v)(t:o.length=d*u)(y:∀R B,o[R]? =some B->b.cell? (l.add R)=some B)(L:∀B∈o,B.oneCell'=true)(a2:0<d)(D:e+d<=maxLen)(X:(e+d)*64<=140737488355328)(U:q<=b.1.size):∃i j,(Builtin.append_ #[h,h] ty #[p,.slice (some l) d c]).run k b=.ok i j/\j.ownsRow q w u i (e+d) (v++o)/\b.grownBy j p.ownBlock/\(i.ownBlock=p.ownBlock∨i.ownBlock=some b.1.size/\Below b.1.size b j)/\j.ownsRow q w u p e v/\∃g m,i=L_ g (e+d) m:=by
 unfold apB at s;split at s;case h_2=>cases s
 rename_i r n A x;simp only[Bool.and_eq_true,beq_iff_eq,decide_eq_true_eq] at s;obtain⟨⟨⟨⟨rfl,rfl⟩,a4⟩,T⟩,E⟩:=s;split at E;case h_2=>cases E
 rename_i G F;have N:(e+d)*n.bytes<=140737488355328:=aG (mul_le_mul_left _ T) X;obtain⟨i,j,z,M,S,_⟩:=run_append_own (P:=k) b q h ty r n G _ _ A x F rfl rfl (by simpa using E) a4 p e v f l d c o t y L D N U;refine⟨i,j,z,M,S,?_⟩;rw[<- and_assoc];refine⟨?_,?_⟩
 rcases f.2 with⟨rfl,rfl⟩|⟨g,m,H,rfl,W,P,a3,Z,a0,a5⟩
 have a:=run_append_nil (P:=k) b h ty r n G A x F l d c _ t y a2 (by simp only[maxLen] at D;omega) w_;rw[z] at a;simp only[Result.ok.injEq] at a;have:v=[]:=eq_nil_of_length_eq_zero (by simpa using f.1);subst this;exact⟨.inr ⟨by rw[a.1];rfl,by rw[a.2];exact(y_.drew).alloc s_ _⟩,rn_⟩
 ·by_cases Q:e+d<=m
  have a1:e*n.size+o.length<=H.size:=(by rw[t,a0,<- Nat.add_mul];exact aK _ Q);have a:=run_append_room (P:=k) b h ty r n A x g e _ _ P l d c _ t y L Q a1;rw[z] at a;simp only[Result.ok.injEq] at a;refine⟨.inl (by rw[a.1];rfl),?_⟩;rw[a.2];refine⟨f.1,.inr ⟨g,m,_,rfl,W,setRow_heap b g _ _ r _ P,a3,Z,?_,?_⟩⟩<;>grind;have a:=run_append_grow (P:=k) b h ty r n G A x F _ e m _ f.1 (f.cells (g:=g) rfl) l d c _ t y O (by simp only[maxLen] at D;omega) (growslice_fits O N);rw[z] at a;simp only[Result.ok.injEq] at a;rw[a.1,a.2];exact⟨.inr ⟨rfl,(y_.drew).alloc s_ _⟩,ra_ (w:=b.drew) f _⟩
 rcases M.2 with⟨_,Q⟩|⟨g,m,H,a,_⟩
 omega
 grind
section
variable {w:World} {d:Array Oper} {f:List Oper} {o:Oper} {a:Act} {K:Act->World->Prop} {Q:Exit->Act->World->Prop} {E:Prop} {s x:Operand} {t e:TypeId} {v:Value} {size base n m c:Nat} {xs:List Value} {b:Addr}
def aq_(h:List Value)(G:w.ownsRow base e size v n xs)(p:∀f g,Hid (g.ownsRow base e size f (n+m) (xs++h)/\w.grownBy g v.ownBlock/\(f.ownBlock=v.ownBlock∨f.ownBlock=some w.1.size/\Below w.1.size w g)/\g.ownsRow base e size v n xs/\∃l k,f=L_ l (n+m) k)->K (a.put o.dst f) g)(z:o.guard=none:=by rfl)(F:o.op=.call {callee:=.builtin .append,args:=#[s,x],argTypes:=#[t,t]}:=by rfl)(L:a.eval s=v:=by first|rfl|simp[Act.eval])(M:a.eval x=.slice (some b) m c:=by first|rfl|simp[Act.eval])(B:h.length=m*size:=by rfl)(hnews:∀j i,h[j]? =some i->w.cell? (b.add j)=some i:=by first|exact one_new _ _ _|exact one_at s_)(h1:∀i∈h,i.oneCell'=true:=by simp[oneCell'])(D:0<m:=by decide)(r:n+m<=maxLen:=by unfold maxLen;omega)(y:(n+m)*64<=140737488355328:=by omega)(u:base<=w.1.size:=by first|omega|(simp<;>omega))(A:apB prog t e size=true:=by kernel_rfl):if wanted o (yielded d a.tmps)=true then Oper.wp prog o a w K Q else E:=by
 rw[aD (by simp[wanted,z])];obtain⟨f,g,H,q⟩:=run_ap (ty:=o.type) (c:=c) A G B hnews h1 D r y u;unfold Oper.wp;simp only[execOp,F,resolve,invoke,builtin,Sem.run_bind,Sem.run_pure,Result.andThen_ok,map_toArray,map_cons,map_nil,L,M,H];exact p _ _ q
def ap_(g:List Value)(H:w.ownsRow base e size v n xs)(q:∀h i,Hid (i.ownsRow base e size h (n+m) (xs++g)/\w.grownBy i v.ownBlock/\(h.ownBlock=v.ownBlock∨h.ownBlock=some w.1.size/\Below w.1.size w i)/\i.ownsRow base e size v n xs/\∃p l,h=L_ p (n+m) l)->wpList prog d Q f (a.put o.dst h) i)(A:o.guard=none:=by rfl)(G:o.op=.call {callee:=.builtin .append,args:=#[s,x],argTypes:=#[t,t]}:=by rfl)(L:a.eval s=v:=by first|rfl|simp[Act.eval])(M:a.eval x=.slice (some b) m c:=by first|rfl|simp[Act.eval])(D:g.length=m*size:=by rfl)(F:∀k j,g[k]? =some j->w.cell? (b.add k)=some j:=by first|exact one_new _ _ _|exact one_at s_)(h1:∀j∈g,j.oneCell'=true:=by simp[oneCell'])(E:0<m:=by decide)(u:n+m<=maxLen:=by unfold maxLen;omega)(z:(n+m)*64<=140737488355328:=by omega)(y:base<=w.1.size:=by first|omega|(simp<;>omega))(B:apB prog t e size=true:=by kernel_rfl):wpList prog d Q (o::f) a w:=
 wpList_step λ_ hK=>aq_ g H (λ_ _ r=>hK _ _ (q _ _ r)) A G L M D F h1 E u z y B
end
def fi{P} d y j q e f x m H (u:P.underlying j=some (.slice e))(r:P.info? e=some f)(F:f.zero=some x)(S:f.size=m)(M:f.bytes=H)(a6:x.cells.size=m)(a4:0<m) v c A (i:d.ownsRow y e m v c A) k b o p (l:p.length=b*m)(s:∀Z G,p[Z]? =some G->d.cell? (k.add Z)=some G)(L:∀G∈p,G.oneCell'=true)(a3:0<b)(D:c+b<=maxLen)(N:(c+b)*H<=140737488355328)(a1:y<=d.1.size):∃n w,(Builtin.append_ #[j,j] q #[v,.slice (some k) b o]).run P d=.ok n w/\w.ownsRow y e m n (c+b) (A++p)/\d.grownBy w v.ownBlock/\(n.ownBlock=v.ownBlock∨n.ownBlock=some d.1.size)/\w.ownsRow y e m v c A/\∃g h,n=L_ g (c+b) h:=by
 have⟨n,w,t,T,a0,a7⟩:=run_append_own (P:=P) d y j q e f x m H u r F S M a6 a4 v c A i k b o p l s L D N a1
 have a2:∃g h,n=L_ g (c+b) h:=by
  rcases T.2 with⟨_,z⟩|⟨g,h,B,a,_⟩
  omega
  grind
 refine⟨n,w,t,T,a0,?_,?_,a2⟩
 ·subst S M
  rcases i.2 with⟨rfl,rfl⟩|⟨g,h,B,rfl,U,E,X,W,Q,a5⟩
  have a:=run_append_nil (P:=P) d j q e f x u r F k b o _ l s a3 (by simp only[maxLen] at D;omega) w_;rw[t] at a;simp only[Result.ok.injEq] at a;right;rw[a.1];rfl
  by_cases z:c+b<=h
  have R:c*f.size+p.length<=B.size:=(by rw[l,Q,<- Nat.add_mul];exact aK _ z);have a:=run_append_room (P:=P) d j q e f u r g c _ _ E k b o _ l s L z R;rw[t] at a;simp only[Result.ok.injEq] at a;left;rw[a.1];rfl;have R:=i.cells (g:=g) rfl;have a:=run_append_grow (P:=P) d j q e f x u r F _ c h _ i.1 R k b o _ l s O (by simp only[maxLen] at D;omega) (growslice_fits O N);rw[t] at a;simp only[Result.ok.injEq] at a;right;rw[a.1];rfl
 subst S M
 rcases i.2 with⟨rfl,rfl⟩|⟨g,h,B,rfl,U,E,X,W,Q,a5⟩
 have:A=[]:=eq_nil_of_length_eq_zero (by simpa using i.1);subst this;exact rn_
 by_cases z:c+b<=h
 ·have R:c*f.size+p.length<=B.size:=(by rw[l,Q,<- Nat.add_mul];exact aK _ z);have a:=run_append_room (P:=P) d j q e f u r g c _ _ E k b o _ l s L z R;rw[t] at a;simp only[Result.ok.injEq] at a;rw[a.2];refine⟨i.1,.inr ⟨g,h,_,rfl,U,setRow_heap d g _ _ e _ E,X,W,?_,?_⟩⟩
  ·grind
  grind
 have R:=i.cells (g:=g) rfl;have a:=run_append_grow (P:=P) d j q e f x u r F _ c h _ i.1 R k b o _ l s O (by simp only[maxLen] at D;omega) (growslice_fits O N);rw[t] at a;simp only[Result.ok.injEq] at a;rw[a.2];exact ra_ (w:=d.drew) i _
end Go.Proofs.YtfcgnpchbcmdeaaGreat
namespace Go.Proofs.YtfcgnpchbcmdeaaGreat
open List Nat World Go.Proofs.Tryz Value IntKind Lib Region
set_option linter.all false
set_option maxHeartbeats 1000000
structure Cm where
 v:Int
 y:Int
 g:Int
 h:Int
def Gj(z:Int):Int:=if 1000000000<z then 1000000000 else if z< -1000000000 then -1000000000 else z
def Jx(z:Int):Int:=if z<1∨1000<z then 1 else z
def Ap(vs ws:List Int):List (Int×Int):=(zip vs ws).map λp=>(Gj p.1,Jx p.2)
theorem Kz(a b:List Int):(Ap a b).length=min a.length b.length:=by simp[Ap]
def Ph:List (Int×Int)->Int->Int
  |[],_=>0
  |p::r,v=>(if p.1=v then p.2 else 0)+Ph r v
def Nf(a b:List (Int×Int))(v:Int):Ph (a++b) v=Ph a v+Ph b v:=by
 induction a with
 |nil=>simp[Ph]
 |cons p r ih=>simp only[cons_append,Ph,ih];omega
def Zkw{a b:List (Int×Int)}(h:a.Perm b)(v:Int):Ph a v=Ph b v:=by
 induction h with
 |nil=>rfl
 |cons x _ ih=>simp only[Ph,ih]
 |swap x y l=>simp only[Ph];omega
 |trans _ _ h1 h2=>exact h1.T h2
def ot{a:List (Int×Int)}{v:Int}(h:∀p∈a,p.1≠v):Ph a v=0:=by
 induction a with
 |nil=>rfl
 |cons p r ih=>simp only[Ph];rw[aC (h p s_),ih (λq hq=>h q (by simp[hq]))];rfl
structure Ef(ps M:List (Int×Int)):Prop where
 e:M.Pairwise λp q=>p.1<q.1
 sub:∀p∈M,∃q∈ps,q.1=p.1
 all:∀q∈ps,∃p∈M,p.1=q.1
 h:∀p∈M,p.2=Ph ps p.1
def Zfo:∀{M N:List (Int×Int)},M.Pairwise (λp q=>p.1<q.1)->N.Pairwise (λp q=>p.1<q.1)->(∀p,p∈M↔p∈N)->M=N
 |[],[],_,_,_=>rfl
 |[],q::_,_,_,h=>absurd ((h q).2 s_) s_
 |p::_,[],_,_,h=>absurd ((h p).1 s_) s_
 | p ::M,q::N,hM,hN,h=>by
  rw[pairwise_cons] at hM hN
  have hpq:p=q:=by
   rcases mem_cons.1 ((h p).1 s_) with e|e
   exact e
   rcases mem_cons.1 ((h q).2 s_) with a|a
   exact a.s;have b:=hN.1 p e;have c:=hM.1 q a;omega
  subst hpq;congr 1;refine Zfo hM.2 hN.2 λr=>⟨λhr=>?_,λhr=>?_⟩
  ·rcases mem_cons.1 ((h r).1 (by simp[hr])) with e|e
   have:=hM.1 r hr;rw[e] at this;omega;exact e
  rcases mem_cons.1 ((h r).2 (by simp[hr])) with e|e
  have:=hN.1 r hr;rw[e] at this;omega;exact e
def Ef.a{h M N:List (Int×Int)}(c:Ef h M)(b:Ef h N):M=N:=by refine Zfo c.e b.e λp=>⟨λhp=>?_,λhp=>?_⟩;obtain⟨q,f,e⟩:=c.sub p hp;obtain⟨r,d,g⟩:=b.all q f;have a:p=r:=Prod.ext O (by rw[c.h p hp,b.h r d,g,e]);exact a ▸ d;obtain⟨q,f,e⟩:=b.sub p hp;obtain⟨r,d,g⟩:=c.all q f;have a:p=r:=Prod.ext O (by rw[b.h p hp,c.h r d,g,e]);exact a ▸ d
def Ef.n{ps qs M:List (Int×Int)}(h:Ef ps M)(hp:ps.Perm qs):Ef qs M:=
 ⟨h.e,λp hpM=>let ⟨q,hq,e⟩:=h.sub p hpM;⟨q,hp.mem_iff.1 hq,e⟩,λq hq=>h.all q (hp.mem_iff.2 hq),λp hpM=>(h.h p hpM).T (Zkw hp _)⟩
def Ef.E{g M:List (Int×Int)}(h:Ef g M)(p:Int×Int)(f:∀q∈g,q.1<p.1):Ef (g++[p]) (M++[p]):=by
 refine⟨?_,?_,?_,?_⟩;rw[pairwise_append];refine⟨h.e,s_,λa c b hb=>?_⟩;simp at hb;subst hb;obtain⟨q,d,e⟩:=h.sub a c;have:=f q d;omega
 ·intro a c
  rcases mem_append.1 c with c|c
  obtain⟨q,d,e⟩:=h.sub a c;exact⟨q,by simp[d],e⟩;simp at c;subst c;exact⟨a,s_,rfl⟩
 ·intro q d
  rcases mem_append.1 d with d|d
  obtain⟨a,c,e⟩:=h.all q d;exact⟨a,by simp[c],e⟩;simp at d;subst d;exact⟨q,s_,rfl⟩
 intro a c;rw[Nf]
 rcases mem_append.1 c with c|c
 obtain⟨q,d,e⟩:=h.sub a c;have:=f q d;simp only[Ph];rw[aC O,h.h a c];omega;simp at c;subst c;rw[ot (λq d=>by have:=f q d;omega)];simp[Ph]
def Ef.b{g M:List (Int×Int)}{v w:Int}(h:Ef g (M++[(v,w)]))(u:Int):Ef (g++[(v,u)]) (M++[(v,w+u)]):=by
 have f:=h.e;rw[pairwise_append] at f;refine⟨?_,?_,?_,?_⟩;rw[pairwise_append];refine⟨f.1,s_,λa c b hb=>?_⟩;simp at hb;subst hb;exact f.2.2 a c (v,w) s_
 ·intro a c
  rcases mem_append.1 c with c|c
  obtain⟨q,d,e⟩:=h.sub a (by simp[c]);exact⟨q,by simp[d],e⟩;simp at c;subst c;exact⟨(v,u),s_,rfl⟩
 ·intro q d
  rcases mem_append.1 d with d|d
  ·obtain⟨a,c,e⟩:=h.all q d
   rcases mem_append.1 c with c|c
   exact⟨a,by simp[c],e⟩;simp at c;subst c;exact⟨(v,w+u),s_,e⟩
  simp at d;subst d;exact⟨(v,w+u),s_,rfl⟩
 intro a c;rw[Nf]
 rcases mem_append.1 c with c|c
 have:=f.2.2 a c (v,w) s_;simp only[Ph];simp only at this;rw[aC O,h.h a (by simp[c])];omega;simp at c;subst c;have:=h.h (v,w) s_;simp only[Ph,if_true] at *;omega
def Ef.nil:Ef [] []:=⟨s_,s_,s_,s_⟩
def Bo:Int->List (Int×Int)->List Cm
  |_,[]=>[]
  |low,p::r=>⟨p.1,low,low+p.2,p.2⟩::Bo (low+p.2) r
def Bv:List (Int×Int)->Int
  |[]=>0
  |p::r=>p.2+Bv r
def Tb(a b:List (Int×Int)):Bv (a++b)=Bv a+Bv b:=by
 induction a with
 |nil=>simp[Bv]
 |cons p r ih=>simp only[cons_append,Bv,ih];omega
theorem Yc(c:Int)(a b:List (Int×Int)):Bo c (a++b)=Bo c a++Bo (c+Bv a) b:=by
 induction a generalizing c with
 |nil=>simp[Bo,Bv]
 |cons p r ih=>simp only[cons_append,Bo,ih,Bv];rw[show c+p.2+Bv r=c+(p.2+Bv r) by omega]
def Pb(b:Int)(a:List (Int×Int)):(Bo b a).length=a.length:=by
 induction a generalizing b with
 |nil=>rfl
 |cons p r ih=>simp[Bo,ih]
structure Be(L:List Cm):Prop where
 j:∀e∈L,0<=e.y/\1<=e.h/\e.y+e.h<=e.g/\e.g<=1000000000000/\ -1000000000<=e.v/\e.v<=1000000000
 step:L.Pairwise λe f=>e.v<f.v/\e.y+e.h<=f.y/\e.g<=f.g-f.h
def Be.nil:Be []:=⟨s_,s_⟩
def Be.sub{L M:List Cm}(h:Be L)(hs:M.Sublist L):Be M:=⟨λe he=>h.j e (hs.subset he),h.step.sublist hs⟩
def lz{b:Int}{a:List (Int×Int)}(c:∀p∈a,1<=p.2):∀e∈Bo b a,b<=e.y/\e.g=e.y+e.h/\e.g<=b+Bv a/\∃p∈a,p.1=e.v/\p.2=e.h:=by
 induction a generalizing b with
 |nil=>simp[Bo]
 | cons p r ih=>
  intro e d;have f:=c p s_
  have g:0<=Bv r:=by
   clear ih d f
   induction r with
   |nil=>simp[Bv]
   |cons q r ih=>simp only[Bv];have:=c q s_;have:=ih (λx hx=>c x (by simp at hx ⊢;rcases hx with h|h<;>simp[h]));omega
  rcases mem_cons.1 d with rfl|d
  refine⟨?_,?_,?_,p,s_,rfl,rfl⟩;exact Int.le_refl _;rfl;simp only[Bv];omega;obtain⟨m,l,n,q,k,i,j⟩:=ih (λx hx=>c x (by simp[hx])) e d;simp only[Bv];exact⟨O,l,O,q,by simp[k],i,j⟩
def ZgW{b:Int}{a:List (Int×Int)}(d:∀p∈a,1<=p.2)(c:a.Pairwise λp q=>p.1<q.1):(Bo b a).Pairwise λe f=>e.v<f.v/\e.y+e.h<=f.y/\e.g<=f.g-f.h:=by
 induction a generalizing b with
 |nil=>simp[Bo]
 | cons p r ih=>
  rw[pairwise_cons] at c;simp only[Bo];rw[pairwise_cons];refine⟨λf hf=>?_,ih (λx hx=>d x (by simp[hx])) c.2⟩;obtain⟨h,k,_,q,g,i,j⟩:=lz (λx hx=>d x (by simp[hx])) f hf;have:=c.1 q g;simp only;omega
def ZgV{a:List (Int×Int)}(b:∀p∈a,1<=p.2)(f:a.Pairwise λp q=>p.1<q.1)(d:∀p∈a,-1000000000<=p.1/\p.1<=1000000000)(j:Bv a<=1000000000000):Be (Bo 0 a):=by refine⟨λe he=>?_,ZgW b f⟩;obtain⟨g,l,h,q,c,i,k⟩:=lz b e he;have:=d q c;have:=b q c;omega
def Yo{a}(d:∀b∈a,1<=b.2):∀c,0<=Ph a c:=by
 induction a with
 |nil=>intro c;simp[Ph]
 | cons b f e=>
  grind [Ph]
def Zku{a}(d:∀b∈a,1<=b.2):∀c∈a,1<=Ph a c.1:=by
 induction a with
 |nil=>simp
 | cons b j i=>
  intro c e;have h:=d b s_;simp only[Ph]
  rcases mem_cons.1 e with rfl|e
  have:=Yo (λg f=>d g (mem_cons_of_mem _ f)) c.1;simp;omega
  grind
def Rn(a:List (Int×Int)):List (Int×Int)->Int
 |[]=>0
 |c::b=>Ph a c.1+Rn a b
def Zhp b d a (e:0<=b.2)(f:a.Pairwise λc b=>c.1<b.1):Rn (b::d) a<=Rn d a+b.2/\((∀c∈a,c.1≠b.1)->Rn (b::d) a=Rn d a):=by
 induction a with
 |nil=>simp[Rn];exact e
 | cons c a g=>
  rw[pairwise_cons] at f
  grind [Rn,Ph]
def oo a:Rn [] a=0:=by
 induction a with
 |nil=>rfl
 |cons c a b=>simp[Rn,Ph,b]
def yk{ps a}(g:∀b∈ps,1<=b.2)(d:a.Pairwise λb c=>b.1<c.1):Rn ps a<=Bv ps:=by
 induction ps with
 |nil=>simp[oo,Bv]
 | cons c e h=>
  have f:=(Zhp c e a w_ d).1
  grind [Bv]
def Ym{c a}(d:∀b∈a,b.2=Ph c b.1):Bv a=Rn c a:=by
 induction a with
 |nil=>rfl
 |cons b a e=>grind [Bv,Rn]
def Ub{ps}(b:∀a∈ps,a.2<=1000):Bv ps<=1000*ps.length:=by
 induction ps with
 |nil=>simp[Bv]
 | cons d e c=>
  grind [Bv]
def ZfQ a:1<=Jx a/\Jx a<=1000:=by unfold Jx;split<;>omega
def ZfP a: -1000000000<=Gj a/\Gj a<=1000000000:=by unfold Gj;omega
def Jg{c f a}(b:a∈Ap c f):(1<=a.2/\a.2<=1000)/\(-1000000000<=a.1/\a.1<=1000000000)/\∃g∈c,a.1=Gj g:=by unfold Ap at b;obtain⟨e,d,rfl⟩:=mem_map.1 b;exact⟨ZfQ _,ZfP _,e.1,(of_mem_zip d).1,rfl⟩
def Ef.j{e g h}(b:Ef (Ap e g) h)(k:e.length<=2097152):Be (Bo 0 h):=by
 have c:∀a∈Ap e g,_:=λa c=>(Jg c).1.1;refine ZgV ?_ b.e ?_ ?_;intro a d;obtain⟨j,f,i⟩:=b.sub a d;rw[b.h a d,<- i];exact Zku c j f;intro a d;obtain⟨j,f,i⟩:=b.sub a d;have:=(Jg f).2.1;omega;have d:=yk c b.e;have f:=Ub (λa c=>(Jg c).1.2:∀a∈Ap e g,a.2<=1000);rw[Ym b.h]
 grind [Kz]
def e0:Cm:=⟨0,0,0,0⟩
def Ae(a:List Cm):Int:=if a.length=0 then 0 else(a.getD (a.length-1) e0).g
def Cj(b:List Cm)(a:Nat):Int:=if a=0 then 0 else(b.getD (a-1) e0).y+(b.getD (a-1) e0).h
def Du(a:List Cm)(b:Nat):Int:=if b=a.length then Ae a else(a.getD b e0).g-(a.getD b e0).h
def seen(c:List Cm)(b:Nat)(a:Cm):Cm:=⟨a.v,a.y+Cj c b,a.g+Du c b,a.h⟩
def Oi(a b:Cm):Cm:=⟨a.v,a.y+b.y,a.g+b.g,a.h+b.h⟩
def Dy(a b:List Cm):Nat->Nat->Nat->List Cm
 |0,_,_=>[]
 | e+1,c,d=>
  if c<a.length/\(d<b.length->(a.getD c e0).v<(b.getD d e0).v) then seen b d (a.getD c e0)::Dy a b e (c+1) d
  else if d<b.length/\(c<a.length->(b.getD d e0).v<(a.getD c e0).v) then seen a c (b.getD d e0)::Dy a b e c (d+1)
  else if c<a.length/\d<b.length then Oi (a.getD c e0) (b.getD d e0)::Dy a b e (c+1) (d+1)
  else[]
def Bf(a b:List Cm):List Cm:=Dy a b (a.length+b.length) 0 0
theorem Pu c d:∀f e a b,c.length-a+(d.length-b)<=f->c.length-a+(d.length-b)<=e->Dy c d f a b=Dy c d e a b
 |0,0,_,_,_,_=>rfl
 |0,e+1,a,b,g,_=>by grind [Dy]
 |f+1,0,a,b,_,g=>by grind [Dy]
 |f+1,e+1,a,b,g,h=>by simp only[Dy];split;rw[Pu c d f e (a+1) b O O];split;rw[Pu c d f e a (b+1) O O];split;rw[Pu c d f e (a+1) (b+1) O O];rfl
def Nw(a b:List Cm)(c d:Nat):List Cm:=Dy a b (a.length-c+(b.length-d)) c d
def mg a b:Nw a b 0 0=Bf a b:=by unfold Nw Bf;simp
def Zl7{a b c d}(f:c<a.length)(e:d<b.length->(a.getD c e0).v<(b.getD d e0).v):Nw a b c d=seen b d (a.getD c e0)::Nw a b (c+1) d:=by
 unfold Nw;rw[show a.length-c+(b.length-d)=(a.length-(c+1)+(b.length-d))+1 by omega];simp only[Dy]
 grind
def Zl8{a b c d}(f:d<b.length)(e:c<a.length->(b.getD d e0).v<(a.getD c e0).v):Nw a b c d=seen a c (b.getD d e0)::Nw a b c (d+1):=by
 unfold Nw;rw[show a.length-c+(b.length-d)=(a.length-c+(b.length-(d+1)))+1 by omega]
 grind [Dy]
def ZjZ{a b c d}(f:c<a.length)(g:d<b.length)(e:(a.getD c e0).v=(b.getD d e0).v):Nw a b c d=Oi (a.getD c e0) (b.getD d e0)::Nw a b (c+1) (d+1):=by
 unfold Nw;rw[show a.length-c+(b.length-d)=(a.length-(c+1)+(b.length-(d+1))+1)+1 by omega]
 grind [Dy,Pu]
def th{a b c d}(e:¬c<a.length)(f:¬d<b.length):Nw a b c d=[]:=by unfold Nw;rw[show a.length-c+(b.length-d)=0 by omega];rfl
def Xg{a:List Cm}{b}(c:b<a.length):a.getD b e0∈a:=w_
def Be.at{a}(b:Be a){i}(c:i<a.length):=b.j _ (Xg c)
def Be.lt{a}(b:Be a){i j}(d:i<j)(c:j<a.length):(a.getD i e0).v<(a.getD j e0).v/\(a.getD i e0).y+(a.getD i e0).h<=(a.getD j e0).y/\(a.getD i e0).g<=(a.getD j e0).g-(a.getD j e0).h:=by
 have:=pairwise_iff_getElem.1 b.step i j O c d
 grind
def Kd{b}(c:Be b){a}(d:a<b.length):(b.getD a e0).g<=Du b (a+1)/\Du b a<=Du b (a+1)/\Du b a=(b.getD a e0).g-(b.getD a e0).h:=by
 have e:=c.at d;have f:Du b a=(b.getD a e0).g-(b.getD a e0).h:=by unfold Du;omega
 have g:(b.getD a e0).g<=Du b (a+1):=by
  unfold Du;split
  ·grind [Ae]
  exact(c.lt (show a<a+1 by omega) O).2.2
 omega
def Ml{b}(c:Be b){a}(d:a<b.length):Cj b a<=(b.getD a e0).y/\Cj b (a+1)=(b.getD a e0).y+(b.getD a e0).h:=by refine⟨?_,by unfold Cj;simp⟩;unfold Cj;split;exact(c.at d).1;exact(c.lt (show a-1<a by omega) d).2.1
def Nd{a}(c:Be a){b}(e:b<a.length):(a.getD b e0).g<=Ae a:=by
 unfold Ae;rw[aC O]
 by_cases d:b=a.length-1
 ·grind
 have f:=(c.lt (show b<a.length-1 by omega) O).2.2;have g:=c.at (show a.length-1<a.length by omega);omega
def ia{a}(c:Be a){b}(f:b<=a.length):Du a b<=Ae a/\0<=Cj a b/\Cj a b<=Du a b:=by
 by_cases e:b=a.length
 have d:Du a b=Ae a:=(by unfold Du;rw[aD e]);rw[d];refine⟨Int.le_refl _,?_,?_⟩;unfold Cj;split;omega;have:=c.at (show b-1<a.length by omega);omega;unfold Cj Ae;split;omega;have:=c.at (show b-1<a.length by omega);grind;have d:b<a.length:=O;have g:=Kd c d;have h:=Nd c d;have i:=c.at d;have j:=Ml c d;refine⟨O,?_,?_⟩;unfold Cj;split;omega;have:=c.at (show b-1<a.length by omega);omega;omega
structure Zeh(b c)(d e)(a:Cm):Prop where
 y:Cj b d+Cj c e<=a.y
 g:Du b d+Du c e<=a.g-a.h
 k:a.g<=Ae b+Ae c
 h:1<=a.h
 n:a.y+a.h<=a.g
 i:0<d->(b.getD (d-1) e0).v<a.v
 l:0<e->(c.getD (e-1) e0).v<a.v
 j:(∃f∈b,f.v=a.v)∨∃f∈c,f.v=a.v
def Zeh.b{c d}(i:Be c)(j:Be d){a b f g h}(e:Zeh c d f g h)(t:a<=f)(w:b<=g)(u:f<=a+1)(x:g<=b+1)(v:f<=c.length)(y:g<=d.length):Zeh c d a b h:=by
 have r:Cj c a<=Cj c f/\Du c a<=Du c f/\(0<a->(c.getD (a-1) e0).v<h.v):=by
  by_cases k:f=a
  subst k;exact⟨Int.le_refl _,Int.le_refl _,e.i⟩;obtain rfl:f=a+1:=O;have l:=Ml i (show a<c.length by omega);have m:=Kd i (show a<c.length by omega);have o:=i.at (show a<c.length by omega);refine⟨O,O,λn=>?_⟩;have p:=(i.lt (show a-1<a by omega) O).1;have q:=e.i O
  grind
 have s:Cj d b<=Cj d g/\Du d b<=Du d g/\(0<b->(d.getD (b-1) e0).v<h.v):=by
  by_cases k:g=b
  subst k;exact⟨Int.le_refl _,Int.le_refl _,e.l⟩;obtain rfl:g=b+1:=O;have l:=Ml j (show b<d.length by omega);have m:=Kd j (show b<d.length by omega);have o:=j.at (show b<d.length by omega);refine⟨O,O,λn=>?_⟩;have p:=(j.lt (show b-1<b by omega) O).1;have q:=e.l O
  grind
 have l:=e.y;have m:=e.g;exact⟨O,O,e.k,e.h,e.n,r.2.2,s.2.2,e.j⟩
def Zeo(a b:Cm):Prop:=a.v<b.v/\a.y+a.h<=b.y/\a.g<=b.g-b.h
def Kw{j k}(d:Be j)(e:Be k):∀l b c,b<=j.length->c<=k.length->(b<j.length->0<c->(k.getD (c-1) e0).v<(j.getD b e0).v)->(c<k.length->0<b->(j.getD (b-1) e0).v<(k.getD c e0).v)->(∀g∈Dy j k l b c,Zeh j k b c g)/\(Dy j k l b c).Pairwise Zeo
 |0,b,c,_,_,_,_=>by simp[Dy]
 | l + 1,b,c,o,p,w,x=>by
  simp only[Dy];split
  ·rename_i a;have m:=d.at a.1;have q:=Ml d a.1;have r:=Kd d a.1;have s:=Nd d a.1;have t:=ia e p;have i:=Kw d e l (b+1) c O p (λf h=>by have:=w a.1 h;have:=(d.lt (show b<b+1 by omega) f).1;omega) (λf _=>by simpa using a.2 f);refine⟨λg f=>?_,?_⟩
   ·rcases mem_cons.1 f with rfl|f
    refine⟨?_,?_,?_,m.2.1,?_,?_,λh=>w a.1 h,.inl ⟨_,Xg a.1,rfl⟩⟩;simp only[seen];omega;simp only[seen];omega;simp only[seen];omega;simp only[seen];omega;intro h;exact(d.lt (show b-1<b by omega) a.1).1;exact(i.1 g f).b d e O O O O O p
   rw[pairwise_cons];refine⟨λg f=>?_,i.2⟩;have h:=i.1 g f;have u:=h.y;have v:=h.g;have n:=h.i O
   grind [Zeo,seen]
  split
  ·rename_i _ a;have m:=e.at a.1;have q:=Ml e a.1;have r:=Kd e a.1;have s:=Nd e a.1;have t:=ia d o;have i:=Kw d e l b (c+1) o O (λf _=>by simpa using a.2 f) (λf h=>by have:=x a.1 h;have:=(e.lt (show c<c+1 by omega) f).1;omega);refine⟨λg f=>?_,?_⟩
   ·rcases mem_cons.1 f with rfl|f
    refine⟨?_,?_,?_,m.2.1,?_,λh=>x a.1 h,?_,.inr ⟨_,Xg a.1,rfl⟩⟩;simp only[seen];omega;simp only[seen];omega;simp only[seen];omega;simp only[seen];omega;intro h;exact(e.lt (show c-1<c by omega) a.1).1;exact(i.1 g f).b d e O O O O o O
   rw[pairwise_cons];refine⟨λg f=>?_,i.2⟩;have h:=i.1 g f;have u:=h.y;have v:=h.g;have n:=h.l O
   grind [Zeo,seen]
  split
  ·rename_i B D a;have E:(j.getD b e0).v=(k.getD c e0).v:=O;have m:=d.at a.1;have q:=Ml d a.1;have r:=Kd d a.1;have s:=Nd d a.1;have t:=e.at a.2;have y:=Ml e a.2;have z:=Kd e a.2;have A:=Nd e a.2;have i:=Kw d e l (b+1) (c+1) O O (λf _=>by have:=(d.lt (show b<b+1 by omega) f).1;grind) (λf _=>by have:=(e.lt (show c<c+1 by omega) f).1;grind);refine⟨λg f=>?_,?_⟩
   ·rcases mem_cons.1 f with rfl|f
    ·refine⟨?_,?_,?_,?_,?_,?_,?_,.inl ⟨_,Xg a.1,rfl⟩⟩;simp only[Oi];omega;simp only[Oi];omega;simp only[Oi];omega;simp only[Oi];omega;simp only[Oi];omega;intro h;exact(d.lt (show b-1<b by omega) a.1).1
     grind [Oi]
    exact(i.1 g f).b d e O O O O O O
   rw[pairwise_cons];refine⟨λg f=>?_,i.2⟩;have h:=i.1 g f;have u:=h.y;have v:=h.g;have n:=h.i O;simp only[Nat.add_sub_cancel] at n;unfold Zeo;simp only[Oi];omega
  simp
def Hb{b c}(g:Be b)(h:Be c)(p:Ae b+Ae c<=1000000000000):Be (Bf b c):=by
 have a:=Kw g h (b.length+c.length) 0 0 O O (λ_ a=>absurd a O) (λ_ a=>absurd a O);refine⟨λj k=>?_,a.2⟩;have d:=a.1 j k;have l:=d.y;have m:=d.k;have n:=d.h;have o:=d.n;have:Cj b 0=0:=rfl;have:Cj c 0=0:=rfl
 rcases d.j with⟨e,f,i⟩|⟨e,f,i⟩
 have:=g.j e f;omega;have:=h.j e f;omega
theorem ki{b c}(f:Be b)(g:Be c):∀d∈Bf b c,(∃e∈b,e.v=d.v)∨∃e∈c,e.v=d.v:=by have a:=Kw f g (b.length+c.length) 0 0 O O (λ_ a=>absurd a O) (λ_ a=>absurd a O);exact λd h=>(a.1 d h).j
def Jo(a:List Cm)(b:Nat):Int:=(a.getD b e0).y+(a.getD b e0).g
def Zju{a}(b:Be a){c d}(f:c<d)(e:d<a.length):Jo a c<Jo a d:=by have g:=b.lt f e;have h:=b.at (show c<a.length by omega);have i:=b.at e;unfold Jo;omega
def Rd(a:List Cm)(d:Nat)(c b:Nat):Bool:=decide ((Jo a b+Jo a (b+1))*(d-1)<4*c*Ae a)
def Hj(b:Nat->Bool):Nat->Nat->Nat
 |0,a=>a
 |c+1,a=>if b a=true then Hj b c (a+1) else a
def Sg c:∀b a,a<=Hj c b a/\Hj c b a<=a+b/\(∀d,a<=d->d<Hj c b a->c d=true)/\(Hj c b a=a+b∨c (Hj c b a)=false)
 |0,a=>by simp[Hj];omega
 | b+1,a=>by
  have d:=Sg c b (a+1)
  grind [Hj]
def Cw(a:List Cm)(c b:Nat):Nat:=Hj (Rd a c b) (a.length-3) 1
structure yx(b:List Cm)(e d a):Prop where
 g:1<=a
 le:a+2<=b.length
 h:∀c,1<=c->c<a->Rd b e d c=true
 i:a+2=b.length∨Rd b e d a=false
def Gb a c b (d:3<=a.length):yx a c b (Cw a c b):=by have:=Sg (Rd a c b) (a.length-3) 1;unfold Cw;exact⟨this.1,O,this.2.2.1,w_⟩
def yx.a{g i h e d}(c:yx g i h e)(b:yx g i h d):e=d:=by
 rcases Nat.lt_trichotomy e d with a|a|a
 ·have j:=b.h e c.g a
  rcases c.i with f|f
  have:=b.le;omega
  grind
 exact a;have j:=c.h d b.g a
 rcases b.i with f|f
 have:=c.le;omega
 grind
def Ec{a}(b:Be a):0<=Ae a/\Ae a<=1000000000000:=by unfold Ae;split;omega;have:=b.at (show a.length-1<a.length by omega);omega
def ta{a}(e:Be a){d c b}(f:Rd a d c b=true):Rd a d (c+1) b=true:=by
 unfold Rd at *;have g:=(Ec e).1
 grind
theorem Yz{a}(h:Be a) c b (d:3<=a.length):Cw a c b<=Cw a c (b+1):=by
 have e:=Gb a c b d;have f:=Gb a c (b+1) d
 by_cases i:Cw a c b<=Cw a c (b+1)
 exact i;have j:=ta h (e.h _ f.g O)
 rcases f.i with g|g
 have:=e.le;omega
 grind
def Jt(b:List Cm)(c a:Nat):Nat:=if a=0 then 0 else Cw b c a
def Fb(a:List Cm)(c:Nat):Nat->List Cm
 |0=>[a.getD 0 e0]
 |b+1=>if Cw a c (b+1)=Jt a c b then Fb a c b else Fb a c b++[a.getD (Cw a c (b+1)) e0]
def Eo(a:List Cm)(b:Int):List Cm:=
 if a.length<=max b 2 then a else Fb a (max b 2).toNat ((max b 2).toNat-2)++[a.getD (a.length-1) e0]
theorem Qr(a:List Cm){b}(c:b<a.length):a.take (b+1)=a.take b++[a.getD b e0]:=by grind [Qi]
def ZaG{a}(e:Be a) c (d:3<=a.length):∀b,(Fb a c b).Sublist (a.take (Jt a c b+1))/\Jt a c b+2<=a.length/\Jt a c b<=Cw a c (b+1)
 |0=>by grind [Jt,Qr,Fb]
 | b+1=>by
  have h:=ZaG e c d b;have f:=Gb a c (b+1) d;have g:Jt a c (b+1)=Cw a c (b+1):=(by simp[Jt]);rw[g];refine⟨?_,f.le,Yz e c _ d⟩;simp only[Fb];split
  ·grind
  rename_i i;rw[Qr a (show Cw a c (b+1)<a.length by have:=f.le;omega)];refine List.Sublist.append ?_ (List.Sublist.refl _);apply h.1.T;exact take_sublist_take_left O
theorem Hz{a}(d:Be a) b:(Eo a b).Sublist a:=by
 unfold Eo;split
 ·grind
 rename_i g;have e:3<=a.length:=O;have f:=ZaG d (max b 2).toNat e ((max b 2).toNat-2);have c:a=a.take (a.length-1+1):=w_
 conv=>rhs;rw[c]
 rw[Qr a (show a.length-1<a.length by omega)];refine List.Sublist.append (f.1.T ?_) (List.Sublist.refl _)
 grind
def Ut(a:List Cm)(d c b:Nat):Int:=if Jo a b*(d-1)-2*c*Ae a<0 then -(Jo a b*(d-1)-2*c*Ae a) else Jo a b*(d-1)-2*c*Ae a
def sa{a}(f:Be a){b e d c}(k:2<=b)(h:d<c)(g:c<a.length):Ut a b e c<Ut a b e d↔(Jo a d+Jo a c)*(b-1)<4*e*Ae a:=by
 have i:=Zju f h g;have j:_<_*((b:Int)-1):=Int.mul_lt_mul_of_pos_right i O
 grind [Ut]
def Zcv{a}(f:Be a){b d c}(i:2<=b)(k:2<=c)(l:c+1<a.length):(if Ut a b d c<Ut a b d (min (c-1) (Cw a b d)) then c else min (c-1) (Cw a b d))=min c (Cw a b d):=by
 have g:=Gb a b d O
 by_cases j:c-1<Cw a b d
 rw[show min (c-1) (Cw a b d)=c-1 by omega];have e:=g.h _ O j;unfold Rd at e;rw[decide_eq_true_eq,show c-1+1=c by omega] at e;rw[aD ((sa f i (show c-1<c by omega) O).2 e)];omega;rw[show min (c-1) (Cw a b d)=Cw a b d by omega];rw[if_neg,show min c (Cw a b d)=Cw a b d by omega];rw[sa f i (show Cw a b d<c by omega) O]
 have h:Rd a b d (Cw a b d)=false:=by
  rcases g.i with e|e
  omega;exact e
 unfold Rd at h;rw[decide_eq_false_iff_not] at h
 have m:Jo a (Cw a b d+1)<=Jo a c:=by
  by_cases e:Cw a b d+1=c
  ·grind
  exact Int.le_of_lt (Zju f O O)
 have:(Jo a (Cw a b d)+Jo a (Cw a b d+1))*((b:Int)-1)<=(Jo a (Cw a b d)+Jo a c)*((b:Int)-1):=Int.mul_le_mul_of_nonneg_right O O;omega
def Ki(a:List Cm)(e d b:Nat):Bool:=(range d).any λc=>Cw a e (c+1)==b
def Zev{b}(e:Be b) d (f:3<=b.length):∀c a,Cw b d a<=Cw b d (a+c)
 |0,_=>x_
 |c+1,a=>aG (Zev e d f c a) (Yz e d (a+c) f)
def Zhm{a}(g:Be a) c b (e:3<=a.length):Ki a c b (Cw a c (b+1))=decide (Cw a c (b+1)=Jt a c b):=by
 have j:=(Gb a c (b+1) e).g;rw[Bool.eq_iff_iff,decide_eq_true_eq];unfold Ki;rw[any_eq_true];constructor
 ·rintro⟨f,h,d⟩;simp at h d;have i:=Zev g c e (b-(f+1)) (f+1)
  grind [Yz,Jt]
 intro d;unfold Jt at d;split at d;omega;exact⟨b-1,t_,w_⟩
def Zd9 a d c b:Ki a d (c+1) b=(Ki a d c b||Cw a d (c+1)==b):=by grind [Ki]
def Zi4{x b c a f:Int}(g:0<a)(j:0<=c)(i:c<a)(h:b*a+c=f):x<(if 0<c then b+1 else b)↔x*a<f:=by constructor;intro d;split at d;have:x*a<=b*a:=Int.mul_le_mul_of_nonneg_right O O;omega;have:x*a<b*a:=Int.mul_lt_mul_of_pos_right d g;omega;intro d;split;have e:x*a<(b+1)*a:=w_;exact Int.lt_of_mul_lt_mul_right e O;have e:x*a<b*a:=O;exact Int.lt_of_mul_lt_mul_right e O
def Zi5{c:List Cm}{U:List Int}(e:c.Pairwise λa b=>a.v<b.v/\a.y+a.h<=b.y/\a.g<=b.g-b.h)(d:∀a∈c,a.v∈U):c.length<=U.length:=by
 induction c generalizing U with
 |nil=>simp
 | cons a c h=>
  rw[pairwise_cons] at e;have i:=d a s_
  have j:=h (U:=U.erase _) e.2 (λb f=>by
   have g:b.v≠a.v:=w_
   exact(mem_erase_of_ne g).2 (d b (by simp[f])))
  grind
def Be.len{a}(c:Be a){U:List Int}(d:∀b∈a,b.v∈U):a.length<=U.length:=Zi5 c.step d
end Go.Proofs.YtfcgnpchbcmdeaaGreat
namespace Go.Proofs.YtfcgnpchbcmdeaaGreat
set_option linter.all false
set_option maxHeartbeats 1000000
open Go.RowKit List Nat World Go.Proofs.Tryz Value IntKind Lib Region
structure Le(c:World)(b d)(a:List Cm):Prop where
 lt:0<a.length->b<c.1.size
 v:∀i,i<a.length->c.cell? (J b (d+i*4))=some (I (a.getD i e0).v)
 y:∀i,i<a.length->c.cell? (J b (d+i*4+1))=some (I (a.getD i e0).y)
 g:∀i,i<a.length->c.cell? (J b (d+i*4+2))=some (I (a.getD i e0).g)
 h:∀i,i<a.length->c.cell? (J b (d+i*4+3))=some (I (a.getD i e0).h)
def Ee(e:World)(d:Option Addr)(a:List Cm):Prop:=a.length<=4194304/\(a.length=0∨∃b c,d=some ⟨b,c,none⟩/\Le e b c a)
def Le.block{h w' c i f}(d:Le h c i f)(k:h.1.size<=w'.1.size)(j:0<f.length->w'.1[c]? =h.1[c]?):Le w' c i f:=by have e:=λg l=>cb_ (a:=(J c l)) (j g);exact⟨λg=>Qh (d.lt g) k,λb a=>(e O _).T (d.v b a),λb a=>(e O _).T (d.y b a),λb a=>(e O _).T (d.g b a),λb a=>(e O _).T (d.h b a)⟩
def Le.below{d h a g e}(b:Le d a g e)(c:E_ d h):=b.block c.size λf=>c.block a (b.lt f)
def Ee.below{e f c b}(a:Ee e c b)(i:E_ e f):Ee f c b:=by rcases a with⟨d,a|⟨g,j,h,a⟩⟩;exact⟨d,.inl a⟩;exact⟨d,.inr ⟨g,j,h,a.below i⟩⟩
def Ee.drewN{e b a}(c:Ee e b a) d:=c.below (below_drewN y_ d)
def dw{a b}(c:a=b):Ending.returned (I a)=.returned (I b):=by rw[c]
def Zid{p:Prop}(h:p:=by
 rcases b with⟨j,b|⟨n,o,rfl,b⟩⟩;exact absurd b c;have d:=b.g (a.length-1) O;have l:=aO O;have m:Ae a=(a.getD (a.length-1) e0).g:=(by unfold Ae;rw[aC c]);have f:=Y m;generalize (a.getD (a.length-1) e0).g=p at d f;obtain⟨h,k⟩:∃h,a.length=h+1:=⟨a.length-1,O⟩;rw[k] at d j l ⊢;simp only[Nat.add_sub_cancel] at d;refine v_ ?_;go_wp2;go_ret
 exact⟨dw f.s,rfl⟩):p:=h
def yl g a i e (b:Ee e g a):C_ 176 #[V g a.length i] e (V_ (.int .i64 (Ae a)) e):=by
 by_cases c:a.length=0
 refine er_ ?_;exact⟨dw (by simp[Ae,c]),rfl⟩;exact Zid
def ZbZ g a i e (b:Ee e g a):C_ 87 #[V g a.length i] e (V_ (.int .i64 (Ae a)) e):=by
 by_cases c:a.length=0
 refine er_ ?_;exact⟨dw (by simp[Ae,c]),rfl⟩;exact Zid
def Zb a d:C_ 79 #[I a] d (V_ (.int .i64 (Gj a)) d):=by
 unfold Gj
 by_cases c:1000000000<a
 ·have b:¬a< -1000000000:=O;rw[aD c];refine v_ ?_;go_wp2;go_ret;exact⟨rfl,rfl⟩
 rw[aC c]
 by_cases b:a< -1000000000
 all_goals
  first|rw[aD b]|rw[aC b]
  refine v_ ?_;go_wp2;go_ret;exact⟨rfl,rfl⟩
def Wq b a:C_ 80 #[I b] a (V_ (.int .i64 (Jx b)) a):=by
 refine v_ ?_;go_wp2
 all_goals go_ret
 all_goals exact⟨dw (by unfold Jx;omega),rfl⟩
def ZnN x a b (c:0<=x.y/\0<=x.g/\0<=x.h/\x.y<=1000000000000/\x.g<=1000000000000/\x.h<=1000000000000)(d:0<=a.y/\0<=a.g/\0<=a.h/\a.y<=1000000000000/\a.g<=1000000000000/\a.h<=1000000000000):C_ 86 #[.agg #[I x.v,I x.y,I x.g,I x.h],.agg #[I a.v,I a.y,I a.g,I a.h]] b (U_ (.agg #[.int .i64 (Oi x a).v,.int .i64 (Oi x a).y,.int .i64 (Oi x a).g,.int .i64 (Oi x a).h]) b):=by obtain⟨e,f,g,h,i,j⟩:=c;obtain⟨k,l,m,n,o,p⟩:=d;refine v_ ?_;go_wp2;exact bodyPost_ret (v:=.agg #[I x.v,I (x.y+a.y),I (x.g+a.g),I (x.h+a.h)]) (by simp[results,results86,go_sem]) rfl ⟨rfl,(q_.alloc s_ _).alloc t_ _⟩
def fo g b j a f (c:Ee f g b)(k:Be b)(q:a<=b.length):C_ 152 #[V g b.length j,I a] f λd h=>d=.returned (.int .i64 (Cj b a))/\∃e,h=f.drewN e:=by
 cases a with
 | zero=>
  refine er_ ?_;exact⟨dw rfl,0,rfl⟩
 | succ a=>
  rcases c with⟨r,c|⟨l,s,rfl,c⟩⟩;omega;have h:=c.y a O;have i:=c.h a O;have e:=k.at (show a<b.length by omega)
  have d:K (Cj b (a+1)=(b.getD a e0).y+(b.getD a e0).h):=show _=_ by simp[Cj]
  generalize (b.getD a e0).y=t at h d e;generalize (b.getD a e0).h=u at i d e;obtain⟨m,n,o,p,_⟩:=e;refine v_ ?_;go_wp2;go_quiet (fail);go_wp2;go_ret;exact⟨dw d.s,_,rfl⟩
def ak e a k b g (c:Ee g e a)(l:Be a)(r:b<=a.length):C_ 153 #[V e a.length k,I b] g λf i=>f=.returned (.int .i64 (Du a b))/\∃d,i=g.drewN d:=by
 by_cases h:b=a.length
 ·subst h
  have d:K (Du a _=_):=show _=_ by unfold Du;rw[aD rfl]
  refine v_ ?_;go_wp2_with fail
  apply (ZbZ e a _ _ c).m;rintro f i ⟨rfl,rfl⟩;go_wp2;go_ret;exact⟨dw d.s,0,rfl⟩
 rcases c with⟨_,c|⟨m,s,rfl,c⟩⟩;omega;have i:=c.g b O;have j:=c.h b O;have f:=l.at (show b<a.length by omega)
 have d:K (Du a b=_):=show _=_ by unfold Du;rw[aC h]
 generalize (a.getD b e0).g=t at i d f;generalize (a.getD b e0).h=u at j d f;obtain⟨n,o,p,q,_⟩:=f;refine v_ ?_;go_wp2;go_quiet (fail);go_wp2;go_ret;exact⟨dw d.s,_,rfl⟩
def Dn(a:List Cm)(b:Nat)(c:Int):Cm:=if b<a.length/\(a.getD b e0).v=c then a.getD b e0 else⟨c,Cj a b,Du a b,0⟩
def Jv(b:World)(a:Nat)(c d e f:Int):Prop:=b.1[a]? =some (O_ #[I c,I d,I e,I f] 98)
def Jv.cells{b a e f g h}(c:Jv b a e f g h):b.cell? (J a 0)=some (I e)/\b.cell? (J a 1)=some (I f)/\b.cell? (J a 2)=some (I g)/\b.cell? (J a 3)=some (I h)/\(∀d,b.frozen? (J a d)=false):=by unfold Jv at c;refine⟨?_,?_,?_,?_,λd=>fr_ b a d _ _ c⟩<;>simp[cell?,c]
def Jv.lt{b a d e f g}(c:Jv b a d e f g):a<b.1.size:=(Qb c).1
def Jv.a{b a d h e f}(g:Jv b a d h e f) c:Jv (b.setCell (J a 1) (I c)) a d c e f:=by have:=hs_ b a 1 _ 98 (I c) g;exact this
def Jv.h{b a d e f g}(h:Jv b a d e f g){p}(i:a≠p.block) c:Jv (b.setCell p c) a d e f g:=by unfold Jv at *;rw[Below.heap_setCell b p c a i];exact h
def Jv.alloc{w a d e f g}(b:Jv w a d e f g) c:Jv (w.alloc c) a d e f g:=by have h:=b.lt;unfold Jv at *;rw[hb_ w c a h];exact b
def Jv.new(a:World) b c d e:Jv (a.alloc (O_ #[I b,I c,I d,I e] 98)) a.1.size b c d e:=ha_ a _
def Jv.drew{b a c d e f}(g:Jv b a c d e f):Jv b.drew a c d e f:=g
def Zbd l a E c d e (G:Ee e l a)(F:Be a)(a7:c<=a.length)(M:∀j,j<c->(a.getD j e0).v<d)(H:c<a.length->d<=(a.getD c e0).v):C_ 175 #[V l a.length E,I d] e (U_ (.agg #[.int .i64 (Dn a c d).v,.int .i64 (Dn a c d).y,.int .i64 (Dn a c d).g,.int .i64 (Dn a c d).h]) e):=by
 have t:=Y G;have y:=Y F;have z:=Y M;have D:=Y H;refine dl_ ?_;go_enter func175,ntmps175;go_wp2_with fail
 apply (yl l a _ _ (t.below q_)).m;rintro X b6 ⟨rfl,rfl⟩;go_wp2_with fail
 go_loopw [6] (λj f=>∃b:Nat,b<=c/\j=I b/\E_ e f/\Jv f e.1.size 0 0 0 0/\Jv f (e.1.size+1) d (Cj a b) (Ae a) 0) (m1_ a.length)
 case atStart=>
  refine⟨0,r_,rfl,q_.alloc s_ _,?_,?_⟩;exact(Jv.new e 0 0 0 0).alloc _;have b:(e.alloc (O_ #[I 0,I 0,I 0,I 0] 98)).1.size=e.1.size+1:=s_;have:=Jv.new (e.alloc (O_ #[I 0,I 0,I 0,I 0] 98)) d 0 (Ae a) 0;rw[b] at this;exact this
 obtain⟨b,a8,rfl,n,v,u⟩:=hrel;obtain⟨p,q,r,s,b4⟩:=v.cells;obtain⟨a9,b0,b1,b2,b3⟩:=u.cells;have B:=Y v;have A:=Y u
 by_cases f:b<a.length
 ·rcases t.out with⟨_,a5|⟨R,b5,rfl,m⟩⟩;omega;have a6:=m.lt O;have h:=m.below n;have S:=h.v b f;have T:=h.y b f;have U:=h.g b f;have W:=h.h b f;obtain⟨Z,a0,a1,a2,a3,a4⟩:=(y.at f)
  by_cases L:b<c
  ·have w:=z b L;have N:((a.getD b e0).v==d)=_:=aO O
   have g:K (Cj a (b+1)=(a.getD b e0).y+(a.getD b e0).h):=show _=_ by simp[Cj]
   generalize (a.getD b e0).v=P,(a.getD b e0).y=Q,(a.getD b e0).g=k,(a.getD b e0).h=x at *;go_wp2_with fail
   go_region
   all_goals go_wp2
   all_goals
    go_roundw
    case rel=>
     refine⟨b+1,O,g_,(n.setCell s_ _).drew,(B.h s_ _).drew,?_⟩;rw[g];exact(A.a _).drew
    case measure=>exact z_
  have o:c=b:=O;subst o;have w:=D f
  by_cases i:(a.getD c e0).v=d
  ·have g:K (Dn a _ d=_):=show _=_ by unfold Dn;rw[aD ⟨f,i⟩]
   have N:=beq_iff_eq.2 i;clear m h i w;generalize a.getD c e0=k at *;go_wp2;exact bodyPost_ret (v:=.agg #[I k.v,I k.y,I k.g,I k.h]) (by simp[results,results175,go_sem,p,q,r,s]) rfl ⟨by rw[g],(((n.setCell s_ _).setCell s_ _).setCell s_ _).setCell s_ _⟩
  have g:K (Dn a _ d=⟨d,_,_-_,0⟩):=show _=_ by unfold Dn;rw[aC (λk=>i k.2)];unfold Du;rw[aC O]
  have N:d<(a.getD c e0).v:=O;generalize (a.getD c e0).v=P,(a.getD c e0).y=Q,(a.getD c e0).g=k,(a.getD c e0).h=x at *;go_wp2_with fail
  go_region
  all_goals go_wp2
  all_goals exact bodyPost_ret (v:=.agg #[I d,I (Cj a c),I (k-x),I 0]) (by simp[results,results175,go_sem,p,q,r,s]) rfl ⟨by rw[g],(by repeat(first|omega|with_reducible apply Below.drew|with_reducible refine Below.setCell ?_ s_ _))⟩
 have o:c=b:=O;subst o
 have g:K (Dn a _ d=⟨d,_,Ae a,0⟩):=show _=_ by unfold Dn;rw[aC (λk=>f k.1)];unfold Du;rw[aD O]
 go_wp2;exact bodyPost_ret (v:=.agg #[I d,I (Cj a c),I (Ae a),I 0]) (by simp[results,results175,go_sem,p,q,r,s]) rfl ⟨by rw[g],(by repeat(first|omega|with_reducible apply Below.drew|with_reducible refine Below.setCell ?_ s_ _))⟩
def En(a:Cm):List Value:=[I a.v,I a.y,I a.g,I a.h]
def flat:List Cm->List Value
 |[]=>[]
 |b::a=>En b++flat a
theorem Cq a b:flat (a++b)=flat a++flat b:=by
 induction a with
 |nil=>rfl
 |cons e d c=>simp[flat,c]
theorem Es a:(flat a).length=a.length*4:=by
 induction a with
 |nil=>rfl
 |cons c a b=>simp[flat,En,b];omega
def ZiT x:flat [x]=[I x.v,I x.y,I x.g,I x.h]:=rfl
def kc:(prog.info? 98).map (λa=>(a.zero,a.size,a.bytes))=some (some (.agg #[I 0,I 0,I 0,I 0]),4,32):=k_
def Am(d:World)(b:Nat)(c:Value)(a:List Cm):Prop:=d.ownsRow b 98 4 c a.length (flat a)
def Am.nil b a:Am b a (N_) []:=ownsRow_nil b a 98 4
def Am.alloc{w b d a}(e:Am w b d a) c:Am (w.alloc c) b d a:=ra_ e c
def Am.below{f g base e a}(c:Am f base e a)(k:E_ f g):Am g base e a:=by
 refine⟨c.1,?_⟩
 rcases c.2 with m|⟨b,h,i,j,l,d,n⟩
 exact .inl m;exact .inr ⟨b,h,i,j,l,(k.block b (Qb d).1).T d,n⟩
def Tu d e:∀a b c,(Dy d e a b c).length<=a
 |0,_,_=>by simp[Dy]
 | a+1,b,c=>by
  have f:=Tu d e a (b+1) c;have g:=Tu d e a b (c+1);have h:=Tu d e a (b+1) (c+1)
  grind [Dy]
theorem Me a b:(Bf a b).length<=a.length+b.length:=Tu a b _ 0 0
def Xv(b c:List Cm)(d e:Nat)(a:Int):Cm:=⟨a,(Dn b d a).y+(Dn c e a).y,(Dn b d a).g+(Dn c e a).g,(Dn b d a).h+(Dn c e a).h⟩
theorem aj{a b}(c:b<a.length):Dn a b (a.getD b e0).v=a.getD b e0:=by unfold Dn;grind
theorem lm{a b c}(d:b<a.length->(a.getD b e0).v≠c):Dn a b c=⟨c,Cj a b,Du a b,0⟩:=by unfold Dn;grind
def ZlQ{a c b d}(e:b<a.length)(f:d<c.length->(a.getD b e0).v<(c.getD d e0).v):Xv a c b d (a.getD b e0).v=seen c d (a.getD b e0):=by unfold Xv seen;rw[aj e,lm (λg=>O)];simp
def ZlR{c a d b}(f:b<a.length)(e:d<c.length->(a.getD b e0).v<(c.getD d e0).v):Xv c a d b (a.getD b e0).v=seen c d (a.getD b e0):=by grind [Xv,seen,aj,lm,Cm.mk.injEq]
def Zjy{a c b d}(f:b<a.length)(g:d<c.length)(e:(a.getD b e0).v=(c.getD d e0).v):Xv a c b d (a.getD b e0).v=Oi (a.getD b e0) (c.getD d e0):=by grind [Xv,Oi,aj]
def Zbc{a}(d:Be a){b}(f:b<=a.length) c:0<=(Dn a b c).y/\(Dn a b c).y<=1000000000000/\0<=(Dn a b c).g/\(Dn a b c).g<=1000000000000/\0<=(Dn a b c).h/\(Dn a b c).h<=1000000000000:=by
 unfold Dn;split;rename_i e;have:=d.at e.1;omega;have e:=ia d f;have g:=Ec d
 grind
structure Ob(c d:List Cm)(a b):Prop where
 g:a<=c.length
 e:b<=d.length
 i:a<c.length->0<b->(d.getD (b-1) e0).v<(c.getD a e0).v
 l:b<d.length->0<a->(c.getD (a-1) e0).v<(d.getD b e0).v
def Yy{c}(f:Be c){a d}(h:a<=c.length)(g:0<a->(c.getD (a-1) e0).v<d):∀b,b<a->(c.getD b e0).v<d:=by
 intro b i
 by_cases e:b=a-1
 rw[e];exact(g O);have:=(f.lt (show b<a-1 by omega) O).1;omega
def Ob.a{a c}(g:Be a){b d}(f:Ob a c b d)(j:b<a.length)(h:d<c.length->(a.getD b e0).v<(c.getD d e0).v):Ob a c (b+1) d:=
 ⟨O,f.e,λe i=>oj_ (f.i j i) (g.lt (show b<b+1 by omega) e).1,λe _=>by simpa using h e⟩
def Ob.b{c b}(g:Be b){d a}(f:Ob c b d a)(j:a<b.length)(h:d<c.length->(b.getD a e0).v<(c.getD d e0).v):Ob c b d (a+1):=
 ⟨f.g,O,λe _=>by simpa using h e,λe i=>oj_ (f.l j i) (g.lt (show a<a+1 by omega) e).1⟩
def Ob.c{c d}(f:Be c)(g:Be d){a b}(h:Ob c d a b)(j:a<c.length)(k:b<d.length)(i:(c.getD a e0).v=(d.getD b e0).v):Ob c d (a+1) (b+1):=
 ⟨O,O,λe _=>gh_ (f.lt (show a<a+1 by omega) e).1,λe _=>gh_ (g.lt (show b<b+1 by omega) e).1⟩
structure Rs(a b)(c d)(e):Prop where
 g:Ob a b c d
 eq:e++Nw a b c d=Bf a b
def Rs.len{a b f g c}(d:Rs a b f g c):c.length<=a.length+b.length:=by have e:=congrArg length d.eq;have h:=Me a b;simp at e;omega
def Rs.a{a b}(i:Be a){c d g}(h:Rs a b c d g)(f:c<a.length)(e:d<b.length->(a.getD c e0).v<(b.getD d e0).v):Rs a b (c+1) d (g++[seen b d (a.getD c e0)]):=
 ⟨h.g.a i f e,by rw[append_assoc,<- h.eq,Zl7 f e];rfl⟩
def Rs.b{a b}(i:Be b){c d g}(h:Rs a b c d g)(f:d<b.length)(e:c<a.length->(b.getD d e0).v<(a.getD c e0).v):Rs a b c (d+1) (g++[seen a c (b.getD d e0)]):=
 ⟨h.g.b i f e,by rw[append_assoc,<- h.eq,Zl8 f e];rfl⟩
def Rs.c{a b}(j:Be a)(k:Be b){c d h}(i:Rs a b c d h)(f:c<a.length)(g:d<b.length)(e:(a.getD c e0).v=(b.getD d e0).v):Rs a b (c+1) (d+1) (h++[Oi (a.getD c e0) (b.getD d e0)]):=
 ⟨i.g.c j k f g e,by rw[append_assoc,<- i.eq,ZjZ f g e];rfl⟩
end Go.Proofs.YtfcgnpchbcmdeaaGreat
