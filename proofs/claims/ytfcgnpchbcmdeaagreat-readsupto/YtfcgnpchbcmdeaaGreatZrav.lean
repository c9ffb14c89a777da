import Derived.Deep.RegionHeld3
import Derived.Test.YtfcgnpchbcmdeaaGreatZr00
namespace Go.Proofs.YtfcgnpchbcmdeaaGreat
set_option linter.all false
open Go
section
variable {P:Program} {ops:Array Oper} {Q:Exit->Act->World->Prop} {md:Region.Mode} {S:World->Prop} {stop:Nat}
def Dg(P:Program)(md:Region.Mode)(ops:Array Oper)(Q:Exit->Act->World->Prop)(S:World->Prop)(stop:Nat):Nat->Array Bool->Act->World->Prop
 |0,listed,a,w=>Region.ready md ops listed=[]/\Q .normal a w
 | fuel+1,listed,a,w=>
  (Region.ready md ops listed=[]->Q .normal a w)/\
  ∀i∈Region.ready md ops listed,wpOp P ops Q i (λa' w'=>((listed.setIfInBounds i true).getD stop false=true∨S w')/\Dg P md ops Q S stop fuel (listed.setIfInBounds i true) a' w') a w
def mt:∀(fuel:Nat)(listed:Array Bool)(a:Act)(w:World),Dg P md ops Q S stop fuel listed a w->wpAny P md ops Q fuel listed a w
 |0,_,_,_,h=>h
 |fuel+1,_,_,_,h=>⟨h.1,λi hi=>wpOp_mono (λa' w' h'=>mt fuel _ a' w' h'.2) (h.2 i hi)⟩
def iu(md:Region.Mode)(ops:Array Oper)(listed:Array Bool)(i:Nat)(W:List Nat):Bool:=
 W.all λj=>!listed.getD j true&&((ops[j]?).map λo=>o.after.any λe=>Region.binds md e&&(e.on==i||W.contains e.on)).getD false
structure Zcg(md)(ops:Array Oper)(listed:Array Bool)(i)(W:List Nat):Prop where
 un:∀j∈W,listed.getD j true=false
 wait:∀j∈W,∃o,ops[j]? =some o/\∃e∈o.after,Region.binds md e=true/\(e.on=i∨e.on∈W)
def ZfG{a i W}(h:iu md ops a i W=true):Zcg md ops a i W:=by
 unfold iu at h;rw[List.all_eq_true] at h;refine⟨λj hj=>?_,λj hj=>?_⟩
 ·grind
 grind
def Za0{l:Array Bool}{j}(h:l.getD j true=false):l.getD j false=false:=w_
def Zcg.not_ready{listed i W}(h:Zcg md ops listed i W)(hi:listed.getD i true=false){j}(hj:j∈W):j ∉ Region.ready md ops listed:=λhr=>by
 obtain⟨_,o,ho,hall⟩:=mem_ready.1 hr;obtain⟨o',ho',e,he,hb,hon⟩:=h.wait j hj;rw[ho] at ho';injection ho' with ho';subst ho';have:=hall e he hb
 rcases hon with e1|e1
 ·grind
 rw[Za0 (h.un _ e1)] at this;cases this
def Zcg.set{a i j W}(h:Zcg md ops a i W)(b:j ∉ W):Zcg md ops (a.setIfInBounds j true) i W:=
 ⟨λk hk=>by
  have hne:j≠k:=w_
  rw[getD_set_ne true hne];exact h.un k hk,h.wait⟩
def Zag{i p v W}(d:stop∈W)(C:ops[i]? =some p)(m:∀(j:Nat) o cs b,ops[j]? =some o->o.op≠ .select cs b)(G:∀c a w,Q (.panic c) (a.put p.dst v) w->Q (.panic c) a w):∀fuel listed a w,(∀j oj,ops[j]? =some oj->j≠i->listed.getD j true=false->(∀e∈oj.after,Region.binds md e=true->e.on≠i)->p.apart ops oj=true)->i∈Region.ready md ops listed->Zcg md ops listed i W->YieldsIf P ops S p v a->S w->Dg P md ops Q S stop fuel (listed.setIfInBounds i true) (a.put p.dst v) w->Dg P md ops Q S stop (fuel+1) listed a w:=by
 intro fuel
 induction fuel with
 | zero=>
  intro listed a w _ y _ x t H;refine⟨λh=>w_,λj hj=>?_⟩
  by_cases hji:j=i
  subst hji;exact x.wpOp C t ⟨.inr t,H⟩;have:=ready_mono hj hji;rw[H.1] at this
  cases this
 | succ fuel ih=>
  intro listed a w f y A x t H;have g:=(mem_ready.1 y).1;refine⟨λh=>w_,λj hj=>?_⟩
  by_cases hji:j=i
  subst hji;exact x.wpOp C t ⟨.inr t,H⟩;have J:=H.2 j (ready_mono hj hji);obtain⟨r,oj,n,F⟩:=mem_ready.1 hj;have s:j ∉ W:=λe=>A.not_ready g e hj;have D:i ∉ W:=λe=>A.not_ready g e y;have B:i≠_:=λe=>D (e ▸ d);have E:j≠_:=λe=>s (e ▸ d);have q:∀e∈oj.after,Region.binds md e=true->e.on≠i:=w_;have I:=wpOp_putIf n (f j _ n hji r q) (λcs b=>m i _ _ b C) (λcs b=>m j _ _ b n) G x J
  have l:∀k ok,ops[k]? =some ok->k≠i->(listed.setIfInBounds j true).getD k true=false->
    (∀e∈ok.after,Region.binds md e=true->e.on≠i)->p.apart ops ok=true:=λk ok hk hki g hno=>by
   refine f k ok hk hki ?_ hno
   by_cases hjk:j=k
   ·grind
   rw[getD_set_ne true hjk] at g;exact g
  refine wpOp_mono (λa' w' h3=>?_) I
  have u:S w':=by
   rcases h3.2.1 with z|z
   ·rw[getD_set_ne false E,getD_set_ne false B,Za0 (A.un stop d)] at z
    cases z
   exact z
  refine⟨.inr u,ih _ _ _ l (ready_mono y (Ne.symm hji)) (A.set s) h3.1 u ?_⟩;rw[Array.setIfInBounds_comm _ _ hji];exact h3.2.2
def Zb9{i oi v fuel listed a w} W (hi:ops[i]? =some oi)(hs:Region.noSelect ops=true)(hf:Region.free md ops listed i=true)(hr:(Region.ready md ops listed).contains i=true)(hstop:W.contains stop=true)(hL:iu md ops listed i W=true)(hQ:∀c a w,Q (.panic c) (a.put oi.dst v) w->Q (.panic c) a w)(hy:YieldsIf P ops S oi v a)(hS:S w)(h:Dg P md ops Q S stop fuel (listed.setIfInBounds i true) (a.put oi.dst v) w):Dg P md ops Q S stop (fuel+1) listed a w:=
 Zag (by simpa using hstop) hi (Region.noSelect_spec hs) hQ fuel listed a w (Region.free_spec hi hf) (by simpa using hr) (ZfG hL) hy hS h
def Ak{listed a w}(hr:Region.ready md ops listed=[])(h:Q .normal a w):∀fuel,Dg P md ops Q S stop fuel listed a w
 |0=>⟨hr,h⟩
 |_+1=>⟨λ_=>h,by rw[hr];simp⟩
def Gg{i o c b a w}(e:Region.ready md ops b=[i])(d:ops[i]? =some o)(h:∀K':Act->World->Prop,Shut (∀a w,S w->(S w->Dg P md ops Q S stop c (b.setIfInBounds i true) a w)->K' a w)->if Region.wanted o (yielded ops a.tmps)=true then Oper.wp P o a w K' Q else K' (a.put o.dst undef) w):Dg P md ops Q S stop (c+1) b a w:=by refine⟨λh0=>w_,λj hj=>?_⟩;rw[e] at hj;simp only[List.mem_cons,List.not_mem_nil,or_false] at hj;subst hj;exact wpOp_step d (λK' hK=>h _ (λa w hS hW=>hK a w ⟨.inr hS,hW hS⟩))
def Mf{i o c b a w}(f:Region.ready md ops b=[i])(e:ops[i]? =some o)(d:(b.setIfInBounds i true).getD stop false=true)(h:∀K':Act->World->Prop,Shut (∀a w,Dg P md ops Q S stop c (b.setIfInBounds i true) a w->K' a w)->if Region.wanted o (yielded ops a.tmps)=true then Oper.wp P o a w K' Q else K' (a.put o.dst undef) w):Dg P md ops Q S stop (c+1) b a w:=by refine⟨λh0=>w_,λj hj=>?_⟩;rw[f] at hj;simp only[List.mem_cons,List.not_mem_nil,or_false] at hj;subst hj;exact wpOp_step e (λK' hK=>h _ (λa w hW=>hK a w ⟨.inl d,hW⟩))
def Al{id a w} S stop (hm:P.follows .mixedOrders=true)(hS:S w.drew)(h:S w.drew->Dg P .any ops Q S stop ops.size (Array.replicate ops.size false) a w.drew):(Code.region id ops true).wp P Q a w:=
 wp_region_any hm (mt _ _ _ _ (h hS))
end
section
variable {P:Program} {ops:Array Oper} {Q:Exit->Act->World->Prop} {md:Region.Mode} {S:World->Prop} {stop:Nat}
def Kh{i oi v fuel listed a w} W (hi:ops.toList[i]? =some oi)(hs:Region.noSelect ops=true)(hf:Region.free md ops listed i=true)(hr:(Region.ready md ops listed).contains i=true)(hstop:W.contains stop=true)(hL:iu md ops listed i W=true)(hQ:∀c a w,Q (.panic c) (a.put oi.dst v) w->Q (.panic c) a w)(hy:YieldsIf P ops S oi v a)(hS:S w)(h:Dg P md ops Q S stop fuel (listed.setIfInBounds i true) (a.put oi.dst v) w):Dg P md ops Q S stop (fuel+1) listed a w:=
 Zb9 W w_ hs hf hr hstop hL hQ hy hS h
def Af{i o fuel listed a w}(hr:Region.ready md ops listed=[i])(ho:ops.toList[i]? =some o)(h:∀K':Act->World->Prop,Shut (∀a w,S w->(S w->Dg P md ops Q S stop fuel (listed.setIfInBounds i true) a w)->K' a w)->if Region.wanted o (yielded ops a.tmps)=true then Oper.wp P o a w K' Q else K' (a.put o.dst undef) w):Dg P md ops Q S stop (fuel+1) listed a w:=Gg hr w_ h
def Ai{i o fuel listed a w}(hr:Region.ready md ops listed=[i])(ho:ops.toList[i]? =some o)(hst:(listed.setIfInBounds i true).getD stop false=true)(h:∀K':Act->World->Prop,Shut (∀a w,Dg P md ops Q S stop fuel (listed.setIfInBounds i true) a w->K' a w)->if Region.wanted o (yielded ops a.tmps)=true then Oper.wp P o a w K' Q else K' (a.put o.dst undef) w):Dg P md ops Q S stop (fuel+1) listed a w:=Mf hr w_ hst h
end
section
variable {P:Program} {ops:Array Oper} {Q:Exit->Act->World->Prop} {md:Region.Mode} {S:World->Prop} {stop:Nat}
def Tx{e:Oper}{v:Value}{d:Nat}{b:Array Bool}{a:Act}{w:World}(W:List Nat)(i:Nat)(y:∀w,S w->(execOp a.eval e).run P w=.ok (.value v) w)(h:Dg P md ops Q S stop d (b.setIfInBounds i true) (a.put e.dst v) w)(f:ops.toList[i]? =some e:=by rfl)(hs:Region.noSelect ops=true:=by kernel_rfl)(hf:Region.free md ops b i=true:=by kernel_rfl)(hr:(Region.ready md ops b).contains i=true:=by kernel_rfl)(hstop:W.contains stop=true:=by kernel_rfl)(hL:iu md ops b i W=true:=by kernel_rfl)(hQ:∀c a w,Q (.panic c) (a.put e.dst v) w->Q (.panic c) a w:=by exact λ_ _ _ h=>h)(hg:Region.wanted e (yielded ops a.tmps)=true:=by rfl)(hS:S w:=by assumption):Dg P md ops Q S stop (d+1) b a w:=Kh W f hs hf hr hstop hL hQ (Or.inl ⟨hg,y⟩) hS h
end
def sA{α:Type _}(xs:List α)(i:Nat)(a:α):xs.toArray.setIfInBounds i a=(xs.set i a).toArray:=List.setIfInBounds_toArray xs i a
def sB{α:Type _}{x:α}{xs:List α}{i:Nat}{a:α}:(x::xs).set (i+1) a=x::xs.set i a:=rfl
def sC{α:Type _}{x:α}{xs:List α}{a:α}:(x::xs).set 0 a=a::xs:=rfl
end Go.Proofs.YtfcgnpchbcmdeaaGreat
namespace Go.Proofs.YtfcgnpchbcmdeaaGreat
set_option linter.all false
section
variable {P:Program} {ops:Array Oper} {Q:Exit->Act->World->Prop} {md:Region.Mode} {S:World->Prop} {stop:Nat}
def ZeD(md:Region.Mode)(ops:Array Oper)(listed:Array Bool)(i:Nat):List Nat:=
 (List.range ops.size).foldl (λW j=>if !listed.getD j true&&((ops[j]?).map λo=>o.after.any λe=>Region.binds md e&&(e.on==i||W.contains e.on)).getD false then W++[j] else W) []
def Ah{f:Oper}{v:Value}{e:Nat}{b:Array Bool}{a g:Act}{w:World}(i:Nat)(h:Dg P md ops Q S stop e (b.setIfInBounds i true) g w)(j:ops.toList[i]? =some f:=by rfl)(hs:Region.noSelect ops=true:=by kernel_rfl)(hf:Region.free md ops b i=true:=by kernel_rfl)(hr:(Region.ready md ops b).contains i=true:=by kernel_rfl)(hstop:(ZeD md ops b i).contains stop=true:=by kernel_rfl)(hL:iu md ops b i (ZeD md ops b i)=true:=by kernel_rfl)(hg:Region.wanted f (yielded ops a.tmps)=true:=by rfl)(hS:S w:=by assumption)(y:∀w,S w->(execOp a.eval f).run P w=.ok (.value v) w:=by intro w d;(first|obtain⟨_,_,_,_,_⟩:=d|obtain⟨_,_,_,_⟩:=d|obtain⟨_,_,_⟩:=d|obtain⟨_,_⟩:=d|skip);go_simp;try with_reducible rfl)(ha:a.put f.dst v=g:=by(try simp only[Act.put,List.setIfInBounds_toArray,List.set_cons_succ,List.set_cons_zero]);exact rfl)
  (hQ:∀c a w,Q (.panic c) (a.put f.dst v) w->Q (.panic c) a w:=by exact λ_ _ _ h=>h):Dg P md ops Q S stop (e+1) b a w:=Kh _ j hs hf hr hstop hL hQ (Or.inl ⟨hg,y⟩) hS (ha ▸ h)
end
end Go.Proofs.YtfcgnpchbcmdeaaGreat
namespace Go.Proofs.YtfcgnpchbcmdeaaGreat
set_option linter.all false
open Go
section
variable {P:Program} {ops:Array Oper} {Q:Exit->Act->World->Prop} {md:Region.Mode} {S:World->Prop} {stop:Nat}
def Oj{i j o d c b a w}(l:Region.ready md ops b=[i,j])(m:ops.toList[i]? =some o)(f:ops.toList[j]? =some d)(h:∀K':Act->World->Prop,Shut (∀a w,S w->(S w->Dg P md ops Q S stop c (b.setIfInBounds i true) a w)->K' a w)->if Region.wanted o (yielded ops a.tmps)=true then Oper.wp P o a w K' Q else K' (a.put o.dst undef) w)(g:∀K':Act->World->Prop,Shut (∀a w,S w->(S w->Dg P md ops Q S stop c (b.setIfInBounds j true) a w)->K' a w)->if Region.wanted d (yielded ops a.tmps)=true then Oper.wp P d a w K' Q else K' (a.put d.dst undef) w):Dg P md ops Q S stop (c+1) b a w:=by
 refine⟨λh0=>w_,λk hk=>?_⟩;rw[l] at hk;simp only[List.mem_cons,List.not_mem_nil,or_false] at hk
 rcases hk with e|e
 subst e;exact wpOp_step w_ (λK' hK=>h _ (λa w hS hW=>hK a w ⟨.inr hS,hW hS⟩));subst e;exact wpOp_step w_ (λK' hK=>g _ (λa w hS hW=>hK a w ⟨.inr hS,hW hS⟩))
end
end Go.Proofs.YtfcgnpchbcmdeaaGreat
