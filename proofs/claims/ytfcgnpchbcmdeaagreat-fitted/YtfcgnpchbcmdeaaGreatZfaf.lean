import Derived.Deep.RegionHeld3
import Derived.Test.YtfcgnpchbcmdeaaGreatZf00
namespace Go.Proofs.YtfcgnpchbcmdeaaGreat
set_option linter.unusedSimpArgs false
open Go
section
variable {P:Program} {ops:Array Oper} {Q:Exit->Act->World->Prop} {md:Region.Mode} {S:World->Prop} {stop:Nat}
def Yo(P:Program)(md:Region.Mode)(ops:Array Oper)(Q:Exit->Act->World->Prop)(S:World->Prop)(stop:Nat):Nat->Array Bool->Act->World->Prop
 |0,listed,a,w=>Region.ready md ops listed=[]/\Q .normal a w
 | fuel+1,listed,a,w=>
  (Region.ready md ops listed=[]->Q .normal a w)/\
  ∀i∈Region.ready md ops listed,wpOp P ops Q i (fun a' w'=>((listed.setIfInBounds i true).getD stop false=true∨S w')/\Yo P md ops Q S stop fuel (listed.setIfInBounds i true) a' w') a w
theorem ZfZ:∀(fuel:Nat)(listed:Array Bool)(a:Act)(w:World),Yo P md ops Q S stop fuel listed a w->wpAny P md ops Q fuel listed a w
 |0,_,_,_,h=>h
 |fuel+1,_,_,_,h=>⟨h.1,fun i hi=>wpOp_mono (fun a' w' h'=>ZfZ fuel _ a' w' h'.2) (h.2 i hi)⟩
def ZgJ(md:Region.Mode)(ops:Array Oper)(listed:Array Bool)(i:Nat)(W:List Nat):Bool:=
 W.all fun j=>!listed.getD j true&&((ops[j]?).map fun o=>o.after.any fun e=>Region.binds md e&&(e.on==i||W.contains e.on)).getD false
structure Zjn(md:Region.Mode)(ops:Array Oper)(listed:Array Bool)(i:Nat)(W:List Nat):Prop where
 un:∀j∈W,listed.getD j true=false
 wait:∀j∈W,∃o,ops[j]? =some o/\∃e∈o.after,Region.binds md e=true/\(e.on=i∨e.on∈W)
theorem ZlN{listed:Array Bool}{i:Nat}{W:List Nat}(h:ZgJ md ops listed i W=true):Zjn md ops listed i W:=by
 unfold ZgJ at h;rw[List.all_eq_true] at h;refine⟨fun j hj=>?_,fun j hj=>?_⟩
 ·have:=h j hj;rw[Bool.and_eq_true] at this
  simpa using this.1
 have:=h j hj;rw[Bool.and_eq_true] at this;have h2:=this.2
 cases ho:ops[j]? with
 |none=>rw[ho] at h2;simp at h2
 | some o=>
  rw[ho] at h2;simp only[Option.map_some,Option.getD_some] at h2;rw[Array.any_eq_true] at h2;obtain⟨k,hk,h3⟩:=h2;rw[Bool.and_eq_true,Bool.or_eq_true] at h3;refine⟨o,rfl,o.after[k],Array.getElem_mem hk,h3.1,?_⟩
  rcases h3.2 with h4|h4
  exact .inl (by simpa using h4);exact .inr (by simpa using h4)
theorem Zdl{l:Array Bool}{j:Nat}(h:l.getD j true=false):l.getD j false=false:=by
 rcases Nat.lt_or_ge j l.size with h'|h'
 simp[h'] at h ⊢;exact h;simp[Array.getElem?_eq_none h'] at h
theorem Zjn.not_ready{listed:Array Bool}{i:Nat}{W:List Nat}(h:Zjn md ops listed i W)(hi:listed.getD i true=false){j:Nat}(hj:j∈W):j ∉ Region.ready md ops listed:=fun hr=>by
 obtain⟨_,o,ho,hall⟩:=mem_ready.1 hr;obtain⟨o',ho',e,he,hb,hon⟩:=h.wait j hj;rw[ho] at ho';injection ho' with ho';subst ho';have:=hall e he hb
 rcases hon with e1|e1
 rw[e1,Zdl hi] at this;cases this;rw[Zdl (h.un _ e1)] at this;cases this
theorem Zjn.set{listed:Array Bool}{i j:Nat}{W:List Nat}(h:Zjn md ops listed i W)(hj:j ∉ W):Zjn md ops (listed.setIfInBounds j true) i W:=
 ⟨fun k hk=>by
  have hne:j≠k:=fun e=>hj (by rw[e];exact hk)
  rw[getD_set_ne true hne];exact h.un k hk,h.wait⟩
theorem ZhT{i:Nat}{oi:Oper}{v:Value}{W:List Nat}(hstop:stop∈W)(hi:ops[i]? =some oi)(hsel:∀(j:Nat) (o:Oper) cs b,ops[j]? =some o->o.op≠ .select cs b)(hQ:∀c a w,Q (.panic c) (a.put oi.dst v) w->Q (.panic c) a w):∀(fuel:Nat) (listed:Array Bool) (a:Act) (w:World),(∀j oj,ops[j]? =some oj->j≠i->listed.getD j true=false->(∀e∈oj.after,Region.binds md e=true->e.on≠i)->oi.apart ops oj=true)->i∈Region.ready md ops listed->Zjn md ops listed i W->YieldsIf P ops S oi v a->S w->Yo P md ops Q S stop fuel (listed.setIfInBounds i true) (a.put oi.dst v) w->Yo P md ops Q S stop (fuel+1) listed a w:=by
 intro fuel
 induction fuel with
 | zero=>
  intro listed a w _ hr _ hy hS H;refine⟨fun h=>(by rw[h] at hr;cases hr),fun j hj=>?_⟩
  by_cases hji:j=i
  subst hji;exact hy.wpOp hi hS ⟨.inr hS,H⟩;have:=ready_mono hj hji;rw[H.1] at this
  cases this
 | succ fuel ih=>
  intro listed a w hfree hr hL hy hS H;have hun:=(mem_ready.1 hr).1;refine⟨fun h=>(by rw[h] at hr;cases hr),fun j hj=>?_⟩
  by_cases hji:j=i
  subst hji;exact hy.wpOp hi hS ⟨.inr hS,H⟩;have h1:=H.2 j (ready_mono hj hji);obtain⟨hjun,oj,hoj,hall⟩:=mem_ready.1 hj;have hjW:j ∉ W:=fun e=>hL.not_ready hun e hj;have hiW:i ∉ W:=fun e=>hL.not_ready hun e hr;have hsi:i≠stop:=fun e=>hiW (e ▸ hstop);have hsj:j≠stop:=fun e=>hjW (e ▸ hstop)
  have hnot:∀e∈oj.after,Region.binds md e=true->e.on≠i:=fun e he hb heq=>by
   have h1:=hall e he hb;rw[heq,Zdl hun] at h1
   cases h1
  have h2:=wpOp_putIf hoj (hfree j oj hoj hji hjun hnot) (fun cs b=>hsel i oi cs b hi) (fun cs b=>hsel j oj cs b hoj) hQ hy h1
  have hfree':∀k ok,ops[k]? =some ok->k≠i->(listed.setIfInBounds j true).getD k true=false->
    (∀e∈ok.after,Region.binds md e=true->e.on≠i)->oi.apart ops ok=true:=fun k ok hk hki hun hno=>by
   refine hfree k ok hk hki ?_ hno
   by_cases hjk:j=k
   subst hjk;exact hjun;rw[getD_set_ne true hjk] at hun;exact hun
  refine wpOp_mono (fun a' w' h3=>?_) h2
  have hSw:S w':=by
   rcases h3.2.1 with h4|h4
   ·rw[getD_set_ne false hsj,getD_set_ne false hsi,Zdl (hL.un stop hstop)] at h4
    cases h4
   exact h4
  refine⟨.inr hSw,ih (listed.setIfInBounds j true) a' w' hfree' (ready_mono hr (Ne.symm hji)) (hL.set hjW) h3.1 hSw ?_⟩;rw[Array.setIfInBounds_comm _ _ hji];exact h3.2.2
theorem Zjg{i:Nat}{oi:Oper}{v:Value}{fuel:Nat}{listed:Array Bool}{a:Act}{w:World}(W:List Nat)(hi:ops[i]? =some oi)(hs:Region.noSelect ops=true)(hf:Region.free md ops listed i=true)(hr:(Region.ready md ops listed).contains i=true)(hstop:W.contains stop=true)(hL:ZgJ md ops listed i W=true)(hQ:∀c a w,Q (.panic c) (a.put oi.dst v) w->Q (.panic c) a w)(hy:YieldsIf P ops S oi v a)(hS:S w)(h:Yo P md ops Q S stop fuel (listed.setIfInBounds i true) (a.put oi.dst v) w):Yo P md ops Q S stop (fuel+1) listed a w:=
 ZhT (by simpa using hstop) hi (Region.noSelect_spec hs) hQ fuel listed a w (Region.free_spec hi hf) (by simpa using hr) (ZlN hL) hy hS h
theorem Zz{listed:Array Bool}{a:Act}{w:World}(hr:Region.ready md ops listed=[])(h:Q .normal a w):∀fuel,Yo P md ops Q S stop fuel listed a w
 |0=>⟨hr,h⟩
 |_+1=>⟨fun _=>h,by rw[hr];simp⟩
theorem Qj{i:Nat}{o:Oper}{fuel:Nat}{listed:Array Bool}{a:Act}{w:World}(hr:Region.ready md ops listed=[i])(ho:ops[i]? =some o)(h:∀K':Act->World->Prop,Shut (∀a w,S w->(S w->Yo P md ops Q S stop fuel (listed.setIfInBounds i true) a w)->K' a w)->if Region.wanted o (yielded ops a.tmps)=true then Oper.wp P o a w K' Q else K' (a.put o.dst undef) w):Yo P md ops Q S stop (fuel+1) listed a w:=by refine⟨fun h0=>(by rw[hr] at h0;cases h0),fun j hj=>?_⟩;rw[hr] at hj;simp only[List.mem_cons,List.not_mem_nil,or_false] at hj;subst hj;exact wpOp_step ho (fun K' hK=>h K' (fun a w hS hW=>hK a w ⟨.inr hS,hW hS⟩))
theorem Za5{i:Nat}{o:Oper}{fuel:Nat}{listed:Array Bool}{a:Act}{w:World}(hr:Region.ready md ops listed=[i])(ho:ops[i]? =some o)(hst:(listed.setIfInBounds i true).getD stop false=true)(h:∀K':Act->World->Prop,Shut (∀a w,Yo P md ops Q S stop fuel (listed.setIfInBounds i true) a w->K' a w)->if Region.wanted o (yielded ops a.tmps)=true then Oper.wp P o a w K' Q else K' (a.put o.dst undef) w):Yo P md ops Q S stop (fuel+1) listed a w:=by refine⟨fun h0=>(by rw[hr] at h0;cases h0),fun j hj=>?_⟩;rw[hr] at hj;simp only[List.mem_cons,List.not_mem_nil,or_false] at hj;subst hj;exact wpOp_step ho (fun K' hK=>h K' (fun a w hW=>hK a w ⟨.inl hst,hW⟩))
theorem ZJ{id:Nat}{a:Act}{w:World}(S:World->Prop)(stop:Nat)(hm:P.follows .mixedOrders=true)(hS:S w.drew)(h:S w.drew->Yo P .any ops Q S stop ops.size (Array.replicate ops.size false) a w.drew):(Code.region id ops true).wp P Q a w:=
 wp_region_any hm (ZfZ _ _ _ _ (h hS))
end
section
variable {P:Program} {ops:Array Oper} {Q:Exit->Act->World->Prop} {md:Region.Mode} {S:World->Prop} {stop:Nat}
theorem ZbK{i:Nat}{oi:Oper}{v:Value}{fuel:Nat}{listed:Array Bool}{a:Act}{w:World}(W:List Nat)(hi:ops.toList[i]? =some oi)(hs:Region.noSelect ops=true)(hf:Region.free md ops listed i=true)(hr:(Region.ready md ops listed).contains i=true)(hstop:W.contains stop=true)(hL:ZgJ md ops listed i W=true)(hQ:∀c a w,Q (.panic c) (a.put oi.dst v) w->Q (.panic c) a w)(hy:YieldsIf P ops S oi v a)(hS:S w)(h:Yo P md ops Q S stop fuel (listed.setIfInBounds i true) (a.put oi.dst v) w):Yo P md ops Q S stop (fuel+1) listed a w:=
 Zjg W (by rw[<- Array.getElem?_toList];exact hi) hs hf hr hstop hL hQ hy hS h
theorem Zk{i:Nat}{o:Oper}{fuel:Nat}{listed:Array Bool}{a:Act}{w:World}(hr:Region.ready md ops listed=[i])(ho:ops.toList[i]? =some o)(h:∀K':Act->World->Prop,Shut (∀a w,S w->(S w->Yo P md ops Q S stop fuel (listed.setIfInBounds i true) a w)->K' a w)->if Region.wanted o (yielded ops a.tmps)=true then Oper.wp P o a w K' Q else K' (a.put o.dst undef) w):Yo P md ops Q S stop (fuel+1) listed a w:=Qj hr (by rw[<- Array.getElem?_toList];exact ho) h
theorem Zx{i:Nat}{o:Oper}{fuel:Nat}{listed:Array Bool}{a:Act}{w:World}(hr:Region.ready md ops listed=[i])(ho:ops.toList[i]? =some o)(hst:(listed.setIfInBounds i true).getD stop false=true)(h:∀K':Act->World->Prop,Shut (∀a w,Yo P md ops Q S stop fuel (listed.setIfInBounds i true) a w->K' a w)->if Region.wanted o (yielded ops a.tmps)=true then Oper.wp P o a w K' Q else K' (a.put o.dst undef) w):Yo P md ops Q S stop (fuel+1) listed a w:=Za5 hr (by rw[<- Array.getElem?_toList];exact ho) hst h
end
section
variable {P:Program} {ops:Array Oper} {Q:Exit->Act->World->Prop} {md:Region.Mode} {S:World->Prop} {stop:Nat}
theorem tkM{oi:Oper}{v:Value}{fuel:Nat}{listed:Array Bool}{a:Act}{w:World}(W:List Nat)(i:Nat)(y:∀w,S w->(execOp a.eval oi).run P w=.ok (.value v) w)(h:Yo P md ops Q S stop fuel (listed.setIfInBounds i true) (a.put oi.dst v) w)(hi:ops.toList[i]? =some oi:=by rfl)(hs:Region.noSelect ops=true:=by kernel_rfl)(hf:Region.free md ops listed i=true:=by kernel_rfl)(hr:(Region.ready md ops listed).contains i=true:=by kernel_rfl)(hstop:W.contains stop=true:=by kernel_rfl)(hL:ZgJ md ops listed i W=true:=by kernel_rfl)(hQ:∀c a w,Q (.panic c) (a.put oi.dst v) w->Q (.panic c) a w:=by exact fun _ _ _ h=>h)(hg:Region.wanted oi (yielded ops a.tmps)=true:=by rfl)(hS:S w:=by assumption):Yo P md ops Q S stop (fuel+1) listed a w:=ZbK W hi hs hf hr hstop hL hQ (Or.inl ⟨hg,y⟩) hS h
end
theorem sA{α:Type _}(xs:List α)(i:Nat)(a:α):xs.toArray.setIfInBounds i a=(xs.set i a).toArray:=List.setIfInBounds_toArray xs i a
theorem sB{α:Type _}{x:α}{xs:List α}{i:Nat}{a:α}:(x::xs).set (i+1) a=x::xs.set i a:=rfl
theorem sC{α:Type _}{x:α}{xs:List α}{a:α}:(x::xs).set 0 a=a::xs:=rfl
end Go.Proofs.YtfcgnpchbcmdeaaGreat
namespace Go.Proofs.YtfcgnpchbcmdeaaGreat
set_option linter.unusedSimpArgs false
section
variable {P:Program} {ops:Array Oper} {Q:Exit->Act->World->Prop} {md:Region.Mode} {S:World->Prop} {stop:Nat}
def ZoA(md:Region.Mode)(ops:Array Oper)(listed:Array Bool)(i:Nat):List Nat:=
 (List.range ops.size).foldl (fun W j=>if !listed.getD j true&&((ops[j]?).map fun o=>o.after.any fun e=>Region.binds md e&&(e.on==i||W.contains e.on)).getD false then W++[j] else W) []
theorem ZL{oi:Oper}{v:Value}{fuel:Nat}{listed:Array Bool}{a:Act}{w:World}(i:Nat)(h:Yo P md ops Q S stop fuel (listed.setIfInBounds i true) (a.put oi.dst v) w)(hi:ops.toList[i]? =some oi:=by rfl)(hs:Region.noSelect ops=true:=by kernel_rfl)(hf:Region.free md ops listed i=true:=by kernel_rfl)(hr:(Region.ready md ops listed).contains i=true:=by kernel_rfl)(hstop:(ZoA md ops listed i).contains stop=true:=by kernel_rfl)(hL:ZgJ md ops listed i (ZoA md ops listed i)=true:=by kernel_rfl)(hg:Region.wanted oi (yielded ops a.tmps)=true:=by rfl)(hS:S w:=by assumption)(y:∀w,S w->(execOp a.eval oi).run P w=.ok (.value v) w:=by intro w hSw;(first|obtain⟨_,_,_,_,_⟩:=hSw|obtain⟨_,_,_,_⟩:=hSw|obtain⟨_,_,_⟩:=hSw|obtain⟨_,_⟩:=hSw|skip);go_simp;try with_reducible rfl)(hQ:∀c a w,Q (.panic c) (a.put oi.dst v) w->Q (.panic c) a w:=by exact fun _ _ _ h=>h):Yo P md ops Q S stop (fuel+1) listed a w:=ZbK _ hi hs hf hr hstop hL hQ (Or.inl ⟨hg,y⟩) hS h
end
end Go.Proofs.YtfcgnpchbcmdeaaGreat
namespace Go.Proofs.YtfcgnpchbcmdeaaGreat
set_option linter.unusedSimpArgs false
open Go
section
variable {P:Program} {ops:Array Oper} {Q:Exit->Act->World->Prop} {md:Region.Mode} {S:World->Prop} {stop:Nat}
theorem ZaN{i j:Nat}{o o':Oper}{fuel:Nat}{listed:Array Bool}{a:Act}{w:World}(hr:Region.ready md ops listed=[i,j])(ho:ops.toList[i]? =some o)(ho':ops.toList[j]? =some o')(h:∀K':Act->World->Prop,Shut (∀a w,S w->(S w->Yo P md ops Q S stop fuel (listed.setIfInBounds i true) a w)->K' a w)->if Region.wanted o (yielded ops a.tmps)=true then Oper.wp P o a w K' Q else K' (a.put o.dst undef) w)(h':∀K':Act->World->Prop,Shut (∀a w,S w->(S w->Yo P md ops Q S stop fuel (listed.setIfInBounds j true) a w)->K' a w)->if Region.wanted o' (yielded ops a.tmps)=true then Oper.wp P o' a w K' Q else K' (a.put o'.dst undef) w):Yo P md ops Q S stop (fuel+1) listed a w:=by
 refine⟨fun h0=>(by rw[hr] at h0;cases h0),fun k hk=>?_⟩;rw[hr] at hk;simp only[List.mem_cons,List.not_mem_nil,or_false] at hk
 rcases hk with e|e
 subst e;exact wpOp_step (by rw[<- Array.getElem?_toList];exact ho) (fun K' hK=>h K' (fun a w hS hW=>hK a w ⟨.inr hS,hW hS⟩));subst e;exact wpOp_step (by rw[<- Array.getElem?_toList];exact ho') (fun K' hK=>h' K' (fun a w hS hW=>hK a w ⟨.inr hS,hW hS⟩))
end
end Go.Proofs.YtfcgnpchbcmdeaaGreat
