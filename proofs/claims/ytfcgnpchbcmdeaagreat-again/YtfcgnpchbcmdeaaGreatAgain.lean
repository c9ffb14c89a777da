/-
  For every list of raw numbers for a configuration and for rows, the Go function granarykeep.Again, over the program at this commit, returns true, and the arguments read afterwards as they read before: the dataset that comes of the rows' text is written as bytes that Open takes, and what is opened says the same as the dataset: the same rows, bytes, bundles, bounds and bins.
  No condition of ours.
-/
import Derived.Test.YtfcgnpchbcmdeaaGreatZaad
import Derived.Test.YtfcgnpchbcmdeaaGreatAcf
import Derived.Test.YtfcgnpchbcmdeaaGreatZabo
import Derived.WalkKit
namespace Go.Proofs.YtfcgnpchbcmdeaaGreat
set_option maxRecDepth 100000
set_option linter.unusedVariables false
open Go.ChangeShapes Go.WideShapes Go.ChangeAt Go.RowKit
theorem ZsE:ownKnob Tryz.prog.godebug=none:=by kernel_rfl
theorem Zkf:laidOutB Tryz.prog=true:=by kernel_rfl
theorem ZiN(os:Os)(started:os.Started)(H:Type)(enc:TypeId×Value->H):ReturnsInHanded {} Tryz.checked os 11 .any (Rows.againSpec.pre6 enc Tryz.prog Tryz.f11 Rows.againRow.domain false) (Rows.againSpec.post enc Tryz.prog Tryz.f11 false true false false):=by
 refine returnsInHanded_of_change (C:=Tryz.checked) ZsE started (by kernel_rfl) Tryz.func11
  (ChangeSpec.witness6 (enc:=enc) (C:=Tryz.checked) false ⟨#[],#[.slice none 0 0,.slice none 0 0],[]⟩ 8 (by kernel_rfl) (by kernel_rfl) (by kernel_rfl) (by kernel_rfl)) ?_
 intro W base args ds gs before hval0 hW hcnd _;have hval:∀(j:Nat) t v,Tryz.f11.params[j]? =some t->args[j]? =some v->Value.okWide Tryz.prog W .any base t v:=hval0;have hW':=hW;obtain⟨p,q,hA0,hV,rfl,hfz,hnd⟩:=hW;have hA:DataW.TrodAll enc Tryz.prog W 0 (fun _=>true) true Tryz.f11.params.toList args.toList ds p:=hA0;rw[Tryz.params11] at hA hval;obtain⟨v0,vs0,d0,ds0,p0,q0,hargs,rfl,rfl,h0,r0⟩:=trodAll_cons hA;obtain⟨v1,vs1,d1,ds1,p1,q1,rfl,rfl,rfl,h1,r1⟩:=trodAll_cons r0;obtain⟨rfl,rfl,rfl⟩:=trodAll_nil r1;obtain rfl:args=#[v0,v1]:=(by cases args;simp_all);obtain⟨rfl,rfl⟩:=trodVars_none hV;obtain⟨a0,len0,cap0,rfl⟩:=okWide_slice Tryz.underlying25 (hval 0 25 v0 rfl rfl);obtain⟨a1,len1,cap1,rfl⟩:=okWide_slice Tryz.underlying25 (hval 1 25 v1 rfl rfl);have k0:=h0;have k1:=h1
 have lt0:∀x∈p0,x.block<W.heap.size:=(by obtain⟨m,hm⟩:=k0;exact DataW.trod_lt m _ _ _ hm);have lt1:∀x∈p1,x.block<W.heap.size:=by obtain⟨m,hm⟩:=k1;exact DataW.trod_lt m _ _ _ hm
 obtain⟨z0,hl0,hI0⟩:∃zs,len0<=maxLen/\ZX W a0 len0 zs:=(by obtain⟨fuel,hf⟩:=h0;obtain⟨a,l,c,zs,hcs,hl,hS,_⟩:=ZkA hf;simp[Value.cells] at hcs;obtain⟨rfl,rfl,rfl⟩:=hcs;exact⟨zs,hl,hS⟩);obtain⟨z1,hl1,hI1⟩:∃zs,len1<=maxLen/\ZX W a1 len1 zs:=by obtain⟨fuel,hf⟩:=h1;obtain⟨a,l,c,zs,hcs,hl,hS,_⟩:=ZkA hf;simp[Value.cells] at hcs;obtain⟨rfl,rfl,rfl⟩:=hcs;exact⟨zs,hl,hS⟩
 clear hA0 hval0;refine(ZhE a0 a1 len0 cap0 len1 cap1 z0 z1 W hI0 hI1 hl0 hl1).mono fun e W' ⟨he,bel⟩=>?_;subst he;exact⟨_,rfl,_,_,_,[],_,[],hW',trodAll_mk1 (shut_bool Tryz.underlying4 _),(trodAll_cons_mk (Below.trod Zkf (by kernel_rfl) (of_decide_eq_true (by kernel_rfl)) k0 bel lt0) (trodAll_cons_mk (Below.trod Zkf (by kernel_rfl) (of_decide_eq_true (by kernel_rfl)) k1 bel lt1) trodAll_mk0)),rfl,bel.frame _,fun h=>by cases h⟩
theorem Zle:Rows.againRow.holds Tryz.pinned (OpenSpec.ofChange Rows.againSpec):=
 OpenClaim.holds_of_wide 11 Tryz.f11 rfl rfl rfl rfl rfl rfl rfl ⟨rfl,rfl,rfl,rfl,rfl⟩ rfl rfl rfl rfl rfl (by kernel_rfl) Tryz.func11 Zlb
  (of_decide_eq_true (by kernel_rfl)) (by unfold Func.isWrapper;first|(rw[if_pos (by decide+kernel)];kernel_rfl)|(rw[if_neg (by decide+kernel)];exact⟨rfl,rfl⟩))
  (fun os started H enc _=>ZiN os started H enc)
theorem again_holds:Rows.AgainSaid:=Zle
#print axioms again_holds
end Go.Proofs.YtfcgnpchbcmdeaaGreat
