/-
  For every list of raw numbers for a configuration, for rows and for cuts, the Go function granarykeep.Fitted, over the program at this commit, returns true, and the arguments read afterwards as they read before: of the dataset that comes of the rows' text, however it is cut, bounds rise, are values that there are and fewer than Bins, a feature of few different numbers has a bin for each, each row has the bin that it must have, and words stand in the dictionary by what they weigh.
  No condition of ours.
-/
import Derived.Test.YtfcgnpchbcmdeaaGreatZfad
import Derived.Test.YtfcgnpchbcmdeaaGreatFic
import Derived.Test.YtfcgnpchbcmdeaaGreatZfbm
import Derived.WalkKit
namespace Go.Proofs.YtfcgnpchbcmdeaaGreat
set_option maxRecDepth 100000
set_option linter.unusedVariables false
open Go.ChangeShapes Go.WideShapes Go.ChangeAt Go.RowKit
theorem ZpM:ownKnob Tryz.prog.godebug=none:=by kernel_rfl
theorem Zfm:laidOutB Tryz.prog=true:=by kernel_rfl
theorem Zf8(os:Os)(started:os.Started)(H:Type)(enc:TypeId×Value->H):ReturnsInHanded {} Tryz.checked os 7 .any (Rows.fittedSpec.pre6 enc Tryz.prog Tryz.f7 Rows.fittedRow.domain false) (Rows.fittedSpec.post enc Tryz.prog Tryz.f7 false true false false):=by
 refine returnsInHanded_of_change (C:=Tryz.checked) ZpM started (by kernel_rfl) Tryz.func7
  (ChangeSpec.witness6 (enc:=enc) (C:=Tryz.checked) false ⟨#[],#[.slice none 0 0,.slice none 0 0,.slice none 0 0],[]⟩ 8 (by kernel_rfl) (by kernel_rfl) (by kernel_rfl) (by kernel_rfl)) ?_
 intro W base args ds gs before hval0 hW hcnd _;have hval:∀(j:Nat) t v,Tryz.f7.params[j]? =some t->args[j]? =some v->Value.okWide Tryz.prog W .any base t v:=hval0;have hW':=hW;obtain⟨p,q,hA0,hV,rfl,hfz,hnd⟩:=hW;have hA:DataW.TrodAll enc Tryz.prog W 0 (fun _=>true) true Tryz.f7.params.toList args.toList ds p:=hA0;rw[Tryz.params7] at hA hval;obtain⟨v0,vs0,d0,ds0,p0,q0,hargs,rfl,rfl,h0,r0⟩:=trodAll_cons hA;obtain⟨v1,vs1,d1,ds1,p1,q1,rfl,rfl,rfl,h1,r1⟩:=trodAll_cons r0;obtain⟨v2,vs2,d2,ds2,p2,q2,rfl,rfl,rfl,h2,r2⟩:=trodAll_cons r1;obtain⟨rfl,rfl,rfl⟩:=trodAll_nil r2;obtain rfl:args=#[v0,v1,v2]:=(by cases args;simp_all);obtain⟨rfl,rfl⟩:=trodVars_none hV;obtain⟨a0,len0,cap0,rfl⟩:=okWide_slice Tryz.underlying25 (hval 0 25 v0 rfl rfl)
 obtain⟨a1,len1,cap1,rfl⟩:=okWide_slice Tryz.underlying25 (hval 1 25 v1 rfl rfl);obtain⟨a2,len2,cap2,rfl⟩:=okWide_slice Tryz.underlying25 (hval 2 25 v2 rfl rfl);have k0:=h0;have k1:=h1;have k2:=h2;have lt0:∀x∈p0,x.block<W.heap.size:=(by obtain⟨m,hm⟩:=k0;exact DataW.trod_lt m _ _ _ hm);have lt1:∀x∈p1,x.block<W.heap.size:=(by obtain⟨m,hm⟩:=k1;exact DataW.trod_lt m _ _ _ hm);have lt2:∀x∈p2,x.block<W.heap.size:=by obtain⟨m,hm⟩:=k2;exact DataW.trod_lt m _ _ _ hm
 obtain⟨z0,hl0,hI0⟩:∃zs,len0<=maxLen/\ZM W a0 len0 zs:=(by obtain⟨fuel,hf⟩:=h0;obtain⟨a,l,c,zs,hcs,hl,hS,_⟩:=ZfB hf;simp[Value.cells] at hcs;obtain⟨rfl,rfl,rfl⟩:=hcs;exact⟨zs,hl,hS⟩);obtain⟨z1,hl1,hI1⟩:∃zs,len1<=maxLen/\ZM W a1 len1 zs:=(by obtain⟨fuel,hf⟩:=h1;obtain⟨a,l,c,zs,hcs,hl,hS,_⟩:=ZfB hf;simp[Value.cells] at hcs;obtain⟨rfl,rfl,rfl⟩:=hcs;exact⟨zs,hl,hS⟩);obtain⟨z2,hl2,hI2⟩:∃zs,len2<=maxLen/\ZM W a2 len2 zs:=by obtain⟨fuel,hf⟩:=h2;obtain⟨a,l,c,zs,hcs,hl,hS,_⟩:=ZfB hf;simp[Value.cells] at hcs;obtain⟨rfl,rfl,rfl⟩:=hcs;exact⟨zs,hl,hS⟩
 clear hA0 hval0;refine(Zfj a0 a1 a2 len0 cap0 len1 cap1 len2 cap2 z0 z1 z2 W hI0 hI1 hI2 hl0 hl1 hl2).mono fun e W' ⟨he,bel⟩=>?_;subst he;exact⟨_,rfl,_,_,_,[],_,[],hW',trodAll_mk1 (shut_bool Tryz.underlying4 _),(trodAll_cons_mk (Below.trod Zfm (by kernel_rfl) (of_decide_eq_true (by kernel_rfl)) k0 bel lt0) (trodAll_cons_mk (Below.trod Zfm (by kernel_rfl) (of_decide_eq_true (by kernel_rfl)) k1 bel lt1) (trodAll_cons_mk (Below.trod Zfm (by kernel_rfl) (of_decide_eq_true (by kernel_rfl)) k2 bel lt2) trodAll_mk0))),rfl,bel.frame _,fun h=>by cases h⟩
theorem Zio:Rows.fittedRow.holds Tryz.pinned (OpenSpec.ofChange Rows.fittedSpec):=
 OpenClaim.holds_of_wide 7 Tryz.f7 rfl rfl rfl rfl rfl rfl rfl ⟨rfl,rfl,rfl,rfl,rfl⟩ rfl rfl rfl rfl rfl (by kernel_rfl) Tryz.func7 ZlB
  (of_decide_eq_true (by kernel_rfl)) (by unfold Func.isWrapper;first|(rw[if_pos (by decide+kernel)];kernel_rfl)|(rw[if_neg (by decide+kernel)];exact⟨rfl,rfl⟩))
  (fun os started H enc _=>Zf8 os started H enc)
theorem fitted_holds:Rows.FittedSaid:=Zio
#print axioms fitted_holds
end Go.Proofs.YtfcgnpchbcmdeaaGreat
