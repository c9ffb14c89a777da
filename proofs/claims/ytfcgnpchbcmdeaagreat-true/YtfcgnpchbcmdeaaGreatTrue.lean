/-
  For every list of values, of weights and of raw numbers, and every size, the Go function granarykeep.True, over the program at this commit, returns true, and the arguments read afterwards as they read before: the document's own example comes out (summaries, joins, a dataset's bytes and its lookup), and a summary that is built up of blocks, joined in either order and cut whenever, says what is so of the values and weights that it was built of.
  No condition of ours.
-/
import Derived.Test.YtfcgnpchbcmdeaaGreatZtad
import Derived.Test.YtfcgnpchbcmdeaaGreatTrc
import Derived.Test.YtfcgnpchbcmdeaaGreatZtbh
import Derived.WalkKit
namespace Go.Proofs.YtfcgnpchbcmdeaaGreat
set_option maxRecDepth 100000
set_option linter.unusedVariables false
open Go.ChangeShapes Go.WideShapes Go.ChangeAt Go.RowKit
theorem Zk7:ownKnob Tryz.prog.godebug=none:=by kernel_rfl
theorem ZbX:laidOutB Tryz.prog=true:=by kernel_rfl
theorem Zgn(os:Os)(started:os.Started)(H:Type)(enc:TypeId×Value->H):ReturnsInHanded {} Tryz.checked os 6 .any (Rows.trueSpec.pre6 enc Tryz.prog Tryz.f6 Rows.trueRow.domain false) (Rows.trueSpec.post enc Tryz.prog Tryz.f6 false true false false):=by
 refine returnsInHanded_of_change (C:=Tryz.checked) Zk7 started (by kernel_rfl) Tryz.func6
  (ChangeSpec.witness6 (enc:=enc) (C:=Tryz.checked) false ⟨#[],#[.slice none 0 0,.slice none 0 0,.int .i64 0,.slice none 0 0],[]⟩ 8 (by kernel_rfl) (by kernel_rfl) (by kernel_rfl) (by kernel_rfl)) ?_
 intro W base args ds gs before hval0 hW hcnd _;have hval:∀(j:Nat) t v,Tryz.f6.params[j]? =some t->args[j]? =some v->Value.okWide Tryz.prog W .any base t v:=hval0;have hW':=hW;obtain⟨p,q,hA0,hV,rfl,hfz,hnd⟩:=hW;have hA:DataW.TrodAll enc Tryz.prog W 0 (fun _=>true) true Tryz.f6.params.toList args.toList ds p:=hA0;rw[Tryz.params6] at hA hval;obtain⟨v0,vs0,d0,ds0,p0,q0,hargs,rfl,rfl,h0,r0⟩:=trodAll_cons hA;obtain⟨v1,vs1,d1,ds1,p1,q1,rfl,rfl,rfl,h1,r1⟩:=trodAll_cons r0;obtain⟨v2,vs2,d2,ds2,p2,q2,rfl,rfl,rfl,h2,r2⟩:=trodAll_cons r1;obtain⟨v3,vs3,d3,ds3,p3,q3,rfl,rfl,rfl,h3,r3⟩:=trodAll_cons r2;obtain⟨rfl,rfl,rfl⟩:=trodAll_nil r3;obtain rfl:args=#[v0,v1,v2,v3]:=(by cases args;simp_all);obtain⟨rfl,rfl⟩:=trodVars_none hV
 obtain⟨a0,len0,cap0,rfl⟩:=okWide_slice Tryz.underlying25 (hval 0 25 v0 rfl rfl);obtain⟨a1,len1,cap1,rfl⟩:=okWide_slice Tryz.underlying25 (hval 1 25 v1 rfl rfl);obtain⟨size,rfl⟩:=okWide_int Tryz.underlying3 (hval 2 3 v2 rfl rfl);obtain⟨a3,len3,cap3,rfl⟩:=okWide_slice Tryz.underlying25 (hval 3 25 v3 rfl rfl);have k0:=h0;have k1:=h1;have k2:=h2;have k3:=h3;have lt0:∀x∈p0,x.block<W.heap.size:=(by obtain⟨m,hm⟩:=k0;exact DataW.trod_lt m _ _ _ hm);have lt1:∀x∈p1,x.block<W.heap.size:=(by obtain⟨m,hm⟩:=k1;exact DataW.trod_lt m _ _ _ hm);have lt2:∀x∈p2,x.block<W.heap.size:=(by obtain⟨m,hm⟩:=k2;exact DataW.trod_lt m _ _ _ hm);have lt3:∀x∈p3,x.block<W.heap.size:=by obtain⟨m,hm⟩:=k3;exact DataW.trod_lt m _ _ _ hm
 obtain⟨z0,hl0,hI0⟩:∃zs,len0<=maxLen/\Zx W a0 len0 zs:=(by obtain⟨fuel,hf⟩:=h0;obtain⟨a,l,c,zs,hcs,hl,hS,_⟩:=ZdK hf;simp[Value.cells] at hcs;obtain⟨rfl,rfl,rfl⟩:=hcs;exact⟨zs,hl,hS⟩);obtain⟨z1,hl1,hI1⟩:∃zs,len1<=maxLen/\Zx W a1 len1 zs:=(by obtain⟨fuel,hf⟩:=h1;obtain⟨a,l,c,zs,hcs,hl,hS,_⟩:=ZdK hf;simp[Value.cells] at hcs;obtain⟨rfl,rfl,rfl⟩:=hcs;exact⟨zs,hl,hS⟩);obtain⟨z3,hl3,hI3⟩:∃zs,len3<=maxLen/\Zx W a3 len3 zs:=(by obtain⟨fuel,hf⟩:=h3;obtain⟨a,l,c,zs,hcs,hl,hS,_⟩:=ZdK hf;simp[Value.cells] at hcs;obtain⟨rfl,rfl,rfl⟩:=hcs;exact⟨zs,hl,hS⟩);have hwf:(Lit.int .i64 size).wf=true:=by obtain⟨fuel,hf⟩:=h2;obtain⟨n,hcs,_,hw⟩:=DataW.trod_int Tryz.underlying3 hf;simp[Value.cells] at hcs;rw[hcs];exact hw
 clear hA0 hval0;refine(Ze6 Zbc Zjh a0 a1 a3 len0 cap0 len1 cap1 len3 cap3 z0 z1 z3 size W hI0 hI1 hI3 hwf hl0 hl1 hl3).mono fun e W' ⟨he,bel⟩=>?_;subst he;exact⟨_,rfl,_,_,_,[],_,[],hW',trodAll_mk1 (shut_bool Tryz.underlying4 _),(trodAll_cons_mk (Below.trod ZbX (by kernel_rfl) (of_decide_eq_true (by kernel_rfl)) k0 bel lt0) (trodAll_cons_mk (Below.trod ZbX (by kernel_rfl) (of_decide_eq_true (by kernel_rfl)) k1 bel lt1) (trodAll_cons_mk (Below.trod ZbX (by kernel_rfl) (of_decide_eq_true (by kernel_rfl)) k2 bel lt2) (trodAll_cons_mk (Below.trod ZbX (by kernel_rfl) (of_decide_eq_true (by kernel_rfl)) k3 bel lt3) trodAll_mk0)))),rfl,bel.frame _,fun h=>by cases h⟩
theorem ZiK:Rows.trueRow.holds Tryz.pinned (OpenSpec.ofChange Rows.trueSpec):=
 OpenClaim.holds_of_wide 6 Tryz.f6 rfl rfl rfl rfl rfl rfl rfl ⟨rfl,rfl,rfl,rfl,rfl⟩ rfl rfl rfl rfl rfl (by kernel_rfl) Tryz.func6 ZiJ
  (of_decide_eq_true (by kernel_rfl)) (by unfold Func.isWrapper;first|(rw[if_pos (by decide+kernel)];kernel_rfl)|(rw[if_neg (by decide+kernel)];exact⟨rfl,rfl⟩))
  (fun os started H enc _=>Zgn os started H enc)
theorem true_holds:Rows.TrueSaid:=ZiK
#print axioms true_holds
end Go.Proofs.YtfcgnpchbcmdeaaGreat
