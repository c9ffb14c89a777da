/-
  For every list of raw numbers for a configuration and for rows, every text and every two lists of cuts, the Go function granarykeep.Pieced, over the program at this commit, returns true, and the arguments read afterwards as they read before: however a text is cut into pieces, the same dataset comes of it, or the same is wrong, at the same place, and that place is the first one.
  No condition of ours.
-/
import Derived.Test.YtfcgnpchbcmdeaaGreatZpad
import Derived.Test.YtfcgnpchbcmdeaaGreatPcf
import Derived.Test.YtfcgnpchbcmdeaaGreatZpbm
import Derived.WalkKit
import Derived.SizedLaws
namespace Go.Proofs.YtfcgnpchbcmdeaaGreat
set_option maxRecDepth 100000
set_option linter.unusedVariables false
open Go.ChangeShapes Go.WideShapes Go.ChangeAt Go.RowKit
theorem Zo3:ownKnob Tryz.prog.godebug=none:=by kernel_rfl
theorem ZbS:laidOutB Tryz.prog=true:=by kernel_rfl
theorem Zf4(os:Os)(started:os.Started)(H:Type)(enc:TypeId×Value->H):ReturnsInHanded {} Tryz.checked os 8 .any (Rows.piecedSpec.pre6 enc Tryz.prog Tryz.f8 Rows.piecedRow.domain false) (Rows.piecedSpec.post enc Tryz.prog Tryz.f8 false true false false):=by
 refine returnsInHanded_of_change_sized (C:=Tryz.checked) Zo3 started (by kernel_rfl) Tryz.func8
  (ChangeSpec.witness6 (enc:=enc) (C:=Tryz.checked) false ⟨#[],#[.slice none 0 0,.slice none 0 0,.string ⟨#[]⟩,.slice none 0 0,.slice none 0 0],[]⟩ 8 (by kernel_rfl) (by kernel_rfl) (by kernel_rfl) (by kernel_rfl)) ?_
 intro W base args ds gs before hval0 hW hcnd hsz _;have hval:∀(j:Nat) t v,Tryz.f8.params[j]? =some t->args[j]? =some v->Value.okWide Tryz.prog W .any base t v:=hval0;have hW':=hW;obtain⟨p,q,hA0,hV,rfl,hfz,hnd⟩:=hW;have hA:DataW.TrodAll enc Tryz.prog W 0 (fun _=>true) true Tryz.f8.params.toList args.toList ds p:=hA0;rw[Tryz.params8] at hA hval;obtain⟨v0,vs0,d0,ds0,p0,q0,hargs,rfl,rfl,h0,r0⟩:=trodAll_cons hA;obtain⟨v1,vs1,d1,ds1,p1,q1,rfl,rfl,rfl,h1,r1⟩:=trodAll_cons r0;obtain⟨v2,vs2,d2,ds2,p2,q2,rfl,rfl,rfl,h2,r2⟩:=trodAll_cons r1;obtain⟨v3,vs3,d3,ds3,p3,q3,rfl,rfl,rfl,h3,r3⟩:=trodAll_cons r2;obtain⟨v4,vs4,d4,ds4,p4,q4,rfl,rfl,rfl,h4,r4⟩:=trodAll_cons r3;obtain⟨rfl,rfl,rfl⟩:=trodAll_nil r4;obtain rfl:args=#[v0,v1,v2,v3,v4]:=by cases args;simp_all
 obtain⟨rfl,rfl⟩:=trodVars_none hV;obtain⟨a0,len0,cap0,rfl⟩:=okWide_slice Tryz.underlying25 (hval 0 25 v0 rfl rfl);obtain⟨a1,len1,cap1,rfl⟩:=okWide_slice Tryz.underlying25 (hval 1 25 v1 rfl rfl);obtain⟨text,rfl⟩:=okWide_string Tryz.underlying9 (hval 2 9 v2 rfl rfl);obtain⟨a3,len3,cap3,rfl⟩:=okWide_slice Tryz.underlying25 (hval 3 25 v3 rfl rfl);obtain⟨a4,len4,cap4,rfl⟩:=okWide_slice Tryz.underlying25 (hval 4 25 v4 rfl rfl);have k0:=h0;have k1:=h1;have k2:=h2;have k3:=h3;have k4:=h4;have lt0:∀x∈p0,x.block<W.heap.size:=(by obtain⟨m,hm⟩:=k0;exact DataW.trod_lt m _ _ _ hm);have lt1:∀x∈p1,x.block<W.heap.size:=(by obtain⟨m,hm⟩:=k1;exact DataW.trod_lt m _ _ _ hm);have lt2:∀x∈p2,x.block<W.heap.size:=by obtain⟨m,hm⟩:=k2;exact DataW.trod_lt m _ _ _ hm
 have lt3:∀x∈p3,x.block<W.heap.size:=(by obtain⟨m,hm⟩:=k3;exact DataW.trod_lt m _ _ _ hm);have lt4:∀x∈p4,x.block<W.heap.size:=by obtain⟨m,hm⟩:=k4;exact DataW.trod_lt m _ _ _ hm
 obtain⟨z0,hl0,hI0⟩:∃zs,len0<=maxLen/\ZI W a0 len0 zs:=(by obtain⟨fuel,hf⟩:=h0;obtain⟨a,l,c,zs,hcs,hl,hS,_⟩:=Zdb hf;simp[Value.cells] at hcs;obtain⟨rfl,rfl,rfl⟩:=hcs;exact⟨zs,hl,hS⟩);obtain⟨z1,hl1,hI1⟩:∃zs,len1<=maxLen/\ZI W a1 len1 zs:=(by obtain⟨fuel,hf⟩:=h1;obtain⟨a,l,c,zs,hcs,hl,hS,_⟩:=Zdb hf;simp[Value.cells] at hcs;obtain⟨rfl,rfl,rfl⟩:=hcs;exact⟨zs,hl,hS⟩);obtain⟨z3,hl3,hI3⟩:∃zs,len3<=maxLen/\ZI W a3 len3 zs:=by obtain⟨fuel,hf⟩:=h3;obtain⟨a,l,c,zs,hcs,hl,hS,_⟩:=Zdb hf;simp[Value.cells] at hcs;obtain⟨rfl,rfl,rfl⟩:=hcs;exact⟨zs,hl,hS⟩
 obtain⟨z4,hl4,hI4⟩:∃zs,len4<=maxLen/\ZI W a4 len4 zs:=(by obtain⟨fuel,hf⟩:=h4;obtain⟨a,l,c,zs,hcs,hl,hS,_⟩:=Zdb hf;simp[Value.cells] at hcs;obtain⟨rfl,rfl,rfl⟩:=hcs;exact⟨zs,hl,hS⟩);have hts:text.size<=140737488355328:=by obtain⟨fuel,hf⟩:=h2;obtain⟨st,hcs,hx,_⟩:=DataW.trod_string Tryz.underlying9 hf;simp[Value.cells] at hcs;subst hcs;simp only[Prod.mk.injEq] at hx;have h9:=sized_string (j:=2) (t:=9) (bytes:=text.data.toList) hsz rfl (by rw[<- hx.1];rfl);have h8:=reachBytes_lt;rw[Array.length_toList] at h9;show text.data.size<=_;omega
 clear hA0 hval0;refine(Ze9 a0 a1 a3 a4 len0 cap0 len1 cap1 len3 cap3 len4 cap4 z0 z1 z3 z4 text W hI0 hI1 hI3 hI4 hl0 hl1 hl3 hl4 hts).mono fun e W' ⟨he,bel⟩=>?_;subst he;exact⟨_,rfl,_,_,_,[],_,[],hW',trodAll_mk1 (shut_bool Tryz.underlying4 _),(trodAll_cons_mk (Below.trod ZbS (by kernel_rfl) (of_decide_eq_true (by kernel_rfl)) k0 bel lt0) (trodAll_cons_mk (Below.trod ZbS (by kernel_rfl) (of_decide_eq_true (by kernel_rfl)) k1 bel lt1) (trodAll_cons_mk (Below.trod ZbS (by kernel_rfl) (of_decide_eq_true (by kernel_rfl)) k2 bel lt2) (trodAll_cons_mk (Below.trod ZbS (by kernel_rfl) (of_decide_eq_true (by kernel_rfl)) k3 bel lt3) (trodAll_cons_mk (Below.trod ZbS (by kernel_rfl) (of_decide_eq_true (by kernel_rfl)) k4 bel lt4) trodAll_mk0))))),rfl,bel.frame _,fun h=>by cases h⟩
theorem Ziq:Rows.piecedRow.holds Tryz.pinned (OpenSpec.ofChange Rows.piecedSpec):=
 OpenClaim.holds_of_wide 8 Tryz.f8 rfl rfl rfl rfl rfl rfl rfl ⟨rfl,rfl,rfl,rfl,rfl⟩ rfl rfl rfl rfl rfl (by kernel_rfl) Tryz.func8 ZjD
  (of_decide_eq_true (by kernel_rfl)) (by unfold Func.isWrapper;first|(rw[if_pos (by decide+kernel)];kernel_rfl)|(rw[if_neg (by decide+kernel)];exact⟨rfl,rfl⟩))
  (fun os started H enc _=>Zf4 os started H enc)
theorem pieced_holds:Rows.PiecedSaid:=Ziq
#print axioms pieced_holds
end Go.Proofs.YtfcgnpchbcmdeaaGreat
