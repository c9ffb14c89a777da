/-
  For every list of raw numbers for a configuration and for two datasets' rows, every room and every list of acts upon a disk, the Go function granarykeep.Lasting, over the program at this commit, returns true, and the arguments read afterwards as they read before: whatever fails, what is loaded is what was saved by a Save that began ahead of it: the last one that answered OK, or a later one; nothing, if none has.
  No condition of ours.
-/
import Derived.Test.YtfcgnpchbcmdeaaGreatZlad
import Derived.Test.YtfcgnpchbcmdeaaGreatLcf
import Derived.Test.YtfcgnpchbcmdeaaGreatZlbr
import Derived.Test.YtfcgnpchbcmdeaaGreatZlbs
import Derived.WalkKit
import Derived.SizedLaws
namespace Go.Proofs.YtfcgnpchbcmdeaaGreat
set_option maxRecDepth 100000
set_option linter.unusedVariables false
open Go.ChangeShapes Go.WideShapes Go.ChangeAt Go.RowKit
theorem Zta:ownKnob Tryz.prog.godebug=none:=by kernel_rfl
theorem ZcU:laidOutB Tryz.prog=true:=by kernel_rfl
theorem ZgW(os:Os)(started:os.Started)(H:Type)(enc:TypeId×Value->H):ReturnsInHanded {} Tryz.checked os 13 .any (Rows.lastingSpec.pre6 enc Tryz.prog Tryz.f13 Rows.lastingRow.domain false) (Rows.lastingSpec.post enc Tryz.prog Tryz.f13 false true false false):=by
 refine returnsInHanded_of_change_sized (C:=Tryz.checked) Zta started (by kernel_rfl) Tryz.func13
  (ChangeSpec.witness6 (enc:=enc) (C:=Tryz.checked) false ⟨#[],#[.slice none 0 0,.slice none 0 0,.slice none 0 0,.int .i64 0,.slice none 0 0],[]⟩ 8 (by kernel_rfl) (by kernel_rfl) (by kernel_rfl) (by kernel_rfl)) ?_
 intro W base args ds gs before hval0 hW hcnd hsz _;have hval:∀(j:Nat) t v,Tryz.f13.params[j]? =some t->args[j]? =some v->Value.okWide Tryz.prog W .any base t v:=hval0;have hW':=hW;obtain⟨p,q,hA0,hV,rfl,hfz,hnd⟩:=hW;have hA:DataW.TrodAll enc Tryz.prog W 0 (fun _=>true) true Tryz.f13.params.toList args.toList ds p:=hA0;rw[Tryz.params13] at hA hval;obtain⟨v0,vs0,d0,ds0,p0,q0,hargs,rfl,rfl,h0,r0⟩:=trodAll_cons hA;obtain⟨v1,vs1,d1,ds1,p1,q1,rfl,rfl,rfl,h1,r1⟩:=trodAll_cons r0;obtain⟨v2,vs2,d2,ds2,p2,q2,rfl,rfl,rfl,h2,r2⟩:=trodAll_cons r1;obtain⟨v3,vs3,d3,ds3,p3,q3,rfl,rfl,rfl,h3,r3⟩:=trodAll_cons r2;obtain⟨v4,vs4,d4,ds4,p4,q4,rfl,rfl,rfl,h4,r4⟩:=trodAll_cons r3;obtain⟨rfl,rfl,rfl⟩:=trodAll_nil r4;obtain rfl:args=#[v0,v1,v2,v3,v4]:=by cases args;simp_all
 obtain⟨rfl,rfl⟩:=trodVars_none hV;obtain⟨a0,len0,cap0,rfl⟩:=okWide_slice Tryz.underlying25 (hval 0 25 v0 rfl rfl);obtain⟨a1,len1,cap1,rfl⟩:=okWide_slice Tryz.underlying25 (hval 1 25 v1 rfl rfl);obtain⟨a2,len2,cap2,rfl⟩:=okWide_slice Tryz.underlying25 (hval 2 25 v2 rfl rfl);obtain⟨room,rfl⟩:=okWide_int Tryz.underlying3 (hval 3 3 v3 rfl rfl);obtain⟨a4,len4,cap4,rfl⟩:=okWide_slice Tryz.underlying68 (hval 4 68 v4 rfl rfl);have k0:=h0;have k1:=h1;have k2:=h2;have k3:=h3;have k4:=h4;have lt0:∀x∈p0,x.block<W.heap.size:=(by obtain⟨m,hm⟩:=k0;exact DataW.trod_lt m _ _ _ hm);have lt1:∀x∈p1,x.block<W.heap.size:=(by obtain⟨m,hm⟩:=k1;exact DataW.trod_lt m _ _ _ hm);have lt2:∀x∈p2,x.block<W.heap.size:=by obtain⟨m,hm⟩:=k2;exact DataW.trod_lt m _ _ _ hm
 have lt3:∀x∈p3,x.block<W.heap.size:=(by obtain⟨m,hm⟩:=k3;exact DataW.trod_lt m _ _ _ hm);have lt4:∀x∈p4,x.block<W.heap.size:=by obtain⟨m,hm⟩:=k4;exact DataW.trod_lt m _ _ _ hm
 obtain⟨z0,hl0,hI0⟩:∃zs,len0<=maxLen/\ZT W a0 len0 zs:=(by obtain⟨fuel,hf⟩:=h0;obtain⟨a,l,c,zs,hcs,hl,hS,_⟩:=Zha hf;simp[Value.cells] at hcs;obtain⟨rfl,rfl,rfl⟩:=hcs;exact⟨zs,hl,hS⟩);obtain⟨z1,hl1,hI1⟩:∃zs,len1<=maxLen/\ZT W a1 len1 zs:=(by obtain⟨fuel,hf⟩:=h1;obtain⟨a,l,c,zs,hcs,hl,hS,_⟩:=Zha hf;simp[Value.cells] at hcs;obtain⟨rfl,rfl,rfl⟩:=hcs;exact⟨zs,hl,hS⟩);obtain⟨z2,hl2,hI2⟩:∃zs,len2<=maxLen/\ZT W a2 len2 zs:=(by obtain⟨fuel,hf⟩:=h2;obtain⟨a,l,c,zs,hcs,hl,hS,_⟩:=Zha hf;simp[Value.cells] at hcs;obtain⟨rfl,rfl,rfl⟩:=hcs;exact⟨zs,hl,hS⟩);have hroom:(Lit.int .i64 room).wf=true:=by obtain⟨fuel,hf⟩:=h3;obtain⟨n,hcs,_,hw⟩:=DataW.trod_int Tryz.underlying3 hf;simp[Value.cells] at hcs;rw[hcs];exact hw
 obtain⟨A4,hA4,hn4⟩:∃A,Zgd W a4 len4 A/\len4<=8000000000000:=by
  obtain⟨fuel,hf⟩:=h4;obtain⟨a,l,c,A,hcs,hS,hsz4⟩:=Zqa hf;simp[Value.cells] at hcs;obtain⟨rfl,rfl,rfl⟩:=hcs;refine⟨A,hS,?_⟩
  rcases hsz4 with h0|⟨E,F,hE,hEl⟩
  omega;have h9:=sized_slice (j:=4) (t:=68) (e:=73) (elems:=E) (spare:=F) hsz rfl (by rw[<- hE];rfl) Tryz.underlying68;have h8:=reachBytes_lt;have h7:Tryz.prog.bytesOf 73=24:=(by kernel_rfl);have h9:(E.length+F.length)*Tryz.prog.bytesOf 73<=reachBytes:=h9;rw[h7] at h9;omega
 clear hA0 hval0;refine(ZfT a0 a1 a2 a4 len0 cap0 len1 cap1 len2 cap2 len4 cap4 z0 z1 z2 room A4 W hI0 hI1 hI2 hA4 hl0 hl1 hl2 hroom hn4).mono fun e W' ⟨he,bel⟩=>?_;subst he;exact⟨_,rfl,_,_,_,[],_,[],hW',trodAll_mk1 (shut_bool Tryz.underlying4 _),(trodAll_cons_mk (Below.trod ZcU (by kernel_rfl) (of_decide_eq_true (by kernel_rfl)) k0 bel lt0) (trodAll_cons_mk (Below.trod ZcU (by kernel_rfl) (of_decide_eq_true (by kernel_rfl)) k1 bel lt1) (trodAll_cons_mk (Below.trod ZcU (by kernel_rfl) (of_decide_eq_true (by kernel_rfl)) k2 bel lt2) (trodAll_cons_mk (Below.trod ZcU (by kernel_rfl) (of_decide_eq_true (by kernel_rfl)) k3 bel lt3) (trodAll_cons_mk (Below.trod ZcU (by kernel_rfl) (of_decide_eq_true (by kernel_rfl)) k4 bel lt4) trodAll_mk0))))),rfl,bel.frame _,fun h=>by cases h⟩
theorem Zjo:Rows.lastingRow.holds Tryz.pinned (OpenSpec.ofChange Rows.lastingSpec):=
 OpenClaim.holds_of_wide 13 Tryz.f13 rfl rfl rfl rfl rfl rfl rfl ⟨rfl,rfl,rfl,rfl,rfl⟩ rfl rfl rfl rfl rfl (by kernel_rfl) Tryz.func13 Zl1
  (of_decide_eq_true (by kernel_rfl)) (by unfold Func.isWrapper;first|(rw[if_pos (by decide+kernel)];kernel_rfl)|(rw[if_neg (by decide+kernel)];exact⟨rfl,rfl⟩))
  (fun os started H enc _=>ZgW os started H enc)
theorem lasting_holds:Rows.LastingSaid:=Zjo
#print axioms lasting_holds
end Go.Proofs.YtfcgnpchbcmdeaaGreat
