/-
  For every script whose steps, lists and letters are together at most 1048576, the Go function granarylaw.Reads, over the program at this commit, returns true, and the script reads afterwards as it read before: every Reader, Feed and Close answers as the document's own answer does, at every cut of every text, and so does every question to every dataset that comes out: rows, bins, bounds, bundles, to the last bit of its bytes; what was lent is left as it was, and the lists that came out are their owner's.
  The condition: the given statement's own bound on the size of the script.
-/
import Derived.Test.YtfcgnpchbcmdeaaGreatZrbu
import Derived.Test.YtfcgnpchbcmdeaaGreatRcf
namespace Go.Proofs.YtfcgnpchbcmdeaaGreat
set_option maxRecDepth 100000
set_option linter.unusedVariables false
open Go.ChangeShapes Go.WideShapes Go.ChangeAt Go.RowKit
theorem Zmp:ownKnob Tryz.prog.godebug=none:=k_
theorem ZhT:laidOutB Tryz.prog=true:=k_
theorem zp O (b:O.Started) H (f:TypeId×Value->H) F:ReturnsInHanded {} Tryz.checked O 5 .any ((Rows.OpenSpec.upto Rows.readsSpec).pre6 f Tryz.prog Tryz.f5 Rows.readsUptoRow.domain false) (((Rows.OpenSpec.upto Rows.readsSpec).at F).post f Tryz.prog Tryz.f5 false true false false):=by
 refine returnsInHanded_of_cond (C:=Tryz.checked) (s:=Rows.OpenSpec.upto _) (k:=Rows.uptoSmall) rfl Zmp b k_ Tryz.func5
  (OpenSpec.witness (enc:=f) (C:=Tryz.checked) (s:=Rows.OpenSpec.upto _) (k:=Rows.uptoSmall) rfl _ ⟨#[],#[.slice none 0 0],[]⟩ 8 k_ k_ k_
   (x:=([.nil],[],[])) k_ rfl k_) ?_
 intro W I j ds gs u d M P T _;have g:∀_ t v,_->_->Value.okWide Tryz.prog W _ _ t v:=d;have z:=M;obtain⟨p,q,o,hV,rfl,a1,Z⟩:=M;have G:DataW.TrodAll _ Tryz.prog W 0 _ _ _ _ _ p:=o;rw[Tryz.params5] at G g;obtain⟨J,Y,U,R,p0,q0,B,rfl,rfl,Q,V⟩:=trodAll_cons G;obtain⟨rfl,rfl,rfl⟩:=trodAll_nil V;obtain rfl:j=#[J]:=(by cases j;simp_all);obtain⟨rfl,rfl⟩:=trodVars_none hV;obtain⟨S,i,E,rfl⟩:=okWide_slice Tryz.underlying22 (g 0 22 J rfl rfl);have L:=Q;have y:∀x∈p0,x.block<W.heap.size:=by obtain⟨m,hm⟩:=L;exact DataW.trod_lt m _ _ _ hm
 have n:Rows.uptoBulk U<=1048576:=(by have:=of_decide_eq_true T;simp only[List.append_nil,Rows.uptoBulkAll] at this;omega);obtain⟨D,A,w⟩:∃D,az W S i D/\vq i D:=(by obtain⟨N,X⟩:=Q;obtain⟨a,l,c,D,r,A,w⟩:=Zbu X n;simp[Value.cells] at r;obtain⟨rfl,rfl,rfl⟩:=r;exact⟨D,A,w⟩);clear o d;refine(ZdC _ _ _ D W A w).mono λe W' ⟨he,bel⟩=>?_;subst he;exact⟨_,rfl,_,_,_,[],_,[],z,trodAll_mk1 (shut_bool Tryz.underlying4 _),(trodAll_cons_mk (Below.trod ZhT k_ (of_decide_eq_true k_) L bel y) trodAll_mk0),rfl,bel.frame _,λh=>by cases h⟩
theorem ZdB:Rows.readsUptoRow.holds Tryz.pinned (Rows.OpenSpec.upto Rows.readsSpec):=
 OpenClaim.holds_of_cond 5 Tryz.f5 rfl rfl rfl rfl rfl rfl rfl ⟨rfl,rfl,rfl,rfl,rfl⟩ rfl rfl rfl rfl rfl k_ Tryz.func5 Zdz
  (of_decide_eq_true k_) (by unfold Func.isWrapper;first|(rw[if_pos (by decide+kernel)];kernel_rfl)|(rw[if_neg (by decide+kernel)];exact⟨rfl,rfl⟩))
  (λos started H enc _ F=>zp os started H enc F)
theorem readsUpto_holds:Rows.ReadsUptoSaid:=ZdB
#print axioms readsUpto_holds
end Go.Proofs.YtfcgnpchbcmdeaaGreat
