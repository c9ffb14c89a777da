/-
  For every script whose steps, lists and letters are together at most 1048576, the Go function granarylaw.Opens, over the program at this commit, returns true, and the script reads afterwards as it read before: besides every answer of readers and of their datasets, every Open, of any bytes and of datasets' bytes of which one is turned with a right check, answers as the document's own answer does, and so does every question to every dataset that was opened: rows, bins, bounds, bundles, to the last bit of its bytes.
  The condition: the given statement's own bound on the size of the script.
-/
import Derived.Test.YtfcgnpchbcmdeaaGreatZobu
import Derived.Test.YtfcgnpchbcmdeaaGreatOcf
namespace Go.Proofs.YtfcgnpchbcmdeaaGreat
set_option maxRecDepth 100000
set_option linter.unusedVariables false
open Go.ChangeShapes Go.WideShapes Go.ChangeAt Go.RowKit List Nat World Go.Proofs.Tryz Value IntKind Lib Region
theorem ZoA:ownKnob prog.godebug=none:=k_
theorem Zgh:laidOutB prog=true:=k_
theorem xg G (d:G.Started) H (f:TypeId×Value->H) F:ReturnsInHanded {} checked G 9 .any ((Rows.OpenSpec.upto Rows.opensSpec).pre6 f prog Tryz.f9 Rows.opensUptoRow.domain false) (((Rows.OpenSpec.upto Rows.opensSpec).at F).post f prog Tryz.f9 false true false false):=by
 refine returnsInHanded_of_cond (C:=checked) (s:=Rows.OpenSpec.upto _) (k:=Rows.uptoSmall) rfl ZoA d k_ func9
  (OpenSpec.witness (enc:=f) (C:=checked) (s:=Rows.OpenSpec.upto _) (k:=Rows.uptoSmall) rfl _ ⟨#[],#[N_],[]⟩ 8 k_ k_ k_
   (x:=([.nil],[],[])) k_ rfl k_) ?_
 intro W Q i ds gs u b R E hk _;have g:∀_ t v,_->_->okWide prog W _ _ t v:=b;have w:=R;obtain⟨p,q,r,hV,rfl,X,a5⟩:=R;have P:DataW.TrodAll _ prog W 0 _ _ _ _ _ p:=r;rw[params9] at P g;obtain⟨L,a4,d0,a3,p0,q0,y,rfl,rfl,T,r0⟩:=trodAll_cons P;obtain⟨rfl,rfl,rfl⟩:=trodAll_nil r0;obtain rfl:i=#[L]:=(by cases i;simp_all);obtain⟨rfl,rfl⟩:=trodVars_none hV;obtain⟨a0,j,N,rfl⟩:=okWide_slice underlying22 (g 0 22 L rfl rfl);have M:=T;have B:∀x∈p0,x.block<W.1.size:=by obtain⟨m,U⟩:=M;exact DataW.trod_lt m _ _ _ U
 have n:Rows.uptoBulk d0<=1048576:=(by have:=of_decide_eq_true hk;simp only[append_nil,Rows.uptoBulkAll] at this;omega);obtain⟨D,z,A⟩:∃D,gd W a0 j D/\uf j D:=(by obtain⟨S,Z⟩:=T;have⟨a,l,c,D,o,z,A⟩:=Za5 Z n;simp[Value.cells] at o;obtain⟨rfl,rfl,rfl⟩:=o;exact⟨D,z,A⟩);clear r b;refine(Zdv _ _ _ D W z A).m λe W' ⟨he,bel⟩=>?_;subst he;exact⟨_,rfl,_,_,_,[],_,[],w,trodAll_mk1 (shut_bool underlying4 _),(trodAll_cons_mk (Below.trod Zgh k_ (of_decide_eq_true k_) M bel B) trodAll_mk0),rfl,bel.frame _,λh=>by cases h⟩
theorem Zdu:Rows.opensUptoRow.holds Tryz.pinned (Rows.OpenSpec.upto Rows.opensSpec):=
 OpenClaim.holds_of_cond 9 Tryz.f9 rfl rfl rfl rfl rfl rfl rfl ⟨rfl,rfl,rfl,rfl,rfl⟩ rfl rfl rfl rfl rfl k_ func9 Zdt
  (of_decide_eq_true k_) (by unfold Func.isWrapper;first|(rw[aD (by decide+kernel)];kernel_rfl)|(rw[aC (by decide+kernel)];exact⟨rfl,rfl⟩))
  (λos started H enc _ F=>xg os started H enc F)
theorem opensUpto_holds:Rows.OpensUptoSaid:=Zdu
#print axioms opensUpto_holds
end Go.Proofs.YtfcgnpchbcmdeaaGreat
