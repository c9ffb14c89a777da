/-
  For every script whose steps, lists and letters are together at most 1048576, the Go function granarylaw.All, over the program at this commit, returns true, and the script reads afterwards as it read before: every call of the program's entry points, in every order, several summaries, readers, datasets and disks side by side, answers as the document's own answer does; lists that were handed in are left alone, lists that came out are their owner's.
  The condition: the given statement's own bound on the size of the script.
-/
import Derived.Test.YtfcgnpchbcmdeaaGreatZsbj
import Derived.Test.YtfcgnpchbcmdeaaGreatAlf
open Option renaming none->ZP
open Bool renaming true->Z0,false->ZZ
open Go.Proofs.Tryz renaming prog->Y8
open _root_ renaming rfl->X
open Array renaming size->B
open Go renaming Value->ZY
namespace Go.Proofs.YtfcgnpchbcmdeaaGreat
set_option maxRecDepth 100000
set_option linter.unusedVariables false
open Go.ChangeShapes Go.WideShapes Go.ChangeAt Go.RowKit List Nat Go.World Go.Proofs.Tryz Go.Value Go.IntKind Go.Lib Go.Region
theorem Zo9:ownKnob prog.godebug=ZP:=k_
theorem Zef:laidOutB Y8=Z0:=k_
theorem Zdj q (W:q.Started) t (d:TypeId×ZY->t) s:ReturnsInHanded {} checked q 14 .any ((Rows.OpenSpec.upto Rows.allSpec).pre6 d Y8 f14 Rows.allUptoRow.domain ZZ) (((Rows.OpenSpec.upto Rows.allSpec).at s).post d Y8 f14 ZZ Z0 ZZ ZZ):=by
 refine returnsInHanded_of_cond (C:=checked) (s:=Rows.OpenSpec.upto _) (k:=Rows.uptoSmall) X Zo9 W k_ func14
  (OpenSpec.witness (enc:=d) (C:=checked) (s:=Rows.OpenSpec.upto _) (k:=Rows.uptoSmall) X _ ⟨#[],#[N_],[]⟩ 8 k_ k_ k_
   (x:=([.nil],[],[])) k_ X k_) ?_
 intro c a3 g a6 a9 a4 n l b1 G _;have m:∀_ a0 a1,_->_->okWide Y8 c _ _ a0 a1:=n;have z:=l;obtain⟨Q,b5,k,y,rfl,b2,b3⟩:=l;have j:DataW.TrodAll _ Y8 c 0 _ _ _ _ _ Q:=k;rw[params14] at j m;obtain⟨r,b7,v,a7,R,b6,b0,rfl,rfl,i,S⟩:=trodAll_cons j;obtain⟨rfl,rfl,rfl⟩:=trodAll_nil S;obtain rfl:g=#[r]:=(by cases g;simp_all);obtain⟨rfl,rfl⟩:=trodVars_none y;obtain⟨u,p,a5,rfl⟩:=okWide_slice underlying22 (m 0 22 r X X);have o:=i;have N:∀x∈R,x.block<B c.1:=by obtain⟨P,L⟩:=o;exact DataW.trod_lt P _ _ _ L
 have A:Rows.uptoBulk v<=1048576:=(by have:=of_decide_eq_true G;simp only[append_nil,Rows.uptoBulkAll] at this;omega);obtain⟨a,b,e,f⟩:∃a b,Ub c u p a/\∀M,ag M b p a:=(by obtain⟨a8,w⟩:=i;have⟨D,b4,a2,a,b,h,e,f⟩:=fv w A;simp[Value.cells] at h;obtain⟨rfl,rfl,rfl⟩:=h;exact⟨a,b,e,f⟩);clear k n;refine(Zjj b a c e (f _)).m λa8 a2 ⟨D,h⟩=>?_;subst D;exact⟨_,X,_,_,_,[],_,[],z,trodAll_mk1 (shut_bool underlying4 _),(trodAll_cons_mk (Below.trod Zef k_ (of_decide_eq_true k_) o h N) trodAll_mk0),X,h.frame _,λw=>by cases w⟩
theorem Zji:Rows.allUptoRow.holds Tryz.pinned (Rows.OpenSpec.upto Rows.allSpec):=
 OpenClaim.holds_of_cond 14 f14 X X X X X X X ⟨X,X,X,X,X⟩ X X X X X k_ func14 Zdh
  (of_decide_eq_true k_) (by unfold Func.isWrapper;first|(rw[aD (by decide+kernel)];kernel_rfl)|(rw[aC (by decide+kernel)];exact⟨X,X⟩))
  (λd e b c _ a=>Zdj d e b c a)
theorem allUpto_holds:Rows.AllUptoSaid:=Zji
#print axioms allUpto_holds
end Go.Proofs.YtfcgnpchbcmdeaaGreat
