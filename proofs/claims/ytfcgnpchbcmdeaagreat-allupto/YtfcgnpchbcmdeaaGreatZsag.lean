import Derived.Test.YtfcgnpchbcmdeaaGreatHda
open List renaming length->F
open _root_ renaming rfl->X
open Array renaming size->B
open Option renaming some->T
open Bool renaming true->Z0
open Go.Value renaming ownBlock->ZW,slice->ZH
open Go.World renaming cell?->ZV,ownsRow->ZD,grownBy->Y3,drew->YY
open Or renaming inr->ZJ
open Go renaming maxLen->Y2
namespace Go.Proofs.YtfcgnpchbcmdeaaGreat
set_option linter.all false
open Go.RowKit List Nat Go.World Go.Proofs.Tryz Go.Value Go.IntKind Go.Lib Go.Region
def ip{P} d y j q e f x m Q (u:P.underlying j=T (.slice e))(r:P.info? e=T f)(M:f.zero=T x)(a2:f.size=m)(S:f.bytes=Q)(b4:B x.cells=m)(b2:0<m) v c A (i:ZD d y e m v c A) k b o p (l:F p=b*m)(s:∀a7 N,p[a7]? =T N->ZV d (k.add a7)=T N)(R:∀N∈p,N.oneCell'=Z0)(b1:0<b)(G:c+b<=Y2)(W:(c+b)*Q<=140737488355328)(a9:y<=B d.1):∃n w,(Builtin.append_ #[j,j] q #[v,ZH (T k) b o]).run P d=.ok n w/\ZD w y e m n (c+b) (A++p)/\Y3 d w (ZW v)/\(ZW n=ZW v∨ZW n=T (B d.1))/\ZD w y e m v c A/\∃g h,n=L_ g (c+b) h:=by
 have⟨n,w,t,a3,a8,b5⟩:=run_append_own (P:=P) d y j q e f x m Q u r M a2 S b4 b2 v c A i k b o p l s R G W a9
 have b0:∃g h,n=L_ g (c+b) h:=by
  rcases a3.2 with⟨_,z⟩|⟨g,h,D,a,_⟩
  omega
  grind
 refine⟨n,w,t,a3,a8,?_,?_,b0⟩
 ·subst a2 S
  rcases i.2 with⟨rfl,rfl⟩|⟨g,h,D,rfl,a4,L,a6,a5,a0,b3⟩
  have a:=run_append_nil (P:=P) d j q e f x u r M k b o _ l s b1 (by simp only[Y2] at G;omega) w_;rw[t] at a;simp only[Result.ok.injEq] at a;right;rw[a.1];rfl
  by_cases z:c+b<=h
  have a1:c*f.size+F p<=B D:=(by rw[l,a0,<- Nat.add_mul];exact aK _ z);have a:=run_append_room (P:=P) d j q e f u r g c _ _ L k b o _ l s R z a1;rw[t] at a;simp only[Result.ok.injEq] at a;left;rw[a.1];rfl;have a1:=i.cells (g:=g) X;have a:=run_append_grow (P:=P) d j q e f x u r M _ c h _ i.1 a1 k b o _ l s O (by simp only[Y2] at G;omega) (growslice_fits O W);rw[t] at a;simp only[Result.ok.injEq] at a;right;rw[a.1];rfl
 subst a2 S
 rcases i.2 with⟨rfl,rfl⟩|⟨g,h,D,rfl,a4,L,a6,a5,a0,b3⟩
 have:A=[]:=eq_nil_of_length_eq_zero (by simpa using i.1);subst this;exact rn_
 by_cases z:c+b<=h
 ·have a1:c*f.size+F p<=B D:=(by rw[l,a0,<- Nat.add_mul];exact aK _ z);have a:=run_append_room (P:=P) d j q e f u r g c _ _ L k b o _ l s R z a1;rw[t] at a;simp only[Result.ok.injEq] at a;rw[a.2];refine⟨i.1,ZJ ⟨g,h,_,X,a4,setRow_heap d g _ _ e _ L,a6,a5,?_,?_⟩⟩
  ·grind
  grind
 have a1:=i.cells (g:=g) X;have a:=run_append_grow (P:=P) d j q e f x u r M _ c h _ i.1 a1 k b o _ l s O (by simp only[Y2] at G;omega) (growslice_fits O W);rw[t] at a;simp only[Result.ok.injEq] at a;rw[a.2];exact ra_ (w:=YY d) i _
end Go.Proofs.YtfcgnpchbcmdeaaGreat
