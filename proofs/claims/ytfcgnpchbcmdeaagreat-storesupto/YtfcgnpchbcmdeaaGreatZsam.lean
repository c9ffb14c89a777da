import Derived.Test.YtfcgnpchbcmdeaaGreatZsaj
import Derived.Shelf.SlSortCmp.NoneTotal
open Option renaming some->T
open Go.Proofs.Tryz renaming prog->Y8
open _root_ renaming Int->E,List->U,rfl->X
open Go renaming Value->ZY
open Go.Value renaming int->ZX,agg->Y9,tuple->Y5,func->YX
open Go.IntKind renaming i64->ZQ
open Go.Ending renaming returned->ZI
open Go.World renaming drewN->Y1
open Decidable renaming decide->ZE
open Array renaming size->B
namespace Go.Proofs.YtfcgnpchbcmdeaaGreat
set_option linter.all false
set_option maxHeartbeats 1000000
open Go.Shelf Go.RowKit Go.Lib Go.Sort List Nat Go.World Go.Proofs.Tryz Go.Value Go.IntKind Go.Lib Go.Region
def Zis:Go.Shelf.Ren:=⟨fun|6=>81|15=>150|14=>149|28=>201|29=>202|20=>193|21=>194|22=>195|23=>196|24=>197|25=>198|26=>199|27=>200|46=>247|47=>248|48=>249|49=>250|50=>251|57=>293|a=>a,fun|22=>29|24=>98|25=>146|3=>3|39=>243|0=>0|53=>185|55=>306|4=>4|46=>299|45=>298|50=>238|5=>5|9=>9|66=>342|70=>346|76=>374|77=>294|a=>a,λa=>a⟩
def Zqh:SlLaysF0.n6 Y8 Zis:={
 mixed:=k_,
 f6:=⟨f81.name,C,func81.T (congrArg T k_)⟩,
 f14:=⟨f149.name,C,func149.T (congrArg T k_)⟩,
 f15:=func150.T (congrArg T k_),
 f20:=⟨f193.name,C,func193.T (congrArg T k_)⟩,
 f21:=⟨f194.name,C,func194.T (congrArg T k_)⟩,
 f22:=⟨f195.name,C,func195.T (congrArg T k_)⟩,
 f23:=⟨f196.name,C,func196.T (congrArg T k_)⟩,
 f24:=⟨f197.name,C,func197.T (congrArg T k_)⟩,
 f25:=⟨f198.name,C,func198.T (congrArg T k_)⟩,
 f26:=⟨f199.name,C,func199.T (congrArg T k_)⟩,
 f27:=⟨f200.name,C,func200.T (congrArg T k_)⟩,
 f28:=func201.T (congrArg T k_),
 f29:=func202.T (congrArg T k_),
 f46:=⟨f247.name,C,func247.T (congrArg T k_)⟩,
 f47:=func248.T (congrArg T k_),
 f48:=func249.T (congrArg T k_),
 f49:=⟨f250.name,C,func250.T (congrArg T k_)⟩,
 f50:=⟨f251.name,C,func251.T (congrArg T k_)⟩,
 f57:=⟨f293.name,C,func293.T (congrArg T k_)⟩,
 t0:=underlying0,
 a0:=isAgg0,
 z0:=sizeOf0,
 v0:=zeroValue0,
 t3:=underlying3,
 a3:=isAgg3,
 z3:=sizeOf3,
 v3:=zeroValue3,
 t4:=underlying4,
 a4:=isAgg4,
 z4:=sizeOf4,
 v4:=zeroValue4,
 t5:=underlying5,
 a5:=isAgg5,
 z5:=sizeOf5,
 v5:=zeroValue5,
 t9:=underlying9,
 a9:=isAgg9,
 z9:=sizeOf9,
 v9:=zeroValue9,
 t22:=underlying29,
 a22:=isAgg29,
 z22:=sizeOf29,
 v22:=zeroValue29,
 t25:=underlying146,
 a25:=isAgg146,
 z25:=sizeOf146,
 v25:=zeroValue146,
 t39:=underlying243,
 a39:=isAgg243,
 z39:=sizeOf243,
 v39:=zeroValue243,
 t45:=underlying298,
 a45:=isAgg298,
 z45:=sizeOf298,
 v45:=zeroValue298,
 t46:=underlying299,
 a46:=isAgg299,
 z46:=sizeOf299,
 v46:=zeroValue299,
 t50:=underlying238,
 a50:=isAgg238,
 z50:=sizeOf238,
 v50:=zeroValue238,
 t53:=underlying185,
 a53:=isAgg185,
 z53:=sizeOf185,
 v53:=zeroValue185,
 t55:=underlying306,
 a55:=isAgg306,
 z55:=sizeOf306,
 v55:=zeroValue306,
 t66:=underlying342,
 a66:=isAgg342,
 z66:=sizeOf342,
 v66:=zeroValue342,
 t70:=underlying346,
 a70:=isAgg346,
 z70:=sizeOf346,
 v70:=zeroValue346,
 t76:=underlying374,
 a76:=isAgg374,
 z76:=sizeOf374,
 v76:=zeroValue374,
 t77:=underlying294,
 a77:=isAgg294,
 z77:=sizeOf294,
 v77:=zeroValue294}
def hn(x:E×E):U ZY:=[I x.1,I 0,I 0,I x.2]
def Za8 x b c:C_ 151 #[I x,I b] c (V_ (ZX ZQ (compareInt x b)) c):=by
 unfold compareInt
 rcases Int.lt_trichotomy x b with a|a|a
 ·rw[aD a];refine q_ ?_;go_wp2
  all_goals go_ret
  all_goals exact⟨X,X⟩
 ·subst a;rw[aC (Int.lt_irrefl _),aC (Int.lt_irrefl _)];refine q_ ?_;go_wp2
  all_goals go_ret
  all_goals exact⟨X,X⟩
 have d:¬x<b:=O;rw[aC d,aD a];refine q_ ?_;go_wp2
 all_goals go_ret
 all_goals exact⟨X,X⟩
def ZaZ{x a:E×E}{b}:C_ 82 #[Y9 #[I x.1,I 0,I 0,I x.2],Y9 #[I a.1,I 0,I 0,I a.2]] b λc e=>c=ZI (ZX ZQ (compareInt x.1 a.1))/\∃i h,e=grow (Y1 b i) h:=by
 have d:=λg=>Za8 x.1 a.1 g;generalize compareInt x.1 a.1=j at d ⊢;have f:=Y d;refine q_ ?_;go_wp2_with (go_at_call 151;apply (f _).m;rintro c e ⟨rfl,rfl⟩)
 go_ret;exact⟨X,0,_,by rw[alloc_eq_grow,alloc_eq_grow,grow_grow];rfl⟩
def ZjH{c d e f}:CmpLays Y8 82 #[] hn 4 (λa b=>compareInt a.1 b.1) c d e f:=
 λ_ _ _ _ a b=>ZaZ
def Zm6 x a:ltOf (λx a:E×E=>compareInt x.1 a.1) x a=ZE (x.1<a.1):=by
 unfold ltOf compareInt
 grind
def Zql:SWO (ltOf λa b:E×E=>compareInt a.1 b.1) where
  irrefl a:=by rw[Zm6];simp
  trans a b e c d:=by rw[Zm6] at *;simp at *;omega
  ntrans a b e c d:=by rw[Zm6] at *;simp at *;omega
def Zlw{c} f {a b}(h:HoldsK hn 4 b c 0 a)(i:c<B b.1)(j:B a<4611686018427387904):C_ 81 #[L_ c (B a) f,YX (.func 82) #[] #[]] b λg m=>g=ZI (Y5 #[])/\∃d k l,PermIn 0 (B a) a d/\SortedIn (ltOf λe n:E×E=>compareInt e.1 n.1) 0 (B a) d/\m=sortWorldK hn 4 b c 0 k d l:=by have g:∀_ b,(callFunc 82 _).run _ b=_:=enters_of func82 k_ X;exact AnyQ.slices_SortFunc Zqh 4 isAgg98 sizeOf98 _ (λ_=>X) (λe k d=>by simp[hn] at d;rcases d with rfl|rfl|rfl|rfl<;>rfl) _ Zql _ _ _ 0 _ a b g (ZjH) h i j
end Go.Proofs.YtfcgnpchbcmdeaaGreat
