import Derived.Test.YtfcgnpchbcmdeaaGreatZrak
import Derived.Shelf.SlSortCmp.NoneTotal
namespace Go.Proofs.YtfcgnpchbcmdeaaGreat
set_option linter.all false
set_option maxHeartbeats 1000000
open Go.Shelf Go.RowKit Go.Lib Go.Sort
def Zgj:Go.Shelf.Ren:=⟨fun|6=>81|15=>150|14=>149|28=>201|29=>202|20=>193|21=>194|22=>195|23=>196|24=>197|25=>198|26=>199|27=>200|46=>247|47=>248|48=>249|49=>250|50=>251|57=>293|n=>n,fun|22=>29|24=>98|25=>146|3=>3|39=>243|0=>0|53=>185|55=>306|4=>4|46=>299|45=>298|50=>238|5=>5|9=>9|66=>342|70=>346|76=>374|77=>294|n=>n,λn=>n⟩
def ZlY:SlLaysF0.n6 Tryz.prog Zgj:={
 mixed:=k_,
 f6:=⟨Tryz.f81.name,d_,Tryz.func81.trans (congrArg some k_)⟩,
 f14:=⟨Tryz.f149.name,d_,Tryz.func149.trans (congrArg some k_)⟩,
 f15:=Tryz.func150.trans (congrArg some k_),
 f20:=⟨Tryz.f193.name,d_,Tryz.func193.trans (congrArg some k_)⟩,
 f21:=⟨Tryz.f194.name,d_,Tryz.func194.trans (congrArg some k_)⟩,
 f22:=⟨Tryz.f195.name,d_,Tryz.func195.trans (congrArg some k_)⟩,
 f23:=⟨Tryz.f196.name,d_,Tryz.func196.trans (congrArg some k_)⟩,
 f24:=⟨Tryz.f197.name,d_,Tryz.func197.trans (congrArg some k_)⟩,
 f25:=⟨Tryz.f198.name,d_,Tryz.func198.trans (congrArg some k_)⟩,
 f26:=⟨Tryz.f199.name,d_,Tryz.func199.trans (congrArg some k_)⟩,
 f27:=⟨Tryz.f200.name,d_,Tryz.func200.trans (congrArg some k_)⟩,
 f28:=Tryz.func201.trans (congrArg some k_),
 f29:=Tryz.func202.trans (congrArg some k_),
 f46:=⟨Tryz.f247.name,d_,Tryz.func247.trans (congrArg some k_)⟩,
 f47:=Tryz.func248.trans (congrArg some k_),
 f48:=Tryz.func249.trans (congrArg some k_),
 f49:=⟨Tryz.f250.name,d_,Tryz.func250.trans (congrArg some k_)⟩,
 f50:=⟨Tryz.f251.name,d_,Tryz.func251.trans (congrArg some k_)⟩,
 f57:=⟨Tryz.f293.name,d_,Tryz.func293.trans (congrArg some k_)⟩,
 t0:=Tryz.underlying0,
 a0:=Tryz.isAgg0,
 z0:=Tryz.sizeOf0,
 v0:=Tryz.zeroValue0,
 t3:=Tryz.underlying3,
 a3:=Tryz.isAgg3,
 z3:=Tryz.sizeOf3,
 v3:=Tryz.zeroValue3,
 t4:=Tryz.underlying4,
 a4:=Tryz.isAgg4,
 z4:=Tryz.sizeOf4,
 v4:=Tryz.zeroValue4,
 t5:=Tryz.underlying5,
 a5:=Tryz.isAgg5,
 z5:=Tryz.sizeOf5,
 v5:=Tryz.zeroValue5,
 t9:=Tryz.underlying9,
 a9:=Tryz.isAgg9,
 z9:=Tryz.sizeOf9,
 v9:=Tryz.zeroValue9,
 t22:=Tryz.underlying29,
 a22:=Tryz.isAgg29,
 z22:=Tryz.sizeOf29,
 v22:=Tryz.zeroValue29,
 t25:=Tryz.underlying146,
 a25:=Tryz.isAgg146,
 z25:=Tryz.sizeOf146,
 v25:=Tryz.zeroValue146,
 t39:=Tryz.underlying243,
 a39:=Tryz.isAgg243,
 z39:=Tryz.sizeOf243,
 v39:=Tryz.zeroValue243,
 t45:=Tryz.underlying298,
 a45:=Tryz.isAgg298,
 z45:=Tryz.sizeOf298,
 v45:=Tryz.zeroValue298,
 t46:=Tryz.underlying299,
 a46:=Tryz.isAgg299,
 z46:=Tryz.sizeOf299,
 v46:=Tryz.zeroValue299,
 t50:=Tryz.underlying238,
 a50:=Tryz.isAgg238,
 z50:=Tryz.sizeOf238,
 v50:=Tryz.zeroValue238,
 t53:=Tryz.underlying185,
 a53:=Tryz.isAgg185,
 z53:=Tryz.sizeOf185,
 v53:=Tryz.zeroValue185,
 t55:=Tryz.underlying306,
 a55:=Tryz.isAgg306,
 z55:=Tryz.sizeOf306,
 v55:=Tryz.zeroValue306,
 t66:=Tryz.underlying342,
 a66:=Tryz.isAgg342,
 z66:=Tryz.sizeOf342,
 v66:=Tryz.zeroValue342,
 t70:=Tryz.underlying346,
 a70:=Tryz.isAgg346,
 z70:=Tryz.sizeOf346,
 v70:=Tryz.zeroValue346,
 t76:=Tryz.underlying374,
 a76:=Tryz.isAgg374,
 z76:=Tryz.sizeOf374,
 v76:=Tryz.zeroValue374,
 t77:=Tryz.underlying294,
 a77:=Tryz.isAgg294,
 z77:=Tryz.sizeOf294,
 v77:=Tryz.zeroValue294}
def Zn(x:Int×Int):List Value:=[I_ x.1,I_ 0,I_ 0,I_ x.2]
def ZaI x y w:C_ 151 #[.int .i64 x,.int .i64 y] w λe w'=>e=.returned (.int .i64 (Lib.compareInt x y))/\w'=w:=by
 unfold Lib.compareInt
 rcases Int.lt_trichotomy x y with h|h|h
 ·rw[if_pos h];go_enter Tryz.func151,Tryz.ntmps151;go_wp2
  all_goals go_ret
  all_goals exact⟨rfl,rfl⟩
 ·subst h;rw[if_neg (Int.lt_irrefl _),if_neg (Int.lt_irrefl _)];go_enter Tryz.func151,Tryz.ntmps151;go_wp2
  all_goals go_ret
  all_goals exact⟨rfl,rfl⟩
 have a:¬x<y:=o_;rw[if_neg a,if_pos h];go_enter Tryz.func151,Tryz.ntmps151;go_wp2
 all_goals go_ret
 all_goals exact⟨rfl,rfl⟩
def ZaB(x y:Int×Int) W:C_ 82 #[.agg #[.int .i64 x.1,.int .i64 0,.int .i64 0,.int .i64 x.2],.agg #[.int .i64 y.1,.int .i64 0,.int .i64 0,.int .i64 y.2]] W λe w'=>e=.returned (.int .i64 (Lib.compareInt x.1 y.1))/\∃q os',w'=grow (W.drewN q) os':=by
 have a:=λW'=>ZaI x.1 y.1 W';generalize Lib.compareInt x.1 y.1=r at a ⊢;have b:=x1_ a;go_enter Tryz.func82,Tryz.ntmps82;go_wp2_with (go_at_call 151;refine(b _).mono ?_;rintro e w' ⟨rfl,rfl⟩)
 go_ret;exact⟨rfl,0,_,by rw[alloc_eq_grow,alloc_eq_grow,grow_grow];rfl⟩
def Zhi blk off size w:CmpLays Tryz.prog 82 #[] Zn 4 (λx y=>Lib.compareInt x.1 y.1) blk off size w:=
 λ_ _ _ _ x y=>ZaB x y _
def Zka x y:ltOf (λx y:Int×Int=>Lib.compareInt x.1 y.1) x y=decide (x.1<y.1):=by
 unfold ltOf Lib.compareInt
 grind
def ZlZ:SWO (ltOf λx y:Int×Int=>Lib.compareInt x.1 y.1) where
  irrefl x:=by rw[Zka];simp
  trans x y z h1 h2:=by rw[Zka] at *;simp at *;omega
  ntrans x y z h1 h2:=by rw[Zka] at *;simp at *;omega
def ZiJ a c d w (h:HoldsK Zn 4 w a 0 d)(b:a<w.heap.size)(f:d.size<4611686018427387904):C_ 81 #[.slice (some ⟨a,0,none⟩) d.size c,.func (.func 82) #[] #[]] w λe w'=>e=.returned (.tuple #[])/\∃d' n os,PermIn 0 d.size d d'/\SortedIn (ltOf λx y:Int×Int=>Lib.compareInt x.1 y.1) 0 d.size d'/\w'=sortWorldK Zn 4 w a 0 n d' os:=by have g:∀_ w,(callFunc 82 _).run _ w=_:=enters_of Tryz.func82 k_ rfl;exact AnyQ.slices_SortFunc ZlY 4 Tryz.isAgg98 Tryz.sizeOf98 _ (λ_=>rfl) (λx v hv=>by simp[Zn] at hv;rcases hv with rfl|rfl|rfl|rfl<;>rfl) _ ZlZ _ _ _ 0 _ d w g (Zhi _ 0 _ w) h b f
end Go.Proofs.YtfcgnpchbcmdeaaGreat
