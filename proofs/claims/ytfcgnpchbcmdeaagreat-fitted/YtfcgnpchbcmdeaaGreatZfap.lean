import Derived.Test.YtfcgnpchbcmdeaaGreatZfaj
import Derived.Shelf.SlSortCmp.WholeK
import Derived.Shelf.SlSortCmp.NoneTotal
namespace Go.Proofs.YtfcgnpchbcmdeaaGreat
set_option linter.unusedSimpArgs false
set_option maxHeartbeats 1000000
open Go.Shelf Go.RowKit Go.Lib Go.Sort
def Zmg:Go.Shelf.Ren:=⟨fun|6=>81|15=>150|14=>149|28=>201|29=>202|20=>193|21=>194|22=>195|23=>196|24=>197|25=>198|26=>199|27=>200|46=>247|47=>248|48=>249|49=>250|50=>251|57=>293|n=>n,fun|22=>29|24=>98|25=>146|3=>3|39=>243|0=>0|53=>185|55=>306|4=>4|46=>299|45=>298|50=>238|5=>5|9=>9|66=>342|70=>346|76=>374|77=>294|n=>n,fun n=>n⟩
theorem Zpo:SlLaysF0.n6 Tryz.prog Zmg:={
 mixed:=by kernel_rfl,
 f6:=⟨Tryz.f81.name,by decide,Tryz.func81.trans (congrArg some (by kernel_rfl))⟩,
 f14:=⟨Tryz.f149.name,by decide,Tryz.func149.trans (congrArg some (by kernel_rfl))⟩,
 f15:=Tryz.func150.trans (congrArg some (by kernel_rfl)),
 f20:=⟨Tryz.f193.name,by decide,Tryz.func193.trans (congrArg some (by kernel_rfl))⟩,
 f21:=⟨Tryz.f194.name,by decide,Tryz.func194.trans (congrArg some (by kernel_rfl))⟩,
 f22:=⟨Tryz.f195.name,by decide,Tryz.func195.trans (congrArg some (by kernel_rfl))⟩,
 f23:=⟨Tryz.f196.name,by decide,Tryz.func196.trans (congrArg some (by kernel_rfl))⟩,
 f24:=⟨Tryz.f197.name,by decide,Tryz.func197.trans (congrArg some (by kernel_rfl))⟩,
 f25:=⟨Tryz.f198.name,by decide,Tryz.func198.trans (congrArg some (by kernel_rfl))⟩,
 f26:=⟨Tryz.f199.name,by decide,Tryz.func199.trans (congrArg some (by kernel_rfl))⟩,
 f27:=⟨Tryz.f200.name,by decide,Tryz.func200.trans (congrArg some (by kernel_rfl))⟩,
 f28:=Tryz.func201.trans (congrArg some (by kernel_rfl)),
 f29:=Tryz.func202.trans (congrArg some (by kernel_rfl)),
 f46:=⟨Tryz.f247.name,by decide,Tryz.func247.trans (congrArg some (by kernel_rfl))⟩,
 f47:=Tryz.func248.trans (congrArg some (by kernel_rfl)),
 f48:=Tryz.func249.trans (congrArg some (by kernel_rfl)),
 f49:=⟨Tryz.f250.name,by decide,Tryz.func250.trans (congrArg some (by kernel_rfl))⟩,
 f50:=⟨Tryz.f251.name,by decide,Tryz.func251.trans (congrArg some (by kernel_rfl))⟩,
 f57:=⟨Tryz.f293.name,by decide,Tryz.func293.trans (congrArg some (by kernel_rfl))⟩,
 t0:=Tryz.underlying0,
 a0:=Tryz.isAgg0,
 z0:=Tryz.sizeOf0,
 v0:=Tryz.zeroValue0,
 t3:=Tryz.underlying3,
 a3:=Tryz.isAgg3,
 z3:=Tryz.sizeOf3,
 v3:=Tryz.zeroValue3,
 t4:=Tryz.underlying4,
 a4:=Tryz.isAgg4,
 z4:=Tryz.sizeOf4,
 v4:=Tryz.zeroValue4,
 t5:=Tryz.underlying5,
 a5:=Tryz.isAgg5,
 z5:=Tryz.sizeOf5,
 v5:=Tryz.zeroValue5,
 t9:=Tryz.underlying9,
 a9:=Tryz.isAgg9,
 z9:=Tryz.sizeOf9,
 v9:=Tryz.zeroValue9,
 t22:=Tryz.underlying29,
 a22:=Tryz.isAgg29,
 z22:=Tryz.sizeOf29,
 v22:=Tryz.zeroValue29,
 t25:=Tryz.underlying146,
 a25:=Tryz.isAgg146,
 z25:=Tryz.sizeOf146,
 v25:=Tryz.zeroValue146,
 t39:=Tryz.underlying243,
 a39:=Tryz.isAgg243,
 z39:=Tryz.sizeOf243,
 v39:=Tryz.zeroValue243,
 t45:=Tryz.underlying298,
 a45:=Tryz.isAgg298,
 z45:=Tryz.sizeOf298,
 v45:=Tryz.zeroValue298,
 t46:=Tryz.underlying299,
 a46:=Tryz.isAgg299,
 z46:=Tryz.sizeOf299,
 v46:=Tryz.zeroValue299,
 t50:=Tryz.underlying238,
 a50:=Tryz.isAgg238,
 z50:=Tryz.sizeOf238,
 v50:=Tryz.zeroValue238,
 t53:=Tryz.underlying185,
 a53:=Tryz.isAgg185,
 z53:=Tryz.sizeOf185,
 v53:=Tryz.zeroValue185,
 t55:=Tryz.underlying306,
 a55:=Tryz.isAgg306,
 z55:=Tryz.sizeOf306,
 v55:=Tryz.zeroValue306,
 t66:=Tryz.underlying342,
 a66:=Tryz.isAgg342,
 z66:=Tryz.sizeOf342,
 v66:=Tryz.zeroValue342,
 t70:=Tryz.underlying346,
 a70:=Tryz.isAgg346,
 z70:=Tryz.sizeOf346,
 v70:=Tryz.zeroValue346,
 t76:=Tryz.underlying374,
 a76:=Tryz.isAgg374,
 z76:=Tryz.sizeOf374,
 v76:=Tryz.zeroValue374,
 t77:=Tryz.underlying294,
 a77:=Tryz.isAgg294,
 z77:=Tryz.sizeOf294,
 v77:=Tryz.zeroValue294}
def ZcZ(x:Int×Int):List Value:=[.int .i64 x.1,.int .i64 0,.int .i64 0,.int .i64 x.2]
theorem Zik(x y:Int)(w:World):Calls Tryz.prog 151 #[.int .i64 x,.int .i64 y] w fun e w'=>e=.returned (.int .i64 (Lib.compareInt x y))/\w'=w:=by
 unfold Lib.compareInt
 rcases Int.lt_trichotomy x y with h|h|h
 ·rw[if_pos h];go_enter Tryz.func151,Tryz.ntmps151;go_wp2
  all_goals go_ret
  all_goals exact⟨rfl,rfl⟩
 ·subst h;rw[if_neg (Int.lt_irrefl _),if_neg (Int.lt_irrefl _)];go_enter Tryz.func151,Tryz.ntmps151;go_wp2
  all_goals go_ret
  all_goals exact⟨rfl,rfl⟩
 have h2:¬x<y:=(by omega);rw[if_neg h2,if_pos h];go_enter Tryz.func151,Tryz.ntmps151;go_wp2
 all_goals go_ret
 all_goals exact⟨rfl,rfl⟩
theorem Zid(x y:Int×Int)(W:World):Calls Tryz.prog 82 #[.agg #[.int .i64 x.1,.int .i64 0,.int .i64 0,.int .i64 x.2],.agg #[.int .i64 y.1,.int .i64 0,.int .i64 0,.int .i64 y.2]] W fun e w'=>e=.returned (.int .i64 (Lib.compareInt x.1 y.1))/\∃q os',w'=grow (W.drewN q) os':=by
 have hcon:=fun W'=>Zik x.1 y.1 W';generalize Lib.compareInt x.1 y.1=r at hcon ⊢;have HC:Hid (∀W',Calls Tryz.prog 151 #[.int .i64 x.1,.int .i64 y.1] W' fun e w'=>e=.returned (.int .i64 r)/\w'=W'):=hcon;clear hcon;go_enter Tryz.func82,Tryz.ntmps82;go_wp2_with (go_at_call 151;refine(HC.out _).mono ?_;rintro e w' ⟨rfl,rfl⟩)
 go_ret;exact⟨rfl,0,_,by rw[alloc_eq_grow,alloc_eq_grow,grow_grow];rfl⟩
theorem ZmK(blk off size:Nat)(w:World):CmpLays Tryz.prog 82 #[] ZcZ 4 (fun x y=>Lib.compareInt x.1 y.1) blk off size w:=
 fun _ _ _ _ x y=>Zid x y _
theorem Zn9(x y:Int×Int):ltOf (fun x y:Int×Int=>Lib.compareInt x.1 y.1) x y=decide (x.1<y.1):=by
 unfold ltOf Lib.compareInt
 by_cases h1:x.1<y.1
 simp[h1]
 by_cases h2:y.1<x.1<;>simp[h1,h2]
theorem Zpt:SWO (ltOf fun x y:Int×Int=>Lib.compareInt x.1 y.1) where
  irrefl x:=by rw[Zn9];simp
  trans x y z h1 h2:=by rw[Zn9] at *;simp at *;omega
  ntrans x y z h1 h2:=by rw[Zn9] at *;simp at *;omega
theorem Zns(blk cap:Nat)(d:Array (Int×Int))(w:World)(hH:HoldsK ZcZ 4 w blk 0 d)(hblk:blk<w.heap.size)(hsz:d.size<4611686018427387904):Calls Tryz.prog 81 #[.slice (some ⟨blk,0,none⟩) d.size cap,.func (.func 82) #[] #[]] w fun e w'=>e=.returned (.tuple #[])/\∃(d':Array (Int×Int)) (n:Nat) (os:Array Obj),PermIn 0 d.size d d'/\SortedIn (ltOf fun x y:Int×Int=>Lib.compareInt x.1 y.1) 0 d.size d'/\w'=sortWorldK ZcZ 4 w blk 0 n d' os:=by have eg:∀args w,(callFunc 82 args).run Tryz.prog w=.ok (.enter 82 args) w:=enters_of Tryz.func82 (by kernel_rfl) rfl;exact AnyQ.slices_SortFunc Zpo 4 Tryz.isAgg98 Tryz.sizeOf98 ZcZ (fun _=>rfl) (fun x v hv=>by simp[ZcZ] at hv;rcases hv with rfl|rfl|rfl|rfl<;>rfl) (fun x y=>Lib.compareInt x.1 y.1) Zpt 82 #[] blk 0 cap d w eg (ZmK blk 0 d.size w) hH hblk hsz
end Go.Proofs.YtfcgnpchbcmdeaaGreat
