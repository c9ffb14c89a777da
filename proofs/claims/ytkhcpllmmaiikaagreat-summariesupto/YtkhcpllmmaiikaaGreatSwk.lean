/-
  The library's sort at entries: the program's own text of it, laid beside the text for which the library's contract is proved; and what the comparison of two entries answers.
-/
import Derived.Test.YtkhcpllmmaiikaaGreatSwd
import Derived.Shelf.SlSortCmp.WholeK
import Derived.Shelf.SlSortCmp.NoneTotal
namespace Go.Proofs.YtkhcpllmmaiikaaGreat
open Go.Shelf Go.RowKit Go.Lib Go.Sort

def sortE_ren : Go.Shelf.Ren := ⟨fun | 6 => 63 | 15 => 129 | 14 => 128 | 28 => 172 | 29 => 173 | 20 => 164 | 21 => 165 | 22 => 166 | 23 => 167 | 24 => 168 | 25 => 169 | 26 => 170 | 27 => 171 | 46 => 205 | 47 => 206 | 48 => 207 | 49 => 208 | 50 => 209 | 57 => 242 | n => n, fun | 22 => 29 | 24 => 81 | 25 => 121 | 3 => 3 | 39 => 212 | 0 => 0 | 53 => 203 | 55 => 272 | 4 => 4 | 46 => 265 | 45 => 264 | 50 => 207 | 5 => 5 | 9 => 9 | 66 => 303 | 70 => 307 | 76 => 331 | 77 => 260 | n => n, fun n => n⟩

theorem sortE : SlLaysF0.n6 Tryz.prog sortE_ren := {
  mixed := by kernel_rfl,
  f6 := ⟨Tryz.f63.name, by decide, Tryz.func63.trans (congrArg some (by kernel_rfl))⟩,
  f14 := ⟨Tryz.f128.name, by decide, Tryz.func128.trans (congrArg some (by kernel_rfl))⟩,
  f15 := Tryz.func129.trans (congrArg some (by kernel_rfl)),
  f20 := ⟨Tryz.f164.name, by decide, Tryz.func164.trans (congrArg some (by kernel_rfl))⟩,
  f21 := ⟨Tryz.f165.name, by decide, Tryz.func165.trans (congrArg some (by kernel_rfl))⟩,
  f22 := ⟨Tryz.f166.name, by decide, Tryz.func166.trans (congrArg some (by kernel_rfl))⟩,
  f23 := ⟨Tryz.f167.name, by decide, Tryz.func167.trans (congrArg some (by kernel_rfl))⟩,
  f24 := ⟨Tryz.f168.name, by decide, Tryz.func168.trans (congrArg some (by kernel_rfl))⟩,
  f25 := ⟨Tryz.f169.name, by decide, Tryz.func169.trans (congrArg some (by kernel_rfl))⟩,
  f26 := ⟨Tryz.f170.name, by decide, Tryz.func170.trans (congrArg some (by kernel_rfl))⟩,
  f27 := ⟨Tryz.f171.name, by decide, Tryz.func171.trans (congrArg some (by kernel_rfl))⟩,
  f28 := Tryz.func172.trans (congrArg some (by kernel_rfl)),
  f29 := Tryz.func173.trans (congrArg some (by kernel_rfl)),
  f46 := ⟨Tryz.f205.name, by decide, Tryz.func205.trans (congrArg some (by kernel_rfl))⟩,
  f47 := Tryz.func206.trans (congrArg some (by kernel_rfl)),
  f48 := Tryz.func207.trans (congrArg some (by kernel_rfl)),
  f49 := ⟨Tryz.f208.name, by decide, Tryz.func208.trans (congrArg some (by kernel_rfl))⟩,
  f50 := ⟨Tryz.f209.name, by decide, Tryz.func209.trans (congrArg some (by kernel_rfl))⟩,
  f57 := ⟨Tryz.f242.name, by decide, Tryz.func242.trans (congrArg some (by kernel_rfl))⟩,
  t0 := Tryz.underlying0,
  a0 := Tryz.isAgg0,
  z0 := Tryz.sizeOf0,
  v0 := Tryz.zeroValue0,
  t3 := Tryz.underlying3,
  a3 := Tryz.isAgg3,
  z3 := Tryz.sizeOf3,
  v3 := Tryz.zeroValue3,
  t4 := Tryz.underlying4,
  a4 := Tryz.isAgg4,
  z4 := Tryz.sizeOf4,
  v4 := Tryz.zeroValue4,
  t5 := Tryz.underlying5,
  a5 := Tryz.isAgg5,
  z5 := Tryz.sizeOf5,
  v5 := Tryz.zeroValue5,
  t9 := Tryz.underlying9,
  a9 := Tryz.isAgg9,
  z9 := Tryz.sizeOf9,
  v9 := Tryz.zeroValue9,
  t22 := Tryz.underlying29,
  a22 := Tryz.isAgg29,
  z22 := Tryz.sizeOf29,
  v22 := Tryz.zeroValue29,
  t25 := Tryz.underlying121,
  a25 := Tryz.isAgg121,
  z25 := Tryz.sizeOf121,
  v25 := Tryz.zeroValue121,
  t39 := Tryz.underlying212,
  a39 := Tryz.isAgg212,
  z39 := Tryz.sizeOf212,
  v39 := Tryz.zeroValue212,
  t45 := Tryz.underlying264,
  a45 := Tryz.isAgg264,
  z45 := Tryz.sizeOf264,
  v45 := Tryz.zeroValue264,
  t46 := Tryz.underlying265,
  a46 := Tryz.isAgg265,
  z46 := Tryz.sizeOf265,
  v46 := Tryz.zeroValue265,
  t50 := Tryz.underlying207,
  a50 := Tryz.isAgg207,
  z50 := Tryz.sizeOf207,
  v50 := Tryz.zeroValue207,
  t53 := Tryz.underlying203,
  a53 := Tryz.isAgg203,
  z53 := Tryz.sizeOf203,
  v53 := Tryz.zeroValue203,
  t55 := Tryz.underlying272,
  a55 := Tryz.isAgg272,
  z55 := Tryz.sizeOf272,
  v55 := Tryz.zeroValue272,
  t66 := Tryz.underlying303,
  a66 := Tryz.isAgg303,
  z66 := Tryz.sizeOf303,
  v66 := Tryz.zeroValue303,
  t70 := Tryz.underlying307,
  a70 := Tryz.isAgg307,
  z70 := Tryz.sizeOf307,
  v70 := Tryz.zeroValue307,
  t76 := Tryz.underlying331,
  a76 := Tryz.isAgg331,
  z76 := Tryz.sizeOf331,
  v76 := Tryz.zeroValue331,
  t77 := Tryz.underlying260,
  a77 := Tryz.isAgg260,
  z77 := Tryz.sizeOf260,
  v77 := Tryz.zeroValue260 }

/-- A VALUE AND ITS WEIGHT AS AN ENTRY's CELLS. -/
def encP (x : Int × Int) : List Value := [.int .i64 x.1, .int .i64 0, .int .i64 0, .int .i64 x.2]

set_option maxHeartbeats 400000 in
theorem compare_any (x y : Int) (w : World) : Calls Tryz.prog 130 #[.int .i64 x, .int .i64 y] w fun e w' => e = .returned (.int .i64 (Lib.compareInt x y)) ∧ w' = w := by
  unfold Lib.compareInt
  rcases Int.lt_trichotomy x y with h | h | h
  · rw [if_pos h]
    go_enter Tryz.func130, Tryz.ntmps130
    go_wp2
    all_goals go_ret
    all_goals exact ⟨rfl, rfl⟩
  · subst h
    rw [if_neg (Int.lt_irrefl _), if_neg (Int.lt_irrefl _)]
    go_enter Tryz.func130, Tryz.ntmps130
    go_wp2
    all_goals go_ret
    all_goals exact ⟨rfl, rfl⟩
  · have h2 : ¬ x < y := by omega
    rw [if_neg h2, if_pos h]
    go_enter Tryz.func130, Tryz.ntmps130
    go_wp2
    all_goals go_ret
    all_goals exact ⟨rfl, rfl⟩

set_option maxHeartbeats 1000000 in
theorem byValue_any (x y : Int × Int) (W : World) : Calls Tryz.prog 64 #[.agg #[.int .i64 x.1, .int .i64 0, .int .i64 0, .int .i64 x.2], .agg #[.int .i64 y.1, .int .i64 0, .int .i64 0, .int .i64 y.2]] W fun e w' => e = .returned (.int .i64 (Lib.compareInt x.1 y.1)) ∧ ∃ q os', w' = grow (W.drewN q) os' := by
  have hcon := fun W' => compare_any x.1 y.1 W'
  generalize Lib.compareInt x.1 y.1 = r at hcon ⊢
  have HC : Hid (∀ W', Calls Tryz.prog 130 #[.int .i64 x.1, .int .i64 y.1] W' fun e w' => e = .returned (.int .i64 r) ∧ w' = W') := hcon
  clear hcon
  go_enter Tryz.func64, Tryz.ntmps64
  go_wp2_with (go_at_call 130; refine (HC.out _).mono ?_; rintro e w' ⟨rfl, rfl⟩)
  go_ret
  exact ⟨rfl, 0, _, by rw [alloc_eq_grow, alloc_eq_grow, grow_grow]; rfl⟩

theorem cmpLaysE (blk off size : Nat) (w : World) : CmpLays Tryz.prog 64 #[] encP 4 (fun x y => Lib.compareInt x.1 y.1) blk off size w :=
  fun _ _ _ _ x y => byValue_any x y _

theorem ltLo (x y : Int × Int) : ltOf (fun x y : Int × Int => Lib.compareInt x.1 y.1) x y = decide (x.1 < y.1) := by
  unfold ltOf Lib.compareInt
  by_cases h1 : x.1 < y.1
  · simp [h1]
  · by_cases h2 : y.1 < x.1 <;> simp [h1, h2]

theorem swoLo : SWO (ltOf fun x y : Int × Int => Lib.compareInt x.1 y.1) where
  irrefl x := by rw [ltLo]; simp
  trans x y z h1 h2 := by rw [ltLo] at *; simp at *; omega
  ntrans x y z h1 h2 := by rw [ltLo] at *; simp at *; omega

theorem sort_any (blk cap : Nat) (d : Array (Int × Int)) (w : World) (hH : HoldsK encP 4 w blk 0 d) (hblk : blk < w.heap.size) (hsz : d.size < 4611686018427387904) :
    Calls Tryz.prog 63 #[.slice (some ⟨blk, 0, none⟩) d.size cap, .func (.func 64) #[] #[]] w fun e w' => e = .returned (.tuple #[]) ∧ ∃ (d' : Array (Int × Int)) (n : Nat) (os : Array Obj), PermIn 0 d.size d d' ∧ SortedIn (ltOf fun x y : Int × Int => Lib.compareInt x.1 y.1) 0 d.size d' ∧ w' = sortWorldK encP 4 w blk 0 n d' os := by
  have eg : ∀ args w, (callFunc 64 args).run Tryz.prog w = .ok (.enter 64 args) w := enters_of Tryz.func64 (by kernel_rfl) rfl
  exact AnyQ.slices_SortFunc sortE 4 Tryz.isAgg81 Tryz.sizeOf81 encP (fun _ => rfl) (fun x v hv => by simp [encP] at hv; rcases hv with rfl | rfl | rfl | rfl <;> rfl) (fun x y => Lib.compareInt x.1 y.1) swoLo 64 #[] blk 0 cap d w eg (cmpLaysE blk 0 d.size w) hH hblk hsz

theorem sort_none (p : Option Addr) (cap : Nat) (w : World) :
    Calls Tryz.prog 63 #[.slice p 0 cap, .func (.func 64) #[] #[]] w fun e w' => e = .returned (.tuple #[]) ∧ w' = w := AnyF.slices_SortFunc_none { sortE with } p cap _ w
end Go.Proofs.YtkhcpllmmaiikaaGreat
