/-
  The library's sort, at exceptions and at words with their weights.
  How exceptions compare; the sort of exceptions.
  The first half of Make: defaults, and which rows stand out.
  Make's two loops: what each round leaves; what holds of the groups.
-/
import Derived.Shelf.SlSortCmp.WholeK
import Derived.Shelf.SlSortCmp.NoneTotal
import Derived.Test.YtfcgnpchbcmdeaaGreatProg
import Derived.Test.YtfcgnpchbcmdeaaGreatZtau
import Derived.Test.YtfcgnpchbcmdeaaGreatZtak
import Derived.Test.YtfcgnpchbcmdeaaGreatZtav
namespace Go.Proofs
open Go.Shelf
def Tryz.sortX_ren : Go.Shelf.Ren := ⟨fun | 6 => 208 | 15 => 150 | 14 => 258 | 28 => 201 | 29 => 202 | 20 => 302 | 21 => 303 | 22 => 304 | 23 => 305 | 24 => 306 | 25 => 307 | 26 => 308 | 27 => 309 | 46 => 332 | 47 => 248 | 48 => 249 | 49 => 333 | 50 => 334 | 57 => 348 | n => n, fun | 22 => 166 | 24 => 184 | 25 => 240 | 3 => 3 | 39 => 243 | 0 => 0 | 53 => 185 | 55 => 306 | 4 => 4 | 46 => 299 | 45 => 298 | 50 => 238 | 5 => 5 | 9 => 9 | 66 => 342 | 70 => 346 | 76 => 374 | 77 => 294 | n => n, fun | n => n⟩
theorem Tryz.sortX : Go.Proofs.SlLaysF0.n6 Tryz.prog Tryz.sortX_ren := {
  mixed := by kernel_rfl
  f6 := ⟨Tryz.f208.name, by decide, Tryz.func208.trans (congrArg some (by kernel_rfl))⟩
  f14 := ⟨Tryz.f258.name, by decide, Tryz.func258.trans (congrArg some (by kernel_rfl))⟩
  f15 := Tryz.func150.trans (congrArg some (by kernel_rfl))
  f20 := ⟨Tryz.f302.name, by decide, Tryz.func302.trans (congrArg some (by kernel_rfl))⟩
  f21 := ⟨Tryz.f303.name, by decide, Tryz.func303.trans (congrArg some (by kernel_rfl))⟩
  f22 := ⟨Tryz.f304.name, by decide, Tryz.func304.trans (congrArg some (by kernel_rfl))⟩
  f23 := ⟨Tryz.f305.name, by decide, Tryz.func305.trans (congrArg some (by kernel_rfl))⟩
  f24 := ⟨Tryz.f306.name, by decide, Tryz.func306.trans (congrArg some (by kernel_rfl))⟩
  f25 := ⟨Tryz.f307.name, by decide, Tryz.func307.trans (congrArg some (by kernel_rfl))⟩
  f26 := ⟨Tryz.f308.name, by decide, Tryz.func308.trans (congrArg some (by kernel_rfl))⟩
  f27 := ⟨Tryz.f309.name, by decide, Tryz.func309.trans (congrArg some (by kernel_rfl))⟩
  f28 := Tryz.func201.trans (congrArg some (by kernel_rfl))
  f29 := Tryz.func202.trans (congrArg some (by kernel_rfl))
  f46 := ⟨Tryz.f332.name, by decide, Tryz.func332.trans (congrArg some (by kernel_rfl))⟩
  f47 := Tryz.func248.trans (congrArg some (by kernel_rfl))
  f48 := Tryz.func249.trans (congrArg some (by kernel_rfl))
  f49 := ⟨Tryz.f333.name, by decide, Tryz.func333.trans (congrArg some (by kernel_rfl))⟩
  f50 := ⟨Tryz.f334.name, by decide, Tryz.func334.trans (congrArg some (by kernel_rfl))⟩
  f57 := ⟨Tryz.f348.name, by decide, Tryz.func348.trans (congrArg some (by kernel_rfl))⟩
  t0 := Tryz.underlying0
  a0 := Tryz.isAgg0
  z0 := Tryz.sizeOf0
  v0 := Tryz.zeroValue0
  t3 := Tryz.underlying3
  a3 := Tryz.isAgg3
  z3 := Tryz.sizeOf3
  v3 := Tryz.zeroValue3
  t4 := Tryz.underlying4
  a4 := Tryz.isAgg4
  z4 := Tryz.sizeOf4
  v4 := Tryz.zeroValue4
  t5 := Tryz.underlying5
  a5 := Tryz.isAgg5
  z5 := Tryz.sizeOf5
  v5 := Tryz.zeroValue5
  t9 := Tryz.underlying9
  a9 := Tryz.isAgg9
  z9 := Tryz.sizeOf9
  v9 := Tryz.zeroValue9
  t22 := Tryz.underlying166
  a22 := Tryz.isAgg166
  z22 := Tryz.sizeOf166
  v22 := Tryz.zeroValue166
  t25 := Tryz.underlying240
  a25 := Tryz.isAgg240
  z25 := Tryz.sizeOf240
  v25 := Tryz.zeroValue240
  t39 := Tryz.underlying243
  a39 := Tryz.isAgg243
  z39 := Tryz.sizeOf243
  v39 := Tryz.zeroValue243
  t45 := Tryz.underlying298
  a45 := Tryz.isAgg298
  z45 := Tryz.sizeOf298
  v45 := Tryz.zeroValue298
  t46 := Tryz.underlying299
  a46 := Tryz.isAgg299
  z46 := Tryz.sizeOf299
  v46 := Tryz.zeroValue299
  t50 := Tryz.underlying238
  a50 := Tryz.isAgg238
  z50 := Tryz.sizeOf238
  v50 := Tryz.zeroValue238
  t53 := Tryz.underlying185
  a53 := Tryz.isAgg185
  z53 := Tryz.sizeOf185
  v53 := Tryz.zeroValue185
  t55 := Tryz.underlying306
  a55 := Tryz.isAgg306
  z55 := Tryz.sizeOf306
  v55 := Tryz.zeroValue306
  t66 := Tryz.underlying342
  a66 := Tryz.isAgg342
  z66 := Tryz.sizeOf342
  v66 := Tryz.zeroValue342
  t70 := Tryz.underlying346
  a70 := Tryz.isAgg346
  z70 := Tryz.sizeOf346
  v70 := Tryz.zeroValue346
  t76 := Tryz.underlying374
  a76 := Tryz.isAgg374
  z76 := Tryz.sizeOf374
  v76 := Tryz.zeroValue374
  t77 := Tryz.underlying294
  a77 := Tryz.isAgg294
  z77 := Tryz.sizeOf294
  v77 := Tryz.zeroValue294 }
def Tryz.sortW_ren : Go.Shelf.Ren := ⟨fun | 6 => 264 | 15 => 150 | 14 => 313 | 28 => 201 | 29 => 202 | 20 => 335 | 21 => 336 | 22 => 337 | 23 => 338 | 24 => 339 | 25 => 340 | 26 => 341 | 27 => 342 | 46 => 349 | 47 => 248 | 48 => 249 | 49 => 350 | 50 => 351 | 57 => 353 | n => n, fun | 22 => 356 | 24 => 358 | 25 => 360 | 3 => 3 | 39 => 243 | 0 => 0 | 53 => 185 | 55 => 306 | 4 => 4 | 46 => 299 | 45 => 298 | 50 => 238 | 5 => 5 | 9 => 9 | 66 => 342 | 70 => 346 | 76 => 374 | 77 => 294 | n => n, fun | n => n⟩
theorem Tryz.sortW : Go.Proofs.SlLaysF0.n6 Tryz.prog Tryz.sortW_ren := {
  mixed := by kernel_rfl
  f6 := ⟨Tryz.f264.name, by decide, Tryz.func264.trans (congrArg some (by kernel_rfl))⟩
  f14 := ⟨Tryz.f313.name, by decide, Tryz.func313.trans (congrArg some (by kernel_rfl))⟩
  f15 := Tryz.func150.trans (congrArg some (by kernel_rfl))
  f20 := ⟨Tryz.f335.name, by decide, Tryz.func335.trans (congrArg some (by kernel_rfl))⟩
  f21 := ⟨Tryz.f336.name, by decide, Tryz.func336.trans (congrArg some (by kernel_rfl))⟩
  f22 := ⟨Tryz.f337.name, by decide, Tryz.func337.trans (congrArg some (by kernel_rfl))⟩
  f23 := ⟨Tryz.f338.name, by decide, Tryz.func338.trans (congrArg some (by kernel_rfl))⟩
  f24 := ⟨Tryz.f339.name, by decide, Tryz.func339.trans (congrArg some (by kernel_rfl))⟩
  f25 := ⟨Tryz.f340.name, by decide, Tryz.func340.trans (congrArg some (by kernel_rfl))⟩
  f26 := ⟨Tryz.f341.name, by decide, Tryz.func341.trans (congrArg some (by kernel_rfl))⟩
  f27 := ⟨Tryz.f342.name, by decide, Tryz.func342.trans (congrArg some (by kernel_rfl))⟩
  f28 := Tryz.func201.trans (congrArg some (by kernel_rfl))
  f29 := Tryz.func202.trans (congrArg some (by kernel_rfl))
  f46 := ⟨Tryz.f349.name, by decide, Tryz.func349.trans (congrArg some (by kernel_rfl))⟩
  f47 := Tryz.func248.trans (congrArg some (by kernel_rfl))
  f48 := Tryz.func249.trans (congrArg some (by kernel_rfl))
  f49 := ⟨Tryz.f350.name, by decide, Tryz.func350.trans (congrArg some (by kernel_rfl))⟩
  f50 := ⟨Tryz.f351.name, by decide, Tryz.func351.trans (congrArg some (by kernel_rfl))⟩
  f57 := ⟨Tryz.f353.name, by decide, Tryz.func353.trans (congrArg some (by kernel_rfl))⟩
  t0 := Tryz.underlying0
  a0 := Tryz.isAgg0
  z0 := Tryz.sizeOf0
  v0 := Tryz.zeroValue0
  t3 := Tryz.underlying3
  a3 := Tryz.isAgg3
  z3 := Tryz.sizeOf3
  v3 := Tryz.zeroValue3
  t4 := Tryz.underlying4
  a4 := Tryz.isAgg4
  z4 := Tryz.sizeOf4
  v4 := Tryz.zeroValue4
  t5 := Tryz.underlying5
  a5 := Tryz.isAgg5
  z5 := Tryz.sizeOf5
  v5 := Tryz.zeroValue5
  t9 := Tryz.underlying9
  a9 := Tryz.isAgg9
  z9 := Tryz.sizeOf9
  v9 := Tryz.zeroValue9
  t22 := Tryz.underlying356
  a22 := Tryz.isAgg356
  z22 := Tryz.sizeOf356
  v22 := Tryz.zeroValue356
  t25 := Tryz.underlying360
  a25 := Tryz.isAgg360
  z25 := Tryz.sizeOf360
  v25 := Tryz.zeroValue360
  t39 := Tryz.underlying243
  a39 := Tryz.isAgg243
  z39 := Tryz.sizeOf243
  v39 := Tryz.zeroValue243
  t45 := Tryz.underlying298
  a45 := Tryz.isAgg298
  z45 := Tryz.sizeOf298
  v45 := Tryz.zeroValue298
  t46 := Tryz.underlying299
  a46 := Tryz.isAgg299
  z46 := Tryz.sizeOf299
  v46 := Tryz.zeroValue299
  t50 := Tryz.underlying238
  a50 := Tryz.isAgg238
  z50 := Tryz.sizeOf238
  v50 := Tryz.zeroValue238
  t53 := Tryz.underlying185
  a53 := Tryz.isAgg185
  z53 := Tryz.sizeOf185
  v53 := Tryz.zeroValue185
  t55 := Tryz.underlying306
  a55 := Tryz.isAgg306
  z55 := Tryz.sizeOf306
  v55 := Tryz.zeroValue306
  t66 := Tryz.underlying342
  a66 := Tryz.isAgg342
  z66 := Tryz.sizeOf342
  v66 := Tryz.zeroValue342
  t70 := Tryz.underlying346
  a70 := Tryz.isAgg346
  z70 := Tryz.sizeOf346
  v70 := Tryz.zeroValue346
  t76 := Tryz.underlying374
  a76 := Tryz.isAgg374
  z76 := Tryz.sizeOf374
  v76 := Tryz.zeroValue374
  t77 := Tryz.underlying294
  a77 := Tryz.isAgg294
  z77 := Tryz.sizeOf294
  v77 := Tryz.zeroValue294 }
end Go.Proofs

namespace Go.Proofs.YtfcgnpchbcmdeaaGreat
open Go.RowKit Go.Lib Go.Sort

def orI (a b : Int) : Int := if a = 0 then b else a

set_option maxHeartbeats 1000000 in
theorem or_any (q c : Nat) (a b : Int) (w : World) (h0 : w.cell? ⟨q, 0, none⟩ = some (.int .i64 a)) (h1 : w.cell? ⟨q, 1, none⟩ = some (.int .i64 b)) :
    Calls Tryz.prog 192 #[.slice (some ⟨q, 0, none⟩) 2 c] w fun e w' => e = .returned (.int .i64 (orI a b)) ∧ w' = w := by
  have HO : Hid (orI a b = if a = 0 then b else a) := rfl
  generalize orI a b = r at *
  go_enter Tryz.func192, Tryz.ntmps192
  go_wp2_with fail
  go_loop [8] (fun ti => ∃ k : Nat, ti = .int .i64 k ∧ k ≤ 2 ∧ (1 ≤ k → Hid (a = 0)) ∧ (2 ≤ k → Hid (b = 0))) (fun ti => 2 - (intOf ti).toNat)
  case atStart => exact ⟨0, rfl, by omega, fun h => by omega, fun h => by omega⟩
  case round =>
    obtain ⟨k, rfl, hk, ha, hb⟩ := hrel
    rcases (show k = 0 ∨ k = 1 ∨ k = 2 by omega) with rfl | rfl | rfl
    · clear ha hb
      by_cases ea : a = 0
      · have eb : (a != 0) = false := by simp [ea]
        have HA : Hid (a = 0) := ea
        clear ea
        go_wp2
        go_roundw
        case rel => exact ⟨1, rfl, by omega, fun _ => HA, fun h => by omega⟩
        case measure => simp [intOf]
      · have eb : (a != 0) = true := by simpa using ea
        have HR : Hid (r = a) := by show _ = _; rw [HO.out, if_neg ea]
        clear ea HO
        go_wp2
        go_ret
        exact ⟨by rw [HR.out]; rfl, rfl⟩
    · have HA := ha (by omega)
      clear ha hb
      by_cases ea : b = 0
      · have eb : (b != 0) = false := by simp [ea]
        have HB : Hid (b = 0) := ea
        clear ea
        go_wp2
        go_roundw
        case rel => exact ⟨2, rfl, by omega, fun _ => HA, fun _ => HB⟩
        case measure => simp [intOf]
      · have eb : (b != 0) = true := by simpa using ea
        have HR : Hid (r = b) := by show _ = _; rw [HO.out, if_pos HA.out]
        clear ea HO
        go_wp2
        go_ret
        exact ⟨by rw [HR.out]; rfl, rfl⟩
    · have HA := ha (by omega)
      have HB := hb (by omega)
      have HR : Hid (r = 0) := by show _ = _; rw [HO.out, if_pos HA.out, HB.out]
      clear ha hb HO
      go_wp2
      go_ret
      exact ⟨by rw [HR.out]; rfl, rfl⟩

/-- New blocks and draws alone. -/
def Gr (W w' : World) : Prop := ∃ q os, w' = grow (W.drewN q) os
theorem Gr.refl (W : World) : Gr W W := ⟨0, #[], by simp; rfl⟩
theorem Gr.alloc {W w' : World} (h : Gr W w') (o : Obj) : Gr W (w'.alloc o) := by
  obtain ⟨q, os, rfl⟩ := h
  exact ⟨q, os ++ #[o], by rw [alloc_eq_grow, grow_grow]⟩
theorem Gr.drew {W w' : World} (h : Gr W w') : Gr W w'.drew := by
  obtain ⟨q, os, rfl⟩ := h
  exact ⟨q + 1, os, rfl⟩
theorem Gr.below {W w' : World} (h : Gr W w') : Below W.heap.size W w' := by
  obtain ⟨q, os, rfl⟩ := h
  refine ⟨rfl, rfl, rfl, by simp [grow], fun k hk => ?_⟩
  rw [Go.Sort.heap_grow_old _ _ (by simpa using hk)]
  rfl

def cmpX (x y : XS) : Int := orI (Lib.compareInt (x.row : Nat) (y.row : Nat)) (Lib.compareInt (x.f : Nat) (y.f : Nat))

set_option maxRecDepth 100000 in
set_option maxHeartbeats 4000000 in
theorem byRowAndFeature_any (x y : XS) (W : World) : Calls Tryz.prog 148 #[.agg #[.int .i64 (x.row : Nat), .int .i64 (x.f : Nat), .int .i64 (x.bin : Nat)], .agg #[.int .i64 (y.row : Nat), .int .i64 (y.f : Nat), .int .i64 (y.bin : Nat)]] W fun e w' => e = .returned (.int .i64 (cmpX x y)) ∧ Gr W w' := by
  have HC : Hid (cmpX x y = orI (Lib.compareInt (x.row : Nat) (y.row : Nat)) (Lib.compareInt (x.f : Nat) (y.f : Nat))) := rfl
  have H1 : Hid (∀ w : World, Calls Tryz.prog 151 #[.int .i64 (x.row : Nat), .int .i64 (y.row : Nat)] w fun e w' => e = .returned (.int .i64 (Lib.compareInt (x.row : Nat) (y.row : Nat))) ∧ w' = w) := fun w => Tryz.cmp_Compare_int _ _ w
  have H2 : Hid (∀ w : World, Calls Tryz.prog 151 #[.int .i64 (x.f : Nat), .int .i64 (y.f : Nat)] w fun e w' => e = .returned (.int .i64 (Lib.compareInt (x.f : Nat) (y.f : Nat))) ∧ w' = w) := fun w => Tryz.cmp_Compare_int _ _ w
  obtain ⟨x1, x2, x3⟩ := x
  obtain ⟨y1, y2, y3⟩ := y
  simp only at HC H1 H2 ⊢
  generalize cmpX ⟨x1, x2, x3⟩ ⟨y1, y2, y3⟩ = r at *
  generalize Lib.compareInt (x1 : Nat) (y1 : Nat) = c1 at *
  generalize Lib.compareInt (x2 : Nat) (y2 : Nat) = c2 at *
  go_enter Tryz.func148, Tryz.ntmps148
  go_upto_region 1 with fail
  generalize hw0 : (W.alloc (.cells #[.int .i64 (x1 : Nat), .int .i64 (x2 : Nat), .int .i64 (x3 : Nat)] 184)).alloc (.cells #[.int .i64 (y1 : Nat), .int .i64 (y2 : Nat), .int .i64 (y3 : Nat)] 184) = w0
  have hs0 : w0.heap.size = W.heap.size + 1 + 1 := by rw [← hw0]; simp
  have HG0 : Hid (Gr W w0) := by show Gr _ _; rw [← hw0]; exact ((Gr.refl W).alloc _).alloc _
  have a0 : w0.cell? ⟨W.heap.size, 0, none⟩ = some (.int .i64 (x1 : Nat)) := by rw [← hw0]; simp [go_sem]
  have a1 : w0.cell? ⟨W.heap.size, 1, none⟩ = some (.int .i64 (x2 : Nat)) := by rw [← hw0]; simp [go_sem]
  have b0 : w0.cell? ⟨W.heap.size + 1, 0, none⟩ = some (.int .i64 (y1 : Nat)) := by rw [← hw0]; simp [go_sem]
  have b1 : w0.cell? ⟨W.heap.size + 1, 1, none⟩ = some (.int .i64 (y2 : Nat)) := by rw [← hw0]; simp [go_sem]
  have l0 : W.heap.size < w0.heap.size := by omega
  have l1 : W.heap.size + 1 < w0.heap.size := by omega
  clear hw0 hs0
  have H3 : Hid (∀ w : World, w.cell? ⟨w0.heap.size, 0, none⟩ = some (.int .i64 c1) → w.cell? ⟨w0.heap.size, 1, none⟩ = some (.int .i64 c2) → Calls Tryz.prog 192 #[.slice (some ⟨w0.heap.size, 0, none⟩) 2 2] w fun e w' => e = .returned (.int .i64 r) ∧ w' = w) := fun w h0 h1 => by
    rw [HC.out]
    exact or_any w0.heap.size 2 c1 c2 w h0 h1
  go_region_held3 (fun w' => w'.cell? ⟨W.heap.size, 0, none⟩ = some (.int .i64 (x1 : Nat)) ∧ w'.cell? ⟨W.heap.size, 1, none⟩ = some (.int .i64 (x2 : Nat)) ∧ w'.cell? ⟨W.heap.size + 1, 0, none⟩ = some (.int .i64 (y1 : Nat)) ∧ w'.cell? ⟨W.heap.size + 1, 1, none⟩ = some (.int .i64 (y2 : Nat))) (exact ⟨(Below.cell (B := w0.heap.size) (w := w0) (p := ⟨W.heap.size, 0, none⟩) (by repeat (first | with_reducible exact Below.refl _ _ | with_reducible apply Below.drew | (refine Below.alloc ?_ (by first | omega | (simp; omega) | simp) _))) l0).trans a0, (Below.cell (B := w0.heap.size) (w := w0) (p := ⟨W.heap.size, 1, none⟩) (by repeat (first | with_reducible exact Below.refl _ _ | with_reducible apply Below.drew | (refine Below.alloc ?_ (by first | omega | (simp; omega) | simp) _))) l0).trans a1, (Below.cell (B := w0.heap.size) (w := w0) (p := ⟨W.heap.size + 1, 0, none⟩) (by repeat (first | with_reducible exact Below.refl _ _ | with_reducible apply Below.drew | (refine Below.alloc ?_ (by first | omega | (simp; omega) | simp) _))) l1).trans b0, (Below.cell (B := w0.heap.size) (w := w0) (p := ⟨W.heap.size + 1, 1, none⟩) (by repeat (first | with_reducible exact Below.refl _ _ | with_reducible apply Below.drew | (refine Below.alloc ?_ (by first | omega | (simp; omega) | simp) _))) l1).trans b1⟩) (first | (go_at_call_of 151 (x1); refine (H1.out _).mono ?_; rintro e w' ⟨rfl, rfl⟩) | (go_at_call_of 151 (x2); refine (H2.out _).mono ?_; rintro e w' ⟨rfl, rfl⟩) | (go_at_call 192; refine (H3.out _ (by simp [go_sem]) (by simp [go_sem])).mono ?_; rintro e w' ⟨rfl, rfl⟩))
  go_wp2
  go_ret
  exact ⟨rfl, (HG0.out.alloc _).drew⟩

/-! The sort of exceptions. -/
def encX (x : XS) : List Value := cellsX x
instance : Inhabited XS := ⟨⟨0, 0, 0⟩⟩
theorem ltX (x y : XS) : ltOf cmpX x y = decide (x.row < y.row ∨ x.row = y.row ∧ x.f < y.f) := by
  obtain ⟨x1, x2, x3⟩ := x
  obtain ⟨y1, y2, y3⟩ := y
  unfold ltOf cmpX orI Lib.compareInt
  simp only
  by_cases h1 : x1 < y1
  · simp [h1]
  · by_cases h2 : y1 < x1
    · have : ¬ x1 = y1 := by omega
      simp [h1, h2, this]
    · have e : x1 = y1 := by omega
      subst e
      by_cases h3 : x2 < y2
      · simp [h3]
      · by_cases h4 : y2 < x2 <;> simp [h3, h4]
theorem swoX : SWO (ltOf cmpX) where
  irrefl x := by rw [ltX]; simp
  trans x y z h1 h2 := by rw [ltX] at *; simp at *; omega
  ntrans x y z h1 h2 := by rw [ltX] at *; simp at *; omega
theorem cmpLaysX (blk off size : Nat) (w : World) : CmpLays Tryz.prog 148 #[] encX 3 cmpX blk off size w :=
  fun _ _ _ _ x y => byRowAndFeature_any x y _
theorem sortX_any (blk cap : Nat) (d : Array XS) (w : World) (hH : HoldsK encX 3 w blk 0 d) (hblk : blk < w.heap.size) (hsz : d.size < 4611686018427387904) :
    Calls Tryz.prog 208 #[.slice (some ⟨blk, 0, none⟩) d.size cap, .func (.func 148) #[] #[]] w fun e w' => e = .returned (.tuple #[]) ∧ ∃ (d' : Array XS) (n : Nat) (os : Array Obj), PermIn 0 d.size d d' ∧ SortedIn (ltOf cmpX) 0 d.size d' ∧ w' = sortWorldK encX 3 w blk 0 n d' os := by
  have eg : ∀ args w, (callFunc 148 args).run Tryz.prog w = .ok (.enter 148 args) w := enters_of Tryz.func148 (by kernel_rfl) rfl
  exact AnyQ.slices_SortFunc Tryz.sortX 3 Tryz.isAgg184 Tryz.sizeOf184 encX (fun _ => rfl) (fun x v hv => by simp [encX, cellsX] at hv; rcases hv with rfl | rfl | rfl <;> rfl) cmpX swoX 148 #[] blk 0 cap d w eg (cmpLaysX blk 0 d.size w) hH hblk hsz
theorem sortX_none (p : Option Addr) (cap : Nat) (w : World) :
    Calls Tryz.prog 208 #[.slice p 0 cap, .func (.func 148) #[] #[]] w fun e w' => e = .returned (.tuple #[]) ∧ w' = w := AnyF.slices_SortFunc_none { Tryz.sortX with } p cap _ w

theorem flatX_key (L : List XS) : ∀ (i r : Nat), i < L.length → r < 3 → (flatX L)[i * 3 + r]? = (cellsX (L.getD i ⟨0, 0, 0⟩))[r]? := by
  induction L with
  | nil => intro i r hi; simp at hi
  | cons e L ih =>
    intro i r hi hr
    cases i with
    | zero => simp only [flatX, Nat.zero_mul, Nat.zero_add, List.getD_cons_zero]; rw [List.getElem?_append_left (by simpa [cellsX] using hr)]
    | succ i =>
      simp only [flatX, List.getD_cons_succ]
      rw [List.getElem?_append_right (by simp [cellsX]; omega)]
      have := ih i r (by simpa using hi) hr
      rw [← this]
      congr 1
      simp [cellsX]; omega
theorem flatK_X (d : List XS) : (Go.Sort.flatK encX 3 d.toArray).toList = flatX d := by
  apply List.ext_getElem?
  intro t
  by_cases ht : t < d.length * 3
  · have hk := flatX_key d (t / 3) (t % 3) (by omega) (by omega)
    rw [show t / 3 * 3 + t % 3 = t by omega] at hk
    rw [hk, Array.getElem?_toList]
    have hd : t / 3 < d.length := by omega
    simp only [Go.Sort.flatK]
    rw [Array.getElem?_map]
    simp [ht, hd, encX, cellsX, List.getD]
    rcases (show t % 3 = 0 ∨ t % 3 = 1 ∨ t % 3 = 2 by omega) with e | e | e <;> simp [e]
  · rw [List.getElem?_eq_none (by simp; omega), List.getElem?_eq_none (by rw [flatX_len]; omega)]
theorem ownX_sorted {w : World} {base g cap m : Nat} {os : Array Obj} {P D : List XS} (hl : D.length = P.length) (h : OwnX w base (.slice (some ⟨g, 0, none⟩) P.length cap) P) :
    OwnX (Go.Proofs.sortWorldK encX 3 w g 0 m D.toArray os) base (.slice (some ⟨g, 0, none⟩) P.length cap) D ∧ w.grownBy (Go.Proofs.sortWorldK encX 3 w g 0 m D.toArray os) (some g) := by
  rcases h.2 with ⟨e, _⟩ | ⟨g', cap', cur, e, hb, hg, hnc, hcm, hcs, htake⟩
  · simp at e
  simp only [Value.slice.injEq, Option.some.injEq, Addr.mk.injEq, and_true, true_and] at e
  obtain ⟨rfl, rfl⟩ := e
  have hgl : g < w.heap.size := (Array.getElem?_eq_some_iff.1 hg).1
  have hF : (Go.Sort.flatK encX 3 D.toArray).size = P.length * 3 := by simp [hl]
  have hh : (Go.Proofs.sortWorldK encX 3 w g 0 m D.toArray os).heap[g]? = some (.cells (Go.Sort.putCells id 0 (Go.Sort.flatK encX 3 D.toArray) cur) 184 (0, 0)) := by
    unfold Go.Proofs.sortWorldK Go.Sort.putRowK
    rw [Go.Sort.heap_grow_old _ _ (by simpa using hgl)]
    simp [Go.Sort.putRow, Go.Sort.mapBlock, Go.Sort.ahead, Array.getElem?_modify, hg, Go.Sort.onCells]
  refine ⟨⟨by rw [flatX_len], .inr ⟨g, cap, _, by simp [hl], hb, hh, by simpa [hl] using hnc, hcm, by simp [Go.Sort.putCells, hcs], ?_⟩⟩, ⟨rfl, rfl, rfl, ?_, fun k hk hne => ?_⟩⟩
  · rw [← flatK_X, show D.length * 3 = (Go.Sort.flatK encX 3 D.toArray).size by simp]
    exact take_put cur _ (by rw [hF, hcs]; exact Nat.mul_le_mul_right _ hnc)
  · unfold Go.Proofs.sortWorldK Go.Sort.putRowK
    simp
  · unfold Go.Proofs.sortWorldK Go.Sort.putRowK
    rw [Go.Sort.heap_grow_old _ _ (by simpa using hk)]
    have : g ≠ k := fun e => hne (by rw [e])
    simp [Go.Sort.putRow, Go.Sort.mapBlock, Go.Sort.ahead, Array.getElem?_modify, this]
theorem ownX_holds {w : World} {base g cap : Nat} {P : List XS} (h : OwnX w base (.slice (some ⟨g, 0, none⟩) P.length cap) P) : Go.Sort.HoldsK encX 3 w g 0 P.toArray := by
  intro j hj
  have hj' : j < P.length * 3 := by simpa using hj
  refine ⟨?_, ?_⟩
  · rw [Nat.zero_add, World.ownsRow.cellAt h j hj', ← flatK_X]
    have : j < (Go.Sort.flatK encX 3 P.toArray).size := hj
    rw [Array.getElem?_toList, Array.getElem?_eq_getElem this, getElem!_pos _ j this]
    rfl
  · rw [Nat.zero_add]
    exact World.ownsRow.frozenAt h j
/-- IN ORDER: by rows, then features, rising or equal. -/
def SortedX (D : List XS) : Prop := D.Pairwise fun x y => x.row < y.row ∨ x.row = y.row ∧ x.f ≤ y.f

/-- The sort of exceptions, in all. -/
theorem sorted_any (v : Value) (xs : List XS) (w : World) (h : OwnX w 0 v xs) (hl : xs.length ≤ 1000000) :
    Calls Tryz.prog 208 #[v, .func (.func 148) #[] #[]] w fun e w' => e = .returned (.tuple #[]) ∧ (∃ D : List XS, D.Perm xs ∧ SortedX D ∧ OwnX w' 0 v D) ∧ w.grownBy w' v.ownBlock := by
  have h' := h
  rcases h.2 with ⟨rfl, h0⟩ | ⟨g, cap, cur, rfl, _, hh, _⟩
  · have e : xs = [] := List.length_eq_zero_iff.1 h0
    subst e
    refine (sortX_none none 0 w).mono ?_
    rintro e w' ⟨rfl, rfl⟩
    exact ⟨rfl, ⟨[], List.Perm.refl _, List.Pairwise.nil, h⟩, grown_refl _ _⟩
  · have hs := sortX_any g cap xs.toArray w (ownX_holds h') (Array.getElem?_eq_some_iff.1 hh).1 (by simp; omega)
    rw [show xs.toArray.size = xs.length by simp] at hs
    refine hs.mono ?_
    rintro e w' ⟨rfl, d', m, os, hperm, hsort, rfl⟩
    obtain ⟨hps, _, hpp⟩ := hperm
    have hds : d'.size = xs.length := by rw [hps]; simp
    have hD : d'.toList.length = xs.length := by rw [Array.length_toList, hds]
    have ho := ownX_sorted (m := m) (os := os) hD h'
    rw [show d'.toList.toArray = d' by simp] at ho
    refine ⟨rfl, ⟨d'.toList, ?_, ?_, ho.1⟩, ho.2⟩
    · have e1 : d'.extract 0 xs.length = d' := by rw [← hds]; simp
      have e2 : xs.toArray.extract 0 xs.length = xs.toArray := by simp
      rw [e1, e2] at hpp
      exact hpp
    · unfold SortedX
      rw [List.pairwise_iff_getElem]
      intro i j hi hj hij
      simp at hi hj
      have := hsort i j (Nat.zero_le _) hij (by omega)
      rw [ltX] at this
      simp [hi, hj] at this
      simp only [Array.getElem_toList]
      omega
end Go.Proofs.YtfcgnpchbcmdeaaGreat

namespace Go.Proofs.YtfcgnpchbcmdeaaGreat
open Go.RowKit

theorem idxOf_in : ∀ (zs : List Int) (x : Int) (i : Nat), x ∈ zs → 0 ≤ Lib.idxFrom zs x i ∧ Lib.idxFrom zs x i < (i + zs.length : Nat)
  | [], x, i, h => by simp at h
  | z :: zs, x, i, h => by
    simp only [Lib.idxFrom]
    split
    · simp; omega
    · rename_i hne
      have hm : x ∈ zs := by
        rcases List.mem_cons.1 h with e | e
        · exact absurd e.symm hne
        · exact e
      have := idxOf_in zs x (i + 1) hm
      simp only [List.length_cons]
      omega
theorem foldl_max_mem : ∀ (zs : List Int) (a : Int), zs.foldl max a = a ∨ zs.foldl max a ∈ zs
  | [], a => .inl rfl
  | z :: zs, a => by
    simp only [List.foldl_cons]
    rcases foldl_max_mem zs (max a z) with h | h
    · by_cases e : a ≤ z
      · have : max a z = z := by omega
        rw [this] at h
        right; rw [this, h]; simp
      · have : max a z = a := by omega
        rw [this] at h
        left; rw [this]; exact h
    · right; simp [h]
theorem maxOf_mem {zs : List Int} (h : 0 < zs.length) : Lib.maxOf zs ∈ zs := by
  cases zs with
  | nil => simp at h
  | cons z zs =>
    have hm : Lib.maxOf (z :: zs) = List.foldl max z zs := by first | rfl | (simp [Lib.maxOf]) | (simp [Lib.maxOf, Int.max_def])
    rw [hm]
    rcases foldl_max_mem zs z with e | e
    · rw [e]; simp
    · simp [e]
theorem mostF_in (B : List Nat) {h : Nat} (h0 : 0 < h) : 0 ≤ mostF B h ∧ mostF B h < h := by
  have := idxOf_in (cntsOf B h) (Lib.maxOf (cntsOf B h)) 0 (maxOf_mem (by rw [cntsOf_len]; exact h0))
  rw [cntsOf_len] at this
  unfold mostF Lib.idxOf
  omega

/-- A feature's default: its most frequent bin. -/
def dflF (e : ES) (B : List Nat) : Nat := (mostF B (e.cnt + 2)).toNat
theorem dflF_eq (e : ES) (B : List Nat) : mostF B (e.cnt + 2) = ((dflF e B : Nat) : Int) := by
  have := mostF_in B (show 0 < e.cnt + 2 by omega)
  unfold dflF
  omega
def kF (es : List ES) (Bb : List (List Nat)) (k : Nat) : KS := ⟨es.getD k e0S, dflF (es.getD k e0S) (Bb.getD k [])⟩
def oF (es : List ES) (Bb : List (List Nat)) (k : Nat) : List Bool := outsOf (Bb.getD k []) (dflF (es.getD k e0S) (Bb.getD k []))
def ksF (es : List ES) (Bb : List (List Nat)) (k : Nat) : List KS := (List.range k).map (kF es Bb)
def osF (es : List ES) (Bb : List (List Nat)) (k : Nat) : List (List Bool) := (List.range k).map (oF es Bb)
theorem ksF_len (es : List ES) (Bb : List (List Nat)) (k : Nat) : (ksF es Bb k).length = k := by simp [ksF]
theorem osF_len (es : List ES) (Bb : List (List Nat)) (k : Nat) : (osF es Bb k).length = k := by simp [osF]
theorem ksF_succ (es : List ES) (Bb : List (List Nat)) (k : Nat) : ksF es Bb (k + 1) = ksF es Bb k ++ [kF es Bb k] := by simp [ksF, List.range_succ]
theorem osF_succ (es : List ES) (Bb : List (List Nat)) (k : Nat) : osF es Bb (k + 1) = osF es Bb k ++ [oF es Bb k] := by simp [osF, List.range_succ]
theorem ksF_getD (es : List ES) (Bb : List (List Nat)) {n i : Nat} (h : i < n) : (ksF es Bb n).getD i k0S = kF es Bb i := by simp [ksF, List.getD, h]
theorem osF_getD (es : List ES) (Bb : List (List Nat)) {n i : Nat} (h : i < n) : (osF es Bb n).getD i [] = oF es Bb i := by simp [osF, List.getD, h]

theorem flatKn_append : ∀ (A B : List KS) (u v : List (Value × Value)), u.length = A.length → flatKn (A ++ B) (u ++ v) = flatKn A u ++ flatKn B v
  | [], B, u, v, h => by
    cases u with
    | nil => simp [flatKn]
    | cons x u => simp at h
  | a :: A, B, u, v, h => by
    cases u with
    | nil => simp at h
    | cons x u =>
      simp only [List.cons_append, flatKn, List.append_assoc]
      rw [flatKn_append A B u v (by simpa using h)]
theorem info101 : (Tryz.prog.info? 101).map (fun i => (i.zero, i.size, i.bytes)) = some (some (.slice none 0 0), 1, 24) := by kernel_rfl
theorem make_outs (n : Nat) (hn : n ≤ 1000000) (W : World) : (Instr.makeSlice 309 (.int .i64 (n : Int)) (.int .i64 (n : Int))).run Tryz.prog W = .ok (.slice (some ⟨W.heap.size, 0, none⟩) n n) (W.alloc (.cells (madeCells #[.slice none 0 0] n) 101)) := by
  obtain ⟨i0, hinf, hz0, hz1, hz2⟩ := info_parts info101
  have := run_make (P := Tryz.prog) W 309 101 i0 _ Tryz.underlying309 hinf hz0 .i64 .i64 (n : Int) (n : Int) (by omega) (by omega) (by rw [hz2]; omega) (by omega)
  rw [hz1] at this
  rw [this, Int.toNat_natCast, Nat.mul_one]
  rfl
theorem made_outs (n : Nat) (W : World) (base : Nat) (hn : n ≤ 1000000) (hb : base ≤ W.heap.size) : (W.alloc (.cells (madeCells #[.slice none 0 0] n) 101)).ownsRow base 101 1 (.slice (some ⟨W.heap.size, 0, none⟩) n n) n (List.replicate n (.slice none 0 0)) := by
  have := World.ownsRow_lit (base := base) (size := 1) (e := 101) W (madeCells #[.slice none 0 0] n) n hb (by unfold maxLen; omega) (by simp [madeCells])
  rw [made_one] at this
  simpa using this
theorem info172 : (Tryz.prog.info? 172).map (fun i => (i.zero, i.size, i.bytes)) = some (some (.agg #[.bool false, .slice none 0 0, .slice none 0 0, .int .i64 0]), 4, 64) := by kernel_rfl
end Go.Proofs.YtfcgnpchbcmdeaaGreat

namespace Go.Proofs.YtfcgnpchbcmdeaaGreat
open Go.RowKit

/-- What features with their bins are like. -/
structure BinOk (m n : Nat) (es : List ES) (Bb : List (List Nat)) : Prop where
  le : es.length = m + 1
  lb : ∀ i, i < m + 1 → (Bb.getD i []).length = n
  ok : ∀ i, i < m + 1 → EdgOk (es.getD i e0S)
  cn : ∀ i, i < m + 1 → (es.getD i e0S).cnt ≤ 16
  bin : ∀ i, i < m + 1 → ∀ b ∈ Bb.getD i [], b < (es.getD i e0S).cnt + 2

/-- A block of zeros. -/
def Z4 (w : World) (q : Nat) : Prop := w.heap[q]? = some (.cells #[.bool false, .slice none 0 0, .slice none 0 0, .int .i64 0] 172 (0, 0))
theorem Z4.cells {w : World} {b : Nat} (h : Z4 w b) : w.cell? ⟨b, 0, none⟩ = some (.bool false) ∧ w.cell? ⟨b, 1, none⟩ = some (.slice none 0 0) ∧ w.cell? ⟨b, 2, none⟩ = some (.slice none 0 0) ∧ w.cell? ⟨b, 3, none⟩ = some (.int .i64 0) ∧ (∀ o, w.frozen? ⟨b, o, none⟩ = false) := by
  unfold Z4 at h
  refine ⟨?_, ?_, ?_, ?_, fun o => frozen_of_row w b o _ 172 h⟩ <;> simp [World.cell?, h]
theorem Z4.new {w : World} {q : Nat} (h : q = w.heap.size) : Z4 (w.alloc (.cells #[.bool false, .slice none 0 0, .slice none 0 0, .int .i64 0] 172)) q := by subst h; exact heap_alloc_new w _
theorem Z4.drew {w : World} {q : Nat} (h : Z4 w q) : Z4 w.drew q := h
theorem Z4.call {w w' : World} {q : Nat} (h : Z4 w q) (hb : Below w.heap.size w w') : Z4 w' q := (hb.block q (Array.getElem?_eq_some_iff.1 h).1).trans h
theorem Z4.fill {w : World} {q : Nat} (h : Z4 w q) (a b c d : Value) : ((((w.setCell ⟨q, 0, none⟩ a).setCell ⟨q, 1, none⟩ b).setCell ⟨q, 2, none⟩ c).setCell ⟨q, 3, none⟩ d).heap[q]? = some (.cells #[a, b, c, d] 172 (0, 0)) :=
  heap_setCell_same _ q 3 _ 172 _ (heap_setCell_same _ q 2 _ 172 _ (heap_setCell_same _ q 1 _ 172 _ (heap_setCell_same _ q 0 _ 172 _ h)))

theorem Touch.to_below {S : Nat → Prop} {a b : World} {B : Nat} (h : Touch S a b) (hB : B ≤ a.heap.size) (hs : ∀ q, S q → B ≤ q) : Below B a b :=
  ⟨h.os, h.tape, h.output, h.size, fun k hk => h.block k (by omega) (fun e => by have := hs k e; omega)⟩

/-- Within the first half of Make: k features are known, j have their rows. -/
structure HalfZ (w0 wr : World) (db qo n k j : Nat) (vK : Value) (kvs : List (Value × Value)) (ovs : List Value) (es : List ES) (Bb : List (List Nat)) : Prop where
  blk : wr.heap[db]? = some (.cells #[vK, .slice none 0 0, .slice none 0 0] 168 (0, 0))
  kn : KnsX wr vK kvs (ksF es Bb k)
  orow : wr.ownsRow 0 101 1 (.slice (some ⟨qo, 0, none⟩) n n) n ovs
  oeach : ∀ i, i < j → OwnO wr 0 (ovs.getD i (.slice none 0 0)) (oF es Bb i)
  bl : Below w0.heap.size w0 wr
  kb : ∀ q, vK.ownBlock = some q → w0.heap.size ≤ q
theorem HalfZ.below {w0 wr w2 : World} {db qo n k j : Nat} {vK : Value} {kvs : List (Value × Value)} {ovs : List Value} {es : List ES} {Bb : List (List Nat)} (h : HalfZ w0 wr db qo n k j vK kvs ovs es Bb) (hb : Below wr.heap.size wr w2) : HalfZ w0 w2 db qo n k j vK kvs ovs es Bb :=
  ⟨(hb.block db (Array.getElem?_eq_some_iff.1 h.blk).1).trans h.blk, h.kn.below hb, (Touch.of_below (S := fun _ => False) hb).row h.orow (fun _ _ => id), fun i hi => (h.oeach i hi).below hb, h.bl.trans (hb.mono h.bl.size), h.kb⟩
theorem HalfZ.feat {w0 W w6 : World} {db qo n k : Nat} {vK v6 vb vw : Value} {kvs : List (Value × Value)} {ovs : List Value} {es : List ES} {Bb : List (List Nat)} (h : HalfZ w0 W db qo n k k vK kvs ovs es Bb) (hdb : w0.heap.size ≤ db)
    (g : W.grownBy w6 vK.ownBlock) (r : w6.ownsRow 0 172 4 v6 (k + 1) (flatKn (ksF es Bb k) kvs ++ cellsKn (kF es Bb k) (vb, vw))) (d : v6.ownBlock = vK.ownBlock ∨ v6.ownBlock = some W.heap.size ∧ Below W.heap.size W w6)
    (hI : OwnI W 0 vb (kF es Bb k).e.bs) (hS : OwnS W 0 vw (kF es Bb k).e.ww) : HalfZ w0 (w6.setCell ⟨db, 0, none⟩ v6) db qo n (k + 1) k v6 (kvs ++ [(vb, vw)]) ovs es Bb ∧ Touch (fun q => vK.ownBlock = some q ∨ q = db) W (w6.setCell ⟨db, 0, none⟩ v6) := by
  have t : Touch (fun q => vK.ownBlock = some q) W w6 := (Touch.refl _ W).grown g (fun k hk _ => hk)
  have hblk6 := t.at_ h.blk (fun e => row_ne h.kn.row e h.blk (by decide) rfl)
  have T : Touch (fun q => vK.ownBlock = some q ∨ q = db) W (w6.setCell ⟨db, 0, none⟩ v6) := ((Touch.refl _ W).grown g (fun k hk _ => .inl hk)).setCell (p := ⟨db, 0, none⟩) (fun _ => .inr rfl) v6
  have NT : ∀ {base e size m : Nat} {v : Value} {xs : List Value}, W.ownsRow base e size v m xs → e ≠ 172 → e ≠ 168 → ∀ q, v.ownBlock = some q → ¬ (vK.ownBlock = some q ∨ q = db) := fun hr h1 h2 q hq hs => by
    obtain ⟨cur, hc⟩ := row_type hr hq
    rcases hs with e | e
    · obtain ⟨c2, hc2⟩ := row_type h.kn.row e
      rw [hc] at hc2
      simp at hc2
      exact h1 hc2.2
    · subst e
      rw [h.blk] at hc
      simp at hc
      exact h2 hc.2.symm
  refine ⟨⟨heap_setCell_same _ db 0 _ 168 _ hblk6, ⟨?_, ?_, fun i hi => ?_⟩, T.row h.orow (NT h.orow (by decide) (by decide)), fun i hi => T.row (h.oeach i hi) (NT (h.oeach i hi) (by decide) (by decide)), (h.bl.grown g h.bl.size (fun q hq => h.kb q hq)).setCell hdb v6, fun q hq => ?_⟩, T⟩
  · rw [ksF_len]
    have e : flatKn (ksF es Bb (k + 1)) (kvs ++ [(vb, vw)]) = flatKn (ksF es Bb k) kvs ++ cellsKn (kF es Bb k) (vb, vw) := by
      rw [ksF_succ, flatKn_append _ _ _ _ h.kn.len]
      simp [flatKn]
    rw [e]
    exact own_put' r hblk6 (by decide)
  · rw [List.length_append, h.kn.len, ksF_len, ksF_len]; rfl
  · rw [ksF_len] at hi
    have hl : kvs.length = k := by rw [h.kn.len, ksF_len]
    by_cases hik : i < k
    · have e1 : (kvs ++ [(vb, vw)]).getD i vv0 = kvs.getD i vv0 := by simp [List.getD, List.getElem?_append_left (show i < kvs.length by omega)]
      have h1 := h.kn.each i (by rw [ksF_len]; exact hik)
      rw [e1, ksF_getD _ _ hi]
      rw [ksF_getD _ _ hik] at h1
      exact ⟨T.row h1.1 (NT h1.1 (by decide) (by decide)), T.row h1.2 (NT h1.2 (by decide) (by decide))⟩
    · have ei : i = k := by omega
      subst ei
      have e1 : (kvs ++ [(vb, vw)]).getD i vv0 = (vb, vw) := by simp [List.getD, ← hl]
      rw [e1, ksF_getD _ _ hi]
      exact ⟨T.row hI (NT hI (by decide) (by decide)), T.row hS (NT hS (by decide) (by decide))⟩
  · rcases d with e | e
    · exact h.kb q (e ▸ hq)
    · rw [e.1] at hq
      injection hq with hq
      have := h.bl.size
      omega
theorem HalfZ.out {w0 W : World} {db qo n k : Nat} {vK v : Value} {kvs : List (Value × Value)} {ovs : List Value} {es : List ES} {Bb : List (List Nat)} (h : HalfZ w0 W db qo n (k + 1) k vK kvs ovs es Bb) (hqo : w0.heap.size ≤ qo) (hk : k < n)
    (hO : OwnO W 0 v (oF es Bb k)) : HalfZ w0 (W.setCell ⟨qo, k, none⟩ v) db qo n (k + 1) (k + 1) vK kvs (ovs.set k v) es Bb := by
  obtain ⟨cur, hc⟩ := row_type h.orow (k := qo) rfl
  have T : Touch (fun q => q = qo) W (W.setCell ⟨qo, k, none⟩ v) := (Touch.refl (fun q => q = qo) W).setCell (p := ⟨qo, k, none⟩) (fun _ => rfl) v
  have NT : ∀ {base e size m : Nat} {u : Value} {xs : List Value}, W.ownsRow base e size u m xs → e ≠ 101 → ∀ q, u.ownBlock = some q → ¬ q = qo := fun hr h1 q hq e => row_ne hr hq hc h1 e
  have hol : ovs.length = n := by have := h.orow.1; omega
  refine ⟨T.at_ h.blk (fun e => ?_), h.kn.touch T (fun q cur2 ty hq hty e => ?_), (World.ownsRow.stored h.orow k v).1, fun i hi => ?_, h.bl.setCell hqo v, h.kb⟩
  · have h1 := h.blk
    rw [e, hc] at h1
    simp at h1
  · rw [e, hc] at hq
    simp at hq
    rw [← hq.2] at hty
    revert hty; decide
  · by_cases hik : i = k
    · subst hik
      have e1 : (ovs.set i v).getD i (.slice none 0 0) = v := by simp [List.getD, hol, hk]
      rw [e1]
      exact T.row hO (NT hO (by decide))
    · have e1 : (ovs.set k v).getD i (.slice none 0 0) = ovs.getD i (.slice none 0 0) := by simp [List.getD, List.getElem?_set_ne (show k ≠ i by omega)]
      rw [e1]
      exact T.row (h.oeach i (by omega)) (NT (h.oeach i (by omega)) (by decide))
theorem HalfZ.outs {w0 wr : World} {db qo n : Nat} {vK : Value} {kvs : List (Value × Value)} {ovs : List Value} {es : List ES} {Bb : List (List Nat)} (h : HalfZ w0 wr db qo n n n vK kvs ovs es Bb) : OutsX wr (.slice (some ⟨qo, 0, none⟩) n n) ovs (osF es Bb n) :=
  ⟨by rw [osF_len]; exact h.orow, fun i hi => by rw [osF_len] at hi; rw [osF_getD _ _ hi]; exact h.oeach i hi⟩

/-! The groups -/
def sumM (Ks : List KS) (fs : List Nat) : Nat := (fs.map (fun f => (Ks.getD f k0S).many)).sum
theorem sumM_snoc (Ks : List KS) (fs : List Nat) (f : Nat) : sumM Ks (fs ++ [f]) = sumM Ks fs + (Ks.getD f k0S).many := by simp [sumM]
theorem colStep_sum (Ks : List KS) (Os : List (List Bool)) (Bb : List (List Nat)) (n : Nat) : ∀ (fs : List Nat) (s : CS), (fs.foldl (colStep Ks Os Bb n) s).off = s.off + sumM Ks fs
  | [], s => by simp [sumM]
  | f :: fs, s => by
    simp only [List.foldl_cons]
    rw [colStep_sum Ks Os Bb n fs]
    simp [sumM, colStep]; omega
theorem colF_off (Ks : List KS) (Os : List (List Bool)) (Bb : List (List Nat)) (n : Nat) (xs : List XS) (fs : List Nat) : (colF Ks Os Bb n xs fs).off = 1 + sumM Ks fs := colStep_sum Ks Os Bb n fs _
/-- What holds of a group. -/
structure GFit (m n k : Nat) (Ks : List KS) (G : GS) : Prop where
  out : G.out.length = n
  fs : ∀ f ∈ G.fs, f < m + 1
  sum : G.bins = sumM Ks G.fs
  bins : G.bins ≤ 40
  len : G.fs.length ≤ k
theorem GFit.step {m n k budget f : Nat} {Ks : List KS} {Os : List (List Bool)} {Gs : List GS} (h : ∀ G ∈ Gs, GFit m n k Ks G) (hO : (Os.getD f []).length = n) (hf : f < m + 1) (hm : (Ks.getD f k0S).many ≤ 40) : ∀ G ∈ layStep Ks Os n budget Gs f, GFit m n (k + 1) Ks G := fun G hG => by
  unfold layStep at hG
  split at hG
  · rename_i hi
    rcases List.mem_or_eq_of_mem_set hG with hin | e
    · obtain ⟨a, b, c, d, e⟩ := h G hin
      exact ⟨a, b, c, d, by omega⟩
    · have hroom := List.findIdx_getElem (w := hi)
      have hG0 : Gs.getD (Gs.findIdx (roomG (Os.getD f []) (Ks.getD f k0S).many budget)) g0S = Gs[Gs.findIdx (roomG (Os.getD f []) (Ks.getD f k0S).many budget)] := by rw [List.getD, List.getElem?_eq_getElem hi]; rfl
      rw [hG0] at e
      obtain ⟨a1, a2, a3, a4, a5⟩ := h _ (List.getElem_mem hi)
      generalize Gs[Gs.findIdx (roomG (Os.getD f []) (Ks.getD f k0S).many budget)] = G0 at *
      subst e
      unfold roomG at hroom
      simp only [Bool.and_eq_true, decide_eq_true_eq] at hroom
      refine ⟨?_, ?_, ?_, hroom.2, ?_⟩
      · show (orL G0.out _).length = n
        rw [orL_len (by rw [a1, hO])]; exact a1
      · intro x hx
        rcases List.mem_append.1 hx with hx | hx
        · exact a2 x hx
        · simp at hx; subst hx; exact hf
      · show G0.bins + _ = sumM Ks (G0.fs ++ [f])
        rw [sumM_snoc, a3]
      · show (G0.fs ++ [f]).length ≤ k + 1
        simp; omega
  · rcases List.mem_append.1 hG with hin | e
    · obtain ⟨a, b, c, d, e⟩ := h G hin
      exact ⟨a, b, c, d, by omega⟩
    · simp only [List.mem_cons, List.not_mem_nil, or_false] at e
      subst e
      refine ⟨?_, ?_, ?_, ?_, ?_⟩
      · show (orL (List.replicate n false) _).length = n
        rw [orL_len (by rw [hO]; simp)]; simp
      · intro x hx
        simp [addG, newG] at hx; subst hx; exact hf
      · simp [addG, newG, sumM]
      · show 0 + (Ks.getD f k0S).many ≤ 40
        omega
      · simp [addG, newG]
theorem layStep_len (Ks : List KS) (Os : List (List Bool)) (n budget : Nat) (Gs : List GS) (f : Nat) : (layStep Ks Os n budget Gs f).length ≤ Gs.length + 1 := by
  unfold layStep; split <;> simp
theorem lay_fit {m n budget : Nat} {Ks : List KS} {Os : List (List Bool)} (hO : ∀ i, i < m + 1 → (Os.getD i []).length = n) (hm : ∀ i, i < m + 1 → (Ks.getD i k0S).many ≤ 40) : ∀ (fs : List Nat) (k : Nat) (Gs : List GS), (∀ f ∈ fs, f < m + 1) → (∀ G ∈ Gs, GFit m n k Ks G) → (∀ G ∈ fs.foldl (layStep Ks Os n budget) Gs, GFit m n (k + fs.length) Ks G) ∧ (fs.foldl (layStep Ks Os n budget) Gs).length ≤ Gs.length + fs.length
  | [], k, Gs, _, h => ⟨h, by simp⟩
  | f :: fs, k, Gs, hf, h => by
    have hf0 := hf f (by simp)
    obtain ⟨i1, i2⟩ := lay_fit (budget := budget) hO hm fs (k + 1) (layStep Ks Os n budget Gs f) (fun x hx => hf x (by simp [hx])) (GFit.step h (hO f hf0) hf0 (hm f hf0))
    have := layStep_len Ks Os n budget Gs f
    simp only [List.foldl_cons, List.length_cons]
    refine ⟨fun G hG => ?_, by omega⟩
    have := i1 G hG
    rwa [show k + 1 + fs.length = k + (fs.length + 1) by omega] at this
theorem layF_fit {m n budget : Nat} {Ks : List KS} {Os : List (List Bool)} (hO : ∀ i, i < m + 1 → (Os.getD i []).length = n) (hm : ∀ i, i < m + 1 → (Ks.getD i k0S).many ≤ 40) : (∀ G ∈ layF m Ks Os n budget, GFit m n (m + 1) Ks G) ∧ (layF m Ks Os n budget).length ≤ m + 1 := by
  have h := lay_fit (budget := budget) hO hm (ordF m Os) 0 [] (fun f hf => ordF_lt m Os f hf) (fun G hG => by simp at hG)
  rw [ordF_len] at h
  simpa [layF] using h

/-- The dataset behind some groups. -/
def addsF (Os : List (List Bool)) (Bb : List (List Nat)) (n : Nat) (Ks : List KS) (Gs : List GS) : DSS := Gs.foldl (addB Os Bb n) ⟨Ks, [], []⟩
theorem addB_ks (Os : List (List Bool)) (Bb : List (List Nat)) (n : Nat) : ∀ (Gs : List GS) (D : DSS), (Gs.foldl (addB Os Bb n) D).ks = D.ks
  | [], D => rfl
  | G :: Gs, D => by simp only [List.foldl_cons]; rw [addB_ks Os Bb n Gs]; rfl
theorem addsF_ks (Os : List (List Bool)) (Bb : List (List Nat)) (n : Nat) (Ks : List KS) (Gs : List GS) : (addsF Os Bb n Ks Gs).ks = Ks := addB_ks Os Bb n Gs _
theorem addsF_snoc (Os : List (List Bool)) (Bb : List (List Nat)) (n : Nat) (Ks : List KS) (Gs : List GS) {i : Nat} (hi : i < Gs.length) : addsF Os Bb n Ks (Gs.take (i + 1)) = addB Os Bb n (addsF Os Bb n Ks (Gs.take i)) (Gs.getD i g0S) := by
  unfold addsF
  rw [List.take_succ_eq_append_getElem hi, List.foldl_append]
  simp [List.getD, hi]
theorem addB_len (Os : List (List Bool)) (Bb : List (List Nat)) (n : Nat) : ∀ (Gs : List GS) (D : DSS), (∀ G ∈ Gs, G.fs.length ≤ 4) → (Gs.foldl (addB Os Bb n) D).bs.length = D.bs.length + Gs.length ∧ (Gs.foldl (addB Os Bb n) D).xs.length ≤ D.xs.length + Gs.length * (4 * n)
  | [], D, _ => ⟨rfl, by simp⟩
  | G :: Gs, D, h => by
    simp only [List.foldl_cons]
    obtain ⟨i1, i2⟩ := addB_len Os Bb n Gs (addB Os Bb n D G) (fun x hx => h x (by simp [hx]))
    have h1 := (colStep_len D.ks Os Bb n G.fs ⟨List.replicate n 0, D.xs, 1⟩ (by simp)).2
    have h2 : G.fs.length * n ≤ 4 * n := Nat.mul_le_mul_right _ (h G (by simp))
    have e1 : (addB Os Bb n D G).bs.length = D.bs.length + 1 := by simp [addB]
    have e2 : (addB Os Bb n D G).xs.length ≤ D.xs.length + 4 * n := by
      show (colF D.ks Os Bb n D.xs G.fs).xs.length ≤ _
      unfold colF
      simp only at h1
      omega
    refine ⟨by rw [i1, e1]; simp; omega, ?_⟩
    rw [List.length_cons, Nat.add_mul, Nat.one_mul]
    omega
theorem addsF_len (Os : List (List Bool)) (Bb : List (List Nat)) {n : Nat} (Ks : List KS) {Gs : List GS} (h : ∀ G ∈ Gs, G.fs.length ≤ 4) (hn : n ≤ 200) (hl : Gs.length ≤ 4) : (addsF Os Bb n Ks Gs).bs.length ≤ 4 ∧ (addsF Os Bb n Ks Gs).xs.length ≤ 4000 := by
  obtain ⟨h1, h2⟩ := addB_len Os Bb n Gs ⟨Ks, [], []⟩ h
  have h3 : Gs.length * (4 * n) ≤ 4 * 800 := Nat.mul_le_mul hl (by omega)
  unfold addsF
  simp only [List.length_nil] at h1 h2
  omega
end Go.Proofs.YtfcgnpchbcmdeaaGreat
