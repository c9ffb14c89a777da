/-
  A reader of rows as it lies in memory; the contracts of the bytes that a field of numbers takes.
  Contracts of a reader of rows: the weight, the separator, whether a field or the text may end.
-/
import Derived.Test.YtfcgnpchbcmdeaaGreatZtad
import Derived.Test.YtfcgnpchbcmdeaaGreatZtag
import Derived.Deep.RegionWith
import Derived.Deep.RegionHeld3
namespace Go.Proofs.YtfcgnpchbcmdeaaGreat
open Go.RowKit

/-- A FIELD AS FAR AS IT HAS BEEN READ. -/
structure PartS where
  st : Int
  neg : Bool
  dig : Int
  unit : Int
  num : Int
  wv : Value

/-- THE BLOCK OF A READER OF ROWS. -/
def RB (w : World) (b : Nat) (vf vW vC : Value) (wt : Int) (fl : Bool) (vr : Value) (p : PartS) : Prop :=
  w.heap[b]? = some (.cells #[vf, vW, vC, .int .i64 wt, .bool fl, vr, .int .i64 p.st, .bool p.neg, .int .i64 p.dig, .int .i64 p.unit, .int .i64 p.num, p.wv] 256 (0, 0))

section
variable {w : World} {b : Nat} {vf vW vC : Value} {wt : Int} {fl : Bool} {vr : Value} {p : PartS}

theorem RB.part (h : RB w b vf vW vC wt fl vr p) : w.cell? ⟨b, 6, none⟩ = some (.int .i64 p.st) ∧ w.cell? ⟨b, 7, none⟩ = some (.bool p.neg) ∧ w.cell? ⟨b, 8, none⟩ = some (.int .i64 p.dig) ∧ w.cell? ⟨b, 9, none⟩ = some (.int .i64 p.unit) ∧ w.cell? ⟨b, 10, none⟩ = some (.int .i64 p.num) ∧ w.cell? ⟨b, 11, none⟩ = some p.wv ∧ (∀ o, w.frozen? ⟨b, o, none⟩ = false) := by
  unfold RB at h
  refine ⟨?_, ?_, ?_, ?_, ?_, ?_, fun o => frozen_of_row w b o _ 256 h⟩ <;> simp [World.cell?, h]
theorem RB.head (h : RB w b vf vW vC wt fl vr p) : w.cell? ⟨b, 0, none⟩ = some vf ∧ w.cell? ⟨b, 1, none⟩ = some vW ∧ w.cell? ⟨b, 2, none⟩ = some vC ∧ w.cell? ⟨b, 3, none⟩ = some (.int .i64 wt) ∧ w.cell? ⟨b, 4, none⟩ = some (.bool fl) ∧ w.cell? ⟨b, 5, none⟩ = some vr := by
  unfold RB at h
  refine ⟨?_, ?_, ?_, ?_, ?_, ?_⟩ <;> simp [World.cell?, h]
theorem RB.lt (h : RB w b vf vW vC wt fl vr p) : b < w.heap.size := (Array.getElem?_eq_some_iff.1 h).1
theorem RB.grown {w' : World} {row : Option Nat} (h : RB w b vf vW vC wt fl vr p) (hg : w.grownBy w' row) (hne : some b ≠ row) : RB w' b vf vW vC wt fl vr p := (hg.block b h.lt hne).trans h
theorem RB.below {w' : World} {B : Nat} (h : RB w b vf vW vC wt fl vr p) (hb : Below B w w') (hg : b < B) : RB w' b vf vW vC wt fl vr p := (hb.block b hg).trans h
theorem RB.drew (h : RB w b vf vW vC wt fl vr p) : RB w.drew b vf vW vC wt fl vr p := h
theorem RB.st (h : RB w b vf vW vC wt fl vr p) (z : Int) : RB (w.setCell ⟨b, 6, none⟩ (.int .i64 z)) b vf vW vC wt fl vr { p with st := z } := heap_setCell_same w b 6 _ 256 _ h
theorem RB.neg (h : RB w b vf vW vC wt fl vr p) (z : Bool) : RB (w.setCell ⟨b, 7, none⟩ (.bool z)) b vf vW vC wt fl vr { p with neg := z } := heap_setCell_same w b 7 _ 256 _ h
theorem RB.dig (h : RB w b vf vW vC wt fl vr p) (z : Int) : RB (w.setCell ⟨b, 8, none⟩ (.int .i64 z)) b vf vW vC wt fl vr { p with dig := z } := heap_setCell_same w b 8 _ 256 _ h
theorem RB.unit (h : RB w b vf vW vC wt fl vr p) (z : Int) : RB (w.setCell ⟨b, 9, none⟩ (.int .i64 z)) b vf vW vC wt fl vr { p with unit := z } := heap_setCell_same w b 9 _ 256 _ h
theorem RB.num (h : RB w b vf vW vC wt fl vr p) (z : Int) : RB (w.setCell ⟨b, 10, none⟩ (.int .i64 z)) b vf vW vC wt fl vr { p with num := z } := heap_setCell_same w b 10 _ 256 _ h
theorem RB.wv (h : RB w b vf vW vC wt fl vr p) (z : Value) : RB (w.setCell ⟨b, 11, none⟩ z) b vf vW vC wt fl vr { p with wv := z } := heap_setCell_same w b 11 _ 256 _ h
end

theorem wrapI {z : Int} (h1 : -9000000000000000000 ≤ z) (h2 : z ≤ 9000000000000000000) : IntKind.i64.wrap z = z := by simp [IntKind.wrap, IntKind.bits, IntKind.signed]; omega

def digitB (c : Int) : Bool := decide (48 ≤ c) && decide (c ≤ 57)
def letterB (c : Int) : Bool := decide (97 ≤ c) && decide (c ≤ 122)

theorem isDigit_any (c : Int) (w : World) : Calls Tryz.prog 315 #[.int .u8 c] w fun e w' => e = .returned (.bool (digitB c)) ∧ w' = w := by
  unfold digitB
  by_cases h1 : 48 ≤ c
  · go_enter Tryz.func315, Tryz.ntmps315
    go_wp2
    go_ret
    exact ⟨by simp [h1], rfl⟩
  · have h2 : decide (48 ≤ c) = false := decide_eq_false h1
    go_enter Tryz.func315, Tryz.ntmps315
    go_wp2
    go_ret
    exact ⟨rfl, rfl⟩

theorem isLetter_any (c : Int) (w : World) : Calls Tryz.prog 310 #[.int .u8 c] w fun e w' => e = .returned (.bool (letterB c)) ∧ w' = w := by
  unfold letterB
  by_cases h1 : 97 ≤ c
  · go_enter Tryz.func310, Tryz.ntmps310
    go_wp2
    go_ret
    exact ⟨by simp [h1], rfl⟩
  · have h2 : decide (97 ≤ c) = false := decide_eq_false h1
    go_enter Tryz.func310, Tryz.ntmps310
    go_wp2
    go_ret
    exact ⟨rfl, rfl⟩

theorem worth_any (c u : Int) (w : World) (h1 : 48 ≤ c) (h2 : c ≤ 57) (h3 : 0 ≤ u) (h4 : u ≤ 1000000) : Calls Tryz.prog 316 #[.int .u8 c, .int .i64 u] w fun e w' => e = .returned (.int .i64 ((c - 48) * u)) ∧ w' = w := by
  have hw : IntKind.u8.wrap (c - 48) = c - 48 := by simp [IntKind.wrap, IntKind.bits, IntKind.signed]; omega
  have hm1 : 0 ≤ (c - 48) * u := Int.mul_nonneg (by omega) h3
  have hm2 : (c - 48) * u ≤ 9 * 1000000 := Int.mul_le_mul (by omega) h4 h3 (by omega)
  have hw2 : IntKind.i64.wrap (c - 48) = c - 48 := by simp [IntKind.wrap, IntKind.bits, IntKind.signed]; omega
  go_enter Tryz.func316, Tryz.ntmps316
  go_wp2
  go_ret
  exact ⟨rfl, rfl⟩

def minusD (p : PartS) (c : Int) : Option PartS := if c = 45 then some { p with st := 1, neg := true } else none
def firstD (u : Int) (p : PartS) (c : Int) : Option PartS := if digitB c = true then some { p with st := if c = 48 then 2 else 3, dig := 1, unit := u, num := (c - 48) * u } else none
def digitD (p : PartS) (c : Int) : Option PartS := if digitB c = true ∧ p.dig ≠ 5 then some { p with dig := p.dig + 1, num := p.num * 10 + (c - 48) * p.unit } else none
def pointD (p : PartS) (c : Int) : Option PartS := if c = 46 ∧ p.unit ≠ 1 then some { p with st := 4 } else none
def behindD (p : PartS) (c : Int) : Option PartS := if digitB c = true ∧ p.unit ≠ 1 then some { p with st := 5, unit := p.unit / 10, num := p.num + (c - 48) * (p.unit / 10) } else none

/-- WHAT TAKING A BYTE LEAVES: whether it was taken; the field. -/
def TookP (b : Nat) (vf vW vC : Value) (wt : Int) (fl : Bool) (vr : Value) (p : PartS) (o : Option PartS) (w : World) (e : Ending) (w' : World) : Prop :=
  e = .returned (.bool o.isSome) ∧ RB w' b vf vW vC wt fl vr (o.getD p) ∧ w.grownBy w' (some b)

section
variable (b : Nat) (vf vW vC : Value) (wt : Int) (fl : Bool) (vr : Value) (p : PartS) (c : Int) (w : World) (h : RB w b vf vW vC wt fl vr p)
include h

theorem takeMinus_any : Calls Tryz.prog 268 #[.pointer (some ⟨b, 6, none⟩), .int .u8 c] w fun e w' => TookP b vf vW vC wt fl vr p (minusD p c) w e w' := by
  obtain ⟨c6, c7, _, _, _, _, cf⟩ := h.part
  have H : Hid (RB w b vf vW vC wt fl vr p) := h
  clear h
  by_cases hc : c = 45
  · subst hc
    go_enter Tryz.func268, Tryz.ntmps268
    go_wp2
    go_ret
    exact ⟨rfl, (H.out.st 1).neg true, grown_set (grown_set (grown_refl _ _) _ _) _ _⟩
  · have hne : (c == 45) = false := beq_eq_false_iff_ne.2 hc
    have HO : Hid (minusD p c = none) := if_neg hc
    go_enter Tryz.func268, Tryz.ntmps268
    go_wp2
    go_ret
    unfold TookP
    rw [HO.out]
    exact ⟨rfl, H.out, grown_refl _ _⟩

theorem takePoint_any : Calls Tryz.prog 271 #[.pointer (some ⟨b, 6, none⟩), .int .u8 c] w fun e w' => TookP b vf vW vC wt fl vr p (pointD p c) w e w' := by
  obtain ⟨c6, _, _, c9, _, _, cf⟩ := h.part
  have H : Hid (RB w b vf vW vC wt fl vr p) := h
  clear h
  by_cases hc : c = 46
  · subst hc
    by_cases hu : p.unit = 1
    · have HO : Hid (pointD p 46 = none) := if_neg (by simp [hu])
      rw [hu] at c9
      go_enter Tryz.func271, Tryz.ntmps271
      go_wp2
      go_ret
      unfold TookP
      rw [HO.out]
      exact ⟨rfl, H.out, grown_refl _ _⟩
    · have hne : (p.unit == 1) = false := beq_eq_false_iff_ne.2 hu
      have HO : Hid (pointD p 46 = some { p with st := 4 }) := if_pos ⟨rfl, hu⟩
      go_enter Tryz.func271, Tryz.ntmps271
      go_wp2
      go_ret
      unfold TookP
      rw [HO.out]
      exact ⟨rfl, H.out.st 4, grown_set (grown_refl _ _) _ _⟩
  · have hne : (c == 46) = false := beq_eq_false_iff_ne.2 hc
    have HO : Hid (pointD p c = none) := if_neg (fun h => hc h.1)
    go_enter Tryz.func271, Tryz.ntmps271
    go_wp2
    go_ret
    unfold TookP
    rw [HO.out]
    exact ⟨rfl, H.out, grown_refl _ _⟩

theorem takeFirst_any (u : Int) (hu1 : 0 ≤ u) (hu2 : u ≤ 1000000) : Calls Tryz.prog 269 #[.pointer (some ⟨b, 6, none⟩), .int .u8 c, .int .i64 u] w fun e w' => TookP b vf vW vC wt fl vr p (firstD u p c) w e w' := by
  obtain ⟨c6, _, c8, c9, c10, _, cf⟩ := h.part
  have H : Hid (RB w b vf vW vC wt fl vr p) := h
  have HD : Hid (∀ W, Calls Tryz.prog 315 #[.int .u8 c] W fun e w' => e = .returned (.bool (digitB c)) ∧ w' = W) := fun W => isDigit_any c W
  clear h
  by_cases hd : digitB c = true
  · have hr : 48 ≤ c ∧ c ≤ 57 := by simpa [digitB] using hd
    obtain ⟨hr1, hr2⟩ := hr
    have HWo : Hid (∀ W, Calls Tryz.prog 316 #[.int .u8 c, .int .i64 u] W fun e w' => e = .returned (.int .i64 ((c - 48) * u)) ∧ w' = W) := fun W => worth_any c u W hr1 hr2 hu1 hu2
    rw [hd] at HD
    by_cases h0 : c = 48
    · have HO : Hid (firstD u p c = some { p with st := 2, dig := 1, unit := u, num := (c - 48) * u }) := by show firstD u p c = _; unfold firstD; rw [if_pos hd, if_pos h0]
      have hne : (c == 48) = true := by simp [h0]
      generalize (c - 48) * u = nn at *
      clear h0 hd
      go_enter Tryz.func269, Tryz.ntmps269
      go_wp2_with (first | (go_at_call 315; refine (HD.out _).mono ?_; rintro e w' ⟨rfl, rfl⟩) | (go_at_call 316; refine (HWo.out _).mono ?_; rintro e w' ⟨rfl, rfl⟩))
      go_ret
      unfold TookP
      rw [HO.out]
      exact ⟨rfl, ((((H.out.st 3).dig 1).unit u).num nn).st 2, grown_set (grown_set (grown_set (grown_set (grown_set (grown_refl _ _) _ _) _ _) _ _) _ _) _ _⟩
    · have HO : Hid (firstD u p c = some { p with st := 3, dig := 1, unit := u, num := (c - 48) * u }) := by show firstD u p c = _; unfold firstD; rw [if_pos hd, if_neg h0]
      have hne : (c == 48) = false := beq_eq_false_iff_ne.2 h0
      generalize (c - 48) * u = nn at *
      clear h0 hd
      go_enter Tryz.func269, Tryz.ntmps269
      go_wp2_with (first | (go_at_call 315; refine (HD.out _).mono ?_; rintro e w' ⟨rfl, rfl⟩) | (go_at_call 316; refine (HWo.out _).mono ?_; rintro e w' ⟨rfl, rfl⟩))
      go_ret
      unfold TookP
      rw [HO.out]
      exact ⟨rfl, (((H.out.st 3).dig 1).unit u).num nn, grown_set (grown_set (grown_set (grown_set (grown_refl _ _) _ _) _ _) _ _) _ _⟩
  · have HO : Hid (firstD u p c = none) := if_neg hd
    have hf : digitB c = false := by simpa using hd
    rw [hf] at HD
    clear hd hf
    go_enter Tryz.func269, Tryz.ntmps269
    go_wp2_with (go_at_call 315; refine (HD.out _).mono ?_; rintro e w' ⟨rfl, rfl⟩)
    go_ret
    unfold TookP
    rw [HO.out]
    exact ⟨rfl, H.out, grown_refl _ _⟩

theorem takeDigit_any (hu1 : 0 ≤ p.unit) (hu2 : p.unit ≤ 1000000) (hn1 : 0 ≤ p.num) (hn2 : p.num ≤ 1000000000000) (hg1 : 0 ≤ p.dig) (hg2 : p.dig ≤ 1000) : Calls Tryz.prog 270 #[.pointer (some ⟨b, 6, none⟩), .int .u8 c] w fun e w' => TookP b vf vW vC wt fl vr p (digitD p c) w e w' := by
  obtain ⟨_, _, c8, c9, c10, _, cf⟩ := h.part
  have H : Hid (RB w b vf vW vC wt fl vr p) := h
  have HD : Hid (∀ W, Calls Tryz.prog 315 #[.int .u8 c] W fun e w' => e = .returned (.bool (digitB c)) ∧ w' = W) := fun W => isDigit_any c W
  clear h
  by_cases hd : digitB c = true
  · have hr : 48 ≤ c ∧ c ≤ 57 := by simpa [digitB] using hd
    obtain ⟨hr1, hr2⟩ := hr
    by_cases h5 : p.dig = 5
    · have HO : Hid (digitD p c = none) := if_neg (fun h => h.2 h5)
      rw [hd] at HD
      rw [h5] at c8
      clear hd h5
      go_enter Tryz.func270, Tryz.ntmps270
      go_wp2_with (go_at_call 315; refine (HD.out _).mono ?_; rintro e w' ⟨rfl, rfl⟩)
      go_ret
      unfold TookP
      rw [HO.out]
      exact ⟨rfl, H.out, grown_refl _ _⟩
    · have hne : (p.dig == 5) = false := beq_eq_false_iff_ne.2 h5
      have HO : Hid (digitD p c = some { p with dig := p.dig + 1, num := p.num * 10 + (c - 48) * p.unit }) := if_pos ⟨hd, h5⟩
      have HWo : Hid (∀ W, Calls Tryz.prog 316 #[.int .u8 c, .int .i64 p.unit] W fun e w' => e = .returned (.int .i64 ((c - 48) * p.unit)) ∧ w' = W) := fun W => worth_any c p.unit W hr1 hr2 hu1 hu2
      have hm1 : 0 ≤ (c - 48) * p.unit := Int.mul_nonneg (by omega) hu1
      have hm2 : (c - 48) * p.unit ≤ 9 * 1000000 := Int.mul_le_mul (by omega) hu2 hu1 (by omega)
      rw [hd] at HD
      clear hd h5
      generalize (c - 48) * p.unit = nn at *
      have hw1 : IntKind.i64.wrap (p.num * 10) = p.num * 10 := wrapI (by omega) (by omega)
      have hw2 : IntKind.i64.wrap (p.num * 10 + nn) = p.num * 10 + nn := wrapI (by omega) (by omega)
      go_enter Tryz.func270, Tryz.ntmps270
      go_wp2_with (go_at_call 315; refine (HD.out _).mono ?_; rintro e w' ⟨rfl, rfl⟩)
      go_region_with (go_at_call 316; refine (HWo.out _).mono ?_; rintro e w' ⟨rfl, rfl⟩)
      all_goals go_wp2
      all_goals go_ret
      all_goals unfold TookP
      all_goals rw [HO.out]
      all_goals exact ⟨rfl, ((H.out.dig _).num _).drew, grown_drew (grown_set (grown_set (grown_refl _ _) _ _) _ _)⟩
  · have HO : Hid (digitD p c = none) := if_neg (fun h => hd h.1)
    have hf : digitB c = false := by simpa using hd
    rw [hf] at HD
    clear hd hf
    go_enter Tryz.func270, Tryz.ntmps270
    go_wp2_with (go_at_call 315; refine (HD.out _).mono ?_; rintro e w' ⟨rfl, rfl⟩)
    go_ret
    unfold TookP
    rw [HO.out]
    exact ⟨rfl, H.out, grown_refl _ _⟩

theorem takeBehind_any (hu1 : 0 ≤ p.unit) (hu2 : p.unit ≤ 1000000) (hn1 : 0 ≤ p.num) (hn2 : p.num ≤ 1000000000000) : Calls Tryz.prog 272 #[.pointer (some ⟨b, 6, none⟩), .int .u8 c] w fun e w' => TookP b vf vW vC wt fl vr p (behindD p c) w e w' := by
  obtain ⟨c6, _, _, c9, c10, _, cf⟩ := h.part
  have H : Hid (RB w b vf vW vC wt fl vr p) := h
  have HD : Hid (∀ W, Calls Tryz.prog 315 #[.int .u8 c] W fun e w' => e = .returned (.bool (digitB c)) ∧ w' = W) := fun W => isDigit_any c W
  clear h
  by_cases hd : digitB c = true
  · have hr : 48 ≤ c ∧ c ≤ 57 := by simpa [digitB] using hd
    obtain ⟨hr1, hr2⟩ := hr
    by_cases h5 : p.unit = 1
    · have HO : Hid (behindD p c = none) := if_neg (fun h => h.2 h5)
      rw [hd] at HD
      rw [h5] at c9
      clear hd h5
      go_enter Tryz.func272, Tryz.ntmps272
      go_wp2_with (go_at_call 315; refine (HD.out _).mono ?_; rintro e w' ⟨rfl, rfl⟩)
      go_ret
      unfold TookP
      rw [HO.out]
      exact ⟨rfl, H.out, grown_refl _ _⟩
    · have hne : (p.unit == 1) = false := beq_eq_false_iff_ne.2 h5
      have hq : p.unit.tdiv 10 = p.unit / 10 := Int.tdiv_eq_ediv_of_nonneg hu1
      have hq1 : 0 ≤ p.unit / 10 := by omega
      have hq2 : p.unit / 10 ≤ 1000000 := by omega
      have HO : Hid (behindD p c = some { p with st := 5, unit := p.unit / 10, num := p.num + (c - 48) * (p.unit / 10) }) := if_pos ⟨hd, h5⟩
      have HWo : Hid (∀ W, Calls Tryz.prog 316 #[.int .u8 c, .int .i64 (p.unit / 10)] W fun e w' => e = .returned (.int .i64 ((c - 48) * (p.unit / 10))) ∧ w' = W) := fun W => worth_any c (p.unit / 10) W hr1 hr2 hq1 hq2
      have hm1 : 0 ≤ (c - 48) * (p.unit / 10) := Int.mul_nonneg (by omega) hq1
      have hm2 : (c - 48) * (p.unit / 10) ≤ 9 * 1000000 := Int.mul_le_mul (by omega) hq2 hq1 (by omega)
      rw [hd] at HD
      clear hd h5
      generalize (c - 48) * (p.unit / 10) = nn at *
      generalize p.unit / 10 = uu at *
      have hw2 : IntKind.i64.wrap (p.num + nn) = p.num + nn := wrapI (by omega) (by omega)
      have hw3 : IntKind.i64.wrap uu = uu := wrapI (by omega) (by omega)
      go_enter Tryz.func272, Tryz.ntmps272
      go_wp2_with (go_at_call 315; refine (HD.out _).mono ?_; rintro e w' ⟨rfl, rfl⟩)
      go_region_with (go_at_call 316; refine (HWo.out _).mono ?_; rintro e w' ⟨rfl, rfl⟩)
      all_goals go_wp2
      all_goals go_ret
      all_goals unfold TookP
      all_goals rw [HO.out]
      all_goals exact ⟨rfl, (((H.out.st _).unit _).num _).drew, grown_drew (grown_set (grown_set (grown_set (grown_refl _ _) _ _) _ _) _ _)⟩
  · have HO : Hid (behindD p c = none) := if_neg (fun h => hd h.1)
    have hf : digitB c = false := by simpa using hd
    rw [hf] at HD
    clear hd hf
    go_enter Tryz.func272, Tryz.ntmps272
    go_wp2_with (go_at_call 315; refine (HD.out _).mono ?_; rintro e w' ⟨rfl, rfl⟩)
    go_ret
    unfold TookP
    rw [HO.out]
    exact ⟨rfl, H.out, grown_refl _ _⟩
end
end Go.Proofs.YtfcgnpchbcmdeaaGreat

namespace Go.Proofs.YtfcgnpchbcmdeaaGreat
open Go.RowKit

section
variable {w : World} {b : Nat} {vf vW vC : Value} {wt : Int} {fl : Bool} {vr : Value} {p : PartS}
theorem RB.setWt (h : RB w b vf vW vC wt fl vr p) (z : Int) : RB (w.setCell ⟨b, 3, none⟩ (.int .i64 z)) b vf vW vC z fl vr p := heap_setCell_same w b 3 _ 256 _ h
theorem RB.setFl (h : RB w b vf vW vC wt fl vr p) (z : Bool) : RB (w.setCell ⟨b, 4, none⟩ (.bool z)) b vf vW vC wt z vr p := heap_setCell_same w b 4 _ 256 _ h
theorem RB.setVr (h : RB w b vf vW vC wt fl vr p) (z : Value) : RB (w.setCell ⟨b, 5, none⟩ z) b vf vW vC wt fl z p := heap_setCell_same w b 5 _ 256 _ h
theorem RB.setVW (h : RB w b vf vW vC wt fl vr p) (z : Value) : RB (w.setCell ⟨b, 1, none⟩ z) b vf z vC wt fl vr p := heap_setCell_same w b 1 _ 256 _ h
end

def mayEnd (st : Int) : Bool := !(decide (st = 1) || decide (st = 4) || decide (st = 7))

theorem mayEnd_any (b : Nat) (vf vW vC : Value) (wt : Int) (fl : Bool) (vr : Value) (p : PartS) (w : World) (h : RB w b vf vW vC wt fl vr p) :
    Calls Tryz.prog 220 #[.pointer (some ⟨b, 6, none⟩)] w fun e w' => e = .returned (.bool (mayEnd p.st)) ∧ w' = w := by
  obtain ⟨c6, _, _, _, _, _, _⟩ := h.part
  clear h
  by_cases s1 : p.st = 1
  · have HO : Hid (mayEnd p.st = false) := by show mayEnd p.st = false; rw [s1]; rfl
    rw [s1] at c6
    clear s1
    go_enter Tryz.func220, Tryz.ntmps220
    go_wp2
    go_ret
    rw [HO.out]; exact ⟨rfl, rfl⟩
  · by_cases s4 : p.st = 4
    · have HO : Hid (mayEnd p.st = false) := by show mayEnd p.st = false; rw [s4]; rfl
      rw [s4] at c6
      clear s1 s4
      go_enter Tryz.func220, Tryz.ntmps220
      go_wp2
      go_ret
      rw [HO.out]; exact ⟨rfl, rfl⟩
    · by_cases s7 : p.st = 7
      · have HO : Hid (mayEnd p.st = false) := by show mayEnd p.st = false; rw [s7]; rfl
        rw [s7] at c6
        clear s1 s4 s7
        go_enter Tryz.func220, Tryz.ntmps220
        go_wp2
        go_ret
        rw [HO.out]; exact ⟨rfl, rfl⟩
      · have HO : Hid (mayEnd p.st = true) := by show mayEnd p.st = true; unfold mayEnd; simp [s1, s4, s7]
        have e1 : (p.st == 1) = false := beq_eq_false_iff_ne.2 s1
        have e4 : (p.st == 4) = false := beq_eq_false_iff_ne.2 s4
        have e7 : (p.st == 7) = false := beq_eq_false_iff_ne.2 s7
        go_enter Tryz.func220, Tryz.ntmps220
        go_wp2
        go_ret
        rw [HO.out]; exact ⟨rfl, rfl⟩

theorem whole_any (b : Nat) (vf vW vC : Value) (wt : Int) (fl : Bool) (vr : Value) (p : PartS) (w : World) (h : RB w b vf vW vC wt fl vr p) :
    Calls Tryz.prog 91 #[.pointer (some ⟨b, 0, none⟩)] w fun e w' => e = .returned (.bool (decide (wt = 0))) ∧ w' = w := by
  obtain ⟨_, _, _, c3, _, _⟩ := h.head
  clear h
  by_cases s : wt = 0
  · subst s
    go_enter Tryz.func91, Tryz.ntmps91
    go_wp2
    go_ret
    exact ⟨rfl, rfl⟩
  · have e1 : (wt == 0) = false := beq_eq_false_iff_ne.2 s
    have HO : Hid (decide (wt = 0) = false) := decide_eq_false s
    go_enter Tryz.func91, Tryz.ntmps91
    go_wp2
    go_ret
    first | exact ⟨rfl, rfl⟩ | (rw [HO.out]; exact ⟨rfl, rfl⟩)

/-- What the weight takes: it is whole, or it has a digit more. -/
inductive WStep
  | no
  | whole
  | digit (z : Int)

def weightStep (wt c : Int) : WStep :=
  if c = 44 ∧ 0 < wt then .whole
  else if 48 ≤ c ∧ c ≤ 57 ∧ 1 ≤ wt * 10 + (c - 48) ∧ wt * 10 + (c - 48) ≤ 99 then .digit (wt * 10 + (c - 48))
  else .no

/-- WHAT TAKING A BYTE INTO THE WEIGHT LEAVES. -/
def WTook (b : Nat) (vf vW vC : Value) (wt : Int) (fl : Bool) (vr : Value) (p : PartS) (s : WStep) (w : World) (e : Ending) (w' : World) : Prop :=
  w.grownBy w' (some b) ∧ match s with
    | .no => e = .returned (.bool false) ∧ RB w' b vf vW vC wt fl vr p
    | .whole => e = .returned (.bool true) ∧ RB w' b vf vW vC wt true vr p
    | .digit z => e = .returned (.bool true) ∧ RB w' b vf vW vC z fl vr p

set_option maxHeartbeats 2000000 in
theorem takeInWeight_any (b : Nat) (vf vW vC : Value) (wt : Int) (fl : Bool) (vr : Value) (p : PartS) (c : Int) (w : World) (h : RB w b vf vW vC wt fl vr p) (h0 : 0 ≤ wt) (h1 : wt ≤ 99) (hc0 : 0 ≤ c) (hc1 : c ≤ 255) :
    Calls Tryz.prog 162 #[.pointer (some ⟨b, 0, none⟩), .int .u8 c] w fun e w' => WTook b vf vW vC wt fl vr p (weightStep wt c) w e w' := by
  obtain ⟨_, _, _, c3, c4, _⟩ := h.head
  have cf := h.part.2.2.2.2.2.2
  have H : Hid (RB w b vf vW vC wt fl vr p) := h
  clear h
  by_cases k : c = 44 ∧ 0 < wt
  · have HO : Hid (weightStep wt c = .whole) := if_pos k
    obtain ⟨rfl, k2⟩ := k
    go_enter Tryz.func162, Tryz.ntmps162
    go_wp2
    go_ret
    rw [HO.out]
    exact ⟨grown_set (grown_refl _ _) _ _, rfl, H.out.setFl true⟩
  · by_cases d : 48 ≤ c ∧ c ≤ 57
    · obtain ⟨d1, d2⟩ := d
      have n44 : ¬ c = 44 := by omega
      have hw : IntKind.u8.wrap (c - 48) = c - 48 := by simp [IntKind.wrap, IntKind.bits, IntKind.signed]; omega
      have hw1 : IntKind.i64.wrap (c - 48) = c - 48 := wrapI (by omega) (by omega)
      have hw2 : IntKind.i64.wrap (wt * 10) = wt * 10 := wrapI (by omega) (by omega)
      have hw3 : IntKind.i64.wrap (wt * 10 + (c - 48)) = wt * 10 + (c - 48) := wrapI (by omega) (by omega)
      by_cases r : 1 ≤ wt * 10 + (c - 48) ∧ wt * 10 + (c - 48) ≤ 99
      · have HO : Hid (weightStep wt c = .digit (wt * 10 + (c - 48))) := by show weightStep wt c = _; unfold weightStep; rw [if_neg k, if_pos ⟨d1, d2, r⟩]
        obtain ⟨r1, r2⟩ := r
        clear k
        go_enter Tryz.func162, Tryz.ntmps162
        go_wp2
        go_ret
        rw [HO.out]
        exact ⟨grown_set (grown_refl _ _) _ _, rfl, H.out.setWt _⟩
      · have HO : Hid (weightStep wt c = .no) := by show weightStep wt c = _; unfold weightStep; rw [if_neg k, if_neg (fun h => r h.2.2)]
        have r' : wt * 10 + (c - 48) < 1 ∨ 99 < wt * 10 + (c - 48) := by omega
        clear k r
        rcases r' with r' | r'
        all_goals
          go_enter Tryz.func162, Tryz.ntmps162
          go_wp2
          go_ret
          rw [HO.out]
          exact ⟨grown_refl _ _, rfl, H.out⟩
    · have HO : Hid (weightStep wt c = .no) := by show weightStep wt c = _; unfold weightStep; rw [if_neg k, if_neg (fun h => d ⟨h.1, h.2.1⟩)]
      have d' : c < 48 ∨ 57 < c := by omega
      have k' : (c = 44 ∧ wt = 0) ∨ ¬ c = 44 := by omega
      clear k d
      rcases k' with ⟨rfl, rfl⟩ | k'
      · clear d'
        go_enter Tryz.func162, Tryz.ntmps162
        go_wp2
        go_ret
        rw [HO.out]
        exact ⟨grown_refl _ _, rfl, H.out⟩
      · have hne : (c == 44) = false := beq_eq_false_iff_ne.2 k'
        rcases d' with d' | d'
        all_goals
          go_enter Tryz.func162, Tryz.ntmps162
          go_wp2
          go_ret
          rw [HO.out]
          exact ⟨grown_refl _ _, rfl, H.out⟩
end Go.Proofs.YtfcgnpchbcmdeaaGreat
