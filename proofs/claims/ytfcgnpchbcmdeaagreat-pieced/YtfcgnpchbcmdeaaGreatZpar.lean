import Derived.Test.YtfcgnpchbcmdeaaGreatZpaj
import Derived.Test.YtfcgnpchbcmdeaaGreatZpal
import Derived.Deep.RegionWith
import Derived.Test.YtfcgnpchbcmdeaaGreatZpac
namespace Go.Proofs.YtfcgnpchbcmdeaaGreat
open Go.RowKit
structure PartS where
  st : Int
  neg : Bool
  dig : Int
  unit : Int
  num : Int
  wv : Value
def RB (w : World) (b : Nat) (vf vW vC : Value) (wt : Int) (fl : Bool) (vr : Value) (p : PartS) : Prop :=
  w.heap[b]? = some (.cells #[vf, vW, vC, .int .i64 wt, .bool fl, vr, .int .i64 p.st, .bool p.neg, .int .i64 p.dig, .int .i64 p.unit, .int .i64 p.num, p.wv] 256 (0, 0))
section
variable {w : World} {b : Nat} {vf vW vC : Value} {wt : Int} {fl : Bool} {vr : Value} {p : PartS}
theorem RB.part (h : RB w b vf vW vC wt fl vr p) : w.cell? ⟨b, 6, none⟩ = some (.int .i64 p.st) /\ w.cell? ⟨b, 7, none⟩ = some (.bool p.neg) /\ w.cell? ⟨b, 8, none⟩ = some (.int .i64 p.dig) /\ w.cell? ⟨b, 9, none⟩ = some (.int .i64 p.unit) /\ w.cell? ⟨b, 10, none⟩ = some (.int .i64 p.num) /\ w.cell? ⟨b, 11, none⟩ = some p.wv /\ (∀ o, w.frozen? ⟨b, o, none⟩ = false) := by unfold RB at h;refine ⟨?_, ?_, ?_, ?_, ?_, ?_, fun o => frozen_of_row w b o _ 256 h⟩ <;> simp [World.cell?, h]
theorem RB.head (h : RB w b vf vW vC wt fl vr p) : w.cell? ⟨b, 0, none⟩ = some vf /\ w.cell? ⟨b, 1, none⟩ = some vW /\ w.cell? ⟨b, 2, none⟩ = some vC /\ w.cell? ⟨b, 3, none⟩ = some (.int .i64 wt) /\ w.cell? ⟨b, 4, none⟩ = some (.bool fl) /\ w.cell? ⟨b, 5, none⟩ = some vr := by unfold RB at h;refine ⟨?_, ?_, ?_, ?_, ?_, ?_⟩ <;> simp [World.cell?, h]
theorem RB.lt (h : RB w b vf vW vC wt fl vr p) : b < w.heap.size := (Array.getElem?_eq_some_iff.1 h).1
theorem RB.grown {w' : World} {row : Option Nat} (h : RB w b vf vW vC wt fl vr p) (hg : w.grownBy w' row) (hne : some b ≠ row) : RB w' b vf vW vC wt fl vr p := (hg.block b h.lt hne).trans h
theorem RB.below {w' : World} {B : Nat} (h : RB w b vf vW vC wt fl vr p) (hb : Below B w w') (hg : b < B) : RB w' b vf vW vC wt fl vr p := (hb.block b hg).trans h
theorem RB.drew (h : RB w b vf vW vC wt fl vr p) : RB w.drew b vf vW vC wt fl vr p := h
theorem RB.st (h : RB w b vf vW vC wt fl vr p) (z : Int) : RB (w.setCell ⟨b, 6, none⟩ (.int .i64 z)) b vf vW vC wt fl vr { p with st := z } := heap_setCell_same w b 6 _ 256 _ h
theorem RB.neg (h : RB w b vf vW vC wt fl vr p) (z : Bool) : RB (w.setCell ⟨b, 7, none⟩ (.bool z)) b vf vW vC wt fl vr { p with neg := z } := heap_setCell_same w b 7 _ 256 _ h
theorem RB.dig (h : RB w b vf vW vC wt fl vr p) (z : Int) : RB (w.setCell ⟨b, 8, none⟩ (.int .i64 z)) b vf vW vC wt fl vr { p with dig := z } := heap_setCell_same w b 8 _ 256 _ h
theorem RB.unit (h : RB w b vf vW vC wt fl vr p) (z : Int) : RB (w.setCell ⟨b, 9, none⟩ (.int .i64 z)) b vf vW vC wt fl vr { p with unit := z } := heap_setCell_same w b 9 _ 256 _ h
theorem RB.num (h : RB w b vf vW vC wt fl vr p) (z : Int) : RB (w.setCell ⟨b, 10, none⟩ (.int .i64 z)) b vf vW vC wt fl vr { p with num := z } := heap_setCell_same w b 10 _ 256 _ h
theorem RB.wv (h : RB w b vf vW vC wt fl vr p) (z : Value) : RB (w.setCell ⟨b, 11, none⟩ z) b vf vW vC wt fl vr { p with wv := z } := heap_setCell_same w b 11 _ 256 _ h
end
theorem wrapI {z : Int} (h1 : -9000000000000000000 <= z) (h2 : z <= 9000000000000000000) : IntKind.i64.wrap z = z := by simp [IntKind.wrap, IntKind.bits, IntKind.signed]; omega
def digitB (c : Int) : Bool := decide (48 <= c) && decide (c <= 57)
def letterB (c : Int) : Bool := decide (97 <= c) && decide (c <= 122)
theorem isDigit_any (c : Int) (w : World) : Calls Tryz.prog 315 #[.int .u8 c] w fun e w' => e = .returned (.bool (digitB c)) /\ w' = w := by
  unfold digitB
  by_cases h1 : 48 <= c
  · go_enter Tryz.func315, Tryz.ntmps315;go_wp2;go_ret;exact ⟨by simp [h1], rfl⟩
  have h2 : decide (48 <= c) = false := decide_eq_false h1;go_enter Tryz.func315, Tryz.ntmps315;go_wp2;go_ret;exact ⟨rfl, rfl⟩
theorem isLetter_any (c : Int) (w : World) : Calls Tryz.prog 310 #[.int .u8 c] w fun e w' => e = .returned (.bool (letterB c)) /\ w' = w := by
  unfold letterB
  by_cases h1 : 97 <= c
  · go_enter Tryz.func310, Tryz.ntmps310;go_wp2;go_ret;exact ⟨by simp [h1], rfl⟩
  have h2 : decide (97 <= c) = false := decide_eq_false h1;go_enter Tryz.func310, Tryz.ntmps310;go_wp2;go_ret;exact ⟨rfl, rfl⟩
theorem worth_any (c u : Int) (w : World) (h1 : 48 <= c) (h2 : c <= 57) (h3 : 0 <= u) (h4 : u <= 1000000) : Calls Tryz.prog 316 #[.int .u8 c, .int .i64 u] w fun e w' => e = .returned (.int .i64 ((c - 48) * u)) /\ w' = w := by have hw : IntKind.u8.wrap (c - 48) = c - 48 := (by simp [IntKind.wrap, IntKind.bits, IntKind.signed]; omega);have hm1 : 0 <= (c - 48) * u := Int.mul_nonneg (by omega) h3;have hm2 : (c - 48) * u <= 9 * 1000000 := Int.mul_le_mul (by omega) h4 h3 (by omega);have hw2 : IntKind.i64.wrap (c - 48) = c - 48 := (by simp [IntKind.wrap, IntKind.bits, IntKind.signed]; omega);go_enter Tryz.func316, Tryz.ntmps316;go_wp2;go_ret;exact ⟨rfl, rfl⟩
def minusD (p : PartS) (c : Int) : Option PartS := if c = 45 then some { p with st := 1, neg := true } else none
def firstD (u : Int) (p : PartS) (c : Int) : Option PartS := if digitB c = true then some { p with st := if c = 48 then 2 else 3, dig := 1, unit := u, num := (c - 48) * u } else none
def digitD (p : PartS) (c : Int) : Option PartS := if digitB c = true /\ p.dig ≠ 5 then some { p with dig := p.dig + 1, num := p.num * 10 + (c - 48) * p.unit } else none
def pointD (p : PartS) (c : Int) : Option PartS := if c = 46 /\ p.unit ≠ 1 then some { p with st := 4 } else none
def behindD (p : PartS) (c : Int) : Option PartS := if digitB c = true /\ p.unit ≠ 1 then some { p with st := 5, unit := p.unit / 10, num := p.num + (c - 48) * (p.unit / 10) } else none
def TookP (b : Nat) (vf vW vC : Value) (wt : Int) (fl : Bool) (vr : Value) (p : PartS) (o : Option PartS) (w : World) (e : Ending) (w' : World) : Prop :=
  e = .returned (.bool o.isSome) /\ RB w' b vf vW vC wt fl vr (o.getD p) /\ w.grownBy w' (some b)
section
variable (b : Nat) (vf vW vC : Value) (wt : Int) (fl : Bool) (vr : Value) (p : PartS) (c : Int) (w : World) (h : RB w b vf vW vC wt fl vr p)
include h
theorem takeMinus_any : Calls Tryz.prog 268 #[.pointer (some ⟨b, 6, none⟩), .int .u8 c] w fun e w' => TookP b vf vW vC wt fl vr p (minusD p c) w e w' := by
  obtain ⟨c6, c7, _, _, _, _, cf⟩ := h.part;have H : Hid (RB w b vf vW vC wt fl vr p) := h;clear h
  by_cases hc : c = 45
  · subst hc;go_enter Tryz.func268, Tryz.ntmps268;go_wp2;go_ret;exact ⟨rfl, (H.out.st 1).neg true, grown_set (grown_set (grown_refl _ _) _ _) _ _⟩
  have hne : (c == 45) = false := beq_eq_false_iff_ne.2 hc;have HO : Hid (minusD p c = none) := if_neg hc;go_enter Tryz.func268, Tryz.ntmps268;go_wp2;go_ret;unfold TookP;rw [HO.out];exact ⟨rfl, H.out, grown_refl _ _⟩
theorem takePoint_any : Calls Tryz.prog 271 #[.pointer (some ⟨b, 6, none⟩), .int .u8 c] w fun e w' => TookP b vf vW vC wt fl vr p (pointD p c) w e w' := by
  obtain ⟨c6, _, _, c9, _, _, cf⟩ := h.part;have H : Hid (RB w b vf vW vC wt fl vr p) := h;clear h
  by_cases hc : c = 46
  · subst hc
    by_cases hu : p.unit = 1
    · have HO : Hid (pointD p 46 = none) := if_neg (by simp [hu]);rw [hu] at c9;go_enter Tryz.func271, Tryz.ntmps271;go_wp2;go_ret;unfold TookP;rw [HO.out];exact ⟨rfl, H.out, grown_refl _ _⟩
    have hne : (p.unit == 1) = false := beq_eq_false_iff_ne.2 hu;have HO : Hid (pointD p 46 = some { p with st := 4 }) := if_pos ⟨rfl, hu⟩;go_enter Tryz.func271, Tryz.ntmps271;go_wp2;go_ret;unfold TookP;rw [HO.out];exact ⟨rfl, H.out.st 4, grown_set (grown_refl _ _) _ _⟩
  have hne : (c == 46) = false := beq_eq_false_iff_ne.2 hc;have HO : Hid (pointD p c = none) := if_neg (fun h => hc h.1);go_enter Tryz.func271, Tryz.ntmps271;go_wp2;go_ret;unfold TookP;rw [HO.out];exact ⟨rfl, H.out, grown_refl _ _⟩
theorem takeFirst_any (u : Int) (hu1 : 0 <= u) (hu2 : u <= 1000000) : Calls Tryz.prog 269 #[.pointer (some ⟨b, 6, none⟩), .int .u8 c, .int .i64 u] w fun e w' => TookP b vf vW vC wt fl vr p (firstD u p c) w e w' := by
  obtain ⟨c6, _, c8, c9, c10, _, cf⟩ := h.part;have H : Hid (RB w b vf vW vC wt fl vr p) := h;have HD : Hid (∀ W, Calls Tryz.prog 315 #[.int .u8 c] W fun e w' => e = .returned (.bool (digitB c)) /\ w' = W) := fun W => isDigit_any c W;clear h
  by_cases hd : digitB c = true
  · have hr : 48 <= c /\ c <= 57 := by simpa [digitB] using hd
    obtain ⟨hr1, hr2⟩ := hr;have HWo : Hid (∀ W, Calls Tryz.prog 316 #[.int .u8 c, .int .i64 u] W fun e w' => e = .returned (.int .i64 ((c - 48) * u)) /\ w' = W) := fun W => worth_any c u W hr1 hr2 hu1 hu2;rw [hd] at HD
    by_cases h0 : c = 48
    · have HO : Hid (firstD u p c = some { p with st := 2, dig := 1, unit := u, num := (c - 48) * u }) := (by show firstD u p c = _; unfold firstD; rw [if_pos hd, if_pos h0]);have hne : (c == 48) = true := (by simp [h0]);generalize (c - 48) * u = nn at *;clear h0 hd;go_enter Tryz.func269, Tryz.ntmps269;go_wp2_with (first | (go_at_call 315; refine (HD.out _).mono ?_; rintro e w' ⟨rfl, rfl⟩) | (go_at_call 316; refine (HWo.out _).mono ?_; rintro e w' ⟨rfl, rfl⟩))
      go_ret;unfold TookP;rw [HO.out];exact ⟨rfl, ((((H.out.st 3).dig 1).unit u).num nn).st 2, grown_set (grown_set (grown_set (grown_set (grown_set (grown_refl _ _) _ _) _ _) _ _) _ _) _ _⟩
    have HO : Hid (firstD u p c = some { p with st := 3, dig := 1, unit := u, num := (c - 48) * u }) := (by show firstD u p c = _; unfold firstD; rw [if_pos hd, if_neg h0]);have hne : (c == 48) = false := beq_eq_false_iff_ne.2 h0;generalize (c - 48) * u = nn at *;clear h0 hd;go_enter Tryz.func269, Tryz.ntmps269;go_wp2_with (first | (go_at_call 315; refine (HD.out _).mono ?_; rintro e w' ⟨rfl, rfl⟩) | (go_at_call 316; refine (HWo.out _).mono ?_; rintro e w' ⟨rfl, rfl⟩))
    go_ret;unfold TookP;rw [HO.out];exact ⟨rfl, (((H.out.st 3).dig 1).unit u).num nn, grown_set (grown_set (grown_set (grown_set (grown_refl _ _) _ _) _ _) _ _) _ _⟩
  have HO : Hid (firstD u p c = none) := if_neg hd
  have hf : digitB c = false := by simpa using hd
  rw [hf] at HD;clear hd hf;go_enter Tryz.func269, Tryz.ntmps269;go_wp2_with (go_at_call 315; refine (HD.out _).mono ?_; rintro e w' ⟨rfl, rfl⟩)
  go_ret;unfold TookP;rw [HO.out];exact ⟨rfl, H.out, grown_refl _ _⟩
theorem takeDigit_any (hu1 : 0 <= p.unit) (hu2 : p.unit <= 1000000) (hn1 : 0 <= p.num) (hn2 : p.num <= 1000000000000) (hg1 : 0 <= p.dig) (hg2 : p.dig <= 1000) : Calls Tryz.prog 270 #[.pointer (some ⟨b, 6, none⟩), .int .u8 c] w fun e w' => TookP b vf vW vC wt fl vr p (digitD p c) w e w' := by
  obtain ⟨_, _, c8, c9, c10, _, cf⟩ := h.part;have H : Hid (RB w b vf vW vC wt fl vr p) := h;have HD : Hid (∀ W, Calls Tryz.prog 315 #[.int .u8 c] W fun e w' => e = .returned (.bool (digitB c)) /\ w' = W) := fun W => isDigit_any c W;clear h
  by_cases hd : digitB c = true
  · have hr : 48 <= c /\ c <= 57 := by simpa [digitB] using hd
    obtain ⟨hr1, hr2⟩ := hr
    by_cases h5 : p.dig = 5
    · have HO : Hid (digitD p c = none) := if_neg (fun h => h.2 h5);rw [hd] at HD;rw [h5] at c8;clear hd h5;go_enter Tryz.func270, Tryz.ntmps270;go_wp2_with (go_at_call 315; refine (HD.out _).mono ?_; rintro e w' ⟨rfl, rfl⟩)
      go_ret;unfold TookP;rw [HO.out];exact ⟨rfl, H.out, grown_refl _ _⟩
    have hne : (p.dig == 5) = false := beq_eq_false_iff_ne.2 h5;have HO : Hid (digitD p c = some { p with dig := p.dig + 1, num := p.num * 10 + (c - 48) * p.unit }) := if_pos ⟨hd, h5⟩;have HWo : Hid (∀ W, Calls Tryz.prog 316 #[.int .u8 c, .int .i64 p.unit] W fun e w' => e = .returned (.int .i64 ((c - 48) * p.unit)) /\ w' = W) := fun W => worth_any c p.unit W hr1 hr2 hu1 hu2;have hm1 : 0 <= (c - 48) * p.unit := Int.mul_nonneg (by omega) hu1;have hm2 : (c - 48) * p.unit <= 9 * 1000000 := Int.mul_le_mul (by omega) hu2 hu1 (by omega);rw [hd] at HD;clear hd h5;generalize (c - 48) * p.unit = nn at *;have hw1 : IntKind.i64.wrap (p.num * 10) = p.num * 10 := wrapI (by omega) (by omega);have hw2 : IntKind.i64.wrap (p.num * 10 + nn) = p.num * 10 + nn := wrapI (by omega) (by omega);go_enter Tryz.func270, Tryz.ntmps270
    go_wp2_with (go_at_call 315; refine (HD.out _).mono ?_; rintro e w' ⟨rfl, rfl⟩)
    go_region_with (go_at_call 316; refine (HWo.out _).mono ?_; rintro e w' ⟨rfl, rfl⟩)
    all_goals go_wp2
    all_goals go_ret
    all_goals unfold TookP
    all_goals rw [HO.out]
    all_goals exact ⟨rfl, ((H.out.dig _).num _).drew, grown_drew (grown_set (grown_set (grown_refl _ _) _ _) _ _)⟩
  have HO : Hid (digitD p c = none) := if_neg (fun h => hd h.1)
  have hf : digitB c = false := by simpa using hd
  rw [hf] at HD;clear hd hf;go_enter Tryz.func270, Tryz.ntmps270;go_wp2_with (go_at_call 315; refine (HD.out _).mono ?_; rintro e w' ⟨rfl, rfl⟩)
  go_ret;unfold TookP;rw [HO.out];exact ⟨rfl, H.out, grown_refl _ _⟩
theorem takeBehind_any (hu1 : 0 <= p.unit) (hu2 : p.unit <= 1000000) (hn1 : 0 <= p.num) (hn2 : p.num <= 1000000000000) : Calls Tryz.prog 272 #[.pointer (some ⟨b, 6, none⟩), .int .u8 c] w fun e w' => TookP b vf vW vC wt fl vr p (behindD p c) w e w' := by
  obtain ⟨c6, _, _, c9, c10, _, cf⟩ := h.part;have H : Hid (RB w b vf vW vC wt fl vr p) := h;have HD : Hid (∀ W, Calls Tryz.prog 315 #[.int .u8 c] W fun e w' => e = .returned (.bool (digitB c)) /\ w' = W) := fun W => isDigit_any c W;clear h
  by_cases hd : digitB c = true
  · have hr : 48 <= c /\ c <= 57 := by simpa [digitB] using hd
    obtain ⟨hr1, hr2⟩ := hr
    by_cases h5 : p.unit = 1
    · have HO : Hid (behindD p c = none) := if_neg (fun h => h.2 h5);rw [hd] at HD;rw [h5] at c9;clear hd h5;go_enter Tryz.func272, Tryz.ntmps272;go_wp2_with (go_at_call 315; refine (HD.out _).mono ?_; rintro e w' ⟨rfl, rfl⟩)
      go_ret;unfold TookP;rw [HO.out];exact ⟨rfl, H.out, grown_refl _ _⟩
    have hne : (p.unit == 1) = false := beq_eq_false_iff_ne.2 h5;have hq : p.unit.tdiv 10 = p.unit / 10 := Int.tdiv_eq_ediv_of_nonneg hu1;have hq1 : 0 <= p.unit / 10 := (by omega);have hq2 : p.unit / 10 <= 1000000 := (by omega);have HO : Hid (behindD p c = some { p with st := 5, unit := p.unit / 10, num := p.num + (c - 48) * (p.unit / 10) }) := if_pos ⟨hd, h5⟩;have HWo : Hid (∀ W, Calls Tryz.prog 316 #[.int .u8 c, .int .i64 (p.unit / 10)] W fun e w' => e = .returned (.int .i64 ((c - 48) * (p.unit / 10))) /\ w' = W) := fun W => worth_any c (p.unit / 10) W hr1 hr2 hq1 hq2;have hm1 : 0 <= (c - 48) * (p.unit / 10) := Int.mul_nonneg (by omega) hq1;have hm2 : (c - 48) * (p.unit / 10) <= 9 * 1000000 := Int.mul_le_mul (by omega) hq2 hq1 (by omega);rw [hd] at HD;clear hd h5;generalize (c - 48) * (p.unit / 10) = nn at *;generalize p.unit / 10 = uu at *
    have hw2 : IntKind.i64.wrap (p.num + nn) = p.num + nn := wrapI (by omega) (by omega);have hw3 : IntKind.i64.wrap uu = uu := wrapI (by omega) (by omega);go_enter Tryz.func272, Tryz.ntmps272;go_wp2_with (go_at_call 315; refine (HD.out _).mono ?_; rintro e w' ⟨rfl, rfl⟩)
    go_region_with (go_at_call 316; refine (HWo.out _).mono ?_; rintro e w' ⟨rfl, rfl⟩)
    all_goals go_wp2
    all_goals go_ret
    all_goals unfold TookP
    all_goals rw [HO.out]
    all_goals exact ⟨rfl, (((H.out.st _).unit _).num _).drew, grown_drew (grown_set (grown_set (grown_set (grown_refl _ _) _ _) _ _) _ _)⟩
  have HO : Hid (behindD p c = none) := if_neg (fun h => hd h.1)
  have hf : digitB c = false := by simpa using hd
  rw [hf] at HD;clear hd hf;go_enter Tryz.func272, Tryz.ntmps272;go_wp2_with (go_at_call 315; refine (HD.out _).mono ?_; rintro e w' ⟨rfl, rfl⟩)
  go_ret;unfold TookP;rw [HO.out];exact ⟨rfl, H.out, grown_refl _ _⟩
end
end Go.Proofs.YtfcgnpchbcmdeaaGreat

namespace Go.Proofs.YtfcgnpchbcmdeaaGreat
open Go.RowKit
theorem info5 : (Tryz.prog.info? 5).map (fun i => (i.zero, i.size, i.bytes)) = some (some (.int .u8 0), 1, 1) := by kernel_rfl
def OwnB (w : World) (base : Nat) (v : Value) (bs : List Int) : Prop := w.ownsRow base 5 1 v bs.length (bs.map (Value.int .u8))
theorem OwnB.form {w : World} {base : Nat} {v : Value} {bs : List Int} (h : OwnB w base v bs) : ∃ a c, v = .slice a bs.length c := by
  rcases h.2 with ⟨rfl, h0⟩ | ⟨q, p, cur, rfl, _⟩
  exact ⟨none, 0, by rw [h0]⟩;exact ⟨_, _, rfl⟩
def RW (w : World) (b base : Nat) (vf vW vC : Value) (wt : Int) (fl : Bool) (vr : Value) (p : PartS) (bs : List Int) : Prop := RB w b vf vW vC wt fl vr p /\ OwnB w base p.wv bs
def TookW (b base : Nat) (vf vW vC : Value) (wt : Int) (fl : Bool) (vr : Value) (p : PartS) (bs : List Int) (o : Option (Int × List Int)) (w : World) (e : Ending) (w' : World) : Prop :=
  e = .returned (.bool o.isSome) /\ (∃ v', RW w' b base vf vW vC wt fl vr { p with st := (o.getD (p.st, bs)).1, wv := v' } (o.getD (p.st, bs)).2 /\ (v'.ownBlock = p.wv.ownBlock ∨ ∃ k, v'.ownBlock = some k /\ w.heap.size <= k)) /\ Touch (fun k => k = b ∨ some k = p.wv.ownBlock) w w'
theorem TookW.none {b base : Nat} {vf vW vC : Value} {wt : Int} {fl : Bool} {vr : Value} {p : PartS} {bs : List Int} {w : World} (h : RW w b base vf vW vC wt fl vr p bs) : TookW b base vf vW vC wt fl vr p bs none w (.returned (.bool false)) w :=
  ⟨rfl, ⟨p.wv, h, .inl rfl⟩, Touch.refl _ _⟩
section
variable (b base : Nat) (vf vW vC : Value) (wt : Int) (fl : Bool) (vr : Value) (p : PartS) (bs : List Int) (c : Int) (w : World) (h : RW w b base vf vW vC wt fl vr p bs)
include h
theorem full_any : Calls Tryz.prog 311 #[.pointer (some ⟨b, 6, none⟩)] w fun e w' => e = .returned (.bool (decide (bs.length = 8))) /\ w' = w := by
  obtain ⟨_, _, _, _, _, c11, cf⟩ := h.1.part;obtain ⟨a, cp, hv⟩ := h.2.form;rw [hv] at c11
  by_cases h8 : bs.length = 8
  · rw [h8] at c11;go_enter Tryz.func311, Tryz.ntmps311;go_wp2;go_ret;exact ⟨by simp [h8], rfl⟩
  have hne : ((bs.length : Int) == 8) = false := beq_eq_false_iff_ne.2 (by omega);go_enter Tryz.func311, Tryz.ntmps311;go_wp2;go_ret;exact ⟨by simp [h8], rfl⟩
theorem takeOpening_any : Calls Tryz.prog 259 #[.pointer (some ⟨b, 6, none⟩), .int .u8 c] w fun e w' => TookW b base vf vW vC wt fl vr p bs (if c = 34 then some (7, bs) else none) w e w' := by
  obtain ⟨c6, _, _, _, _, _, cf⟩ := h.1.part;have H : Hid (RW w b base vf vW vC wt fl vr p bs) := h;have HT : Hid (∀ u, Touch (fun k => k = b ∨ some k = p.wv.ownBlock) w (w.setCell ⟨b, 6, none⟩ u)) := fun u => (Touch.refl _ w).setCell (p := ⟨b, 6, none⟩) (fun _ => .inl rfl) u
  have HOW : Hid (∀ u, OwnB (w.setCell ⟨b, 6, none⟩ u) base p.wv bs) := fun u => ((Touch.refl (fun k => k = b) w).setCell (p := ⟨b, 6, none⟩) (fun _ => rfl) u).row h.2 (fun k hk e => by
    obtain ⟨cur, hc⟩ := row_type h.2 hk;subst e;have := h.1;unfold RB at this
    rw [this] at hc; simp at hc)
  clear h
  by_cases hc : c = 34
  · subst hc;go_enter Tryz.func259, Tryz.ntmps259;go_wp2;go_ret;exact ⟨rfl, ⟨p.wv, ⟨H.out.1.st 7, HOW.out _⟩, .inl rfl⟩, HT.out _⟩
  have hne : (c == 34) = false := beq_eq_false_iff_ne.2 hc;have HO : Hid ((if c = 34 then some ((7 : Int), bs) else none) = none) := if_neg hc;go_enter Tryz.func259, Tryz.ntmps259;go_wp2;go_ret
  first | exact TookW.none H.out | (rw [HO.out]; exact TookW.none H.out)
theorem takeQuote_any : Calls Tryz.prog 261 #[.pointer (some ⟨b, 6, none⟩), .int .u8 c] w fun e w' => TookW b base vf vW vC wt fl vr p bs (if c = 34 then some (8, bs) else none) w e w' := by
  obtain ⟨c6, _, _, _, _, _, cf⟩ := h.1.part;have H : Hid (RW w b base vf vW vC wt fl vr p bs) := h;have HT : Hid (∀ u, Touch (fun k => k = b ∨ some k = p.wv.ownBlock) w (w.setCell ⟨b, 6, none⟩ u)) := fun u => (Touch.refl _ w).setCell (p := ⟨b, 6, none⟩) (fun _ => .inl rfl) u
  have HOW : Hid (∀ u, OwnB (w.setCell ⟨b, 6, none⟩ u) base p.wv bs) := fun u => ((Touch.refl (fun k => k = b) w).setCell (p := ⟨b, 6, none⟩) (fun _ => rfl) u).row h.2 (fun k hk e => by
    obtain ⟨cur, hc⟩ := row_type h.2 hk;subst e;have := h.1;unfold RB at this
    rw [this] at hc; simp at hc)
  clear h
  by_cases hc : c = 34
  · subst hc;go_enter Tryz.func261, Tryz.ntmps261;go_wp2;go_ret;exact ⟨rfl, ⟨p.wv, ⟨H.out.1.st 8, HOW.out _⟩, .inl rfl⟩, HT.out _⟩
  have hne : (c == 34) = false := beq_eq_false_iff_ne.2 hc;have HO : Hid ((if c = 34 then some ((8 : Int), bs) else none) = none) := if_neg hc;go_enter Tryz.func261, Tryz.ntmps261;go_wp2;go_ret
  first | exact TookW.none H.out | (rw [HO.out]; exact TookW.none H.out)
end
def letterD (bs : List Int) (c : Int) : Option (Int × List Int) := if letterB c = true /\ bs.length ≠ 8 then some (6, bs ++ [c]) else none
def signB (c : Int) : Bool := letterB c || decide (c = 32) || decide (c = 44) || decide (c = 10) || decide (c = 34)
def signD (st : Int) (bs : List Int) (c : Int) : Option (Int × List Int) := if signB c = true /\ bs.length ≠ 8 then some (st, bs ++ [c]) else none
def secondD (bs : List Int) (c : Int) : Option (Int × List Int) := if c = 34 /\ bs.length ≠ 8 then some (7, bs ++ [c]) else none
theorem grew_word {b base : Nat} {vf vW vC : Value} {wt : Int} {fl : Bool} {vr : Value} {p : PartS} {bs : List Int} {c : Int} {w w1 w2 : World} {st : Int} {q cp N : Nat} (h : RW w b base vf vW vC wt fl vr p bs) (h1 : RB w1 b vf vW vC wt fl vr { p with st := st }) (t1 : Touch (fun k => k = b) w w1) (hX : w2.ownsRow base 5 1 (.slice (some ⟨q, 0, none⟩) (bs.length + 1) cp) (bs.length + 1) (bs.map (Value.int .u8) ++ [.int .u8 c])) (hg : (w1.alloc (.cells #[.int .u8 c] 5)).grownBy w2 p.wv.ownBlock) (hd : (Value.slice (some ⟨q, 0, none⟩) (bs.length + 1) cp).ownBlock = p.wv.ownBlock ∨ (Value.slice (some ⟨q, 0, none⟩) (bs.length + 1) cp).ownBlock = some N /\ Below N (w1.alloc (.cells #[.int .u8 c] 5)) w2) (hN : w1.heap.size <= N) : TookW b base vf vW vC wt fl vr p bs (some (st, bs ++ [c])) w (.returned (.bool true)) (w2.setCell ⟨b, 11, none⟩ (.slice (some ⟨q, 0, none⟩) (bs.length + 1) cp)) := by
  have hbw : some b ≠ p.wv.ownBlock := fun e => by obtain ⟨cur, hc⟩ := row_type h.2 e.symm;have := h.1;unfold RB at this;rw [this] at hc; simp at hc
  have h1a : RB (w1.alloc (.cells #[.int .u8 c] 5)) b vf vW vC wt fl vr { p with st := st } := (Below.heap_alloc w1 _ b h1.lt).trans h1;have h2 : RB w2 b vf vW vC wt fl vr { p with st := st } := h1a.grown hg hbw;refine ⟨rfl, ⟨.slice (some ⟨q, 0, none⟩) (bs.length + 1) cp, ⟨h2.wv _, ?_⟩, ?_⟩, ?_⟩
  · have t : Touch (fun k => k = b) w2 (w2.setCell ⟨b, 11, none⟩ (.slice (some ⟨q, 0, none⟩) (bs.length + 1) cp)) := (Touch.refl (fun k => k = b) w2).setCell (p := ⟨b, 11, none⟩) (fun _ => rfl) _
    have hY := t.row hX (fun k hk e => by
      obtain ⟨cur, hc⟩ := row_type hX hk;subst e;unfold RB at h2
      rw [h2] at hc; simp at hc)
    unfold OwnB;simp only [Option.getD_some, List.length_append, List.map_append, List.map_cons, List.map_nil, List.length_cons, List.length_nil];exact hY
  · rcases hd with e | ⟨e, _⟩
    exact .inl e;exact .inr ⟨N, e, by have := t1.size; omega⟩
  exact (((t1.mono (fun k _ e => .inl e)).alloc _).grown hg (fun k e _ => .inr e.symm)).setCell (p := ⟨b, 11, none⟩) (fun _ => .inl rfl) _
section
variable (b base : Nat) (vf vW vC : Value) (wt : Int) (fl : Bool) (vr : Value) (p : PartS) (bs : List Int) (c : Int) (w : World) (h : RW w b base vf vW vC wt fl vr p bs) (hbs : base <= w.heap.size) (hl : bs.length <= 1000)
include h hbs hl
set_option maxRecDepth 100000 in
set_option maxHeartbeats 2000000 in
theorem takeLetter_any : Calls Tryz.prog 260 #[.pointer (some ⟨b, 6, none⟩), .int .u8 c] w fun e w' => TookW b base vf vW vC wt fl vr p bs (letterD bs c) w e w' := by
  obtain ⟨i5, inf5, iz0, iz1, iz2⟩ := info_parts info5;obtain ⟨c6, _, _, _, _, c11, cf⟩ := h.1.part;have H : Hid (RW w b base vf vW vC wt fl vr p bs) := h;have HL : Hid (∀ W, Calls Tryz.prog 310 #[.int .u8 c] W fun e w' => e = .returned (.bool (letterB c)) /\ w' = W) := fun W => isLetter_any c W;have HF : Hid (Calls Tryz.prog 311 #[.pointer (some ⟨b, 6, none⟩)] w fun e w' => e = .returned (.bool (decide (bs.length = 8))) /\ w' = w) := full_any b base vf vW vC wt fl vr p bs w h
  have HO1 : Hid (OwnB (w.setCell ⟨b, 6, none⟩ (.int .i64 6)) base p.wv bs) := ((Touch.refl (fun k => k = b) w).setCell (p := ⟨b, 6, none⟩) (fun _ => rfl) _).row h.2 (fun k hk e => by
    obtain ⟨cur, hc⟩ := row_type h.2 hk;subst e;have := h.1;unfold RB at this
    rw [this] at hc; simp at hc)
  have HR1 : Hid (RB (w.setCell ⟨b, 6, none⟩ (.int .i64 6)) b vf vW vC wt fl vr { p with st := 6 }) := h.1.st 6;have HT1 : Hid (Touch (fun k => k = b) w (w.setCell ⟨b, 6, none⟩ (.int .i64 6))) := (Touch.refl (fun k => k = b) w).setCell (p := ⟨b, 6, none⟩) (fun _ => rfl) _
  have HSZ : Hid (base <= (w.setCell ⟨b, 6, none⟩ (.int .i64 6)).heap.size) := show base <= _ by simp [World.setCell]; exact hbs
  have d11 : (w.setCell ⟨b, 6, none⟩ (.int .i64 6)).cell? ⟨b, 11, none⟩ = some p.wv := (h.1.st 6).part.2.2.2.2.2.1;have df : ∀ o, (w.setCell ⟨b, 6, none⟩ (.int .i64 6)).frozen? ⟨b, o, none⟩ = false := (h.1.st 6).part.2.2.2.2.2.2;clear h
  by_cases hlt : letterB c = true
  · rw [hlt] at HL
    by_cases h8 : bs.length = 8
    · have HO : Hid (letterD bs c = none) := if_neg (fun h => h.2 h8);have hd8 : decide (bs.length = 8) = true := decide_eq_true h8;rw [hd8] at HF;clear hlt h8 hd8;go_enter Tryz.func260, Tryz.ntmps260;go_wp2_with (first | (go_at_call 310; refine (HL.out _).mono ?_; rintro e w' ⟨rfl, rfl⟩) | (go_at_call 311; refine (HF.out).mono ?_; rintro e w' ⟨rfl, rfl⟩))
      go_ret;rw [HO.out];exact TookW.none H.out
    have HO : Hid (letterD bs c = some (6, bs ++ [c])) := if_pos ⟨hlt, h8⟩;have hd8 : decide (bs.length = 8) = false := decide_eq_false h8;rw [hd8] at HF;clear hlt h8 hd8;go_enter Tryz.func260, Tryz.ntmps260;go_upto_region 4 with (first | (go_at_call 310; refine (HL.out _).mono ?_; rintro e w' ⟨rfl, hw'⟩; obtain rfl := hw'.symm) | (go_at_call 311; refine (HF.out).mono ?_; rintro e w' ⟨rfl, hw'⟩; obtain rfl := hw'.symm))
    have HBW : Hid (some b ≠ p.wv.ownBlock) := fun e => by obtain ⟨cur, hc⟩ := row_type H.out.2 e.symm;have := H.out.1;unfold RB at this;rw [this] at hc; simp at hc
    generalize w.setCell ⟨b, 6, none⟩ (.int .i64 6) = w1 at *;have hs1 := HSZ.out;go_wp2_with (at_builtin; refine wpList_append_mark rfl (.tmp 19) (.tmp 21) 66 rfl base 5 i5 (.int .u8 0) 1 1 Tryz.underlying66 inf5 iz0 iz1 iz2 rfl (by decide) p.wv bs.length (bs.map (Value.int .u8)) rfl (World.ownsRow.alloc HO1.out _) ⟨w1.heap.size, 0, none⟩ 1 1 [.int .u8 c] rfl rfl (one_new w1 #[.int .u8 c] 5) (by intro u hu; simp only [List.mem_cons, List.not_mem_nil, or_false] at hu; rcases hu with rfl; rfl) (by decide) (by unfold maxLen; omega) (by omega) (by simp; omega) ?_)
    intro y w2 hX;obtain ⟨ho, hg, hd, _, q, cp, rfl⟩ := hX.out;have h1a : RB (w1.alloc (.cells #[.int .u8 c] 5)) b vf vW vC wt fl vr { p with st := 6 } := (Below.heap_alloc w1 _ b HR1.out.lt).trans HR1.out;have h2 : RB w2 b vf vW vC wt fl vr { p with st := 6 } := h1a.grown hg HBW.out;obtain ⟨_, _, _, _, _, g11, gf⟩ := h2.part;have HFIN : Hid (TookW b base vf vW vC wt fl vr p bs (some (6, bs ++ [c])) w (.returned (.bool true)) (w2.setCell ⟨b, 11, none⟩ (.slice (some ⟨q, 0, none⟩) (bs.length + 1) cp))) := grew_word H.out HR1.out HT1.out ho hg hd (by omega);clear hX ho hg hd h1a h2 c6 c11 cf d11 df;go_wp2;go_ret;rw [HO.out];exact HFIN.out
  have HO : Hid (letterD bs c = none) := if_neg (fun h => hlt h.1)
  have hf : letterB c = false := by simpa using hlt
  rw [hf] at HL;clear hlt hf;go_enter Tryz.func260, Tryz.ntmps260;go_wp2_with (go_at_call 310; refine (HL.out _).mono ?_; rintro e w' ⟨rfl, rfl⟩)
  go_ret;rw [HO.out];exact TookW.none H.out
end
end Go.Proofs.YtfcgnpchbcmdeaaGreat

namespace Go.Proofs.YtfcgnpchbcmdeaaGreat
set_option maxRecDepth 100000
set_option maxHeartbeats 4000000
open Go.RowKit
theorem isSign_any (c : Int) (w : World) : Calls Tryz.prog 312 #[.int .u8 c] w fun e w' => e = .returned (.bool (signB c)) /\ w' = w := by
  have HL : Hid (∀ W, Calls Tryz.prog 310 #[.int .u8 c] W fun e w' => e = .returned (.bool (letterB c)) /\ w' = W) := fun W => isLetter_any c W
  by_cases k0 : letterB c = true
  · have HO : Hid (signB c = true) := (by show signB c = true; unfold signB; rw [k0]; rfl);rw [k0] at HL;clear k0;go_enter Tryz.func312, Tryz.ntmps312;go_wp2_with (go_at_call 310; refine (HL.out _).mono ?_; rintro e w' ⟨rfl, hw'⟩; obtain rfl := hw'.symm)
    go_ret;rw [HO.out];exact ⟨rfl, rfl⟩
  have k0' : letterB c = false := by simpa using k0
  have HO : Hid (signB c = (decide (c = 32) || decide (c = 44) || decide (c = 10) || decide (c = 34))) := (by show signB c = _; unfold signB; rw [k0', Bool.false_or]);rw [k0'] at HL;clear k0 k0';have hcase : c = 32 ∨ c = 44 ∨ c = 10 ∨ c = 34 ∨ (¬ c = 32 /\ ¬ c = 44 /\ ¬ c = 10 /\ ¬ c = 34) := by omega
  rcases hcase with rfl | rfl | rfl | rfl | ⟨k1, k2, k3, k4⟩
  all_goals try
    have j1 : (c == 32) = false := beq_eq_false_iff_ne.2 k1;have j2 : (c == 44) = false := beq_eq_false_iff_ne.2 k2;have j3 : (c == 10) = false := beq_eq_false_iff_ne.2 k3;have j4 : (c == 34) = false := beq_eq_false_iff_ne.2 k4
  all_goals go_enter Tryz.func312, Tryz.ntmps312
  all_goals go_wp2_with (go_at_call 310; refine (HL.out _).mono ?_; rintro e w' ⟨rfl, hw'⟩; obtain rfl := hw'.symm)
  all_goals go_ret
  all_goals refine ⟨?_, rfl⟩
  all_goals rw [HO.out]
  all_goals first | rfl | simp_all
section
variable (b base : Nat) (vf vW vC : Value) (wt : Int) (fl : Bool) (vr : Value) (p : PartS) (bs : List Int) (c : Int) (w : World) (h : RW w b base vf vW vC wt fl vr p bs) (hbs : base <= w.heap.size) (hl : bs.length <= 1000)
include h hbs hl
theorem takeSecond_any : Calls Tryz.prog 263 #[.pointer (some ⟨b, 6, none⟩), .int .u8 c] w fun e w' => TookW b base vf vW vC wt fl vr p bs (secondD bs c) w e w' := by
  obtain ⟨i5, inf5, iz0, iz1, iz2⟩ := info_parts info5;obtain ⟨c6, _, _, _, _, c11, cf⟩ := h.1.part;have H : Hid (RW w b base vf vW vC wt fl vr p bs) := h;have HL : Hid (∀ W, Calls Tryz.prog 310 #[.int .u8 c] W fun e w' => e = .returned (.bool (letterB c)) /\ w' = W) := fun W => isLetter_any c W;have HF : Hid (Calls Tryz.prog 311 #[.pointer (some ⟨b, 6, none⟩)] w fun e w' => e = .returned (.bool (decide (bs.length = 8))) /\ w' = w) := full_any b base vf vW vC wt fl vr p bs w h
  have HBW : Hid (some b ≠ p.wv.ownBlock) := fun e => by obtain ⟨cur, hc⟩ := row_type h.2 e.symm;have := h.1;unfold RB at this;rw [this] at hc; simp at hc
  have HO1 : Hid (OwnB (w.setCell ⟨b, 6, none⟩ (.int .i64 7)) base p.wv bs) := ((Touch.refl (fun k => k = b) w).setCell (p := ⟨b, 6, none⟩) (fun _ => rfl) _).row h.2 (fun k hk e => by
    obtain ⟨cur, hc⟩ := row_type h.2 hk;subst e;have := h.1;unfold RB at this
    rw [this] at hc; simp at hc)
  have HR1 : Hid (RB (w.setCell ⟨b, 6, none⟩ (.int .i64 7)) b vf vW vC wt fl vr { p with st := 7 }) := h.1.st 7;have HT1 : Hid (Touch (fun k => k = b) w (w.setCell ⟨b, 6, none⟩ (.int .i64 7))) := (Touch.refl (fun k => k = b) w).setCell (p := ⟨b, 6, none⟩) (fun _ => rfl) _
  have HSZ : Hid (base <= (w.setCell ⟨b, 6, none⟩ (.int .i64 7)).heap.size) := show base <= _ by simp [World.setCell]; exact hbs
  have d11 : (w.setCell ⟨b, 6, none⟩ (.int .i64 7)).cell? ⟨b, 11, none⟩ = some p.wv := (h.1.st 7).part.2.2.2.2.2.1;have df : ∀ o, (w.setCell ⟨b, 6, none⟩ (.int .i64 7)).frozen? ⟨b, o, none⟩ = false := (h.1.st 7).part.2.2.2.2.2.2;clear h HL
  by_cases hc : c = 34
  · subst hc
    by_cases h8 : bs.length = 8
    · have HO : Hid (secondD bs 34 = none) := if_neg (fun h => h.2 h8);have hd8 : decide (bs.length = 8) = true := decide_eq_true h8;rw [hd8] at HF;clear h8 hd8;go_enter Tryz.func263, Tryz.ntmps263;go_wp2_with ((go_at_call 311; refine (HF.out).mono ?_; rintro e w' ⟨rfl, hw'⟩; obtain rfl := hw'.symm))
      go_ret;rw [HO.out];exact TookW.none H.out
    have HO : Hid (secondD bs 34 = some (7, bs ++ [34])) := if_pos ⟨rfl, h8⟩;have hd8 : decide (bs.length = 8) = false := decide_eq_false h8;rw [hd8] at HF;clear h8 hd8;go_enter Tryz.func263, Tryz.ntmps263;go_upto_region 4 with ((go_at_call 311; refine (HF.out).mono ?_; rintro e w' ⟨rfl, hw'⟩; obtain rfl := hw'.symm))
    generalize w.setCell ⟨b, 6, none⟩ (.int .i64 7) = w1 at *;have hs1 := HSZ.out;go_wp2_with (at_builtin; refine wpList_append_mark rfl (.tmp 18) (.tmp 20) 66 rfl base 5 i5 (.int .u8 0) 1 1 Tryz.underlying66 inf5 iz0 iz1 iz2 rfl (by decide) p.wv bs.length (bs.map (Value.int .u8)) rfl (World.ownsRow.alloc HO1.out _) ⟨w1.heap.size, 0, none⟩ 1 1 [.int .u8 34] rfl rfl (one_new w1 #[.int .u8 34] 5) (by intro u hu; simp only [List.mem_cons, List.not_mem_nil, or_false] at hu; rcases hu with rfl; rfl) (by decide) (by unfold maxLen; omega) (by omega) (by simp; omega) ?_)
    intro y w2 hX;obtain ⟨ho, hg, hd, _, q, cp, rfl⟩ := hX.out;have h1a : RB (w1.alloc (.cells #[.int .u8 34] 5)) b vf vW vC wt fl vr { p with st := 7 } := (Below.heap_alloc w1 _ b HR1.out.lt).trans HR1.out;have h2 : RB w2 b vf vW vC wt fl vr { p with st := 7 } := h1a.grown hg HBW.out;obtain ⟨_, _, _, _, _, g11, gf⟩ := h2.part;have HFIN : Hid (TookW b base vf vW vC wt fl vr p bs (some (7, bs ++ [34])) w (.returned (.bool true)) (w2.setCell ⟨b, 11, none⟩ (.slice (some ⟨q, 0, none⟩) (bs.length + 1) cp))) := grew_word H.out HR1.out HT1.out ho hg hd (by omega);clear hX ho hg hd h1a h2 c6 c11 cf d11 df;go_wp2;go_ret;rw [HO.out];exact HFIN.out
  have HO : Hid (secondD bs c = none) := if_neg (fun h => hc h.1);have hne : (c == 34) = false := beq_eq_false_iff_ne.2 hc;go_enter Tryz.func263, Tryz.ntmps263;go_wp2;go_ret;rw [HO.out];exact TookW.none H.out
theorem takeSign_any : Calls Tryz.prog 262 #[.pointer (some ⟨b, 6, none⟩), .int .u8 c] w fun e w' => TookW b base vf vW vC wt fl vr p bs (signD p.st bs c) w e w' := by
  obtain ⟨i5, inf5, iz0, iz1, iz2⟩ := info_parts info5;obtain ⟨c6, _, _, _, _, c11, cf⟩ := h.1.part;have H : Hid (RW w b base vf vW vC wt fl vr p bs) := h;have HL : Hid (∀ W, Calls Tryz.prog 312 #[.int .u8 c] W fun e w' => e = .returned (.bool (signB c)) /\ w' = W) := fun W => isSign_any c W;have HF : Hid (Calls Tryz.prog 311 #[.pointer (some ⟨b, 6, none⟩)] w fun e w' => e = .returned (.bool (decide (bs.length = 8))) /\ w' = w) := full_any b base vf vW vC wt fl vr p bs w h
  have HBW : Hid (some b ≠ p.wv.ownBlock) := fun e => by obtain ⟨cur, hc⟩ := row_type h.2 e.symm;have := h.1;unfold RB at this;rw [this] at hc; simp at hc
  have HO1 : Hid (OwnB w base p.wv bs) := h.2;have HR1 : Hid (RB w b vf vW vC wt fl vr { p with st := p.st }) := h.1;have HT1 : Hid (Touch (fun k => k = b) w w) := Touch.refl _ _;have HSZ : Hid (base <= w.heap.size) := hbs;have d11 : w.cell? ⟨b, 11, none⟩ = some p.wv := h.1.part.2.2.2.2.2.1;have df : ∀ o, w.frozen? ⟨b, o, none⟩ = false := h.1.part.2.2.2.2.2.2;clear h
  by_cases hs : signB c = true
  · rw [hs] at HL
    by_cases h8 : bs.length = 8
    · have HO : Hid (signD p.st bs c = none) := if_neg (fun h => h.2 h8);have hd8 : decide (bs.length = 8) = true := decide_eq_true h8;rw [hd8] at HF;clear h8 hd8 hs;go_enter Tryz.func262, Tryz.ntmps262;go_wp2_with (first | (go_at_call 312; refine (HL.out _).mono ?_; rintro e w' ⟨rfl, hw'⟩; obtain rfl := hw'.symm) | (go_at_call 311; refine (HF.out).mono ?_; rintro e w' ⟨rfl, hw'⟩; obtain rfl := hw'.symm))
      go_ret;rw [HO.out];exact TookW.none H.out
    have HO : Hid (signD p.st bs c = some (p.st, bs ++ [c])) := if_pos ⟨hs, h8⟩;have hd8 : decide (bs.length = 8) = false := decide_eq_false h8;rw [hd8] at HF;clear h8 hd8 hs;go_enter Tryz.func262, Tryz.ntmps262;go_upto_region 3 with (first | (go_at_call 312; refine (HL.out _).mono ?_; rintro e w' ⟨rfl, hw'⟩; obtain rfl := hw'.symm) | (go_at_call 311; refine (HF.out).mono ?_; rintro e w' ⟨rfl, hw'⟩; obtain rfl := hw'.symm))
    have hs1 := HSZ.out;go_wp2_with (at_builtin; refine wpList_append_mark rfl (.tmp 16) (.tmp 18) 66 rfl base 5 i5 (.int .u8 0) 1 1 Tryz.underlying66 inf5 iz0 iz1 iz2 rfl (by decide) p.wv bs.length (bs.map (Value.int .u8)) rfl (World.ownsRow.alloc HO1.out _) ⟨w.heap.size, 0, none⟩ 1 1 [.int .u8 c] rfl rfl (one_new w #[.int .u8 c] 5) (by intro u hu; simp only [List.mem_cons, List.not_mem_nil, or_false] at hu; rcases hu with rfl; rfl) (by decide) (by unfold maxLen; omega) (by omega) (by simp; omega) ?_)
    intro y w2 hX;obtain ⟨ho, hg, hd, _, q, cp, rfl⟩ := hX.out;have h1a : RB (w.alloc (.cells #[.int .u8 c] 5)) b vf vW vC wt fl vr { p with st := p.st } := (Below.heap_alloc w _ b HR1.out.lt).trans HR1.out;have h2 : RB w2 b vf vW vC wt fl vr { p with st := p.st } := h1a.grown hg HBW.out;obtain ⟨_, _, _, _, _, g11, gf⟩ := h2.part;have HFIN : Hid (TookW b base vf vW vC wt fl vr p bs (some (p.st, bs ++ [c])) w (.returned (.bool true)) (w2.setCell ⟨b, 11, none⟩ (.slice (some ⟨q, 0, none⟩) (bs.length + 1) cp))) := grew_word H.out HR1.out HT1.out ho hg hd (by omega);clear hX ho hg hd h1a h2 c6 c11 cf d11 df;go_wp2;go_ret;rw [HO.out];exact HFIN.out
  have hs' : signB c = false := by simpa using hs
  have HO : Hid (signD p.st bs c = none) := if_neg (fun h => hs h.1);rw [hs'] at HL;clear hs hs';go_enter Tryz.func262, Tryz.ntmps262;go_wp2_with (first | (go_at_call 312; refine (HL.out _).mono ?_; rintro e w' ⟨rfl, hw'⟩; obtain rfl := hw'.symm) | (go_at_call 311; refine (HF.out).mono ?_; rintro e w' ⟨rfl, hw'⟩; obtain rfl := hw'.symm))
  go_ret;rw [HO.out];exact TookW.none H.out
end
end Go.Proofs.YtfcgnpchbcmdeaaGreat

namespace Go.Proofs.YtfcgnpchbcmdeaaGreat
open Go.RowKit
theorem grown_tr {w w' w'' : World} {r : Option Nat} (h : w.grownBy w' r) (k : w'.grownBy w'' r) : w.grownBy w'' r :=
  ⟨k.os.trans h.os, k.tape.trans h.tape, k.output.trans h.output, Nat.le_trans h.size k.size, fun i hi hn => (k.block i (Nat.lt_of_lt_of_le hi h.size) hn).trans (h.block i hi hn)⟩
def numStep (u : Int) (p : PartS) (c : Int) : Option PartS :=
  if p.st = 0 then (minusD p c).orElse (fun _ => firstD u p c)
  else if p.st = 1 then firstD u p c
  else if p.st = 3 then (digitD p c).orElse (fun _ => pointD p c)
  else if p.st = 2 then pointD p c
  else behindD p c
def wordStep (st : Int) (bs : List Int) (c : Int) : Option (Int × List Int) :=
  if st = 0 then (if c = 34 then some (7, bs) else none).orElse (fun _ => letterD bs c)
  else if st = 6 then letterD bs c
  else if st = 7 then (if c = 34 then some (8, bs) else none).orElse (fun _ => signD st bs c)
  else secondD bs c
section
variable {b : Nat} {vf vW vC : Value} {wt : Int} {fl : Bool} {vr : Value} {p : PartS}
theorem TookP.first {w w1 : World} {e : Ending} {o : Option PartS} (h : TookP b vf vW vC wt fl vr p o w e w1) : (∃ q, o = some q /\ e = .returned (.bool true)) ∨ (o = none /\ e = .returned (.bool false) /\ RB w1 b vf vW vC wt fl vr p /\ w.grownBy w1 (some b)) := by
  obtain ⟨h1, h2, h3⟩ := h
  cases o with
  | none => exact .inr ⟨rfl, h1, h2, h3⟩
  | some q => exact .inl ⟨q, rfl, h1⟩
theorem TookP.second {w w1 w2 : World} {e : Ending} {o : Option PartS} (hg : w.grownBy w1 (some b)) (h : TookP b vf vW vC wt fl vr p o w1 e w2) : TookP b vf vW vC wt fl vr p o w e w2 := ⟨h.1, h.2.1, grown_tr hg h.2.2⟩
theorem TookP.ends {w w1 : World} {e : Ending} {o : Option PartS} (h : TookP b vf vW vC wt fl vr p o w e w1) : e = .returned (.bool o.isSome) := h.1
end
set_option maxHeartbeats 2000000 in
theorem takeNumber_any (b : Nat) (vf vW vC : Value) (wt : Int) (fl : Bool) (vr : Value) (p : PartS) (c u : Int) (w : World) (h : RB w b vf vW vC wt fl vr p) (hv1 : 0 <= u) (hv2 : u <= 1000000) (hu1 : 0 <= p.unit) (hu2 : p.unit <= 1000000) (hn1 : 0 <= p.num) (hn2 : p.num <= 1000000000000) (hg1 : 0 <= p.dig) (hg2 : p.dig <= 1000) : Calls Tryz.prog 215 #[.pointer (some ⟨b, 6, none⟩), .int .u8 c, .int .i64 u] w fun e w' => TookP b vf vW vC wt fl vr p (numStep u p c) w e w' := by
  obtain ⟨c6, _, _, _, _, _, _⟩ := h.part;have H : Hid (RB w b vf vW vC wt fl vr p) := h;clear h
  by_cases s0 : p.st = 0
  · have HO : Hid (numStep u p c = (minusD p c).orElse (fun _ => firstD u p c)) := if_pos s0;rw [s0] at c6;clear s0;go_enter Tryz.func215, Tryz.ntmps215;go_wp2_with fail
    refine (takeMinus_any b vf vW vC wt fl vr p c w H.out).mono ?_;rintro e w1 ht;have HT : Hid (TookP b vf vW vC wt fl vr p (minusD p c) w e w1) := ht
    rcases ht.first with ⟨q, hq, rfl⟩ | ⟨hq, rfl, hR, hG⟩
    · have HQ : Hid (minusD p c = some q) := hq;clear ht hq;go_wp2;go_ret;rw [HO.out, HQ.out];have := HT.out;rw [HQ.out] at this;exact this
    have HQ : Hid (minusD p c = none) := hq;have HR : Hid (RB w1 b vf vW vC wt fl vr p /\ w.grownBy w1 (some b)) := ⟨hR, hG⟩;clear ht hq hR hG HT;go_wp2_with fail
    refine (takeFirst_any b vf vW vC wt fl vr p c w1 HR.out.1 u hv1 hv2).mono ?_;rintro e w2 ht;have HT : Hid (TookP b vf vW vC wt fl vr p (firstD u p c) w e w2) := ht.second HR.out.2;obtain rfl := ht.ends;clear ht;go_wp2;go_ret;rw [HO.out, HQ.out];exact HT.out
  by_cases s1 : p.st = 1
  · have HO : Hid (numStep u p c = firstD u p c) := (by show numStep u p c = _; unfold numStep; rw [if_neg s0, if_pos s1]);rw [s1] at c6;clear s0 s1;go_enter Tryz.func215, Tryz.ntmps215;go_wp2_with fail
    refine (takeFirst_any b vf vW vC wt fl vr p c w H.out u hv1 hv2).mono ?_;rintro e w2 ht;have HT : Hid (TookP b vf vW vC wt fl vr p (firstD u p c) w e w2) := ht;obtain rfl := ht.ends;clear ht;go_wp2;go_ret;rw [HO.out];exact HT.out
  by_cases s3 : p.st = 3
  · have HO : Hid (numStep u p c = (digitD p c).orElse (fun _ => pointD p c)) := (by show numStep u p c = _; unfold numStep; rw [if_neg s0, if_neg s1, if_pos s3]);rw [s3] at c6;clear s0 s1 s3;go_enter Tryz.func215, Tryz.ntmps215;go_wp2_with fail
    refine (takeDigit_any b vf vW vC wt fl vr p c w H.out hu1 hu2 hn1 hn2 hg1 hg2).mono ?_;rintro e w1 ht;have HT : Hid (TookP b vf vW vC wt fl vr p (digitD p c) w e w1) := ht
    rcases ht.first with ⟨q, hq, rfl⟩ | ⟨hq, rfl, hR, hG⟩
    · have HQ : Hid (digitD p c = some q) := hq;clear ht hq;go_wp2;go_ret;rw [HO.out, HQ.out];have := HT.out;rw [HQ.out] at this;exact this
    have HQ : Hid (digitD p c = none) := hq;have HR : Hid (RB w1 b vf vW vC wt fl vr p /\ w.grownBy w1 (some b)) := ⟨hR, hG⟩;clear ht hq hR hG HT;go_wp2_with fail
    refine (takePoint_any b vf vW vC wt fl vr p c w1 HR.out.1).mono ?_;rintro e w2 ht;have HT : Hid (TookP b vf vW vC wt fl vr p (pointD p c) w e w2) := ht.second HR.out.2;obtain rfl := ht.ends;clear ht;go_wp2;go_ret;rw [HO.out, HQ.out];exact HT.out
  by_cases s2 : p.st = 2
  · have HO : Hid (numStep u p c = pointD p c) := (by show numStep u p c = _; unfold numStep; rw [if_neg s0, if_neg s1, if_neg s3, if_pos s2]);rw [s2] at c6;clear s0 s1 s3 s2;go_enter Tryz.func215, Tryz.ntmps215;go_wp2_with fail
    refine (takePoint_any b vf vW vC wt fl vr p c w H.out).mono ?_;rintro e w2 ht;have HT : Hid (TookP b vf vW vC wt fl vr p (pointD p c) w e w2) := ht;obtain rfl := ht.ends;clear ht;go_wp2;go_ret;rw [HO.out];exact HT.out
  have HO : Hid (numStep u p c = behindD p c) := (by show numStep u p c = _; unfold numStep; rw [if_neg s0, if_neg s1, if_neg s3, if_neg s2]);have e0 : (p.st == 0) = false := beq_eq_false_iff_ne.2 s0;have e1 : (p.st == 1) = false := beq_eq_false_iff_ne.2 s1;have e2 : (p.st == 2) = false := beq_eq_false_iff_ne.2 s2;have e3 : (p.st == 3) = false := beq_eq_false_iff_ne.2 s3;go_enter Tryz.func215, Tryz.ntmps215;go_wp2_with fail
  refine (takeBehind_any b vf vW vC wt fl vr p c w H.out hu1 hu2 hn1 hn2).mono ?_;rintro e w2 ht;have HT : Hid (TookP b vf vW vC wt fl vr p (behindD p c) w e w2) := ht;obtain rfl := ht.ends;clear ht;go_wp2;go_ret;rw [HO.out];exact HT.out
section
variable {b base : Nat} {vf vW vC : Value} {wt : Int} {fl : Bool} {vr : Value} {p : PartS} {bs : List Int}
theorem TookW.first {w w1 : World} {e : Ending} {o : Option (Int × List Int)} (h : TookW b base vf vW vC wt fl vr p bs o w e w1) : (∃ q, o = some q /\ e = .returned (.bool true)) ∨ (o = Option.none /\ e = .returned (.bool false) /\ ∃ v', RW w1 b base vf vW vC wt fl vr { p with wv := v' } bs /\ (v'.ownBlock = p.wv.ownBlock ∨ ∃ k, v'.ownBlock = some k /\ w.heap.size <= k) /\ Touch (fun k => k = b ∨ some k = p.wv.ownBlock) w w1) := by
  obtain ⟨h1, ⟨v', h2, h3⟩, h4⟩ := h
  cases o with
  | none => exact .inr ⟨rfl, h1, v', h2, h3, h4⟩
  | some q => exact .inl ⟨q, rfl, h1⟩
theorem TookW.second {w w1 w2 : World} {e : Ending} {o : Option (Int × List Int)} {v' : Value} (hv : v'.ownBlock = p.wv.ownBlock ∨ ∃ k, v'.ownBlock = some k /\ w.heap.size <= k) (ht : Touch (fun k => k = b ∨ some k = p.wv.ownBlock) w w1) (h : TookW b base vf vW vC wt fl vr { p with wv := v' } bs o w1 e w2) : TookW b base vf vW vC wt fl vr p bs o w e w2 := by
  obtain ⟨h1, ⟨v2, h2, h3⟩, h4⟩ := h;refine ⟨h1, ⟨v2, h2, ?_⟩, ⟨h4.os.trans ht.os, h4.tape.trans ht.tape, h4.output.trans ht.output, Nat.le_trans ht.size h4.size, fun k hk hn => (h4.block k (Nat.lt_of_lt_of_le hk ht.size) (fun e => ?_)).trans (ht.block k hk hn)⟩⟩
  · rcases h3 with h3 | ⟨k, h3, hk⟩
    · rcases hv with hv | ⟨k, hv, hk⟩
      exact .inl (h3.trans hv);exact .inr ⟨k, h3.trans hv, hk⟩
    exact .inr ⟨k, h3, by have := ht.size; omega⟩
  rcases e with e | e
  exact hn (.inl e)
  rcases hv with hv | ⟨k', hv, hk'⟩
  exact hn (.inr (e.trans hv));have e2 : some k = some k' := e.trans hv;simp at e2;omega
theorem TookW.ends {w w1 : World} {e : Ending} {o : Option (Int × List Int)} (h : TookW b base vf vW vC wt fl vr p bs o w e w1) : e = .returned (.bool o.isSome) := h.1
end
set_option maxHeartbeats 2000000 in
theorem takeWord_any (b base : Nat) (vf vW vC : Value) (wt : Int) (fl : Bool) (vr : Value) (p : PartS) (bs : List Int) (c : Int) (w : World) (h : RW w b base vf vW vC wt fl vr p bs) (hbs : base <= w.heap.size) (hl : bs.length <= 1000) : Calls Tryz.prog 209 #[.pointer (some ⟨b, 6, none⟩), .int .u8 c] w fun e w' => TookW b base vf vW vC wt fl vr p bs (wordStep p.st bs c) w e w' := by
  obtain ⟨c6, _, _, _, _, _, _⟩ := h.1.part;have H : Hid (RW w b base vf vW vC wt fl vr p bs) := h;clear h
  by_cases s0 : p.st = 0
  · have HO : Hid (wordStep p.st bs c = (if c = 34 then some ((7 : Int), bs) else none).orElse (fun _ => letterD bs c)) := if_pos s0;rw [s0] at c6;clear s0;go_enter Tryz.func209, Tryz.ntmps209;go_wp2_with fail
    refine (takeOpening_any b base vf vW vC wt fl vr p bs c w H.out).mono ?_;rintro e w1 ht;have HT : Hid (TookW b base vf vW vC wt fl vr p bs (if c = 34 then some (7, bs) else none) w e w1) := ht
    rcases ht.first with ⟨q, hq, rfl⟩ | ⟨hq, rfl, v', hR, hV, hTo⟩
    · have HQ : Hid ((if c = 34 then some ((7 : Int), bs) else none) = some q) := hq;clear ht hq;go_wp2;go_ret;rw [HO.out, HQ.out];have := HT.out;rw [HQ.out] at this;exact this
    have HQ : Hid ((if c = 34 then some ((7 : Int), bs) else none) = none) := hq;have HR : Hid (RW w1 b base vf vW vC wt fl vr { p with wv := v' } bs /\ (v'.ownBlock = p.wv.ownBlock ∨ ∃ k, v'.ownBlock = some k /\ w.heap.size <= k) /\ Touch (fun k => k = b ∨ some k = p.wv.ownBlock) w w1) := ⟨hR, hV, hTo⟩;have hb1 : base <= w1.heap.size := (by have := hTo.size; omega);clear ht hq hR hV hTo HT;go_wp2_with fail
    refine (takeLetter_any b base vf vW vC wt fl vr { p with wv := v' } bs c w1 HR.out.1 hb1 hl).mono ?_;rintro e w2 ht;have HT : Hid (TookW b base vf vW vC wt fl vr p bs (letterD bs c) w e w2) := ht.second HR.out.2.1 HR.out.2.2;obtain rfl := ht.ends;clear ht;go_wp2;go_ret;rw [HO.out, HQ.out];exact HT.out
  by_cases s6 : p.st = 6
  · have HO : Hid (wordStep p.st bs c = letterD bs c) := (by show wordStep p.st bs c = _; unfold wordStep; rw [if_neg s0, if_pos s6]);rw [s6] at c6;clear s0 s6;go_enter Tryz.func209, Tryz.ntmps209;go_wp2_with fail
    refine (takeLetter_any b base vf vW vC wt fl vr p bs c w H.out hbs hl).mono ?_;rintro e w2 ht;have HT : Hid (TookW b base vf vW vC wt fl vr p bs (letterD bs c) w e w2) := ht;obtain rfl := ht.ends;clear ht;go_wp2;go_ret;rw [HO.out];exact HT.out
  by_cases s7 : p.st = 7
  · have HO : Hid (wordStep p.st bs c = (if c = 34 then some ((8 : Int), bs) else none).orElse (fun _ => signD p.st bs c)) := (by show wordStep p.st bs c = _; unfold wordStep; rw [if_neg s0, if_neg s6, if_pos s7]);rw [s7] at c6;clear s0 s6 s7;go_enter Tryz.func209, Tryz.ntmps209;go_wp2_with fail
    refine (takeQuote_any b base vf vW vC wt fl vr p bs c w H.out).mono ?_;rintro e w1 ht;have HT : Hid (TookW b base vf vW vC wt fl vr p bs (if c = 34 then some (8, bs) else none) w e w1) := ht
    rcases ht.first with ⟨q, hq, rfl⟩ | ⟨hq, rfl, v', hR, hV, hTo⟩
    · have HQ : Hid ((if c = 34 then some ((8 : Int), bs) else none) = some q) := hq;clear ht hq;go_wp2;go_ret;rw [HO.out, HQ.out];have := HT.out;rw [HQ.out] at this;exact this
    have HQ : Hid ((if c = 34 then some ((8 : Int), bs) else none) = none) := hq;have HR : Hid (RW w1 b base vf vW vC wt fl vr { p with wv := v' } bs /\ (v'.ownBlock = p.wv.ownBlock ∨ ∃ k, v'.ownBlock = some k /\ w.heap.size <= k) /\ Touch (fun k => k = b ∨ some k = p.wv.ownBlock) w w1) := ⟨hR, hV, hTo⟩;have hb1 : base <= w1.heap.size := (by have := hTo.size; omega);clear ht hq hR hV hTo HT;go_wp2_with fail
    refine (takeSign_any b base vf vW vC wt fl vr { p with wv := v' } bs c w1 HR.out.1 hb1 hl).mono ?_;rintro e w2 ht;have HT : Hid (TookW b base vf vW vC wt fl vr p bs (signD p.st bs c) w e w2) := ht.second HR.out.2.1 HR.out.2.2;obtain rfl := ht.ends;clear ht;go_wp2;go_ret;rw [HO.out, HQ.out];exact HT.out
  have HO : Hid (wordStep p.st bs c = secondD bs c) := (by show wordStep p.st bs c = _; unfold wordStep; rw [if_neg s0, if_neg s6, if_neg s7]);have e0 : (p.st == 0) = false := beq_eq_false_iff_ne.2 s0;have e6 : (p.st == 6) = false := beq_eq_false_iff_ne.2 s6;have e7 : (p.st == 7) = false := beq_eq_false_iff_ne.2 s7;go_enter Tryz.func209, Tryz.ntmps209;go_wp2_with fail
  refine (takeSecond_any b base vf vW vC wt fl vr p bs c w H.out hbs hl).mono ?_;rintro e w2 ht;have HT : Hid (TookW b base vf vW vC wt fl vr p bs (secondD bs c) w e w2) := ht;obtain rfl := ht.ends;clear ht;go_wp2;go_ret;rw [HO.out];exact HT.out
end Go.Proofs.YtfcgnpchbcmdeaaGreat

namespace Go.Proofs.YtfcgnpchbcmdeaaGreat
open Go.RowKit
theorem readNum_any (b ub : Nat) (vf vW vC : Value) (wt : Int) (fl : Bool) (vr : Value) (p : PartS) (c u : Int) (w : World) (h : RB w b vf vW vC wt fl vr p) (hub : w.cell? ⟨ub, 0, none⟩ = some (.int .i64 u)) (hv1 : 0 <= u) (hv2 : u <= 1000000) (hu1 : 0 <= p.unit) (hu2 : p.unit <= 1000000) (hn1 : 0 <= p.num) (hn2 : p.num <= 1000000000000) (hg1 : 0 <= p.dig) (hg2 : p.dig <= 1000) : Calls Tryz.prog 214 #[.pointer (some ⟨b, 6, none⟩), .int .u8 c, .pointer (some ⟨ub, 0, none⟩)] w fun e w' => TookP b vf vW vC wt fl vr p (numStep u p c) w e w' := by
  have H : Hid (RB w b vf vW vC wt fl vr p) := h;clear h;go_enter Tryz.func214, Tryz.ntmps214;go_wp2_with fail
  refine (takeNumber_any b vf vW vC wt fl vr p c u w H.out hv1 hv2 hu1 hu2 hn1 hn2 hg1 hg2).mono ?_;rintro e w2 ht;have HT : Hid (TookP b vf vW vC wt fl vr p (numStep u p c) w e w2) := ht;obtain rfl := ht.ends;clear ht;go_wp2;go_ret;exact HT.out
end Go.Proofs.YtfcgnpchbcmdeaaGreat

namespace Go.Proofs.YtfcgnpchbcmdeaaGreat
open Go.RowKit
def pickK (c : Int) (n : Nat) : Nat := ((if c < 0 then -(c + 1) else c) % (n : Int)).toNat
theorem pickK_lt (c : Int) {n : Nat} (h : 0 < n) : pickK c n < n := by unfold pickK;have := Int.emod_lt_of_pos (if c < 0 then -(c + 1) else c) (show (0 : Int) < n by omega);have := Int.emod_nonneg (if c < 0 then -(c + 1) else c) (show (n : Int) ≠ 0 by omega);omega
theorem keepPick_any (c : Int) (n : Nat) (w : World) (hc : (Lit.int .i64 c).wf = true) (hn : 0 < n) (hn2 : n <= 4000000000000000000) : Calls Tryz.prog 17 #[.int .i64 c, .int .i64 (n : Nat)] w fun e w' => e = .returned (.int .i64 (pickK c n : Nat)) /\ w' = w := by
  have hcr : -9223372036854775808 <= c /\ c <= 9223372036854775807 := by simp [Lit.wf, IntKind.min, IntKind.max, IntKind.bits, IntKind.signed] at hc;omega
  by_cases h0 : c < 0
  · have q1 : IntKind.i64.wrap (c + 1) = c + 1 := (by simp [IntKind.wrap, IntKind.bits, IntKind.signed]; omega);have q2 : IntKind.i64.wrap (-(c + 1)) = -(c + 1) := by simp [IntKind.wrap, IntKind.bits, IntKind.signed]; omega
    have q3 : (-(c + 1)).tmod (n : Int) = ((pickK c n : Nat) : Int) := (by rw [Int.tmod_eq_emod_of_nonneg (by omega)];unfold pickK;rw [if_pos h0, Int.toNat_of_nonneg (Int.emod_nonneg _ (by omega))]);have hne : ¬ (n : Int) = 0 := (by omega);go_enter Tryz.func17, Tryz.ntmps17;go_wp2;go_ret;exact ⟨rfl, rfl⟩
  have q3 : c.tmod (n : Int) = ((pickK c n : Nat) : Int) := (by rw [Int.tmod_eq_emod_of_nonneg (by omega)];unfold pickK;rw [if_neg h0, Int.toNat_of_nonneg (Int.emod_nonneg _ (by omega))]);have hne : ¬ (n : Int) = 0 := (by omega);go_enter Tryz.func17, Tryz.ntmps17;go_wp2;go_ret;exact ⟨rfl, rfl⟩
def rawK (zs : List Int) (i : Nat) : Int := if zs.length = 0 then 0 else zs.getD (i % zs.length) 0
theorem keepRaw_any (a : Option Addr) (n c i : Nat) (zs : List Int) (w : World) (h : IntsV w a n zs) (hi : i <= 1000000000000000) (hn : n <= 9223372036854775807) : Calls Tryz.prog 18 #[.slice a n c, .int .i64 (i : Nat)] w fun e w' => e = .returned (.int .i64 (rawK zs i)) /\ w' = w := by
  unfold rawK;rw [h.1]
  by_cases h0 : n = 0
  · rw [if_pos h0];have q : ((n : Int) == 0) = true := (by rw [h0]; rfl);clear h;subst h0;go_enter Tryz.func18, Tryz.ntmps18;go_wp2;go_ret;exact ⟨rfl, rfl⟩
  rw [if_neg h0]
  rcases h.2.2 with e | ⟨b, off, ha, hbl, hc⟩
  exact absurd e h0;subst ha;obtain ⟨r, hr⟩ : ∃ r, r = i % n := ⟨_, rfl⟩;have hrn : r < n := (by rw [hr]; exact Nat.mod_lt _ (by omega));have c0 := hc r hrn;rw [<- hr];have q1 : (i : Int).tmod (n : Int) = (r : Int) := (by rw [Int.tmod_eq_emod_of_nonneg (by omega), hr]; simp);have q2 : ((n : Int) == 0) = false := (by rw [beq_eq_false_iff_ne]; omega);have hne : ¬ (n : Int) = 0 := (by omega);have b1 : (0 : Int) <= (r : Int) := (by omega);have b2 : (r : Int) < (n : Int) := (by omega);generalize zs.getD r 0 = z at *;clear h hc hr;go_enter Tryz.func18, Tryz.ntmps18;go_wp2;go_ret;exact ⟨rfl, rfl⟩
end Go.Proofs.YtfcgnpchbcmdeaaGreat
