import Derived.Test.YtfcgnpchbcmdeaaGreatZpal
import Derived.Deep.RegionHeld3
import Derived.Test.YtfcgnpchbcmdeaaGreatZpar
import Derived.Laws.BytesArg
namespace Go.Proofs.YtfcgnpchbcmdeaaGreat
set_option maxRecDepth 100000
set_option maxHeartbeats 2000000
open Go.RowKit
theorem middle_eq (x : Ent) (w : World) (h : 0 <= x.lo /\ 0 <= x.hi /\ x.lo <= 1000000000000 /\ x.hi <= 1000000000000) : Calls Tryz.prog 154 #[.agg #[.int .i64 x.v, .int .i64 x.lo, .int .i64 x.hi, .int .i64 x.wt]] w fun e w' => e = .returned (.int .i64 (x.lo + x.hi)) /\ w' = w.alloc (.cells #[.int .i64 x.v, .int .i64 x.lo, .int .i64 x.hi, .int .i64 x.wt] 98) := by obtain ⟨h1, h2, h3, h4⟩ := h;go_enter Tryz.func154, Tryz.ntmps154;go_wp2;go_ret;exact ⟨rfl, rfl⟩
structure NearP (L : List Ent) (goal : Int) (k r : Nat) : Prop where
  ge : k <= r
  le : r + 2 <= L.length
  yes : ∀ i, k <= i -> i < r -> midA L i + midA L (i + 1) < goal
  no : r + 2 = L.length ∨ ¬ midA L r + midA L (r + 1) < goal
theorem nearest_any (a : Option Addr) (L : List Ent) (cap k0 : Nat) (goal : Int) (w : World) (h : EntsV w a L) (g : Good L) (hk : k0 + 2 <= L.length) : Calls Tryz.prog 89 #[.slice a L.length cap, .int .i64 k0, .int .i64 goal] w fun e w' => ∃ r : Nat, e = .returned (.int .i64 r) /\ NearP L goal k0 r /\ Below w.heap.size w w' := by
  have hl := h.1;have HE : Hid (EntsV w a L) := h;have HG : Hid (Good L) := g;clear h g;go_enter Tryz.func89, Tryz.ntmps89;go_wp2_with fail
  go_loopw [1] (fun t wr => ∃ k : Nat, t = .int .i64 k /\ k0 <= k /\ k + 2 <= L.length /\ Hid (∀ i, k0 <= i -> i < k -> midA L i + midA L (i + 1) < goal) /\ Below w.heap.size w wr) (fun t _ => L.length - (intOf t).toNat)
  case atStart => exact ⟨k0, rfl, Nat.le_refl _, hk, fun i h1 h2 => absurd h2 (by omega), Below.refl _ _⟩
  case round =>
    obtain ⟨k, rfl, hk1, hk2, HY, hbel⟩ := hrel
    by_cases hkl : k + 2 < L.length
    · rcases HE.out with ⟨_, h0 | ⟨b, off, rfl, hA⟩⟩;omega;have hA' := hA.below hbel;have hb := hA'.lt (by omega);have gx := HG.out.at (show k < L.length by omega);have gy := HG.out.at (show k + 1 < L.length by omega);obtain ⟨a0, a1, a2, a3⟩ : wr.cell? ⟨b, off + k * 4, none⟩ = some (.int .i64 (L.getD k e0).v) /\ wr.cell? ⟨b, off + k * 4 + 1, none⟩ = some (.int .i64 (L.getD k e0).lo) /\ wr.cell? ⟨b, off + k * 4 + 2, none⟩ = some (.int .i64 (L.getD k e0).hi) /\ wr.cell? ⟨b, off + k * 4 + 3, none⟩ = some (.int .i64 (L.getD k e0).wt) := ⟨hA'.v k (by omega), hA'.lo k (by omega), hA'.hi k (by omega), hA'.wt k (by omega)⟩
      obtain ⟨c0, c1, c2, c3⟩ : wr.cell? ⟨b, off + (k + 1) * 4, none⟩ = some (.int .i64 (L.getD (k + 1) e0).v) /\ wr.cell? ⟨b, off + (k + 1) * 4 + 1, none⟩ = some (.int .i64 (L.getD (k + 1) e0).lo) /\ wr.cell? ⟨b, off + (k + 1) * 4 + 2, none⟩ = some (.int .i64 (L.getD (k + 1) e0).hi) /\ wr.cell? ⟨b, off + (k + 1) * 4 + 3, none⟩ = some (.int .i64 (L.getD (k + 1) e0).wt) := ⟨hA'.v (k + 1) (by omega), hA'.lo (k + 1) (by omega), hA'.hi (k + 1) (by omega), hA'.wt (k + 1) (by omega)⟩;have hx : 0 <= (L.getD k e0).lo /\ 0 <= (L.getD k e0).hi /\ (L.getD k e0).lo <= 1000000000000 /\ (L.getD k e0).hi <= 1000000000000 := (by omega);have hy : 0 <= (L.getD (k + 1) e0).lo /\ 0 <= (L.getD (k + 1) e0).hi /\ (L.getD (k + 1) e0).lo <= 1000000000000 /\ (L.getD (k + 1) e0).hi <= 1000000000000 := by omega
      have HMK : Hid (midA L k + midA L (k + 1) = (L.getD k e0).lo + (L.getD k e0).hi + ((L.getD (k + 1) e0).lo + (L.getD (k + 1) e0).hi)) := show _ = _ from rfl
      have d1 : decide ((k : Int) + 2 < (L.length : Int)) = true := decide_eq_true (by omega);have d2 : decide (k + 2 < L.length) = true := decide_eq_true (by omega);have bk1 : (0 : Int) <= (k : Int) := (by omega);have bk2 : (k : Int) + 1 < (L.length : Int) := (by omega);have bk3 : (k : Int) < (L.length : Int) := (by omega);clear hA hA' gx gy;generalize L.getD k e0 = x at *;generalize L.getD (k + 1) e0 = y at *;have HX : Hid (0 <= x.lo /\ 0 <= x.hi /\ x.lo <= 1000000000000 /\ x.hi <= 1000000000000) := hx;have HY2 : Hid (0 <= y.lo /\ 0 <= y.hi /\ y.lo <= 1000000000000 /\ y.hi <= 1000000000000) := hy;obtain ⟨x1, x2, x3, x4⟩ := hx;obtain ⟨y1, y2, y3, y4⟩ := hy;have r2 : IntKind.i64.wrap ((k : Int) + 2) = (k : Int) + 2 := (by rw [IntKind.wrap_i64]; omega);have r1 : IntKind.i64.wrap ((k : Int) + 1) = (k : Int) + 1 := by rw [IntKind.wrap_i64]; omega
      have r3 : IntKind.i64.wrap (x.lo + x.hi + (y.lo + y.hi)) = x.lo + x.hi + (y.lo + y.hi) := (by rw [IntKind.wrap_i64]; omega);have bk4 : (0 : Int) <= (k : Int) + 1 := by omega
      by_cases hlt : x.lo + x.hi + (y.lo + y.hi) < goal
      · have dl : decide (x.lo + x.hi + (y.lo + y.hi) < goal) = true := decide_eq_true hlt
        have HY3 : Hid (∀ i, k0 <= i -> i < k + 1 -> midA L i + midA L (i + 1) < goal) := fun i h1 h2 => by
          by_cases e : i = k
          subst e; rw [HMK.out]; exact hlt;exact HY.out i h1 (by omega)
        go_wp2_with fail
        go_region_held3 (fun w' => w'.cell? ⟨b, off + k * 4, none⟩ = some (.int .i64 x.v) /\ w'.cell? ⟨b, off + k * 4 + 1, none⟩ = some (.int .i64 x.lo) /\ w'.cell? ⟨b, off + k * 4 + 2, none⟩ = some (.int .i64 x.hi) /\ w'.cell? ⟨b, off + k * 4 + 3, none⟩ = some (.int .i64 x.wt) /\ w'.cell? ⟨b, off + (k + 1) * 4, none⟩ = some (.int .i64 y.v) /\ w'.cell? ⟨b, off + (k + 1) * 4 + 1, none⟩ = some (.int .i64 y.lo) /\ w'.cell? ⟨b, off + (k + 1) * 4 + 2, none⟩ = some (.int .i64 y.hi) /\ w'.cell? ⟨b, off + (k + 1) * 4 + 3, none⟩ = some (.int .i64 y.wt)) (go_keep) (first | (go_at_call 154; refine (middle_eq _ _ (by first | exact HX.out | exact HY2.out)).mono ?_; rintro e w' ⟨rfl, rfl⟩))
        all_goals go_wp2
        all_goals
          go_roundw;case rel => exact ⟨k + 1, by go_num, by omega, by omega, HY3.out, ((hbel.alloc hbel.size _).alloc (by have := hbel.size; simp; omega) _).drew⟩
          case measure => simp [intOf]; omega
      have dl : decide (x.lo + x.hi + (y.lo + y.hi) < goal) = false := decide_eq_false hlt;have HFI : Hid (NearP L goal k0 k) := ⟨hk1, hk2, HY.out, .inr (by rw [HMK.out]; exact hlt)⟩;go_wp2_with fail
      go_region_held3 (fun w' => w'.cell? ⟨b, off + k * 4, none⟩ = some (.int .i64 x.v) /\ w'.cell? ⟨b, off + k * 4 + 1, none⟩ = some (.int .i64 x.lo) /\ w'.cell? ⟨b, off + k * 4 + 2, none⟩ = some (.int .i64 x.hi) /\ w'.cell? ⟨b, off + k * 4 + 3, none⟩ = some (.int .i64 x.wt) /\ w'.cell? ⟨b, off + (k + 1) * 4, none⟩ = some (.int .i64 y.v) /\ w'.cell? ⟨b, off + (k + 1) * 4 + 1, none⟩ = some (.int .i64 y.lo) /\ w'.cell? ⟨b, off + (k + 1) * 4 + 2, none⟩ = some (.int .i64 y.hi) /\ w'.cell? ⟨b, off + (k + 1) * 4 + 3, none⟩ = some (.int .i64 y.wt)) (go_keep) (first | (go_at_call 154; refine (middle_eq _ _ (by first | exact HX.out | exact HY2.out)).mono ?_; rintro e w' ⟨rfl, rfl⟩))
      all_goals go_wp2
      all_goals go_ret
      all_goals exact ⟨k, rfl, HFI.out, ((hbel.alloc hbel.size _).alloc (by have := hbel.size; simp; omega) _).drew⟩
    have d1 : decide ((k : Int) + 2 < (L.length : Int)) = false := decide_eq_false (by omega);have d2 : decide (k + 2 < L.length) = false := decide_eq_false (by omega);have HFI : Hid (NearP L goal k0 k) := ⟨hk1, hk2, HY.out, .inl (by omega)⟩;go_wp2_with fail
    go_big_quiet (fail);go_wp2;go_ret;exact ⟨k, rfl, HFI.out, below_drewN hbel _⟩
end Go.Proofs.YtfcgnpchbcmdeaaGreat

namespace Go.Proofs.YtfcgnpchbcmdeaaGreat
open Go.RowKit
section
variable {w : World} {b : Nat} {vf vW vC : Value} {wt : Int} {fl : Bool} {vr : Value} {p : PartS}
theorem RB.setWt (h : RB w b vf vW vC wt fl vr p) (z : Int) : RB (w.setCell ⟨b, 3, none⟩ (.int .i64 z)) b vf vW vC z fl vr p := heap_setCell_same w b 3 _ 256 _ h
theorem RB.setFl (h : RB w b vf vW vC wt fl vr p) (z : Bool) : RB (w.setCell ⟨b, 4, none⟩ (.bool z)) b vf vW vC wt z vr p := heap_setCell_same w b 4 _ 256 _ h
theorem RB.setVr (h : RB w b vf vW vC wt fl vr p) (z : Value) : RB (w.setCell ⟨b, 5, none⟩ z) b vf vW vC wt fl z p := heap_setCell_same w b 5 _ 256 _ h
theorem RB.setVW (h : RB w b vf vW vC wt fl vr p) (z : Value) : RB (w.setCell ⟨b, 1, none⟩ z) b vf z vC wt fl vr p := heap_setCell_same w b 1 _ 256 _ h
end
def mayEnd (st : Int) : Bool := !(decide (st = 1) || decide (st = 4) || decide (st = 7))
theorem mayEnd_any (b : Nat) (vf vW vC : Value) (wt : Int) (fl : Bool) (vr : Value) (p : PartS) (w : World) (h : RB w b vf vW vC wt fl vr p) : Calls Tryz.prog 220 #[.pointer (some ⟨b, 6, none⟩)] w fun e w' => e = .returned (.bool (mayEnd p.st)) /\ w' = w := by
  obtain ⟨c6, _, _, _, _, _, _⟩ := h.part;clear h
  by_cases s1 : p.st = 1
  · have HO : Hid (mayEnd p.st = false) := (by show mayEnd p.st = false; rw [s1]; rfl);rw [s1] at c6;clear s1;go_enter Tryz.func220, Tryz.ntmps220;go_wp2;go_ret;rw [HO.out]; exact ⟨rfl, rfl⟩
  by_cases s4 : p.st = 4
  · have HO : Hid (mayEnd p.st = false) := (by show mayEnd p.st = false; rw [s4]; rfl);rw [s4] at c6;clear s1 s4;go_enter Tryz.func220, Tryz.ntmps220;go_wp2;go_ret;rw [HO.out]; exact ⟨rfl, rfl⟩
  by_cases s7 : p.st = 7
  · have HO : Hid (mayEnd p.st = false) := (by show mayEnd p.st = false; rw [s7]; rfl);rw [s7] at c6;clear s1 s4 s7;go_enter Tryz.func220, Tryz.ntmps220;go_wp2;go_ret;rw [HO.out]; exact ⟨rfl, rfl⟩
  have HO : Hid (mayEnd p.st = true) := (by show mayEnd p.st = true; unfold mayEnd; simp [s1, s4, s7]);have e1 : (p.st == 1) = false := beq_eq_false_iff_ne.2 s1;have e4 : (p.st == 4) = false := beq_eq_false_iff_ne.2 s4;have e7 : (p.st == 7) = false := beq_eq_false_iff_ne.2 s7;go_enter Tryz.func220, Tryz.ntmps220;go_wp2;go_ret;rw [HO.out]; exact ⟨rfl, rfl⟩
theorem whole_any (b : Nat) (vf vW vC : Value) (wt : Int) (fl : Bool) (vr : Value) (p : PartS) (w : World) (h : RB w b vf vW vC wt fl vr p) : Calls Tryz.prog 91 #[.pointer (some ⟨b, 0, none⟩)] w fun e w' => e = .returned (.bool (decide (wt = 0))) /\ w' = w := by
  obtain ⟨_, _, _, c3, _, _⟩ := h.head;clear h
  by_cases s : wt = 0
  · subst s;go_enter Tryz.func91, Tryz.ntmps91;go_wp2;go_ret;exact ⟨rfl, rfl⟩
  have e1 : (wt == 0) = false := beq_eq_false_iff_ne.2 s;have HO : Hid (decide (wt = 0) = false) := decide_eq_false s;go_enter Tryz.func91, Tryz.ntmps91;go_wp2;go_ret
  first | exact ⟨rfl, rfl⟩ | (rw [HO.out]; exact ⟨rfl, rfl⟩)
inductive WStep
  | no
  | whole
  | digit (z : Int)
def weightStep (wt c : Int) : WStep :=
  if c = 44 /\ 0 < wt then .whole
  else if 48 <= c /\ c <= 57 /\ 1 <= wt * 10 + (c - 48) /\ wt * 10 + (c - 48) <= 99 then .digit (wt * 10 + (c - 48))
  else .no
def WTook (b : Nat) (vf vW vC : Value) (wt : Int) (fl : Bool) (vr : Value) (p : PartS) (s : WStep) (w : World) (e : Ending) (w' : World) : Prop :=
  w.grownBy w' (some b) /\ match s with
    | .no => e = .returned (.bool false) /\ RB w' b vf vW vC wt fl vr p
    | .whole => e = .returned (.bool true) /\ RB w' b vf vW vC wt true vr p
    | .digit z => e = .returned (.bool true) /\ RB w' b vf vW vC z fl vr p
set_option maxHeartbeats 2000000 in
theorem takeInWeight_any (b : Nat) (vf vW vC : Value) (wt : Int) (fl : Bool) (vr : Value) (p : PartS) (c : Int) (w : World) (h : RB w b vf vW vC wt fl vr p) (h0 : 0 <= wt) (h1 : wt <= 99) (hc0 : 0 <= c) (hc1 : c <= 255) : Calls Tryz.prog 162 #[.pointer (some ⟨b, 0, none⟩), .int .u8 c] w fun e w' => WTook b vf vW vC wt fl vr p (weightStep wt c) w e w' := by
  obtain ⟨_, _, _, c3, c4, _⟩ := h.head;have cf := h.part.2.2.2.2.2.2;have H : Hid (RB w b vf vW vC wt fl vr p) := h;clear h
  by_cases k : c = 44 /\ 0 < wt
  · have HO : Hid (weightStep wt c = .whole) := if_pos k;obtain ⟨rfl, k2⟩ := k;go_enter Tryz.func162, Tryz.ntmps162;go_wp2;go_ret;rw [HO.out];exact ⟨grown_set (grown_refl _ _) _ _, rfl, H.out.setFl true⟩
  by_cases d : 48 <= c /\ c <= 57
  · obtain ⟨d1, d2⟩ := d;have n44 : ¬ c = 44 := (by omega);have hw : IntKind.u8.wrap (c - 48) = c - 48 := (by simp [IntKind.wrap, IntKind.bits, IntKind.signed]; omega);have hw1 : IntKind.i64.wrap (c - 48) = c - 48 := wrapI (by omega) (by omega);have hw2 : IntKind.i64.wrap (wt * 10) = wt * 10 := wrapI (by omega) (by omega);have hw3 : IntKind.i64.wrap (wt * 10 + (c - 48)) = wt * 10 + (c - 48) := wrapI (by omega) (by omega)
    by_cases r : 1 <= wt * 10 + (c - 48) /\ wt * 10 + (c - 48) <= 99
    · have HO : Hid (weightStep wt c = .digit (wt * 10 + (c - 48))) := (by show weightStep wt c = _; unfold weightStep; rw [if_neg k, if_pos ⟨d1, d2, r⟩]);obtain ⟨r1, r2⟩ := r;clear k;go_enter Tryz.func162, Tryz.ntmps162;go_wp2;go_ret;rw [HO.out];exact ⟨grown_set (grown_refl _ _) _ _, rfl, H.out.setWt _⟩
    have HO : Hid (weightStep wt c = .no) := (by show weightStep wt c = _; unfold weightStep; rw [if_neg k, if_neg (fun h => r h.2.2)]);have r' : wt * 10 + (c - 48) < 1 ∨ 99 < wt * 10 + (c - 48) := (by omega);clear k r
    rcases r' with r' | r'
    all_goals
      go_enter Tryz.func162, Tryz.ntmps162;go_wp2;go_ret;rw [HO.out];exact ⟨grown_refl _ _, rfl, H.out⟩
  have HO : Hid (weightStep wt c = .no) := (by show weightStep wt c = _; unfold weightStep; rw [if_neg k, if_neg (fun h => d ⟨h.1, h.2.1⟩)]);have d' : c < 48 ∨ 57 < c := (by omega);have k' : (c = 44 /\ wt = 0) ∨ ¬ c = 44 := (by omega);clear k d
  rcases k' with ⟨rfl, rfl⟩ | k'
  · clear d';go_enter Tryz.func162, Tryz.ntmps162;go_wp2;go_ret;rw [HO.out];exact ⟨grown_refl _ _, rfl, H.out⟩
  have hne : (c == 44) = false := beq_eq_false_iff_ne.2 k'
  rcases d' with d' | d'
  all_goals
    go_enter Tryz.func162, Tryz.ntmps162;go_wp2;go_ret;rw [HO.out];exact ⟨grown_refl _ _, rfl, H.out⟩
end Go.Proofs.YtfcgnpchbcmdeaaGreat

namespace Go.Proofs.YtfcgnpchbcmdeaaGreat
open Go.RowKit
def sepOf (nr nf : Nat) : Int := if nr + 1 = nf then 10 else 44
theorem separator_any (b : Nat) (af : Option Addr) (nf cf : Nat) (vW vC : Value) (wt : Int) (fl : Bool) (ar : Option Addr) (nr cr : Nat) (p : PartS) (w : World) (h : RB w b (.slice af nf cf) vW vC wt fl (.slice ar nr cr) p) (hnf : nf <= 1000) (hnr : nr <= 1000) : Calls Tryz.prog 219 #[.pointer (some ⟨b, 0, none⟩)] w fun e w' => e = .returned (.int .u8 (sepOf nr nf)) /\ ∃ n, w' = w.drewN n := by
  obtain ⟨c0, _, _, _, _, c5⟩ := h.head;clear h
  by_cases s : nr + 1 = nf
  · have HO : Hid (sepOf nr nf = 10) := if_pos s;have hw : IntKind.i64.wrap ((nf : Int) - 1) = (nf : Int) - 1 := wrapI (by omega) (by omega);have e1 : ((nr : Int) == (nf : Int) - 1) = true := (by simp; omega);clear s;go_enter Tryz.func219, Tryz.ntmps219;go_wp2_with fail
    go_big_quiet (fail);go_wp2;go_ret;rw [HO.out];exact ⟨rfl, _, rfl⟩
  have HO : Hid (sepOf nr nf = 44) := if_neg s;have hw : IntKind.i64.wrap ((nf : Int) - 1) = (nf : Int) - 1 := wrapI (by omega) (by omega);have e1 : ((nr : Int) == (nf : Int) - 1) = false := beq_eq_false_iff_ne.2 (by omega);clear s;go_enter Tryz.func219, Tryz.ntmps219;go_wp2_with fail
  go_big_quiet (fail);go_wp2;go_ret;rw [HO.out];exact ⟨rfl, _, rfl⟩
theorem conv_any (w : World) (base : Nat) (v : Value) (bs : List Int) (h : OwnB w base v bs) : (convert 66 9 v).run Tryz.prog w = .ok (.string (strOfNums bs)) w := by
  rcases h.2 with ⟨rfl, h0⟩ | ⟨q, cp, cur, rfl, _, hh, _⟩
  have hb : bs = [] := List.eq_nil_of_length_eq_zero h0;subst hb;rw [run_convert_bytes_nil w 66 5 Tryz.underlying66 Tryz.underlying5 0 0 9 Tryz.underlying9];rfl;refine run_convert_bytes_arg w 66 5 Tryz.underlying66 Tryz.underlying5 q 0 bs.length cp bs rfl (fun i hi => ?_) 9 Tryz.underlying9;have := World.ownsRow.cells h (g := q) rfl i (.int .u8 (bs.getD i 0)) (by rw [List.getElem?_map, List.getElem?_eq_getElem hi, List.getD, List.getElem?_eq_getElem hi]; rfl);have hadd : (⟨q, 0, none⟩ : Addr).add i = ⟨q, i, none⟩ := (by unfold Addr.add; split <;> simp_all);rw [hadd] at this;rw [Nat.zero_add];exact this
def numOf (p : PartS) : Int := if p.neg = true then -p.num else p.num
set_option maxRecDepth 100000 in
set_option maxHeartbeats 2000000 in
theorem value_any (b base : Nat) (vf vW vC : Value) (wt : Int) (fl : Bool) (vr : Value) (p : PartS) (bs : List Int) (w : World) (h : RW w b base vf vW vC wt fl vr p bs) (hn1 : -1000000000000 <= p.num) (hn2 : p.num <= 1000000000000) : Calls Tryz.prog 221 #[.pointer (some ⟨b, 6, none⟩)] w fun e w' => e = .returned (.agg #[.bool (decide (p.st = 0)), .int .i64 (numOf p), .string (strOfNums bs)]) /\ Below w.heap.size w w' := by
  obtain ⟨c6, c7, _, _, c10, c11, _⟩ := h.1.part;have hbl := h.1.lt;obtain ⟨a, cp, hv⟩ := h.2.form;have hcv : ∀ W, Below w.heap.size w W -> (convert 66 9 p.wv).run Tryz.prog W = .ok (.string (strOfNums bs)) W := fun W hb => conv_any W base p.wv bs ((Touch.of_below (S := fun _ => False) hb).row h.2 (fun _ _ => id));have hb0 : Below w.heap.size w (w.alloc (.cells #[.bool false, .int .i64 0, .string ⟨#[]⟩] 308)) := (Below.refl _ _).alloc (Nat.le_refl _) _;have hcv1 : (convert 66 9 p.wv).run Tryz.prog (w.alloc (.cells #[.bool false, .int .i64 0, .string ⟨#[]⟩] 308)).drew = .ok (.string (strOfNums bs)) (w.alloc (.cells #[.bool false, .int .i64 0, .string ⟨#[]⟩] 308)).drew := hcv _ hb0.drew
  have hcv2 : (convert 66 9 p.wv).run Tryz.prog ((w.alloc (.cells #[.bool false, .int .i64 0, .string ⟨#[]⟩] 308)).alloc (.cells #[.bool false, .int .i64 0, .string ⟨#[]⟩] 308)).drew = .ok (.string (strOfNums bs)) ((w.alloc (.cells #[.bool false, .int .i64 0, .string ⟨#[]⟩] 308)).alloc (.cells #[.bool false, .int .i64 0, .string ⟨#[]⟩] 308)).drew := hcv _ (hb0.alloc (by simp) _).drew;have d6 : (w.alloc (.cells #[.bool false, .int .i64 0, .string ⟨#[]⟩] 308)).cell? ⟨b, 6, none⟩ = some (.int .i64 p.st) := (hb0.cell (p := ⟨b, 6, none⟩) hbl).trans c6;have d7 : (w.alloc (.cells #[.bool false, .int .i64 0, .string ⟨#[]⟩] 308)).cell? ⟨b, 7, none⟩ = some (.bool p.neg) := (hb0.cell (p := ⟨b, 7, none⟩) hbl).trans c7;have d10 : (w.alloc (.cells #[.bool false, .int .i64 0, .string ⟨#[]⟩] 308)).cell? ⟨b, 10, none⟩ = some (.int .i64 p.num) := (hb0.cell (p := ⟨b, 10, none⟩) hbl).trans c10
  have d11 : (w.alloc (.cells #[.bool false, .int .i64 0, .string ⟨#[]⟩] 308)).cell? ⟨b, 11, none⟩ = some p.wv := (hb0.cell (p := ⟨b, 11, none⟩) hbl).trans c11;have HCV : Hid (∀ W, Below w.heap.size w W -> (convert 66 9 (.slice a bs.length cp)).run Tryz.prog W = .ok (.string (strOfNums bs)) W) := (by rw [<- hv]; exact hcv);have HB0 : Hid (Below w.heap.size w (w.alloc (.cells #[.bool false, .int .i64 0, .string ⟨#[]⟩] 308))) := hb0;have hs0 : (w.alloc (.cells #[.bool false, .int .i64 0, .string ⟨#[]⟩] 308)).heap.size = w.heap.size + 1 := (by simp);have t0 : (w.alloc (.cells #[.bool false, .int .i64 0, .string ⟨#[]⟩] 308)).cell? ⟨w.heap.size, 0, none⟩ = some (.bool false) := (by simp);have t1 : (w.alloc (.cells #[.bool false, .int .i64 0, .string ⟨#[]⟩] 308)).cell? ⟨w.heap.size, 1, none⟩ = some (.int .i64 0) := by simp
  have t2 : (w.alloc (.cells #[.bool false, .int .i64 0, .string ⟨#[]⟩] 308)).cell? ⟨w.heap.size, 2, none⟩ = some (.string ⟨#[]⟩) := (by simp);have HBK : Hid ((w.alloc (.cells #[.bool false, .int .i64 0, .string ⟨#[]⟩] 308)).heap[w.heap.size]? = some (.cells #[.bool false, .int .i64 0, .string ⟨#[]⟩] 308 (0, 0))) := heap_alloc_new w _;have tf : ∀ o, (w.alloc (.cells #[.bool false, .int .i64 0, .string ⟨#[]⟩] 308)).frozen? ⟨w.heap.size, o, none⟩ = false := fun o => frozen_of_row _ _ o _ 308 (heap_alloc_new w _);clear h hcv hb0 c6 c7 c10 c11;rw [hv] at d11 hcv1 hcv2;go_enter Tryz.func221, Tryz.ntmps221;go_wp2_with fail
  generalize w.alloc (.cells #[.bool false, .int .i64 0, .string ⟨#[]⟩] 308) = wb at *;have n1 := World.new_ne wb _ d6;have n2 := World.new_ne wb _ d10;have n3 := World.new_ne wb _ d11;clear hcv1 hcv2;go_region_held3 (fun w' => (w'.cell? ⟨b, 6, none⟩ = some (.int .i64 p.st) /\ w'.cell? ⟨b, 10, none⟩ = some (.int .i64 p.num) /\ w'.cell? ⟨b, 11, none⟩ = some (.slice a bs.length cp)) /\ (convert 66 9 (.slice a bs.length cp)).run Tryz.prog w' = .ok (.string (strOfNums bs)) w') (exact ⟨by go_keep, HCV.out _ (by repeat (first | with_reducible exact HB0.out | with_reducible apply Below.drew | (refine Below.alloc ?_ (by first | omega | (simp; omega)) _) | (refine Below.setCell ?_ (by first | omega | (simp; omega)) _)))⟩) (fail)
  have HBF : Hid (Below w.heap.size w (wb.alloc (.cells #[.bool (p.st == 0), .int .i64 p.num, .string (strOfNums bs)] 308)).drew) := (HB0.out.alloc (by omega) _).drew;have hst : (p.st == 0) = decide (p.st = 0) := (by by_cases h0 : p.st = 0 <;> simp [h0]);have HST : Hid ((p.st == 0) = decide (p.st = 0)) := hst;clear hst;have hwn : IntKind.i64.wrap (-p.num) = -p.num := wrapI (by omega) (by omega)
  by_cases hneg : p.neg = true
  · have HO : Hid (numOf p = -p.num) := if_pos hneg;rw [hneg] at d7;clear hneg;have hfin : (((((wb.setCell ⟨w.heap.size, 0, none⟩ (.bool (p.st == 0))).setCell ⟨w.heap.size, 1, none⟩ (.int .i64 (-p.num))).setCell ⟨w.heap.size, 2, none⟩ (.string (strOfNums bs))).alloc (.cells #[.bool (p.st == 0), .int .i64 (-p.num), .string (strOfNums bs)] 308)).drew).heap[w.heap.size]? = some (.cells #[.bool (p.st == 0), .int .i64 (-p.num), .string (strOfNums bs)] 308 (0, 0)) := by have k1 := heap_setCell_same wb w.heap.size 0 _ 308 (.bool (p.st == 0)) HBK.out;have k2 := heap_setCell_same _ w.heap.size 1 _ 308 (.int .i64 (-p.num)) k1;have k3 := heap_setCell_same _ w.heap.size 2 _ 308 (.string (strOfNums bs)) k2;exact (Below.heap_alloc _ _ w.heap.size (Array.getElem?_eq_some_iff.1 k3).1).trans k3
    have q0 := cell_of_row _ w.heap.size 0 _ 308 (0, 0) hfin;have q1 := cell_of_row _ w.heap.size 1 _ 308 (0, 0) hfin;have q2 := cell_of_row _ w.heap.size 2 _ 308 (0, 0) hfin;have HBF2 : Hid (Below w.heap.size w ((((wb.setCell ⟨w.heap.size, 0, none⟩ (.bool (p.st == 0))).setCell ⟨w.heap.size, 1, none⟩ (.int .i64 (-p.num))).setCell ⟨w.heap.size, 2, none⟩ (.string (strOfNums bs))).alloc (.cells #[.bool (p.st == 0), .int .i64 (-p.num), .string (strOfNums bs)] 308)).drew) := ((((HB0.out.setCell (p := ⟨w.heap.size, 0, none⟩) (Nat.le_refl _) _).setCell (p := ⟨w.heap.size, 1, none⟩) (Nat.le_refl _) _).setCell (p := ⟨w.heap.size, 2, none⟩) (Nat.le_refl _) _).alloc (by simp [World.setCell]; omega) _).drew;clear hfin;go_wp2
    exact bodyPost_ret (v := .agg #[.bool (p.st == 0), .int .i64 (-p.num), .string (strOfNums bs)]) (by simp at q0 q1 q2; simp [results, Tryz.results221, go_sem, q0, q1, q2]) rfl ⟨by rw [HO.out, HST.out], HBF2.out⟩
  have hnf : p.neg = false := by simpa using hneg
  have HO : Hid (numOf p = p.num) := if_neg hneg;rw [hnf] at d7;clear hneg hnf;have hfin : (((((wb.setCell ⟨w.heap.size, 0, none⟩ (.bool (p.st == 0))).setCell ⟨w.heap.size, 1, none⟩ (.int .i64 (p.num))).setCell ⟨w.heap.size, 2, none⟩ (.string (strOfNums bs))).alloc (.cells #[.bool (p.st == 0), .int .i64 (p.num), .string (strOfNums bs)] 308)).drew).heap[w.heap.size]? = some (.cells #[.bool (p.st == 0), .int .i64 (p.num), .string (strOfNums bs)] 308 (0, 0)) := by have k1 := heap_setCell_same wb w.heap.size 0 _ 308 (.bool (p.st == 0)) HBK.out;have k2 := heap_setCell_same _ w.heap.size 1 _ 308 (.int .i64 (p.num)) k1;have k3 := heap_setCell_same _ w.heap.size 2 _ 308 (.string (strOfNums bs)) k2;exact (Below.heap_alloc _ _ w.heap.size (Array.getElem?_eq_some_iff.1 k3).1).trans k3
  have q0 := cell_of_row _ w.heap.size 0 _ 308 (0, 0) hfin;have q1 := cell_of_row _ w.heap.size 1 _ 308 (0, 0) hfin;have q2 := cell_of_row _ w.heap.size 2 _ 308 (0, 0) hfin;have HBF2 : Hid (Below w.heap.size w ((((wb.setCell ⟨w.heap.size, 0, none⟩ (.bool (p.st == 0))).setCell ⟨w.heap.size, 1, none⟩ (.int .i64 (p.num))).setCell ⟨w.heap.size, 2, none⟩ (.string (strOfNums bs))).alloc (.cells #[.bool (p.st == 0), .int .i64 (p.num), .string (strOfNums bs)] 308)).drew) := ((((HB0.out.setCell (p := ⟨w.heap.size, 0, none⟩) (Nat.le_refl _) _).setCell (p := ⟨w.heap.size, 1, none⟩) (Nat.le_refl _) _).setCell (p := ⟨w.heap.size, 2, none⟩) (Nat.le_refl _) _).alloc (by simp [World.setCell]; omega) _).drew;clear hfin;go_wp2
  exact bodyPost_ret (v := .agg #[.bool (p.st == 0), .int .i64 (p.num), .string (strOfNums bs)]) (by simp at q0 q1 q2; simp [results, Tryz.results221, go_sem, q0, q1, q2]) rfl ⟨by rw [HO.out, HST.out], HBF2.out⟩
end Go.Proofs.YtfcgnpchbcmdeaaGreat

namespace Go.Proofs.YtfcgnpchbcmdeaaGreat
set_option maxRecDepth 100000
set_option maxHeartbeats 2000000
open Go.RowKit
structure VS where
  miss : Bool
  num : Int
  word : ByteArray
def cellsV (v : VS) : List Value := [.bool v.miss, .int .i64 v.num, .string v.word]
def flatV : List VS -> List Value
  | [] => []
  | e :: L => cellsV e ++ flatV L
theorem flatV_append (a b : List VS) : flatV (a ++ b) = flatV a ++ flatV b := by
  induction a with
  | nil => rfl
  | cons e L ih => simp [flatV, ih]
theorem info308 : (Tryz.prog.info? 308).map (fun i => (i.zero, i.size, i.bytes)) = some (some (.agg #[.bool false, .int .i64 0, .string ⟨#[]⟩]), 3, 32) := by kernel_rfl
def OwnV (w : World) (base : Nat) (v : Value) (L : List VS) : Prop := w.ownsRow base 308 3 v L.length (flatV L)
theorem OwnV.nil (w : World) (base : Nat) : OwnV w base (.slice none 0 0) [] := World.ownsRow_nil w base 308 3
end Go.Proofs.YtfcgnpchbcmdeaaGreat
