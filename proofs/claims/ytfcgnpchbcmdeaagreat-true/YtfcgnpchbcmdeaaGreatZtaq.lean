/-
  The contracts of a field's reading, of numbers and of words: one byte.
  The contracts of the functions that features bear in their fields: how a byte is read.
  The contracts of granarykeep's pick and raw.
-/
import Derived.Test.YtfcgnpchbcmdeaaGreatZtap
import Derived.Test.YtfcgnpchbcmdeaaGreatZtam
namespace Go.Proofs.YtfcgnpchbcmdeaaGreat
open Go.RowKit

theorem grown_tr {w w' w'' : World} {r : Option Nat} (h : w.grownBy w' r) (k : w'.grownBy w'' r) : w.grownBy w'' r :=
  ⟨k.os.trans h.os, k.tape.trans h.tape, k.output.trans h.output, Nat.le_trans h.size k.size, fun i hi hn => (k.block i (Nat.lt_of_lt_of_le hi h.size) hn).trans (h.block i hi hn)⟩

def numStep (u : Int) (p : PartS) (c : Int) : Option PartS :=
  if p.st = 0 then (minusD p c).orElse (fun _ => firstD u p c)
  else if p.st = 1 then firstD u p c
  else if p.st = 3 then (digitD p c).orElse (fun _ => pointD p c)
  else if p.st = 2 then pointD p c
  else behindD p c

def wordStep (st : Int) (bs : List Int) (c : Int) : Option (Int × List Int) :=
  if st = 0 then (if c = 34 then some (7, bs) else none).orElse (fun _ => letterD bs c)
  else if st = 6 then letterD bs c
  else if st = 7 then (if c = 34 then some (8, bs) else none).orElse (fun _ => signD st bs c)
  else secondD bs c

section
variable {b : Nat} {vf vW vC : Value} {wt : Int} {fl : Bool} {vr : Value} {p : PartS}

theorem TookP.first {w w1 : World} {e : Ending} {o : Option PartS} (h : TookP b vf vW vC wt fl vr p o w e w1) : (∃ q, o = some q ∧ e = .returned (.bool true)) ∨ (o = none ∧ e = .returned (.bool false) ∧ RB w1 b vf vW vC wt fl vr p ∧ w.grownBy w1 (some b)) := by
  obtain ⟨h1, h2, h3⟩ := h
  cases o with
  | none => exact .inr ⟨rfl, h1, h2, h3⟩
  | some q => exact .inl ⟨q, rfl, h1⟩
theorem TookP.second {w w1 w2 : World} {e : Ending} {o : Option PartS} (hg : w.grownBy w1 (some b)) (h : TookP b vf vW vC wt fl vr p o w1 e w2) : TookP b vf vW vC wt fl vr p o w e w2 := ⟨h.1, h.2.1, grown_tr hg h.2.2⟩
theorem TookP.ends {w w1 : World} {e : Ending} {o : Option PartS} (h : TookP b vf vW vC wt fl vr p o w e w1) : e = .returned (.bool o.isSome) := h.1
end

set_option maxHeartbeats 2000000 in
theorem takeNumber_any (b : Nat) (vf vW vC : Value) (wt : Int) (fl : Bool) (vr : Value) (p : PartS) (c u : Int) (w : World) (h : RB w b vf vW vC wt fl vr p) (hv1 : 0 ≤ u) (hv2 : u ≤ 1000000)
    (hu1 : 0 ≤ p.unit) (hu2 : p.unit ≤ 1000000) (hn1 : 0 ≤ p.num) (hn2 : p.num ≤ 1000000000000) (hg1 : 0 ≤ p.dig) (hg2 : p.dig ≤ 1000) :
    Calls Tryz.prog 215 #[.pointer (some ⟨b, 6, none⟩), .int .u8 c, .int .i64 u] w fun e w' => TookP b vf vW vC wt fl vr p (numStep u p c) w e w' := by
  obtain ⟨c6, _, _, _, _, _, _⟩ := h.part
  have H : Hid (RB w b vf vW vC wt fl vr p) := h
  clear h
  by_cases s0 : p.st = 0
  · have HO : Hid (numStep u p c = (minusD p c).orElse (fun _ => firstD u p c)) := if_pos s0
    rw [s0] at c6
    clear s0
    go_enter Tryz.func215, Tryz.ntmps215
    go_wp2_with fail
    refine (takeMinus_any b vf vW vC wt fl vr p c w H.out).mono ?_
    rintro e w1 ht
    have HT : Hid (TookP b vf vW vC wt fl vr p (minusD p c) w e w1) := ht
    rcases ht.first with ⟨q, hq, rfl⟩ | ⟨hq, rfl, hR, hG⟩
    · have HQ : Hid (minusD p c = some q) := hq
      clear ht hq
      go_wp2
      go_ret
      rw [HO.out, HQ.out]
      have := HT.out
      rw [HQ.out] at this
      exact this
    · have HQ : Hid (minusD p c = none) := hq
      have HR : Hid (RB w1 b vf vW vC wt fl vr p ∧ w.grownBy w1 (some b)) := ⟨hR, hG⟩
      clear ht hq hR hG HT
      go_wp2_with fail
      refine (takeFirst_any b vf vW vC wt fl vr p c w1 HR.out.1 u hv1 hv2).mono ?_
      rintro e w2 ht
      have HT : Hid (TookP b vf vW vC wt fl vr p (firstD u p c) w e w2) := ht.second HR.out.2
      obtain rfl := ht.ends
      clear ht
      go_wp2
      go_ret
      rw [HO.out, HQ.out]
      exact HT.out
  · by_cases s1 : p.st = 1
    · have HO : Hid (numStep u p c = firstD u p c) := by show numStep u p c = _; unfold numStep; rw [if_neg s0, if_pos s1]
      rw [s1] at c6
      clear s0 s1
      go_enter Tryz.func215, Tryz.ntmps215
      go_wp2_with fail
      refine (takeFirst_any b vf vW vC wt fl vr p c w H.out u hv1 hv2).mono ?_
      rintro e w2 ht
      have HT : Hid (TookP b vf vW vC wt fl vr p (firstD u p c) w e w2) := ht
      obtain rfl := ht.ends
      clear ht
      go_wp2
      go_ret
      rw [HO.out]
      exact HT.out
    · by_cases s3 : p.st = 3
      · have HO : Hid (numStep u p c = (digitD p c).orElse (fun _ => pointD p c)) := by show numStep u p c = _; unfold numStep; rw [if_neg s0, if_neg s1, if_pos s3]
        rw [s3] at c6
        clear s0 s1 s3
        go_enter Tryz.func215, Tryz.ntmps215
        go_wp2_with fail
        refine (takeDigit_any b vf vW vC wt fl vr p c w H.out hu1 hu2 hn1 hn2 hg1 hg2).mono ?_
        rintro e w1 ht
        have HT : Hid (TookP b vf vW vC wt fl vr p (digitD p c) w e w1) := ht
        rcases ht.first with ⟨q, hq, rfl⟩ | ⟨hq, rfl, hR, hG⟩
        · have HQ : Hid (digitD p c = some q) := hq
          clear ht hq
          go_wp2
          go_ret
          rw [HO.out, HQ.out]
          have := HT.out
          rw [HQ.out] at this
          exact this
        · have HQ : Hid (digitD p c = none) := hq
          have HR : Hid (RB w1 b vf vW vC wt fl vr p ∧ w.grownBy w1 (some b)) := ⟨hR, hG⟩
          clear ht hq hR hG HT
          go_wp2_with fail
          refine (takePoint_any b vf vW vC wt fl vr p c w1 HR.out.1).mono ?_
          rintro e w2 ht
          have HT : Hid (TookP b vf vW vC wt fl vr p (pointD p c) w e w2) := ht.second HR.out.2
          obtain rfl := ht.ends
          clear ht
          go_wp2
          go_ret
          rw [HO.out, HQ.out]
          exact HT.out
      · by_cases s2 : p.st = 2
        · have HO : Hid (numStep u p c = pointD p c) := by show numStep u p c = _; unfold numStep; rw [if_neg s0, if_neg s1, if_neg s3, if_pos s2]
          rw [s2] at c6
          clear s0 s1 s3 s2
          go_enter Tryz.func215, Tryz.ntmps215
          go_wp2_with fail
          refine (takePoint_any b vf vW vC wt fl vr p c w H.out).mono ?_
          rintro e w2 ht
          have HT : Hid (TookP b vf vW vC wt fl vr p (pointD p c) w e w2) := ht
          obtain rfl := ht.ends
          clear ht
          go_wp2
          go_ret
          rw [HO.out]
          exact HT.out
        · have HO : Hid (numStep u p c = behindD p c) := by show numStep u p c = _; unfold numStep; rw [if_neg s0, if_neg s1, if_neg s3, if_neg s2]
          have e0 : (p.st == 0) = false := beq_eq_false_iff_ne.2 s0
          have e1 : (p.st == 1) = false := beq_eq_false_iff_ne.2 s1
          have e2 : (p.st == 2) = false := beq_eq_false_iff_ne.2 s2
          have e3 : (p.st == 3) = false := beq_eq_false_iff_ne.2 s3
          go_enter Tryz.func215, Tryz.ntmps215
          go_wp2_with fail
          refine (takeBehind_any b vf vW vC wt fl vr p c w H.out hu1 hu2 hn1 hn2).mono ?_
          rintro e w2 ht
          have HT : Hid (TookP b vf vW vC wt fl vr p (behindD p c) w e w2) := ht
          obtain rfl := ht.ends
          clear ht
          go_wp2
          go_ret
          rw [HO.out]
          exact HT.out

section
variable {b base : Nat} {vf vW vC : Value} {wt : Int} {fl : Bool} {vr : Value} {p : PartS} {bs : List Int}

theorem TookW.first {w w1 : World} {e : Ending} {o : Option (Int × List Int)} (h : TookW b base vf vW vC wt fl vr p bs o w e w1) : (∃ q, o = some q ∧ e = .returned (.bool true)) ∨ (o = Option.none ∧ e = .returned (.bool false) ∧ ∃ v', RW w1 b base vf vW vC wt fl vr { p with wv := v' } bs ∧ (v'.ownBlock = p.wv.ownBlock ∨ ∃ k, v'.ownBlock = some k ∧ w.heap.size ≤ k) ∧ Touch (fun k => k = b ∨ some k = p.wv.ownBlock) w w1) := by
  obtain ⟨h1, ⟨v', h2, h3⟩, h4⟩ := h
  cases o with
  | none => exact .inr ⟨rfl, h1, v', h2, h3, h4⟩
  | some q => exact .inl ⟨q, rfl, h1⟩
theorem TookW.second {w w1 w2 : World} {e : Ending} {o : Option (Int × List Int)} {v' : Value} (hv : v'.ownBlock = p.wv.ownBlock ∨ ∃ k, v'.ownBlock = some k ∧ w.heap.size ≤ k) (ht : Touch (fun k => k = b ∨ some k = p.wv.ownBlock) w w1) (h : TookW b base vf vW vC wt fl vr { p with wv := v' } bs o w1 e w2) : TookW b base vf vW vC wt fl vr p bs o w e w2 := by
  obtain ⟨h1, ⟨v2, h2, h3⟩, h4⟩ := h
  refine ⟨h1, ⟨v2, h2, ?_⟩, ⟨h4.os.trans ht.os, h4.tape.trans ht.tape, h4.output.trans ht.output, Nat.le_trans ht.size h4.size, fun k hk hn => (h4.block k (Nat.lt_of_lt_of_le hk ht.size) (fun e => ?_)).trans (ht.block k hk hn)⟩⟩
  · rcases h3 with h3 | ⟨k, h3, hk⟩
    · rcases hv with hv | ⟨k, hv, hk⟩
      · exact .inl (h3.trans hv)
      · exact .inr ⟨k, h3.trans hv, hk⟩
    · exact .inr ⟨k, h3, by have := ht.size; omega⟩
  · rcases e with e | e
    · exact hn (.inl e)
    · rcases hv with hv | ⟨k', hv, hk'⟩
      · exact hn (.inr (e.trans hv))
      · have e2 : some k = some k' := e.trans hv
        simp at e2
        omega
theorem TookW.ends {w w1 : World} {e : Ending} {o : Option (Int × List Int)} (h : TookW b base vf vW vC wt fl vr p bs o w e w1) : e = .returned (.bool o.isSome) := h.1
end

set_option maxHeartbeats 2000000 in
theorem takeWord_any (b base : Nat) (vf vW vC : Value) (wt : Int) (fl : Bool) (vr : Value) (p : PartS) (bs : List Int) (c : Int) (w : World) (h : RW w b base vf vW vC wt fl vr p bs) (hbs : base ≤ w.heap.size) (hl : bs.length ≤ 1000) :
    Calls Tryz.prog 209 #[.pointer (some ⟨b, 6, none⟩), .int .u8 c] w fun e w' => TookW b base vf vW vC wt fl vr p bs (wordStep p.st bs c) w e w' := by
  obtain ⟨c6, _, _, _, _, _, _⟩ := h.1.part
  have H : Hid (RW w b base vf vW vC wt fl vr p bs) := h
  clear h
  by_cases s0 : p.st = 0
  · have HO : Hid (wordStep p.st bs c = (if c = 34 then some ((7 : Int), bs) else none).orElse (fun _ => letterD bs c)) := if_pos s0
    rw [s0] at c6
    clear s0
    go_enter Tryz.func209, Tryz.ntmps209
    go_wp2_with fail
    refine (takeOpening_any b base vf vW vC wt fl vr p bs c w H.out).mono ?_
    rintro e w1 ht
    have HT : Hid (TookW b base vf vW vC wt fl vr p bs (if c = 34 then some (7, bs) else none) w e w1) := ht
    rcases ht.first with ⟨q, hq, rfl⟩ | ⟨hq, rfl, v', hR, hV, hTo⟩
    · have HQ : Hid ((if c = 34 then some ((7 : Int), bs) else none) = some q) := hq
      clear ht hq
      go_wp2
      go_ret
      rw [HO.out, HQ.out]
      have := HT.out
      rw [HQ.out] at this
      exact this
    · have HQ : Hid ((if c = 34 then some ((7 : Int), bs) else none) = none) := hq
      have HR : Hid (RW w1 b base vf vW vC wt fl vr { p with wv := v' } bs ∧ (v'.ownBlock = p.wv.ownBlock ∨ ∃ k, v'.ownBlock = some k ∧ w.heap.size ≤ k) ∧ Touch (fun k => k = b ∨ some k = p.wv.ownBlock) w w1) := ⟨hR, hV, hTo⟩
      have hb1 : base ≤ w1.heap.size := by have := hTo.size; omega
      clear ht hq hR hV hTo HT
      go_wp2_with fail
      refine (takeLetter_any b base vf vW vC wt fl vr { p with wv := v' } bs c w1 HR.out.1 hb1 hl).mono ?_
      rintro e w2 ht
      have HT : Hid (TookW b base vf vW vC wt fl vr p bs (letterD bs c) w e w2) := ht.second HR.out.2.1 HR.out.2.2
      obtain rfl := ht.ends
      clear ht
      go_wp2
      go_ret
      rw [HO.out, HQ.out]
      exact HT.out
  · by_cases s6 : p.st = 6
    · have HO : Hid (wordStep p.st bs c = letterD bs c) := by show wordStep p.st bs c = _; unfold wordStep; rw [if_neg s0, if_pos s6]
      rw [s6] at c6
      clear s0 s6
      go_enter Tryz.func209, Tryz.ntmps209
      go_wp2_with fail
      refine (takeLetter_any b base vf vW vC wt fl vr p bs c w H.out hbs hl).mono ?_
      rintro e w2 ht
      have HT : Hid (TookW b base vf vW vC wt fl vr p bs (letterD bs c) w e w2) := ht
      obtain rfl := ht.ends
      clear ht
      go_wp2
      go_ret
      rw [HO.out]
      exact HT.out
    · by_cases s7 : p.st = 7
      · have HO : Hid (wordStep p.st bs c = (if c = 34 then some ((8 : Int), bs) else none).orElse (fun _ => signD p.st bs c)) := by show wordStep p.st bs c = _; unfold wordStep; rw [if_neg s0, if_neg s6, if_pos s7]
        rw [s7] at c6
        clear s0 s6 s7
        go_enter Tryz.func209, Tryz.ntmps209
        go_wp2_with fail
        refine (takeQuote_any b base vf vW vC wt fl vr p bs c w H.out).mono ?_
        rintro e w1 ht
        have HT : Hid (TookW b base vf vW vC wt fl vr p bs (if c = 34 then some (8, bs) else none) w e w1) := ht
        rcases ht.first with ⟨q, hq, rfl⟩ | ⟨hq, rfl, v', hR, hV, hTo⟩
        · have HQ : Hid ((if c = 34 then some ((8 : Int), bs) else none) = some q) := hq
          clear ht hq
          go_wp2
          go_ret
          rw [HO.out, HQ.out]
          have := HT.out
          rw [HQ.out] at this
          exact this
        · have HQ : Hid ((if c = 34 then some ((8 : Int), bs) else none) = none) := hq
          have HR : Hid (RW w1 b base vf vW vC wt fl vr { p with wv := v' } bs ∧ (v'.ownBlock = p.wv.ownBlock ∨ ∃ k, v'.ownBlock = some k ∧ w.heap.size ≤ k) ∧ Touch (fun k => k = b ∨ some k = p.wv.ownBlock) w w1) := ⟨hR, hV, hTo⟩
          have hb1 : base ≤ w1.heap.size := by have := hTo.size; omega
          clear ht hq hR hV hTo HT
          go_wp2_with fail
          refine (takeSign_any b base vf vW vC wt fl vr { p with wv := v' } bs c w1 HR.out.1 hb1 hl).mono ?_
          rintro e w2 ht
          have HT : Hid (TookW b base vf vW vC wt fl vr p bs (signD p.st bs c) w e w2) := ht.second HR.out.2.1 HR.out.2.2
          obtain rfl := ht.ends
          clear ht
          go_wp2
          go_ret
          rw [HO.out, HQ.out]
          exact HT.out
      · have HO : Hid (wordStep p.st bs c = secondD bs c) := by show wordStep p.st bs c = _; unfold wordStep; rw [if_neg s0, if_neg s6, if_neg s7]
        have e0 : (p.st == 0) = false := beq_eq_false_iff_ne.2 s0
        have e6 : (p.st == 6) = false := beq_eq_false_iff_ne.2 s6
        have e7 : (p.st == 7) = false := beq_eq_false_iff_ne.2 s7
        go_enter Tryz.func209, Tryz.ntmps209
        go_wp2_with fail
        refine (takeSecond_any b base vf vW vC wt fl vr p bs c w H.out hbs hl).mono ?_
        rintro e w2 ht
        have HT : Hid (TookW b base vf vW vC wt fl vr p bs (secondD bs c) w e w2) := ht
        obtain rfl := ht.ends
        clear ht
        go_wp2
        go_ret
        rw [HO.out]
        exact HT.out
end Go.Proofs.YtfcgnpchbcmdeaaGreat

namespace Go.Proofs.YtfcgnpchbcmdeaaGreat
open Go.RowKit

theorem readNum_any (b ub : Nat) (vf vW vC : Value) (wt : Int) (fl : Bool) (vr : Value) (p : PartS) (c u : Int) (w : World) (h : RB w b vf vW vC wt fl vr p) (hub : w.cell? ⟨ub, 0, none⟩ = some (.int .i64 u)) (hv1 : 0 ≤ u) (hv2 : u ≤ 1000000)
    (hu1 : 0 ≤ p.unit) (hu2 : p.unit ≤ 1000000) (hn1 : 0 ≤ p.num) (hn2 : p.num ≤ 1000000000000) (hg1 : 0 ≤ p.dig) (hg2 : p.dig ≤ 1000) :
    Calls Tryz.prog 214 #[.pointer (some ⟨b, 6, none⟩), .int .u8 c, .pointer (some ⟨ub, 0, none⟩)] w fun e w' => TookP b vf vW vC wt fl vr p (numStep u p c) w e w' := by
  have H : Hid (RB w b vf vW vC wt fl vr p) := h
  clear h
  go_enter Tryz.func214, Tryz.ntmps214
  go_wp2_with fail
  refine (takeNumber_any b vf vW vC wt fl vr p c u w H.out hv1 hv2 hu1 hu2 hn1 hn2 hg1 hg2).mono ?_
  rintro e w2 ht
  have HT : Hid (TookP b vf vW vC wt fl vr p (numStep u p c) w e w2) := ht
  obtain rfl := ht.ends
  clear ht
  go_wp2
  go_ret
  exact HT.out
end Go.Proofs.YtfcgnpchbcmdeaaGreat

namespace Go.Proofs.YtfcgnpchbcmdeaaGreat
open Go.RowKit

/-- A number out of n, of any number. -/
def pickK (c : Int) (n : Nat) : Nat := ((if c < 0 then -(c + 1) else c) % (n : Int)).toNat
theorem pickK_lt (c : Int) {n : Nat} (h : 0 < n) : pickK c n < n := by
  unfold pickK
  have := Int.emod_lt_of_pos (if c < 0 then -(c + 1) else c) (show (0 : Int) < n by omega)
  have := Int.emod_nonneg (if c < 0 then -(c + 1) else c) (show (n : Int) ≠ 0 by omega)
  omega

theorem keepPick_any (c : Int) (n : Nat) (w : World) (hc : (Lit.int .i64 c).wf = true) (hn : 0 < n) (hn2 : n ≤ 4000000000000000000) :
    Calls Tryz.prog 17 #[.int .i64 c, .int .i64 (n : Nat)] w fun e w' => e = .returned (.int .i64 (pickK c n : Nat)) ∧ w' = w := by
  have hcr : -9223372036854775808 ≤ c ∧ c ≤ 9223372036854775807 := by
    simp [Lit.wf, IntKind.min, IntKind.max, IntKind.bits, IntKind.signed] at hc
    omega
  by_cases h0 : c < 0
  · have q1 : IntKind.i64.wrap (c + 1) = c + 1 := by simp [IntKind.wrap, IntKind.bits, IntKind.signed]; omega
    have q2 : IntKind.i64.wrap (-(c + 1)) = -(c + 1) := by simp [IntKind.wrap, IntKind.bits, IntKind.signed]; omega
    have q3 : (-(c + 1)).tmod (n : Int) = ((pickK c n : Nat) : Int) := by
      rw [Int.tmod_eq_emod_of_nonneg (by omega)]
      unfold pickK
      rw [if_pos h0, Int.toNat_of_nonneg (Int.emod_nonneg _ (by omega))]
    have hne : ¬ (n : Int) = 0 := by omega
    go_enter Tryz.func17, Tryz.ntmps17
    go_wp2
    go_ret
    exact ⟨rfl, rfl⟩
  · have q3 : c.tmod (n : Int) = ((pickK c n : Nat) : Int) := by
      rw [Int.tmod_eq_emod_of_nonneg (by omega)]
      unfold pickK
      rw [if_neg h0, Int.toNat_of_nonneg (Int.emod_nonneg _ (by omega))]
    have hne : ¬ (n : Int) = 0 := by omega
    go_enter Tryz.func17, Tryz.ntmps17
    go_wp2
    go_ret
    exact ⟨rfl, rfl⟩

/-- The i-th of raw numbers, round and round. -/
def rawK (zs : List Int) (i : Nat) : Int := if zs.length = 0 then 0 else zs.getD (i % zs.length) 0
theorem keepRaw_any (a : Option Addr) (n c i : Nat) (zs : List Int) (w : World) (h : IntsV w a n zs) (hi : i ≤ 1000000000) (hn : n ≤ 9223372036854775807) :
    Calls Tryz.prog 18 #[.slice a n c, .int .i64 (i : Nat)] w fun e w' => e = .returned (.int .i64 (rawK zs i)) ∧ w' = w := by
  unfold rawK
  rw [h.1]
  by_cases h0 : n = 0
  · rw [if_pos h0]
    have q : ((n : Int) == 0) = true := by rw [h0]; rfl
    clear h
    subst h0
    go_enter Tryz.func18, Tryz.ntmps18
    go_wp2
    go_ret
    exact ⟨rfl, rfl⟩
  · rw [if_neg h0]
    rcases h.2.2 with e | ⟨b, off, ha, hbl, hc⟩
    · exact absurd e h0
    · subst ha
      obtain ⟨r, hr⟩ : ∃ r, r = i % n := ⟨_, rfl⟩
      have hrn : r < n := by rw [hr]; exact Nat.mod_lt _ (by omega)
      have c0 := hc r hrn
      rw [← hr]
      have q1 : (i : Int).tmod (n : Int) = (r : Int) := by
        rw [Int.tmod_eq_emod_of_nonneg (by omega), hr]; simp
      have q2 : ((n : Int) == 0) = false := by rw [beq_eq_false_iff_ne]; omega
      have hne : ¬ (n : Int) = 0 := by omega
      have b1 : (0 : Int) ≤ (r : Int) := by omega
      have b2 : (r : Int) < (n : Int) := by omega
      generalize zs.getD r 0 = z at *
      clear h hc hr
      go_enter Tryz.func18, Tryz.ntmps18
      go_wp2
      go_ret
      exact ⟨rfl, rfl⟩
end Go.Proofs.YtfcgnpchbcmdeaaGreat
