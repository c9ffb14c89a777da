/-
  Contracts of the parts of the program's Cut: the shares, and the walk to the nearest entry.
-/
import Derived.Test.YtfcgnpchbcmdeaaGreatSwf
namespace Go.Proofs.YtfcgnpchbcmdeaaGreat
open Go.RowKit

/-- THE SHARES, AS THEY LIE IN MEMORY. -/
def MulB (w : World) (b : Nat) (step parts whole rest : Int) : Prop := w.heap[b]? = some (.cells #[.int .i64 step, .int .i64 parts, .int .i64 whole, .int .i64 rest] 153 (0, 0))

theorem MulB.cells {w : World} {b : Nat} {x0 x1 x2 x3 : Int} (h : MulB w b x0 x1 x2 x3) : w.cell? ⟨b, 0, none⟩ = some (.int .i64 x0) ∧ w.cell? ⟨b, 1, none⟩ = some (.int .i64 x1) ∧ w.cell? ⟨b, 2, none⟩ = some (.int .i64 x2) ∧ w.cell? ⟨b, 3, none⟩ = some (.int .i64 x3) ∧ (∀ o, w.frozen? ⟨b, o, none⟩ = false) := by
  unfold MulB at h
  refine ⟨?_, ?_, ?_, ?_, fun o => frozen_of_row w b o _ 153 h⟩ <;> simp [World.cell?, h]
theorem MulB.lt {w : World} {b : Nat} {x0 x1 x2 x3 : Int} (h : MulB w b x0 x1 x2 x3) : b < w.heap.size := (Array.getElem?_eq_some_iff.1 h).1
theorem MulB.set2 {w : World} {b : Nat} {x0 x1 x2 x3 : Int} (h : MulB w b x0 x1 x2 x3) (y : Int) : MulB (w.setCell ⟨b, 2, none⟩ (.int .i64 y)) b x0 x1 y x3 := heap_setCell_same w b 2 _ 153 (.int .i64 y) h
theorem MulB.set3 {w : World} {b : Nat} {x0 x1 x2 x3 : Int} (h : MulB w b x0 x1 x2 x3) (y : Int) : MulB (w.setCell ⟨b, 3, none⟩ (.int .i64 y)) b x0 x1 x2 y := heap_setCell_same w b 3 _ 153 (.int .i64 y) h
theorem MulB.drew {w : World} {b : Nat} {x0 x1 x2 x3 : Int} (h : MulB w b x0 x1 x2 x3) : MulB w.drew b x0 x1 x2 x3 := h
theorem MulB.drewN {w : World} {b : Nat} {x0 x1 x2 x3 : Int} (h : MulB w b x0 x1 x2 x3) (n : Nat) : MulB (w.drewN n) b x0 x1 x2 x3 := by
  unfold MulB; rw [(below_drewN (Below.refl w.heap.size w) n).block b h.lt]; exact h

theorem next_math {step parts : Int} (hp : 0 < parts) (hs : 0 ≤ step) : 0 ≤ step / parts ∧ step / parts ≤ step ∧ 0 ≤ step % parts ∧ step % parts < parts ∧ step / parts * parts + step % parts = step :=
  ⟨Int.ediv_nonneg hs (by omega), Int.ediv_le_self _ hs, Int.emod_nonneg _ (by omega), Int.emod_lt_of_pos _ hp, by have := Int.mul_ediv_add_emod step parts; rw [Int.mul_comm]; exact this⟩

theorem grown_refl (w : World) (r : Option Nat) : w.grownBy w r := ⟨rfl, rfl, rfl, Nat.le_refl _, fun _ _ _ => rfl⟩
theorem grown_set {w w' : World} {b : Nat} (h : w.grownBy w' (some b)) (j : Nat) (u : Value) : w.grownBy (w'.setCell ⟨b, j, none⟩ u) (some b) :=
  ⟨h.os, h.tape, h.output, by have := h.size; simpa [World.setCell] using this, fun k hk hne => (Below.heap_setCell w' ⟨b, j, none⟩ u k (fun e => hne (by rw [e]))).trans (h.block k hk hne)⟩
theorem grown_drew {w w' : World} {r : Option Nat} (h : w.grownBy w' r) : w.grownBy w'.drew r := ⟨h.os, h.tape, h.output, h.size, h.block⟩

set_option maxHeartbeats 2000000 in
theorem next_any (b : Nat) (step parts whole rest : Int) (w : World) (h : MulB w b step parts whole rest) (hp : 1 ≤ parts ∧ parts ≤ 4194304) (hs : 0 ≤ step ∧ step ≤ 4000000000000) (hw : 0 ≤ whole ∧ whole ≤ 100000000000000000) (hr : 0 ≤ rest ∧ rest < parts) :
    Calls Tryz.prog 88 #[.pointer (some ⟨b, 0, none⟩)] w fun e w' => e = .returned (.tuple #[]) ∧ ∃ wh re, MulB w' b step parts wh re ∧ wh * parts + re = whole * parts + rest + step ∧ 0 ≤ re ∧ re < parts ∧ 0 ≤ wh ∧ wh ≤ whole + step + 1 ∧ w.grownBy w' (some b) := by
  obtain ⟨p1, p2⟩ := hp
  obtain ⟨s1, s2⟩ := hs
  obtain ⟨w1, w2⟩ := hw
  obtain ⟨r1, r2⟩ := hr
  have hm := next_math (by omega : 0 < parts) s1
  have hdq : step.tdiv parts = step / parts := by rw [Int.tdiv_eq_ediv_of_nonneg s1]
  have hdr : step.tmod parts = step % parts := by rw [Int.tmod_eq_emod_of_nonneg s1]
  obtain ⟨m1, m2, m3, m4, m5⟩ := hm
  obtain ⟨c0, c1, c2, c3, cf⟩ := h.cells
  have HM : Hid (MulB w b step parts whole rest) := h
  have hne : (parts == 0) = false := beq_eq_false_iff_ne.2 (by omega)
  have M5 : Hid (step / parts * parts + step % parts = step) := m5
  clear h m5
  generalize step / parts = q at *
  generalize step % parts = r at *
  by_cases hc : parts ≤ rest + r
  · have HE : Hid ((whole + q + 1) * parts + (rest + r - parts) = whole * parts + rest + step) := show _ = _ by have := M5.out; rw [Int.add_mul, Int.add_mul]; omega
    go_enter Tryz.func88, Tryz.ntmps88
    go_wp2_with fail
    go_region
    go_wp2_with fail
    go_region
    go_wp2_with fail
    go_region
    go_wp2_with fail
    go_region
    go_wp2_with fail
    go_end0
    refine ⟨rfl, whole + q + 1, rest + r - parts, ?_, HE.out, by omega, by omega, by omega, by omega, ?_⟩
    · exact (((HM.out.set2 _).set3 _).set2 _).set3 _
    · exact (by repeat (first | with_reducible exact grown_refl _ _ | with_reducible refine grown_drew ?_ | with_reducible refine grown_set ?_ _ _))
  · have HE : Hid ((whole + q) * parts + (rest + r) = whole * parts + rest + step) := show _ = _ by have := M5.out; rw [Int.add_mul]; omega
    go_enter Tryz.func88, Tryz.ntmps88
    go_wp2_with fail
    go_region
    go_wp2_with fail
    go_region
    go_wp2_with fail
    go_region
    go_wp2_with fail
    go_end0
    refine ⟨rfl, whole + q, rest + r, ?_, HE.out, by omega, by omega, by omega, by omega, ?_⟩
    · exact (HM.out.set2 _).set3 _
    · exact (by repeat (first | with_reducible exact grown_refl _ _ | with_reducible refine grown_drew ?_ | with_reducible refine grown_set ?_ _ _))

set_option maxHeartbeats 1000000 in
theorem roundedUp_any (b : Nat) (step parts whole rest : Int) (w : World) (h : MulB w b step parts whole rest) (hw : 0 ≤ whole ∧ whole ≤ 100000000000000000) :
    Calls Tryz.prog 90 #[.pointer (some ⟨b, 0, none⟩)] w fun e w' => e = .returned (.int .i64 (if 0 < rest then whole + 1 else whole)) ∧ w' = w := by
  obtain ⟨w1, w2⟩ := hw
  obtain ⟨c0, c1, c2, c3, cf⟩ := h.cells
  clear h cf
  by_cases hc : 0 < rest
  · rw [if_pos hc]
    go_enter Tryz.func90, Tryz.ntmps90
    go_wp2
    go_ret
    exact ⟨rfl, rfl⟩
  · rw [if_neg hc]
    go_enter Tryz.func90, Tryz.ntmps90
    go_wp2
    go_ret
    exact ⟨rfl, rfl⟩
end Go.Proofs.YtfcgnpchbcmdeaaGreat
