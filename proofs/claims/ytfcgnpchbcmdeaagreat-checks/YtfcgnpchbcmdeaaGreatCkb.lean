/-
  The contract of the reference's Check: it returns what the program's own Check returns (Cka).
-/
import Derived.Test.YtfcgnpchbcmdeaaGreatCka
import Derived.Deep.DeepCutAuto
namespace Go.Proofs.YtfcgnpchbcmdeaaGreat
open Go.RowKit

/-- THE PART OF A CONFIGURATION THAT IS NO FEATURE. -/
def headB (len : Nat) (bins size budget : Int) : Bool :=
  decide ((1 : Int) ≤ len ∧ (len : Int) ≤ 4 ∧ 2 ≤ bins ∧ bins ≤ 16 ∧ bins ≤ size ∧ size ≤ 32 ∧ 0 ≤ budget ∧ budget ≤ 20)

theorem ret_int {k : IntKind} {a b : Int} (h : a = b) : Ending.returned (.int k a) = .returned (.int k b) := by rw [h]

theorem step_o {c o : Bool} {wd : Nat → Bool} {sc ct : Nat → Int} {k : Nat} (H : Hid ((c && allB wd sc ct k) = o)) {x : Bool} (h : x = (o && featB (wd k) (sc k) (ct k))) : Value.bool x = .bool (c && allB wd sc ct (k + 1)) := by
  rw [allB_succ, ← Bool.and_assoc, H.out, h]

set_option maxRecDepth 100000 in
set_option maxHeartbeats 2000000 in
theorem refCheck_any (a : Option Addr) (len cap : Nat) (bins size budget : Int) (wd : Nat → Bool) (sc ct : Nat → Int) (w : World) (hl : len ≤ maxLen) (hF : FeatsV w a len wd sc ct) :
    Calls Tryz.prog 69 #[.agg #[.slice a len cap, .int .i64 bins, .int .i64 size, .int .i64 budget]] w fun e w' => e = .returned (.int .i64 (errOf (confB len bins size budget wd sc ct))) ∧ Below w.heap.size w w' := by
  unfold maxLen at hl
  go_enter Tryz.func69, Tryz.ntmps69
  go_upto_region 1 with fail
  go_cut [3] (fun v wx => v = .bool (headB len bins size budget) ∧ wx = w.alloc (.cells #[.slice a len cap, .int .i64 bins, .int .i64 size, .int .i64 budget] 37))
  case first =>
    go_wp2
    all_goals go_meet
    all_goals (refine ⟨congrArg Value.bool (Bool.eq_iff_iff.2 ?_), rfl⟩; simp [headB] <;> omega)
  case rest =>
    obtain ⟨rfl, rfl⟩ := hcut
    go_wp2_with fail
    go_loopw [3, 4] (fun v i wr => ∃ k : Nat, k ≤ len ∧ i = .int .i64 k ∧ v = .bool (headB len bins size budget && allB wd sc ct k) ∧ Below (w.heap.size + 1) (w.alloc (.cells #[.slice a len cap, .int .i64 bins, .int .i64 size, .int .i64 budget] 37)) wr) (fun _ i _ => len - (intOf i).toNat)
    case atStart => exact ⟨0, Nat.zero_le _, rfl, by simp [allB], Below.refl _ _⟩
    case round =>
      obtain ⟨k, hk, rfl, rfl, hbel⟩ := hrel
      have hbx : wr.cell? ⟨w.heap.size, 0, none⟩ = some (.slice a len cap) := by
        rw [hbel.cell (p := ⟨w.heap.size, 0, none⟩) (by simp)]; simp
      have hb0 : Below w.heap.size w wr := ((Below.refl _ _).alloc (Nat.le_refl _) _).trans (hbel.mono (by simp))
      generalize ho : (headB len bins size budget && allB wd sc ct k) = o
      have HO : Hid ((headB len bins size budget && allB wd sc ct k) = o) := ho
      clear ho
      by_cases hlt : k < len
      · rcases hF with hF | ⟨b, off, rfl, hF⟩
        · omega
        have hb := hF.lt (by omega)
        have h0 : wr.cell? ⟨b, off + k * 3, none⟩ = some (.bool (wd k)) := (hb0.cell (p := ⟨b, off + k * 3, none⟩) hb).trans (hF.c0 k hlt)
        have h1 : wr.cell? ⟨b, off + k * 3 + 1, none⟩ = some (.int .i64 (sc k)) := (hb0.cell (p := ⟨b, off + k * 3 + 1, none⟩) hb).trans (hF.c1 k hlt)
        have h2 : wr.cell? ⟨b, off + k * 3 + 2, none⟩ = some (.int .i64 (ct k)) := (hb0.cell (p := ⟨b, off + k * 3 + 2, none⟩) hb).trans (hF.c2 k hlt)
        have hbn : ∀ x, Below (w.heap.size + 1) (w.alloc (.cells #[.slice (some ⟨b, off, none⟩) len cap, .int .i64 bins, .int .i64 size, .int .i64 budget] 37)) (wr.alloc x) := fun x => hbel.alloc (by have := hbel.size; simpa using this) x
        clear hF hb0
        generalize hwd : wd k = d at h0
        have HD : Hid (wd k = d) := hwd
        clear hwd
        cases o <;> cases d
        all_goals
          go_wp2
          all_goals
            go_roundw
            case rel => exact ⟨k + 1, by omega, by go_num, step_o HO (by rw [HD.out]; refine Bool.eq_iff_iff.2 ?_; simp [featB] <;> omega), hbn _⟩
            case measure => simp [intOf]; omega
      · have hkl : len = k := by omega
        subst hkl
        have HC : Hid (confB len bins size budget wd sc ct = o) := HO.out
        cases o
        all_goals
          go_wp2
          go_ret
          exact ⟨ret_int (by rw [HC.out]; rfl), hb0⟩
end Go.Proofs.YtfcgnpchbcmdeaaGreat
