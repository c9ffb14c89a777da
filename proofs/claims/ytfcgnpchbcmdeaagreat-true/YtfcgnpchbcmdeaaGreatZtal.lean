/-
  The contract of the reference's Check: it returns what the program's own Check returns (Cka).
  The contracts of the book of lists when it is empty, and of what is given ahead of a script that plays Checks alone.
-/
import Derived.Test.YtfcgnpchbcmdeaaGreatZtac
import Derived.Deep.DeepCutAuto
namespace Go.Proofs.YtfcgnpchbcmdeaaGreat
open Go.RowKit

/-- THE PART OF A CONFIGURATION THAT IS NO FEATURE. -/
def headB (len : Nat) (bins size budget : Int) : Bool :=
  decide ((1 : Int) ≤ len ∧ (len : Int) ≤ 4 ∧ 2 ≤ bins ∧ bins ≤ 16 ∧ bins ≤ size ∧ size ≤ 32 ∧ 0 ≤ budget ∧ budget ≤ 20)

theorem ret_int {k : IntKind} {a b : Int} (h : a = b) : Ending.returned (.int k a) = .returned (.int k b) := by rw [h]

theorem step_o {c o : Bool} {wd : Nat → Bool} {sc ct : Nat → Int} {k : Nat} (H : Hid ((c && allB wd sc ct k) = o)) {x : Bool} (h : x = (o && featB (wd k) (sc k) (ct k))) : Value.bool x = .bool (c && allB wd sc ct (k + 1)) := by
  rw [allB_succ, ← Bool.and_assoc, H.out, h]

set_option maxRecDepth 100000 in
set_option maxHeartbeats 2000000 in
theorem refCheck_any (a : Option Addr) (len cap : Nat) (bins size budget : Int) (wd : Nat → Bool) (sc ct : Nat → Int) (w : World) (hl : len ≤ maxLen) (hF : FeatsV w a len wd sc ct) :
    Calls Tryz.prog 69 #[.agg #[.slice a len cap, .int .i64 bins, .int .i64 size, .int .i64 budget]] w fun e w' => e = .returned (.int .i64 (errOf (confB len bins size budget wd sc ct))) ∧ Below w.heap.size w w' := by
  unfold maxLen at hl
  go_enter Tryz.func69, Tryz.ntmps69
  go_upto_region 1 with fail
  go_cut [3] (fun v wx => v = .bool (headB len bins size budget) ∧ wx = w.alloc (.cells #[.slice a len cap, .int .i64 bins, .int .i64 size, .int .i64 budget] 37))
  case first =>
    go_wp2
    all_goals go_meet
    all_goals (refine ⟨congrArg Value.bool (Bool.eq_iff_iff.2 ?_), rfl⟩; simp [headB] <;> omega)
  case rest =>
    obtain ⟨rfl, rfl⟩ := hcut
    go_wp2_with fail
    go_loopw [3, 4] (fun v i wr => ∃ k : Nat, k ≤ len ∧ i = .int .i64 k ∧ v = .bool (headB len bins size budget && allB wd sc ct k) ∧ Below (w.heap.size + 1) (w.alloc (.cells #[.slice a len cap, .int .i64 bins, .int .i64 size, .int .i64 budget] 37)) wr) (fun _ i _ => len - (intOf i).toNat)
    case atStart => exact ⟨0, Nat.zero_le _, rfl, by simp [allB], Below.refl _ _⟩
    case round =>
      obtain ⟨k, hk, rfl, rfl, hbel⟩ := hrel
      have hbx : wr.cell? ⟨w.heap.size, 0, none⟩ = some (.slice a len cap) := by
        rw [hbel.cell (p := ⟨w.heap.size, 0, none⟩) (by simp)]; simp
      have hb0 : Below w.heap.size w wr := ((Below.refl _ _).alloc (Nat.le_refl _) _).trans (hbel.mono (by simp))
      generalize ho : (headB len bins size budget && allB wd sc ct k) = o
      have HO : Hid ((headB len bins size budget && allB wd sc ct k) = o) := ho
      clear ho
      by_cases hlt : k < len
      · rcases hF with hF | ⟨b, off, rfl, hF⟩
        · omega
        have hb := hF.lt (by omega)
        have h0 : wr.cell? ⟨b, off + k * 3, none⟩ = some (.bool (wd k)) := (hb0.cell (p := ⟨b, off + k * 3, none⟩) hb).trans (hF.c0 k hlt)
        have h1 : wr.cell? ⟨b, off + k * 3 + 1, none⟩ = some (.int .i64 (sc k)) := (hb0.cell (p := ⟨b, off + k * 3 + 1, none⟩) hb).trans (hF.c1 k hlt)
        have h2 : wr.cell? ⟨b, off + k * 3 + 2, none⟩ = some (.int .i64 (ct k)) := (hb0.cell (p := ⟨b, off + k * 3 + 2, none⟩) hb).trans (hF.c2 k hlt)
        have hbn : ∀ x, Below (w.heap.size + 1) (w.alloc (.cells #[.slice (some ⟨b, off, none⟩) len cap, .int .i64 bins, .int .i64 size, .int .i64 budget] 37)) (wr.alloc x) := fun x => hbel.alloc (by have := hbel.size; simpa using this) x
        clear hF hb0
        generalize hwd : wd k = d at h0
        have HD : Hid (wd k = d) := hwd
        clear hwd
        cases o <;> cases d
        all_goals
          go_wp2
          all_goals
            go_roundw
            case rel => exact ⟨k + 1, by omega, by go_num, step_o HO (by rw [HD.out]; refine Bool.eq_iff_iff.2 ?_; simp [featB] <;> omega), hbn _⟩
            case measure => simp [intOf]; omega
      · have hkl : len = k := by omega
        subst hkl
        have HC : Hid (confB len bins size budget wd sc ct = o) := HO.out
        cases o
        all_goals
          go_wp2
          go_ret
          exact ⟨ret_int (by rw [HC.out]; rfl), hb0⟩
end Go.Proofs.YtfcgnpchbcmdeaaGreat

namespace Go.Proofs.YtfcgnpchbcmdeaaGreat
open Go.RowKit

set_option maxRecDepth 100000 in
set_option maxHeartbeats 1000000 in
theorem looks_empty (b : Nat) (w : World) (h0 : w.cell? ⟨b, 4, none⟩ = some (.slice none 0 0)) (h1 : w.cell? ⟨b, 6, none⟩ = some (.slice none 0 0)) (h2 : w.cell? ⟨b, 8, none⟩ = some (.slice none 0 0)) (h3 : w.cell? ⟨b, 10, none⟩ = some (.slice none 0 0)) :
    Calls Tryz.prog 43 #[.pointer (some ⟨b, 4, none⟩)] w fun e w' => e = .returned (.bool true) ∧ w' = w := by
  go_enter Tryz.func43, Tryz.ntmps43
  go_wp2_with fail
  go_loop [3] (fun i => i = .int .i64 0) (fun _ => 0)
  case atStart => rfl
  case round =>
    subst hrel
    go_wp2_with fail
    go_loop [5] (fun i => i = .int .i64 0) (fun _ => 0)
    case atStart => rfl
    case round =>
      subst hrel
      go_wp2_with fail
      go_loop [7] (fun i => i = .int .i64 0) (fun _ => 0)
      case atStart => rfl
      case round =>
        subst hrel
        go_wp2_with fail
        go_loop [9] (fun i => i = .int .i64 0) (fun _ => 0)
        case atStart => rfl
        case round =>
          subst hrel
          go_wp2_with fail
          go_ret
          exact ⟨rfl, rfl⟩

/-- WHAT 'given' LAYS AHEAD OF ITS LOOP. -/
structure Given (w wx : World) : Prop where
  bel : Below w.heap.size w wx
  size : wx.heap.size = w.heap.size + 5
  k0 : wx.cell? ⟨w.heap.size + 4, 0, none⟩ = some (.int .i64 2)
  k1 : wx.cell? ⟨w.heap.size + 4, 12, none⟩ = some (.int .i64 5)
  k2 : wx.cell? ⟨w.heap.size + 4, 24, none⟩ = some (.int .i64 6)
  k3 : wx.cell? ⟨w.heap.size + 4, 36, none⟩ = some (.int .i64 7)
  k4 : wx.cell? ⟨w.heap.size + 4, 48, none⟩ = some (.int .i64 5)
  k5 : wx.cell? ⟨w.heap.size + 4, 60, none⟩ = some (.int .i64 15)
  f1 : wx.cell? ⟨w.heap.size + 4, 1, none⟩ = some (.int .i64 0)
  f2 : wx.cell? ⟨w.heap.size + 4, 2, none⟩ = some (.int .i64 0)
  f3 : wx.cell? ⟨w.heap.size + 4, 3, none⟩ = some (.slice none 0 0)
  f4 : wx.cell? ⟨w.heap.size + 4, 4, none⟩ = some (.int .i64 0)
  f5 : wx.cell? ⟨w.heap.size + 4, 5, none⟩ = some (.int .i64 0)
  f6 : wx.cell? ⟨w.heap.size + 4, 6, none⟩ = some (.int .i64 0)
  f7 : wx.cell? ⟨w.heap.size + 4, 7, none⟩ = some (.slice (some ⟨w.heap.size, 0, none⟩) 3 3)
  f8 : wx.cell? ⟨w.heap.size + 4, 8, none⟩ = some (.slice (some ⟨w.heap.size + 1, 0, none⟩) 3 3)
  f9 : wx.cell? ⟨w.heap.size + 4, 9, none⟩ = some (.string ⟨#[]⟩)
  f10 : wx.cell? ⟨w.heap.size + 4, 10, none⟩ = some (.int .i64 0)
  f11 : wx.cell? ⟨w.heap.size + 4, 11, none⟩ = some (.int .i64 0)
  v0 : wx.cell? ⟨w.heap.size, 0, none⟩ = some (.int .i64 5)
  v1 : wx.cell? ⟨w.heap.size, 1, none⟩ = some (.int .i64 3)
  v2 : wx.cell? ⟨w.heap.size, 2, none⟩ = some (.int .i64 5)
  u0 : wx.cell? ⟨w.heap.size + 1, 0, none⟩ = some (.int .i64 1)
  u1 : wx.cell? ⟨w.heap.size + 1, 1, none⟩ = some (.int .i64 2)
  u2 : wx.cell? ⟨w.heap.size + 1, 2, none⟩ = some (.int .i64 4)

set_option maxRecDepth 100000 in
set_option maxHeartbeats 1000000 in
theorem given_one (p : Addr) (w : World) :
    Calls Tryz.prog 40 #[.pointer (some p), .int .i64 1] w fun e w' => e = .returned (.bool true) ∧ Below w.heap.size w w' := by
  go_enter Tryz.func40, Tryz.ntmps40
  go_upto_region 1 with fail
  go_cut [5] (fun v wx => v = .slice (some ⟨w.heap.size + 4, 0, none⟩) 6 6 ∧ Given w wx)
  case first =>
    go_wp2
    go_meet
    refine ⟨rfl, ?_⟩
    refine ⟨?_, ?_, ?_, ?_, ?_, ?_, ?_, ?_, ?_, ?_, ?_, ?_, ?_, ?_, ?_, ?_, ?_, ?_, ?_, ?_, ?_, ?_, ?_, ?_, ?_⟩
    · exact (((((Below.refl _ _).alloc (Nat.le_refl _) _).alloc (by simp <;> omega) _).alloc (by simp <;> omega) _).alloc (by simp <;> omega) _).alloc (by simp <;> omega) _
    · simp
    all_goals go_simp
  case rest =>
    obtain ⟨rfl, G⟩ := hcut
    obtain ⟨hbel, hsz, k0, k1, k2, k3, k4, k5, _⟩ := G
    go_wp2_with fail
    go_loop [6] (fun i => ∃ k : Nat, k ≤ 6 ∧ i = .int .i64 k) (fun i => 6 - (intOf i).toNat)
    case atStart => exact ⟨0, by omega, rfl⟩
    case round =>
      obtain ⟨k, hk, rfl⟩ := hrel
      by_cases h6 : k = 6
      · subst h6
        go_wp2
        go_ret
        exact ⟨rfl, hbel⟩
      · have h : k = 0 ∨ k = 1 ∨ k = 2 ∨ k = 3 ∨ k = 4 ∨ k = 5 := by omega
        rcases h with rfl | rfl | rfl | rfl | rfl | rfl
        all_goals
          go_wp2
          go_round
          case rel => first | exact ⟨1, by omega, rfl⟩ | exact ⟨2, by omega, rfl⟩ | exact ⟨3, by omega, rfl⟩ | exact ⟨4, by omega, rfl⟩ | exact ⟨5, by omega, rfl⟩ | exact ⟨6, by omega, rfl⟩
          case measure => simp [intOf]
end Go.Proofs.YtfcgnpchbcmdeaaGreat
