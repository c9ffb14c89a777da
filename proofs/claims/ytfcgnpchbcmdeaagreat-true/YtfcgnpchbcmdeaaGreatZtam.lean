/-
  The contract of one step of a script that is a Check: it returns true.
  How a script lies in memory; the contract of a script played for its Checks alone: it returns true.
-/
import Derived.Test.YtfcgnpchbcmdeaaGreatZtal
import Derived.Deep.RegionWith
namespace Go.Proofs.YtfcgnpchbcmdeaaGreat
open Go.RowKit

set_option maxHeartbeats 1000000 in
theorem step_check (p : Addr) (at_ bb : Int) (fa : Option Addr) (flen fcap : Nat) (bins size budget : Int) (va : Option Addr) (vl vc : Nat) (wa : Option Addr) (wl wc : Nat) (s : ByteArray) (x y : Int)
    (wd : Nat → Bool) (sc ct : Nat → Int) (w : World) (hl : flen ≤ maxLen) (hF : FeatsV w fa flen wd sc ct) :
    Calls Tryz.prog 41 #[.pointer (some p), .agg #[.int .i64 1, .int .i64 at_, .int .i64 bb, .slice fa flen fcap, .int .i64 bins, .int .i64 size, .int .i64 budget, .slice va vl vc, .slice wa wl wc, .string s, .int .i64 x, .int .i64 y]] w
      fun e w' => e = .returned (.bool true) ∧ Below w.heap.size w w' := by
  go_enter Tryz.func41, Tryz.ntmps41
  go_wp2_with fail
  refine (check_any fa flen fcap bins size budget wd sc ct _ hl (hF.below ((Below.refl _ _).alloc (Nat.le_refl _) _))).mono ?_
  rintro e w1 ⟨rfl, hb1⟩
  have hF1 : FeatsV w1 fa flen wd sc ct := hF.below (((Below.refl _ _).alloc (Nat.le_refl _) _).trans (hb1.mono (by simp)))
  have c3 : w1.cell? ⟨w.heap.size, 3, none⟩ = some (.slice fa flen fcap) := by rw [hb1.cell (p := ⟨w.heap.size, 3, none⟩) (by simp)]; simp
  have c4 : w1.cell? ⟨w.heap.size, 4, none⟩ = some (.int .i64 bins) := by rw [hb1.cell (p := ⟨w.heap.size, 4, none⟩) (by simp)]; simp
  have c5 : w1.cell? ⟨w.heap.size, 5, none⟩ = some (.int .i64 size) := by rw [hb1.cell (p := ⟨w.heap.size, 5, none⟩) (by simp)]; simp
  have c6 : w1.cell? ⟨w.heap.size, 6, none⟩ = some (.int .i64 budget) := by rw [hb1.cell (p := ⟨w.heap.size, 6, none⟩) (by simp)]; simp
  have hbw : Below w.heap.size w w1 := ((Below.refl _ _).alloc (Nat.le_refl _) _).trans (hb1.mono (by simp))
  have H1 : Hid (Below w.heap.size w w1) := hbw
  have HF : Hid (FeatsV w1 fa flen wd sc ct) := hF1
  clear hb1 hbw hF hF1
  go_wp2_with fail
  go_region_with (first
    | (go_at_call 68; refine (num_any _ _).mono ?_; rintro e w' ⟨rfl, rfl⟩)
    | (go_at_call 69; refine (refCheck_any fa flen fcap bins size budget wd sc ct _ hl ?_).mono ?_; exact HF.out.below (Below.refl _ _).drew; rintro e w2 ⟨rfl, hb2⟩))
  all_goals go_wp2
  all_goals go_ret
  all_goals exact ⟨ret_bool (by simp), H1.out.trans (((Below.refl _ _).drew.trans hb2).mono H1.out.size)⟩
end Go.Proofs.YtfcgnpchbcmdeaaGreat

namespace Go.Proofs.YtfcgnpchbcmdeaaGreat
open Go.RowKit

/-- A STEP OF A SCRIPT, AS IT LIES IN MEMORY. -/
structure OpD where
  kd : Int
  pk : Int
  bb : Int
  fa : Option Addr
  fl : Nat
  fc : Nat
  bins : Int
  size : Int
  budget : Int
  va : Option Addr
  vl : Nat
  vc : Nat
  wa : Option Addr
  wl : Nat
  wc : Nat
  st : ByteArray
  x : Int
  y : Int
  fw : Nat → Bool
  fs : Nat → Int
  ft : Nat → Int
  vz : List Int
  wz : List Int

/-- NUMBERS THAT LIE AT AN ADDRESS. -/
def IntsV (w : World) (a : Option Addr) (len : Nat) (zs : List Int) : Prop :=
  zs.length = len ∧ (∀ z ∈ zs, (Lit.int .i64 z).wf = true) ∧ (len = 0 ∨ ∃ b off, a = some ⟨b, off, none⟩ ∧ b < w.heap.size ∧ ∀ i, i < len → w.cell? ⟨b, off + i, none⟩ = some (.int .i64 (zs.getD i 0)))

/-- WHAT ONE STEP LEADS TO. -/
structure OpR (w : World) (d : OpD) : Prop where
  fl : d.fl ≤ maxLen
  vl : d.vl ≤ maxLen
  wl : d.wl ≤ maxLen
  feats : FeatsV w d.fa d.fl d.fw d.fs d.ft
  vz : IntsV w d.va d.vl d.vz
  wz : IntsV w d.wa d.wl d.wz
  vnil : d.va = none → d.vl = 0 ∧ d.vc = 0
  wnil : d.wa = none → d.wl = 0 ∧ d.wc = 0

/-- THE TWELVE CELLS OF A STEP. -/
structure OpC (w : World) (b off : Nat) (d : OpD) : Prop where
  c0 : w.cell? ⟨b, off, none⟩ = some (.int .i64 d.kd)
  c1 : w.cell? ⟨b, off + 1, none⟩ = some (.int .i64 d.pk)
  c2 : w.cell? ⟨b, off + 2, none⟩ = some (.int .i64 d.bb)
  c3 : w.cell? ⟨b, off + 3, none⟩ = some (.slice d.fa d.fl d.fc)
  c4 : w.cell? ⟨b, off + 4, none⟩ = some (.int .i64 d.bins)
  c5 : w.cell? ⟨b, off + 5, none⟩ = some (.int .i64 d.size)
  c6 : w.cell? ⟨b, off + 6, none⟩ = some (.int .i64 d.budget)
  c7 : w.cell? ⟨b, off + 7, none⟩ = some (.slice d.va d.vl d.vc)
  c8 : w.cell? ⟨b, off + 8, none⟩ = some (.slice d.wa d.wl d.wc)
  c9 : w.cell? ⟨b, off + 9, none⟩ = some (.string d.st)
  c10 : w.cell? ⟨b, off + 10, none⟩ = some (.int .i64 d.x)
  c11 : w.cell? ⟨b, off + 11, none⟩ = some (.int .i64 d.y)

/-- A SCRIPT. -/
def ScriptV (w : World) (a : Option Addr) (len : Nat) (D : Nat → OpD) : Prop :=
  len ≤ maxLen ∧ (len = 0 ∨ ∃ b off, a = some ⟨b, off, none⟩ ∧ b < w.heap.size ∧ ∀ i, i < len → OpC w b (off + i * 12) (D i) ∧ OpR w (D i))

theorem OpC.below {w w' : World} {B b off : Nat} {d : OpD} (h : OpC w b off d) (hb : Below B w w') (hlt : b < B) : OpC w' b off d := by
  obtain ⟨c0, c1, c2, c3, c4, c5, c6, c7, c8, c9, c10, c11⟩ := h
  have k : ∀ o, w'.cell? ⟨b, o, none⟩ = w.cell? ⟨b, o, none⟩ := fun o => hb.cell (p := ⟨b, o, none⟩) hlt
  exact ⟨(k _).trans c0, (k _).trans c1, (k _).trans c2, (k _).trans c3, (k _).trans c4, (k _).trans c5, (k _).trans c6, (k _).trans c7, (k _).trans c8, (k _).trans c9, (k _).trans c10, (k _).trans c11⟩

set_option maxRecDepth 100000 in
set_option maxHeartbeats 1000000 in
theorem plays_checks (a : Option Addr) (len cap : Nat) (D : Nat → OpD) (w : World) (hS : ScriptV w a len D) :
    Calls Tryz.prog 15 #[.slice a len cap, .int .i64 1, .int .i64 1] w fun e w' => e = .returned (.bool true) ∧ Below w.heap.size w w' := by
  obtain ⟨hle, hS⟩ := hS
  unfold maxLen at hle
  go_enter Tryz.func15, Tryz.ntmps15
  go_wp2_with fail
  refine (given_one _ _).mono ?_
  rintro e w1 ⟨rfl, hb1⟩
  have hbw : Below w.heap.size w w1 := ((Below.refl _ _).alloc (Nat.le_refl _) _).trans (hb1.mono (by simp))
  have d2 : w1.cell? ⟨w.heap.size, 2, none⟩ = some (.slice none 0 0) := by rw [hb1.cell (p := ⟨w.heap.size, 2, none⟩) (by simp)]; simp
  have d4 : w1.cell? ⟨w.heap.size, 4, none⟩ = some (.slice none 0 0) := by rw [hb1.cell (p := ⟨w.heap.size, 4, none⟩) (by simp)]; simp
  have d6 : w1.cell? ⟨w.heap.size, 6, none⟩ = some (.slice none 0 0) := by rw [hb1.cell (p := ⟨w.heap.size, 6, none⟩) (by simp)]; simp
  have d8 : w1.cell? ⟨w.heap.size, 8, none⟩ = some (.slice none 0 0) := by rw [hb1.cell (p := ⟨w.heap.size, 8, none⟩) (by simp)]; simp
  have d10 : w1.cell? ⟨w.heap.size, 10, none⟩ = some (.slice none 0 0) := by rw [hb1.cell (p := ⟨w.heap.size, 10, none⟩) (by simp)]; simp
  have hz1 : w.heap.size < w1.heap.size := by have := hb1.size; simp at this; omega
  clear hb1
  go_wp2_with fail
  go_loopw [9] (fun i wr => ∃ k : Nat, k ≤ len ∧ i = .int .i64 k ∧ Below w1.heap.size w1 wr) (fun i _ => len - (intOf i).toNat)
  case atStart => exact ⟨0, Nat.zero_le _, rfl, Below.refl _ _⟩
  case round =>
    obtain ⟨k, hk, rfl, hbel⟩ := hrel
    by_cases hlt : k < len
    · rcases hS with hS | ⟨b, off, rfl, hb, hS⟩
      · omega
      have hbr : Below w.heap.size w wr := hbw.trans (hbel.mono hbw.size)
      obtain ⟨hC, hR⟩ := hS k hlt
      obtain ⟨c0, c1, c2, c3, c4, c5, c6, c7, c8, c9, c10, c11⟩ := hC.below hbr hb
      have HFe : Hid (FeatsV wr (D k).fa (D k).fl (D k).fw (D k).fs (D k).ft ∧ (D k).fl ≤ maxLen) := ⟨hR.feats.below hbr, hR.fl⟩
      clear hR hC hS d2 d4 d6 d8 d10
      by_cases hkd : 1 ≤ (D k).kd ∧ (D k).kd ≤ 1
      · have he : (D k).kd = 1 := by omega
        rw [he] at c0
        clear he hkd
        go_wp2_with fail
        refine (step_check _ _ _ _ _ _ _ _ _ _ _ _ _ _ _ _ _ _ (D k).fw (D k).fs (D k).ft _ HFe.out.2 HFe.out.1).mono ?_
        rintro e w2 ⟨rfl, hb2⟩
        have hbn : Below w1.heap.size w1 w2 := hbel.trans (hb2.mono hbel.size)
        clear c0 c1 c2 c3 c4 c5 c6 c7 c8 c9 c10 c11 HFe
        go_wp2
        go_roundw
        case rel => exact ⟨k + 1, by omega, by go_num, hbn⟩
        case measure => simp [intOf]; omega
      · clear c1 c2 c3 c4 c5 c6 c7 c8 c9 c10 c11 HFe
        go_wp2
        all_goals
          go_roundw
          case rel => exact ⟨k + 1, by omega, by go_num, hbel⟩
          case measure => simp [intOf]; omega
    · have e2 : wr.cell? ⟨w.heap.size, 2, none⟩ = some (.slice none 0 0) := (hbel.cell (p := ⟨w.heap.size, 2, none⟩) hz1).trans d2
      have e4 : wr.cell? ⟨w.heap.size, 4, none⟩ = some (.slice none 0 0) := (hbel.cell (p := ⟨w.heap.size, 4, none⟩) hz1).trans d4
      have e6 : wr.cell? ⟨w.heap.size, 6, none⟩ = some (.slice none 0 0) := (hbel.cell (p := ⟨w.heap.size, 6, none⟩) hz1).trans d6
      have e8 : wr.cell? ⟨w.heap.size, 8, none⟩ = some (.slice none 0 0) := (hbel.cell (p := ⟨w.heap.size, 8, none⟩) hz1).trans d8
      have e10 : wr.cell? ⟨w.heap.size, 10, none⟩ = some (.slice none 0 0) := (hbel.cell (p := ⟨w.heap.size, 10, none⟩) hz1).trans d10
      clear hS
      go_wp2_with fail
      go_loop [10] (fun i => i = .int .i64 0) (fun _ => 0)
      case atStart => rfl
      case round =>
        subst hrel
        go_wp2_with fail
        refine (looks_empty w.heap.size _ e4 e6 e8 e10).mono ?_
        rintro e w2 ⟨rfl, rfl⟩
        go_wp2
        go_ret
        exact ⟨rfl, hbw.trans (hbel.mono hbw.size)⟩

theorem checks_walk (a : Option Addr) (len cap : Nat) (D : Nat → OpD) (w : World) (hS : ScriptV w a len D) :
    Calls Tryz.prog 3 #[.slice a len cap] w fun e w' => e = .returned (.bool true) ∧ Below w.heap.size w w' := by
  go_enter Tryz.func3, Tryz.ntmps3
  go_wp2_with fail
  refine (plays_checks a len cap D _ hS).mono ?_
  rintro e w1 ⟨rfl, hb1⟩
  go_wp2
  go_ret
  exact ⟨rfl, hb1⟩
end Go.Proofs.YtfcgnpchbcmdeaaGreat
