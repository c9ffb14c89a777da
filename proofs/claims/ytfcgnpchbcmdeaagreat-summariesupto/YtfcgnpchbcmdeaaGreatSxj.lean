/-
  The contract of what is given ahead of a script of configurations and summaries: a summary.
-/
import Derived.Test.YtfcgnpchbcmdeaaGreatSxh
import Derived.Deep.DeepCutAuto
namespace Go.Proofs.YtfcgnpchbcmdeaaGreat
open Go.RowKit

theorem alloc_at (W : World) (o : Obj) (n : Nat) (h : W.heap.size = n) : (W.alloc o).heap[n]? = some o := by subst h; exact heap_alloc_new W o

/-- The step that is given. -/
def opGiven (b : Nat) : OpD := { kd := 2, pk := 0, bb := 0, fa := none, fl := 0, fc := 0, bins := 0, size := 0, budget := 0, va := some ⟨b, 0, none⟩, vl := 3, vc := 3, wa := some ⟨b + 1, 0, none⟩, wl := 3, wc := 3, st := ⟨#[]⟩, x := 0, y := 0, fw := fun _ => false, fs := fun _ => 0, ft := fun _ => 0, vz := [5, 3, 5], wz := [1, 2, 4] }

theorem opGiven_reads {w wx : World} (G : Given w wx) : OpR wx (opGiven w.heap.size) := by
  have hsz := G.size
  refine ⟨by simp [opGiven], by simp [opGiven, maxLen], by simp [opGiven, maxLen], ?_, ?_, ?_, fun h => by simp [opGiven] at h, fun h => by simp [opGiven] at h⟩
  · exact .inl rfl
  · refine ⟨rfl, (by intro z hz; simp [opGiven] at hz; rcases hz with rfl | rfl | rfl <;> decide), .inr ⟨w.heap.size, 0, rfl, by omega, fun i hi => ?_⟩⟩
    have h : i = 0 ∨ i = 1 ∨ i = 2 := by simp [opGiven] at hi; omega
    rcases h with rfl | rfl | rfl
    · exact G.v0
    · exact G.v1
    · exact G.v2
  · refine ⟨rfl, (by intro z hz; simp [opGiven] at hz; rcases hz with rfl | rfl | rfl <;> decide), .inr ⟨w.heap.size + 1, 0, rfl, by omega, fun i hi => ?_⟩⟩
    have h : i = 0 ∨ i = 1 ∨ i = 2 := by simp [opGiven] at hi; omega
    rcases h with rfl | rfl | rfl
    · exact G.u0
    · exact G.u1
    · exact G.u2

set_option maxRecDepth 100000 in
set_option maxHeartbeats 4000000 in
theorem given_four (g : Nat) (c : Array Value) (U : List Int) (w : World) (hS : StateE w g c [] 0) (hU : U.length ≤ 2097152) (h5 : (5 : Int) ∈ U) (h3 : (3 : Int) ∈ U) :
    Calls Tryz.prog 40 #[.pointer (some ⟨g, 0, none⟩), .int .i64 4] w fun e w' => PostS U g c 0 w e w' := by
  have HS : Hid (StateE w g c [] 0) := hS
  have HZ : Hid (∀ z ∈ (opGiven w.heap.size).vz, clampV z ∈ U) := fun z hz => by
    simp [opGiven] at hz
    rcases hz with rfl | rfl | rfl
    · exact h5
    · exact h3
    · exact h5
  have hgl := hS.lt
  clear hS h5 h3
  go_enter Tryz.func40, Tryz.ntmps40
  go_upto_region 1 with fail
  go_cut [5] (fun v wx => v = .slice (some ⟨w.heap.size + 4, 0, none⟩) 6 6 ∧ Given w wx ∧ ∃ arr, wx.heap[w.heap.size + 4]? = some (.cells arr 93 (0, 0)))
  case first =>
    go_wp2
    go_meet
    refine ⟨rfl, ?_, ?_⟩
    · refine ⟨?_, ?_, ?_, ?_, ?_, ?_, ?_, ?_, ?_, ?_, ?_, ?_, ?_, ?_, ?_, ?_, ?_, ?_, ?_, ?_, ?_, ?_, ?_, ?_, ?_⟩
      · exact (((((Below.refl _ _).alloc (Nat.le_refl _) _).alloc (by simp <;> omega) _).alloc (by simp <;> omega) _).alloc (by simp <;> omega) _).alloc (by simp <;> omega) _
      · simp
      all_goals go_simp
    · exact ⟨_, alloc_at _ _ _ (by simp)⟩
  case rest =>
    obtain ⟨rfl, G, arr, harr⟩ := hcut
    have HG : Hid (Given w wc) := G
    have HK : Hid (∀ W, Frame wc W → ∀ o, W.cell? ⟨w.heap.size + 4, o, none⟩ = wc.cell? ⟨w.heap.size + 4, o, none⟩) := fun W hf o => by
      have h := hf _ _ _ harr (by decide) (by decide) (by decide)
      exact World.cell?_of_block (w := wc) (a := ⟨w.heap.size + 4, o, none⟩) (h.trans harr.symm)
    have HBX : Hid (Below w.heap.size w wc) := G.bel
    clear harr
    obtain ⟨_, hsz, k0, k1, k2, k3, k4, k5, f1, f2, f3, f4, f5, f6, f7, f8, f9, f10, f11, _, _, _, _, _, _⟩ := G
    have HKD : Hid (wc.cell? ⟨w.heap.size + 4, 12, none⟩ = some (.int .i64 5) ∧ wc.cell? ⟨w.heap.size + 4, 24, none⟩ = some (.int .i64 6) ∧ wc.cell? ⟨w.heap.size + 4, 36, none⟩ = some (.int .i64 7) ∧ wc.cell? ⟨w.heap.size + 4, 48, none⟩ = some (.int .i64 5) ∧ wc.cell? ⟨w.heap.size + 4, 60, none⟩ = some (.int .i64 15)) := ⟨k1, k2, k3, k4, k5⟩
    clear k1 k2 k3 k4 k5
    go_wp2_with fail
    go_loopw [6] (fun i wr => ∃ k : Nat, k ≤ 6 ∧ i = .int .i64 k ∧ Hid ((k = 0 ∧ wr = wc) ∨ (0 < k ∧ PostS U g c 0 wc (.returned (.bool true)) wr))) (fun i _ => 6 - (intOf i).toNat)
    case atStart => exact ⟨0, by omega, rfl, .inl ⟨rfl, rfl⟩⟩
    case round =>
      obtain ⟨k, hk, rfl, HQ⟩ := hrel
      by_cases h0 : k = 0
      · subst h0
        obtain rfl : wr = wc := by
          rcases HQ.out with h | h
          · exact h.2
          · omega
        go_wp2_with fail
        refine (step_s g c [] 0 U (opGiven w.heap.size) wr (HS.out.below HBX.out) (by simp) (by omega) hU (opGiven_reads HG.out) (by simp [opGiven]) (by simp [opGiven]) HZ.out (by simp [opGiven]) (by simp [opGiven])).mono ?_
        rintro e w2 hp
        obtain rfl : e = .returned (.bool true) := hp.1
        have HP : Hid (PostS U g c 0 wr (.returned (.bool true)) w2) := hp
        clear hp
        go_wp2
        go_roundw
        case rel => exact ⟨1, by omega, rfl, .inr ⟨by omega, HP.out⟩⟩
        case measure => simp [intOf]
      · have HP : Hid (PostS U g c 0 wc (.returned (.bool true)) wr) := by
          rcases HQ.out with h | h
          · omega
          · exact h.2
        have hfr := HK.out wr (by obtain ⟨_, _, _, _, _, _, _, _, _, h⟩ := HP.out; exact h)
        have k1 := (hfr 12).trans HKD.out.1
        have k2 := (hfr 24).trans HKD.out.2.1
        have k3 := (hfr 36).trans HKD.out.2.2.1
        have k4 := (hfr 48).trans HKD.out.2.2.2.1
        have k5 := (hfr 60).trans HKD.out.2.2.2.2
        clear hfr k0 f1 f2 f3 f4 f5 f6 f7 f8 f9 f10 f11 HQ
        by_cases h6 : k = 6
        · subst h6
          have HF : Hid (PostS U g c 0 w (.returned (.bool true)) wr) := HP.out.back HBX.out hgl
          go_wp2
          go_ret
          exact HF.out
        · have h : k = 1 ∨ k = 2 ∨ k = 3 ∨ k = 4 ∨ k = 5 := by omega
          rcases h with rfl | rfl | rfl | rfl | rfl
          all_goals
            go_wp2
            go_roundw
            case rel => first | exact ⟨2, by omega, rfl, .inr ⟨by omega, HP.out⟩⟩ | exact ⟨3, by omega, rfl, .inr ⟨by omega, HP.out⟩⟩ | exact ⟨4, by omega, rfl, .inr ⟨by omega, HP.out⟩⟩ | exact ⟨5, by omega, rfl, .inr ⟨by omega, HP.out⟩⟩ | exact ⟨6, by omega, rfl, .inr ⟨by omega, HP.out⟩⟩
            case measure => simp [intOf]
end Go.Proofs.YtfcgnpchbcmdeaaGreat
