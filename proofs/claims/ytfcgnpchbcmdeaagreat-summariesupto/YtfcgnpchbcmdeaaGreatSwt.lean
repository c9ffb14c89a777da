/-
  The contract of stillNumbers: what was handed over reads as before; then all of it is written over.
-/
import Derived.Test.YtfcgnpchbcmdeaaGreatSws
namespace Go.Proofs.YtfcgnpchbcmdeaaGreat
open Go.RowKit

def wroteK (zs : List Int) (k i : Nat) : Value := if i < k then .int .i64 (-9) else lentK zs (zs.length + 8) i

set_option maxRecDepth 100000 in
theorem stillNumbers_any (p : Addr) (n c g : Nat) (zs : List Int) (w : World) (h : IntsV w (some p) n zs) (hn : n ≤ 2097152) (hr : w.rowIs g 3 (n + 8) (lentK zs (n + 8))) (hpg : 0 < n → p.block ≠ g) :
    Calls Tryz.prog 113 #[.slice (some ⟨g, 0, none⟩) n (n + 8), .slice (some p) n c] w fun e w' => e = .returned (.bool true) ∧ w.grownBy w' (some g) := by
  have HV : Hid (IntsV w (some p) n zs) := h
  have HR0 : Hid (w.rowIs g 3 (n + 8) (wroteK zs 0)) := by have e : n = zs.length := h.1.symm; subst e; exact hr
  clear h hr
  have hnil : ∀ W : World, (binOp .eql 25 (.slice (some p) n c) (.slice none 0 0)).run Tryz.prog W = .ok (.bool false) W := fun W => Lib.run_eql_slice_nil W 25 3 (some p) n c 0 0 Tryz.underlying25
  go_enter Tryz.func113, Tryz.ntmps113
  go_wp2_with fail
  go_loopw [6, 7] (fun tok ti wr => ∃ k : Nat, k ≤ n + 8 ∧ tok = .bool true ∧ ti = .int .i64 k ∧ Hid (wr.rowIs g 3 (n + 8) (wroteK zs k)) ∧ Hid (w.grownBy wr (some g))) (fun _ ti _ => n + 8 - (intOf ti).toNat)
  case atStart => exact ⟨0, Nat.zero_le _, rfl, rfl, HR0.out, World.grownBy.refl _ _⟩
  case round =>
    obtain ⟨k, hk2, rfl, rfl, HR, HG⟩ := hrel
    have hlt := HR.out.lt
    by_cases hk : k < n + 8
    · have bk1 : (0 : Int) ≤ (k : Int) := by omega
      have bk2 : (k : Int) < (n : Int) + 8 := by omega
      have hcell := HR.out.cell hk
      have hfro := HR.out.frozen k
      have HN : Hid (∀ W : World, W.rowIs g 3 (n + 8) (wroteK zs k) → (W.setCell ⟨g, k, none⟩ (.int .i64 (-9))).rowIs g 3 (n + 8) (wroteK zs (k + 1))) := fun W hW => (hW.set k _).congr (fun j _ => by
        unfold wroteK
        by_cases e : j = k
        · subst e; rw [if_pos rfl, if_pos (by omega)]
        · rw [if_neg e]
          by_cases h1 : j < k
          · rw [if_pos h1, if_pos (by omega)]
          · rw [if_neg h1, if_neg (by omega)])
      by_cases hkn : k < n
      · have e1 : wroteK zs k k = .int .i64 (zs.getD k 0) := by unfold wroteK lentK; rw [if_neg (by omega), if_pos (by rw [HV.out.1]; exact hkn)]
        rw [e1] at hcell
        obtain ⟨h1, _, h2 | ⟨b, o, e, hbl, hc⟩⟩ := HV.out
        · omega
        simp at e
        subst e
        have hc2 : wr.cell? ⟨b, o + k, none⟩ = some (.int .i64 (zs.getD k 0)) := HG.out.cell (hc k hkn) (by simpa using hpg (by omega))
        have bk3 : (k : Int) < (n : Int) := by omega
        clear hc e1
        generalize zs.getD k 0 = x at hcell hc2
        go_wp2_with fail
        go_big_quiet (fail)
        go_wp2
        go_roundw
        case rel => exact ⟨k + 1, by omega, rfl, by go_num, HN.out _ (HR.out.of_block ((below_drewN (Below.refl _ _) _).block g hlt)), grown_set (grown_trans HG.out (grown_below (below_drewN (Below.refl _ _) _))) _ _⟩
        case measure => simp [intOf]; omega
      · have e1 : wroteK zs k k = .int .i64 (-7 - (k : Int)) := by unfold wroteK lentK; rw [if_neg (by omega), if_neg (by rw [HV.out.1]; omega), if_pos (by rw [HV.out.1]; omega)]
        rw [e1] at hcell
        have bk3 : ¬ (k : Int) < (n : Int) := by omega
        clear e1
        go_wp2_with fail
        go_roundw
        case rel => exact ⟨k + 1, by omega, rfl, by go_num, HN.out _ HR.out, grown_set HG.out _ _⟩
        case measure => simp [intOf]; omega
    · have hke : k = n + 8 := by omega
      subst hke
      go_wp2
      go_ret
      exact ⟨rfl, HG.out⟩
end Go.Proofs.YtfcgnpchbcmdeaaGreat
