/-
  The contract of sum: one of the summaries that there are, or none.
-/
import Derived.Test.YtfcgnpchbcmdeaaGreatSxc
namespace Go.Proofs.YtfcgnpchbcmdeaaGreat
open Go.RowKit

def pickI (k n : Int) : Int := if k < 0 ∨ n ≤ k then 0 else k

theorem pickL_any (k n : Int) (w : World) : Calls Tryz.prog 74 #[.int .i64 k, .int .i64 n] w fun e w' => e = .returned (.int .i64 (pickI k n)) ∧ w' = w := by
  unfold pickI
  by_cases h1 : k < 0
  · rw [if_pos (.inl h1)]
    go_enter Tryz.func74, Tryz.ntmps74
    go_wp2
    go_ret
    exact ⟨rfl, rfl⟩
  · by_cases h2 : n ≤ k
    · rw [if_pos (.inr h2)]
      go_enter Tryz.func74, Tryz.ntmps74
      go_wp2
      go_ret
      exact ⟨rfl, rfl⟩
    · rw [if_neg (by omega)]
      go_enter Tryz.func74, Tryz.ntmps74
      go_wp2
      go_ret
      exact ⟨rfl, rfl⟩

theorem pickI_in (k : Int) {n : Nat} (h : 0 < n) : ∃ i : Nat, i < n ∧ pickI k n = i := by
  unfold pickI
  split
  · exact ⟨0, h, rfl⟩
  · exact ⟨k.toNat, by omega, by omega⟩

set_option maxRecDepth 100000 in
set_option maxHeartbeats 2000000 in
theorem sum_any (g : Nat) (c : Array Value) (Ls : List (List Ent)) (nx k : Int) (w : World) (hS : StateE w g c Ls nx) (hn : nx ≤ 10000000) (hL : ∀ L ∈ Ls, L.length ≤ 4194304) :
    Calls Tryz.prog 116 #[.pointer (some ⟨g, 0, none⟩), .int .i64 k] w fun e w' => ∃ v L, e = .returned v ∧ OwnE w (g + 1) v L ∧ (L = [] ∨ L ∈ Ls) ∧ Below w.heap.size w w' := by
  obtain ⟨vu, ve, vm, us, vs, ms, h1, h2, h3, _, _, _, h7, _, _, _, h11, _, _, h14, h15, _⟩ := hS
  have d0 : w.cell? ⟨g, 0, none⟩ = some vu := by rw [h1.cell]; exact h3
  have hle : us.length ≤ 10000000 := by omega
  by_cases h0 : us.length = 0
  · obtain ⟨a, cp, rfl⟩ : ∃ a cp, vu = .slice a 0 cp := by
      rcases h7.2 with ⟨rfl, _⟩ | ⟨q, p, cur, rfl, _⟩
      · exact ⟨_, _, rfl⟩
      · exact ⟨_, _, by rw [h0]⟩
    clear h1 h7 h11 h14 h15 hL
    go_enter Tryz.func116, Tryz.ntmps116
    go_wp2
    go_ret
    exact ⟨_, [], rfl, OwnE.nil _ _, .inl rfl, Below.refl _ _⟩
  · obtain ⟨q, p, rfl⟩ := own_form h7 (by omega)
    obtain ⟨i, hi, hp⟩ := pickI_in k (n := us.length) (by omega)
    have hO := h15 i (by omega)
    have hm : Ls.getD i [] ∈ Ls := by
      rw [List.getD, List.getElem?_eq_getElem (by omega)]; exact List.getElem_mem _
    obtain ⟨a, cp, hv, hE, hz⟩ := hO.view (hL _ hm)
    have dq : w.cell? ⟨q, i, none⟩ = some (.slice a (Ls.getD i []).length cp) := by
      have := World.ownsRow.cells h7 (g := q) rfl i (us.getD i (.slice none 0 0)) (by rw [List.getD, List.getElem?_eq_getElem hi]; rfl)
      have hadd : (⟨q, 0, none⟩ : Addr).add i = ⟨q, i, none⟩ := by unfold Addr.add; split <;> simp_all
      rw [hadd, hv] at this
      exact this
    have HP : Hid (∀ W, Calls Tryz.prog 74 #[.int .i64 k, .int .i64 (us.length : Int)] W fun e w' => e = .returned (.int .i64 (i : Int)) ∧ w' = W) := fun W => by rw [← hp]; exact pickL_any k _ W
    have HO : Hid (OwnE w (g + 1) (.slice a (Ls.getD i []).length cp) (Ls.getD i []) ∧ Ls.getD i [] ∈ Ls) := ⟨by rw [← hv]; exact hO, hm⟩
    have hi1 : (0 : Int) ≤ (i : Int) := by omega
    have hi2 : (i : Int) < (us.length : Int) := by omega
    have hne : ((us.length : Int) == 0) = false := beq_eq_false_iff_ne.2 (by omega)
    clear h1 h7 h11 h14 h15 hL hE hz hO hm hv hp
    generalize Ls.getD i [] = L at *
    go_enter Tryz.func116, Tryz.ntmps116
    go_wp2_with fail
    go_region_held3 (fun w' => w'.cell? ⟨g, 0, none⟩ = some (.slice (some ⟨q, 0, none⟩) us.length p) ∧ w'.cell? ⟨q, i, none⟩ = some (.slice a L.length cp)) (go_keep) (first | (go_at_call 74; refine (HP.out _).mono ?_; rintro e w' ⟨rfl, rfl⟩))
    all_goals go_wp2
    all_goals go_ret
    all_goals exact ⟨_, L, rfl, HO.out.1, .inr HO.out.2, (Below.refl _ _).drew⟩
end Go.Proofs.YtfcgnpchbcmdeaaGreat
