/-
  The contract of the last look at the lists of entries that came out.
-/
import Derived.Test.YtfcgnpchbcmdeaaGreatSxc
import Derived.Deep.DeepCutAuto
namespace Go.Proofs.YtfcgnpchbcmdeaaGreat
open Go.RowKit

theorem row_form {w : World} {base e size n : Nat} {v : Value} {xs : List Value} (h : w.ownsRow base e size v n xs) : ∃ a p, v = .slice a n p ∧ (0 < n → ∃ q, a = some ⟨q, 0, none⟩ ∧ q < w.heap.size) := by
  rcases h.2 with ⟨rfl, h0⟩ | ⟨q, p, cur, rfl, _, hh, _⟩
  · exact ⟨none, 0, by rw [h0], fun h => by omega⟩
  · exact ⟨_, p, rfl, fun _ => ⟨q, rfl, (Array.getElem?_eq_some_iff.1 hh).1⟩⟩
theorem row_cell {w : World} {base e n p q : Nat} {xs : List Value} (h : w.ownsRow base e 1 (.slice (some ⟨q, 0, none⟩) n p) n xs) {i : Nat} {x : Value} (hx : xs[i]? = some x) : w.cell? ⟨q, i, none⟩ = some x := by
  have := World.ownsRow.cells h (g := q) rfl i x hx
  have hadd : (⟨q, 0, none⟩ : Addr).add i = ⟨q, i, none⟩ := by unfold Addr.add; split <;> simp_all
  rw [hadd] at this
  exact this

set_option maxRecDepth 100000 in
set_option maxHeartbeats 4000000 in
theorem looks_sums (g : Nat) (c : Array Value) (Ls : List (List Ent)) (nx : Int) (w : World) (hS : StateE w g c Ls nx) (h6 : c[6]? = some (.slice none 0 0)) (h8 : c[8]? = some (.slice none 0 0)) (h10 : c[10]? = some (.slice none 0 0)) (hn : nx ≤ 10000000) :
    Calls Tryz.prog 43 #[.pointer (some ⟨g, 4, none⟩)] w fun e w' => e = .returned (.bool true) ∧ Below w.heap.size w w' := by
  obtain ⟨vu, ve, vm, us, vs, ms, g1, g2, g3, g4, g5, _, _, r8, r9, _, _, g12, g13, _, _, g16⟩ := hS
  have hgl := g1.lt
  obtain ⟨a4, p4, rfl, ha4⟩ := row_form r8
  obtain ⟨a5, p5, rfl, ha5⟩ := row_form r9
  have HD : Hid (∀ W, Below w.heap.size w W → W.cell? ⟨g, 4, none⟩ = some (.slice a4 vs.length p4) ∧ W.cell? ⟨g, 5, none⟩ = some (.slice a5 ms.length p5) ∧ W.cell? ⟨g, 6, none⟩ = some (.slice none 0 0) ∧ W.cell? ⟨g, 8, none⟩ = some (.slice none 0 0) ∧ W.cell? ⟨g, 10, none⟩ = some (.slice none 0 0)) := fun W hb => by
    have k := g1.below hb hgl
    exact ⟨(k.cell 4).trans g4, (k.cell 5).trans g5, (k.cell 6).trans h6, (k.cell 8).trans h8, (k.cell 10).trans h10⟩
  have HI : Hid (∀ i, i < vs.length → ∃ q r a len cp z, a4 = some ⟨q, 0, none⟩ ∧ a5 = some ⟨r, 0, none⟩ ∧ len ≤ maxLen ∧ ∀ W, Below w.heap.size w W → W.cell? ⟨q, i, none⟩ = some (.slice a len cp) ∧ W.cell? ⟨r, i, none⟩ = some (.int .i64 z) ∧ (∀ k, k < len → ∃ b, a = some ⟨b, 0, none⟩ ∧ W.cell? ⟨b, k * 4, none⟩ = some (.int .i64 z) ∧ W.cell? ⟨b, k * 4 + 1, none⟩ = some (.int .i64 0) ∧ W.cell? ⟨b, k * 4 + 2, none⟩ = some (.int .i64 0) ∧ W.cell? ⟨b, k * 4 + 3, none⟩ = some (.int .i64 0))) := fun i hi => by
    obtain ⟨q, rfl, hq⟩ := ha4 (by omega)
    obtain ⟨r, rfl, hr⟩ := ha5 (by omega)
    obtain ⟨a, len, cp, hv, hm, hA⟩ := g16 i hi
    refine ⟨q, r, a, len, cp, ms.getD i 0, rfl, rfl, hm, fun W hb => ⟨?_, ?_, fun k hk => ?_⟩⟩
    · rw [hb.cell (p := ⟨q, i, none⟩) hq]
      exact row_cell r8 (by rw [← hv, List.getD, List.getElem?_eq_getElem hi]; rfl)
    · rw [hb.cell (p := ⟨r, i, none⟩) hr]
      exact row_cell r9 (by rw [List.getElem?_map, List.getElem?_eq_getElem (by omega), List.getD, List.getElem?_eq_getElem (by omega)]; rfl)
    · rcases hA with h0 | ⟨b, cur, rfl, hb1, hc⟩
      · omega
      · have hlt := (Array.getElem?_eq_some_iff.1 hb1).1
        have key : ∀ o, W.cell? ⟨b, o, none⟩ = cur[o]? := fun o => (hb.cell (p := ⟨b, o, none⟩) hlt).trans (cell_of_row w b o cur 98 (0, 0) hb1)
        obtain ⟨c0, c1, c2, c3⟩ := hc k hk
        exact ⟨b, rfl, (key _).trans c0, (key _).trans c1, (key _).trans c2, (key _).trans c3⟩
  have hvl : vs.length ≤ 100000000 := by omega
  have hms : ms.length = vs.length := g12.symm
  rw [hms] at HD
  clear g1 g2 g3 g4 g5 r8 r9 g12 g13 g16 ha4 ha5 h6 h8 h10 hms
  generalize vs.length = n at *
  go_enter Tryz.func43, Tryz.ntmps43
  go_wp2_with fail
  go_loopw [3] (fun ti wr => ∃ i : Nat, i ≤ n ∧ ti = .int .i64 i ∧ Hid (Below w.heap.size w wr)) (fun ti _ => n - (intOf ti).toNat)
  case atStart => exact ⟨0, Nat.zero_le _, rfl, Below.refl _ _⟩
  case round =>
    obtain ⟨i, hi2, rfl, HB⟩ := hrel
    obtain ⟨d4, d5, d6, d8, d10⟩ := HD.out wr HB.out
    by_cases hi : i < n
    · obtain ⟨q, r, a, len, cp, z, rfl, rfl, hm, hI⟩ := HI.out i hi
      unfold maxLen at hm
      have HII := show Hid _ from hI
      obtain ⟨e1, e2, _⟩ := hI wr HB.out
      clear hI
      have bi1 : (0 : Int) ≤ (i : Int) := by omega
      have bi2 : (i : Int) < (n : Int) := by omega
      go_wp2_with fail
      go_loopw [4] (fun tk wk => ∃ k : Nat, k ≤ len ∧ tk = .int .i64 k ∧ Hid (Below w.heap.size w wk)) (fun tk _ => len - (intOf tk).toNat)
      case atStart => exact ⟨0, Nat.zero_le _, rfl, HB.out⟩
      case round =>
        obtain ⟨k, hk2, rfl, HBk⟩ := hrel
        clear d4 d5 d6 d8 d10 e1 e2
        obtain ⟨d4, d5, _, _, _⟩ := HD.out _ HBk.out
        obtain ⟨e1, e2, e3⟩ := HII.out _ HBk.out
        by_cases hk : k < len
        · obtain ⟨b, rfl, x0, x1, x2, x3⟩ := e3 k hk
          clear e3
          have bk1 : (0 : Int) ≤ (k : Int) := by omega
          have bk2 : (k : Int) < (len : Int) := by omega
          go_wp2_with fail
          go_big_quiet (fail)
          go_wp2
          go_roundw
          case rel => exact ⟨k + 1, by omega, by go_num, below_drewN HBk.out _⟩
          case measure => simp [intOf]; omega
        · clear e3
          go_wp2
          go_roundw
          case rel => exact ⟨i + 1, by omega, by go_num, HBk.out⟩
          case measure => simp [intOf]; omega
    · clear HI
      go_wp2_with fail
      go_loop [5] (fun i => i = .int .i64 0) (fun _ => 0)
      case atStart => rfl
      case round =>
        subst hrel
        go_wp2_with fail
        go_loop [7] (fun i => i = .int .i64 0) (fun _ => 0)
        case atStart => rfl
        case round =>
          subst hrel
          go_wp2_with fail
          go_loop [9] (fun i => i = .int .i64 0) (fun _ => 0)
          case atStart => rfl
          case round =>
            subst hrel
            go_wp2_with fail
            go_ret
            exact ⟨rfl, HB.out⟩
end Go.Proofs.YtfcgnpchbcmdeaaGreat
