/-
  The contract of a script played for its configurations and summaries: it returns true.
-/
import Derived.Test.YtfcgnpchbcmdeaaGreatSxj
import Derived.Test.YtfcgnpchbcmdeaaGreatSxi
namespace Go.Proofs.YtfcgnpchbcmdeaaGreat
open Go.RowKit

/-- What a script of a size asks of its steps. -/
structure Sized (U : List Int) (len : Nat) (D : Nat → OpD) : Prop where
  many : len ≤ 8000000
  room : U.length ≤ 2097152
  five : (5 : Int) ∈ U
  three : (3 : Int) ∈ U
  vl : ∀ i, i < len → (D i).vl ≤ 2097152
  wl : ∀ i, i < len → (D i).wl ≤ 2097152
  vz : ∀ i, i < len → ∀ z ∈ (D i).vz, clampV z ∈ U

/-- THE WORLD AS A SCRIPT FINDS IT. -/
def PlayS (U : List Int) (g : Nat) (k : Nat) (W w : World) : Prop :=
  ∃ c Ls nx, StateE w g c Ls nx ∧ (∀ L ∈ Ls, GoodU U L) ∧ nx ≤ (k : Int) + 1 ∧ c[2]? = some (.slice none 0 0) ∧ c[6]? = some (.slice none 0 0) ∧ c[8]? = some (.slice none 0 0) ∧ c[10]? = some (.slice none 0 0) ∧ Below g W w

theorem OpR.below {w w' : World} {d : OpD} (h : OpR w d) (hb : Below w.heap.size w w') : OpR w' d :=
  ⟨h.fl, h.vl, h.wl, h.feats.below hb, ints_below h.vz hb (ints_lt h.vz), ints_below h.wz hb (ints_lt h.wz), h.vnil, h.wnil⟩

theorem state_new (w : World) : StateE (w.alloc (.cells #[.slice none 0 0, .slice none 0 0, .slice none 0 0, .slice none 0 0, .slice none 0 0, .slice none 0 0, .slice none 0 0, .slice none 0 0, .slice none 0 0, .slice none 0 0, .slice none 0 0, .slice none 0 0, .int .i64 0] 90)) w.heap.size #[.slice none 0 0, .slice none 0 0, .slice none 0 0, .slice none 0 0, .slice none 0 0, .slice none 0 0, .slice none 0 0, .slice none 0 0, .slice none 0 0, .slice none 0 0, .slice none 0 0, .slice none 0 0, .int .i64 0] [] 0 := by
  refine ⟨.slice none 0 0, .slice none 0 0, .slice none 0 0, [], [], [], heap_alloc_new w _, rfl, rfl, rfl, rfl, rfl, World.ownsRow_nil _ _ _ _, World.ownsRow_nil _ _ _ _, OwnI.nil _ _, .inl rfl, rfl, rfl, by simp, by simp, fun i hi => by simp at hi, fun i hi => by simp at hi⟩

set_option maxRecDepth 100000 in
set_option maxHeartbeats 2000000 in
theorem plays_sums (U : List Int) (a : Option Addr) (len cap : Nat) (D : Nat → OpD) (w : World) (hS : ScriptV w a len D) (hZ : Sized U len D) :
    Calls Tryz.prog 15 #[.slice a len cap, .int .i64 1, .int .i64 4] w fun e w' => e = .returned (.bool true) ∧ Below w.heap.size w w' := by
  obtain ⟨hle, hS⟩ := hS
  have hlen := hZ.many
  have HZ : Hid (Sized U len D) := hZ
  have HSC : Hid (len = 0 ∨ ∃ b off, a = some ⟨b, off, none⟩ ∧ b < w.heap.size ∧ ∀ i, i < len → OpC w b (off + i * 12) (D i) ∧ OpR w (D i)) := hS
  clear hle hS hZ
  have HN : Hid (StateE (w.alloc (.cells #[.slice none 0 0, .slice none 0 0, .slice none 0 0, .slice none 0 0, .slice none 0 0, .slice none 0 0, .slice none 0 0, .slice none 0 0, .slice none 0 0, .slice none 0 0, .slice none 0 0, .slice none 0 0, .int .i64 0] 90)) w.heap.size #[.slice none 0 0, .slice none 0 0, .slice none 0 0, .slice none 0 0, .slice none 0 0, .slice none 0 0, .slice none 0 0, .slice none 0 0, .slice none 0 0, .slice none 0 0, .slice none 0 0, .slice none 0 0, .int .i64 0] [] 0) := state_new w
  have HB0 : Hid (Below w.heap.size w (w.alloc (.cells #[.slice none 0 0, .slice none 0 0, .slice none 0 0, .slice none 0 0, .slice none 0 0, .slice none 0 0, .slice none 0 0, .slice none 0 0, .slice none 0 0, .slice none 0 0, .slice none 0 0, .slice none 0 0, .int .i64 0] 90))) := (Below.refl _ _).alloc (Nat.le_refl _) _
  go_enter Tryz.func15, Tryz.ntmps15
  go_wp2_with fail
  refine (given_four w.heap.size _ U _ HN.out HZ.out.room HZ.out.five HZ.out.three).mono ?_
  rintro e w1 hp
  have HP : Hid (PlayS U w.heap.size 0 w w1) := by
    obtain ⟨_, c', Ls', nx', h2, h3, h4, h5, h6, _⟩ := hp
    exact ⟨c', Ls', nx', h2, h3, by simpa using h4, (h5 2 (by decide) (by decide) (by decide) (by decide)).trans rfl, (h5 6 (by decide) (by decide) (by decide) (by decide)).trans rfl, (h5 8 (by decide) (by decide) (by decide) (by decide)).trans rfl, (h5 10 (by decide) (by decide) (by decide) (by decide)).trans rfl, HB0.out.trans h6⟩
  obtain ⟨rfl, _⟩ := hp
  clear HN HB0
  go_wp2_with fail
  go_loopw [9] (fun i wr => ∃ k : Nat, k ≤ len ∧ i = .int .i64 k ∧ Hid (PlayS U w.heap.size k w wr)) (fun i _ => len - (intOf i).toNat)
  case atStart => exact ⟨0, Nat.zero_le _, rfl, HP.out⟩
  case round =>
    obtain ⟨k, hk, rfl, HQ⟩ := hrel
    clear HP
    by_cases hlt : k < len
    · rcases HSC.out with h0 | ⟨b, off, rfl, hb, hC⟩
      · omega
      obtain ⟨c, Ls, nx, q1, q2, q3, q4, q5, q6, q7, q8⟩ := HQ.out
      obtain ⟨hOC, hOR⟩ := hC k hlt
      obtain ⟨c0, c1, c2, c3, c4, c5, c6, c7, c8, c9, c10, c11⟩ := hOC.below q8 hb
      have HR : Hid (OpR wr (D k)) := hOR.below q8
      have HST : Hid (StateE wr w.heap.size c Ls nx ∧ (∀ L ∈ Ls, GoodU U L) ∧ nx ≤ (k : Int) + 1 ∧ c[2]? = some (.slice none 0 0) ∧ c[6]? = some (.slice none 0 0) ∧ c[8]? = some (.slice none 0 0) ∧ c[10]? = some (.slice none 0 0) ∧ Below w.heap.size w wr) := ⟨q1, q2, q3, q4, q5, q6, q7, q8⟩
      have HZV := HZ.out.vz k hlt
      have hZ1 := HZ.out.vl k hlt
      have hZ2 := HZ.out.wl k hlt
      have HZZ : Hid (∀ z ∈ (D k).vz, clampV z ∈ U) := HZV
      clear q1 q2 q4 q5 q6 q7 q8 hOC hOR hC HZV
      by_cases hkd : 1 ≤ (D k).kd ∧ (D k).kd ≤ 4
      · obtain ⟨hk1, hk4⟩ := hkd
        go_wp2_with fail
        refine (step_s w.heap.size c Ls nx U (D k) wr HST.out.1 HST.out.2.1 (by omega) HZ.out.room HR.out hZ1 hZ2 HZZ.out hk1 hk4).mono ?_
        rintro e w2 hp
        have HP : Hid (PlayS U w.heap.size (k + 1) w w2) := by
          obtain ⟨_, c', Ls', nx', h2, h3, h4, h5, h6, _⟩ := hp
          exact ⟨c', Ls', nx', h2, h3, by push_cast; omega, (h5 2 (by decide) (by decide) (by decide) (by decide)).trans HST.out.2.2.2.1, (h5 6 (by decide) (by decide) (by decide) (by decide)).trans HST.out.2.2.2.2.1, (h5 8 (by decide) (by decide) (by decide) (by decide)).trans HST.out.2.2.2.2.2.1, (h5 10 (by decide) (by decide) (by decide) (by decide)).trans HST.out.2.2.2.2.2.2.1, HST.out.2.2.2.2.2.2.2.trans h6⟩
        obtain ⟨rfl, _⟩ := hp
        clear c0 c1 c2 c3 c4 c5 c6 c7 c8 c9 c10 c11
        go_wp2
        go_roundw
        case rel => exact ⟨k + 1, by omega, by go_num, HP.out⟩
        case measure => simp [intOf]; omega
      · have HP : Hid (PlayS U w.heap.size (k + 1) w wr) := by
          obtain ⟨c, Ls, nx, q1, q2, q3, q4⟩ := HQ.out
          exact ⟨c, Ls, nx, q1, q2, by push_cast; omega, q4⟩
        clear c1 c2 c3 c4 c5 c6 c7 c8 c9 c10 c11
        go_wp2
        all_goals
          go_roundw
          case rel => exact ⟨k + 1, by omega, by go_num, HP.out⟩
          case measure => simp [intOf]; omega
    · obtain ⟨c, Ls, nx, q1, q2, q3, q4, q5, q6, q7, q8⟩ := HQ.out
      have hgl := q1.lt
      have e2 : wr.cell? ⟨w.heap.size, 2, none⟩ = some (.slice none 0 0) := by
        obtain ⟨_, _, _, _, _, _, h1, _⟩ := q1
        rw [h1.cell]; exact q4
      have HST : Hid (StateE wr w.heap.size c Ls nx ∧ c[6]? = some (.slice none 0 0) ∧ c[8]? = some (.slice none 0 0) ∧ c[10]? = some (.slice none 0 0) ∧ Below w.heap.size w wr) := ⟨q1, q5, q6, q7, q8⟩
      clear q1 q2 q4 q5 q6 q7 q8 HSC
      go_wp2_with fail
      go_loop [10] (fun i => i = .int .i64 0) (fun _ => 0)
      case atStart => rfl
      case round =>
        subst hrel
        go_wp2_with fail
        refine (looks_sums w.heap.size c Ls nx wr HST.out.1 HST.out.2.1 HST.out.2.2.1 HST.out.2.2.2.1 (by omega)).mono ?_
        rintro e w2 ⟨rfl, hb2⟩
        have HF : Hid (Below w.heap.size w w2) := HST.out.2.2.2.2.trans (hb2.mono (by omega))
        clear hb2
        go_wp2
        go_ret
        exact ⟨rfl, HF.out⟩

theorem summaries_walk (U : List Int) (a : Option Addr) (len cap : Nat) (D : Nat → OpD) (w : World) (hS : ScriptV w a len D) (hZ : Sized U len D) :
    Calls Tryz.prog 4 #[.slice a len cap] w fun e w' => e = .returned (.bool true) ∧ Below w.heap.size w w' := by
  go_enter Tryz.func4, Tryz.ntmps4
  go_wp2_with fail
  refine (plays_sums U a len cap D _ hS hZ).mono ?_
  rintro e w1 ⟨rfl, hb1⟩
  go_wp2
  go_ret
  exact ⟨rfl, hb1⟩
end Go.Proofs.YtfcgnpchbcmdeaaGreat
