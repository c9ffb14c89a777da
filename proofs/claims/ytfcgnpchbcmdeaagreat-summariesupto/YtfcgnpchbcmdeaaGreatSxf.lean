/-
  The contract of the step that makes a summary of numbers.
-/
import Derived.Test.YtfcgnpchbcmdeaaGreatSxe
import Derived.Test.YtfcgnpchbcmdeaaGreatSwq
namespace Go.Proofs.YtfcgnpchbcmdeaaGreat
open Go.RowKit

/-- A summary whose values lie in a list. -/
def GoodU (U : List Int) (L : List Ent) : Prop := Good L ∧ ∀ e ∈ L, e.v ∈ U
theorem GoodU.nil (U : List Int) : GoodU U [] := ⟨Good.nil, by simp⟩
theorem GoodU.len {U : List Int} {L : List Ent} (h : GoodU U L) : L.length ≤ U.length := h.1.len h.2

/-- BEHIND A STEP: true; the world holds summaries as before, perhaps one more; nothing ahead of the script's world has changed. -/
def PostS (U : List Int) (g : Nat) (c : Array Value) (nx : Int) (w : World) (e : Ending) (w' : World) : Prop :=
  e = .returned (.bool true) ∧ ∃ c' Ls' nx', StateE w' g c' Ls' nx' ∧ (∀ L ∈ Ls', GoodU U L) ∧ nx' ≤ nx + 1 ∧ (∀ j, j ≠ 0 → j ≠ 4 → j ≠ 5 → j ≠ 12 → c'[j]? = c[j]?) ∧ Below g w w' ∧ Frame w w'

theorem LentN.touch {S : Nat → Prop} {w w' : World} {base : Nat} {o : Value} {a : Option Addr} {n c : Nat} {zs : List Int} (h : LentN w base o a n c zs) (t : Touch S w w') (hs : ∀ k, o.ownBlock = some k → ¬ S k) : LentN w' base o a n c zs := by
  rcases h with h | ⟨p, g, h1, h2, h3, h4, h5, h6, cur, h7, h8, h9⟩
  · exact .inl h
  · exact .inr ⟨p, g, h1, h2, h3, Nat.lt_of_lt_of_le h4 t.size, h5, h6, cur, t.at_ h7 (hs g (by rw [h2]; rfl)), h8, h9⟩
theorem grown_touch {w w' : World} {row : Option Nat} (h : w.grownBy w' row) : Touch (fun k => some k = row) w w' := ⟨h.os, h.tape, h.output, h.size, fun k hk hn => h.block k hk hn⟩
theorem ints_below {w w' : World} {a : Option Addr} {n : Nat} {zs : List Int} (h : IntsV w a n zs) {B : Nat} (hb : Below B w w') (hB : ∀ b off, a = some ⟨b, off, none⟩ → 0 < n → b < B) : IntsV w' a n zs :=
  h.touch (S := fun k => B ≤ k) ⟨hb.os, hb.tape, hb.output, hb.size, fun k _ hn => hb.block k (by omega)⟩ (fun b off e h0 hS => by have := hB b off e h0; omega)
theorem ints_lt {w : World} {a : Option Addr} {n : Nat} {zs : List Int} (h : IntsV w a n zs) : ∀ b off, a = some ⟨b, off, none⟩ → 0 < n → b < w.heap.size := fun b off e h0 => by
  rcases h.2.2 with h | ⟨b', off', e', hb, _⟩
  · omega
  · rw [e] at e'; simp at e'; omega
theorem rank_from {vs ws : List Int} {M : List (Int × Int)} (h : IsSum (pairsOf vs ws) M) {U : List Int} (hU : ∀ z ∈ vs, clampV z ∈ U) : ∀ e ∈ rankL 0 M, e.v ∈ U := by
  intro e he
  obtain ⟨_, _, _, p, hp, h1, _⟩ := rank_mem (fun p hp => by
    rw [h.wt p hp]
    obtain ⟨q, hq, e⟩ := h.sub p hp
    rw [← e]
    exact wOf_ge (fun r hr => (pairs_in hr).1.1) q hq) e he
  obtain ⟨q, hq, h2⟩ := h.sub p hp
  obtain ⟨_, _, z, hz, h3⟩ := pairs_in hq
  rw [← h1, ← h2, h3]
  exact hU z hz

set_option maxRecDepth 100000 in
set_option maxHeartbeats 4000000 in
theorem summary_k2 (g : Nat) (c : Array Value) (Ls : List (List Ent)) (nx : Int) (U : List Int) (pk bb : Int) (fa : Option Addr) (fl fc : Nat) (bins size budget : Int) (va : Option Addr) (vl vc : Nat) (wa : Option Addr) (wl wc : Nat) (st : ByteArray) (x y : Int) (vz wz : List Int) (w : World)
    (hS : StateE w g c Ls nx) (hG : ∀ L ∈ Ls, GoodU U L) (hn : nx ≤ 9000000) (hU : U.length ≤ 2097152) (hV : IntsV w va vl vz) (hW : IntsV w wa wl wz) (nV : va = none → vl = 0 ∧ vc = 0) (nW : wa = none → wl = 0 ∧ wc = 0) (lV : vl ≤ 2097152) (lW : wl ≤ 2097152) (hZ : ∀ z ∈ vz, clampV z ∈ U) :
    Calls Tryz.prog 70 #[.pointer (some ⟨g, 0, none⟩), .agg #[.int .i64 2, .int .i64 pk, .int .i64 bb, .slice fa fl fc, .int .i64 bins, .int .i64 size, .int .i64 budget, .slice va vl vc, .slice wa wl wc, .string st, .int .i64 x, .int .i64 y]] w
      fun e w' => PostS U g c nx w e w' := by
  have HS : Hid (StateE w g c Ls nx ∧ ∀ L ∈ Ls, GoodU U L) := ⟨hS, hG⟩
  have HV : Hid (IntsV w va vl vz) := hV
  have HW : Hid (IntsV w wa wl wz) := hW
  have HNV : Hid (va = none → vl = 0 ∧ vc = 0) := nV
  have HNW : Hid (wa = none → wl = 0 ∧ wc = 0) := nW
  have HZ : Hid (∀ z ∈ vz, clampV z ∈ U) := hZ
  have hgl := hS.lt
  have HLV : Hid (∀ b off, va = some ⟨b, off, none⟩ → 0 < vl → b < w.heap.size) := ints_lt hV
  have HLW : Hid (∀ b off, wa = some ⟨b, off, none⟩ → 0 < wl → b < w.heap.size) := ints_lt hW
  clear hS hG hV hW nV nW hZ
  have HB0 : Hid (Below w.heap.size w (w.alloc (.cells #[.int .i64 2, .int .i64 pk, .int .i64 bb, .slice fa fl fc, .int .i64 bins, .int .i64 size, .int .i64 budget, .slice va vl vc, .slice wa wl wc, .string st, .int .i64 x, .int .i64 y] 93))) := (Below.refl _ _).alloc (Nat.le_refl _) _
  have e7 : (w.alloc (.cells #[.int .i64 2, .int .i64 pk, .int .i64 bb, .slice fa fl fc, .int .i64 bins, .int .i64 size, .int .i64 budget, .slice va vl vc, .slice wa wl wc, .string st, .int .i64 x, .int .i64 y] 93)).cell? ⟨w.heap.size, 7, none⟩ = some (.slice va vl vc) := by simp
  have e8 : (w.alloc (.cells #[.int .i64 2, .int .i64 pk, .int .i64 bb, .slice fa fl fc, .int .i64 bins, .int .i64 size, .int .i64 budget, .slice va vl vc, .slice wa wl wc, .string st, .int .i64 x, .int .i64 y] 93)).cell? ⟨w.heap.size, 8, none⟩ = some (.slice wa wl wc) := by simp
  have hs0 : (w.alloc (.cells #[.int .i64 2, .int .i64 pk, .int .i64 bb, .slice fa fl fc, .int .i64 bins, .int .i64 size, .int .i64 budget, .slice va vl vc, .slice wa wl wc, .string st, .int .i64 x, .int .i64 y] 93)).heap.size = w.heap.size + 1 := by simp
  go_enter Tryz.func70, Tryz.ntmps70
  go_wp2_with fail
  generalize w.alloc (.cells #[.int .i64 2, .int .i64 pk, .int .i64 bb, .slice fa fl fc, .int .i64 bins, .int .i64 size, .int .i64 budget, .slice va vl vc, .slice wa wl wc, .string st, .int .i64 x, .int .i64 y] 93) = wb at *
  refine (lentN_any va vl vc vz wb (ints_below HV.out HB0.out HLV.out) HNV.out lV).mono ?_
  rintro e w1 ⟨o1, rfl, hl1, hb1⟩
  obtain ⟨a1, c1, rfl, _⟩ := hl1.view
  have HL1 : Hid (LentN w1 wb.heap.size (.slice a1 vl c1) va vl vc vz) := hl1
  have HC1 : Hid (Below wb.heap.size wb w1) := hb1
  have HB1 : Hid (Below w.heap.size w w1) := HB0.out.trans (hb1.mono (by omega))
  have f7 : w1.cell? ⟨w.heap.size, 7, none⟩ = some (.slice va vl vc) := (hb1.cell (p := ⟨w.heap.size, 7, none⟩) (by simp; omega)).trans e7
  have f8 : w1.cell? ⟨w.heap.size, 8, none⟩ = some (.slice wa wl wc) := (hb1.cell (p := ⟨w.heap.size, 8, none⟩) (by simp; omega)).trans e8
  have hs1 : w.heap.size + 1 ≤ w1.heap.size := by have := hb1.size; omega
  clear hl1 hb1 e7 e8
  go_wp2_with fail
  refine (lentN_any wa wl wc wz w1 (ints_below HW.out HB1.out HLW.out) HNW.out lW).mono ?_
  rintro e w2 ⟨o2, rfl, hl2, hb2⟩
  obtain ⟨a2, c2, rfl, hi2⟩ := hl2.view
  obtain ⟨_, _, e1, hi1⟩ := (HL1.out.below hb2).view
  simp only [Value.slice.injEq] at e1
  obtain ⟨rfl, _, rfl⟩ := e1
  have HI1 : Hid (IntsV w2 a1 vl vz) := hi1
  have HI2 : Hid (IntsV w2 a2 wl wz) := hi2
  have HL12 : Hid (LentN w2 wb.heap.size (.slice a1 vl c1) va vl vc vz) := HL1.out.below hb2
  have HL2 : Hid (LentN w2 w1.heap.size (.slice a2 wl c2) wa wl wc wz) := hl2
  have HB2 : Hid (Below w.heap.size w w2) := HB1.out.trans (hb2.mono (by omega))
  have g7 : w2.cell? ⟨w.heap.size, 7, none⟩ = some (.slice va vl vc) := (hb2.cell (p := ⟨w.heap.size, 7, none⟩) (by simp; omega)).trans f7
  have g8 : w2.cell? ⟨w.heap.size, 8, none⟩ = some (.slice wa wl wc) := (hb2.cell (p := ⟨w.heap.size, 8, none⟩) (by simp; omega)).trans f8
  have hs2 : w1.heap.size ≤ w2.heap.size := hb2.size
  clear hl2 hb2 hi1 hi2 f7 f8
  go_wp2_with fail
  refine (summary_any a1 a2 vl c1 wl c2 vz wz w2 HI1.out HI2.out lV lW).mono ?_
  rintro e w3 ⟨v, M, rfl, hM, ho, hb3⟩
  have HM : Hid (IsSum (pairsOf vz wz) M) := hM
  have HO3 : Hid (OwnE w3 w2.heap.size v (rankL 0 M)) := ho
  have HL13 : Hid (LentN w3 wb.heap.size (.slice a1 vl c1) va vl vc vz) := HL12.out.below hb3
  have HL23 : Hid (LentN w3 w1.heap.size (.slice a2 wl c2) wa wl wc wz) := HL2.out.below hb3
  have HB3 : Hid (Below w.heap.size w w3) := HB2.out.trans (hb3.mono (by omega))
  have h7 : w3.cell? ⟨w.heap.size, 7, none⟩ = some (.slice va vl vc) := (hb3.cell (p := ⟨w.heap.size, 7, none⟩) (by simp; omega)).trans g7
  have h8 : w3.cell? ⟨w.heap.size, 8, none⟩ = some (.slice wa wl wc) := (hb3.cell (p := ⟨w.heap.size, 8, none⟩) (by simp; omega)).trans g8
  have hs3 : w2.heap.size ≤ w3.heap.size := hb3.size
  have HK1 : Hid (∀ k, (Value.slice a1 vl c1).ownBlock = some k → wb.heap.size ≤ k ∧ k < w1.heap.size) := fun k hk => ⟨(HL1.out.own hk).1, (HL1.out.own hk).2.1⟩
  have HK2 : Hid (∀ k, (Value.slice a2 wl c2).ownBlock = some k → w1.heap.size ≤ k ∧ k < w2.heap.size) := fun k hk => ⟨(HL2.out.own hk).1, (HL2.out.own hk).2.1⟩
  clear hM ho hb3 g7 g8
  go_wp2_with fail
  refine (stillN_any va vl vc wb.heap.size vz (.slice a1 vl c1) w3 HL13.out (ints_below HV.out HB3.out HLV.out) (fun b off e h0 => by have := HLV.out b off e h0; omega) lV).mono ?_
  rintro e w4 ⟨rfl, hg4⟩
  have HB4 : Hid (Below w.heap.size w w4) := HB3.out.grown hg4 (by omega) (fun k hk => by have := HK1.out k hk; omega)
  have k8 : w4.cell? ⟨w.heap.size, 8, none⟩ = some (.slice wa wl wc) := hg4.cell h8 (fun e => by have := HK1.out _ e.symm; simp at this; omega)
  have k7 : w4.cell? ⟨w.heap.size, 7, none⟩ = some (.slice va vl vc) := hg4.cell h7 (fun e => by have := HK1.out _ e.symm; simp at this; omega)
  have HL24 : Hid (LentN w4 w1.heap.size (.slice a2 wl c2) wa wl wc wz) := HL23.out.touch (grown_touch hg4) (fun k hk e => by have h1 := HK1.out k e.symm; have h2 := HK2.out k hk; omega)
  have HO4 : Hid (OwnE w4 w2.heap.size v (rankL 0 M)) := (grown_touch hg4).row HO3.out (fun k hk e => by have h1 := HK1.out k e.symm; have h2 := (World.ownsRow.lt HO3.out k hk).1; omega)
  have hs4 : w3.heap.size ≤ w4.heap.size := hg4.size
  clear hg4 h7 h8
  go_wp2_with fail
  refine (stillN_any wa wl wc w1.heap.size wz (.slice a2 wl c2) w4 HL24.out (ints_below HW.out HB4.out HLW.out) (fun b off e h0 => by have := HLW.out b off e h0; omega) lW).mono ?_
  rintro e w5 ⟨rfl, hg5⟩
  have HB5 : Hid (Below w.heap.size w w5) := HB4.out.grown hg5 (by omega) (fun k hk => by have := HK2.out k hk; omega)
  have m8 : w5.cell? ⟨w.heap.size, 8, none⟩ = some (.slice wa wl wc) := hg5.cell k8 (fun e => by have := HK2.out _ e.symm; simp at this; omega)
  have m7 : w5.cell? ⟨w.heap.size, 7, none⟩ = some (.slice va vl vc) := hg5.cell k7 (fun e => by have := HK2.out _ e.symm; simp at this; omega)
  have HO5 : Hid (OwnE w5 w2.heap.size v (rankL 0 M)) := (grown_touch hg5).row HO4.out (fun k hk e => by have h1 := HK2.out k e.symm; have h2 := (World.ownsRow.lt HO4.out k hk).1; omega)
  have hs5 : w4.heap.size ≤ w5.heap.size := hg5.size
  clear hg5 k7 k8
  go_wp2_with fail
  refine (refSummary_any va wa vl vc wl wc vz wz w5 (ints_below HV.out HB5.out HLV.out) (ints_below HW.out HB5.out HLW.out) lV lW).mono ?_
  rintro e w6 ⟨u, M', rfl, hM', ho', hb6⟩
  obtain rfl : M' = M := hM'.unique HM.out
  have HO6 : Hid (OwnE w6 w.heap.size v (rankL 0 M')) := row_base (HO5.out.below hb6) (by omega)
  have HU6 : Hid (OwnE w6 w.heap.size u (rankL 0 M')) := row_base ho' (by omega)
  have HAP : Hid (Apart v u) := by
    by_cases hv : v.ownBlock = none
    · exact .inl hv
    · right; right
      intro e
      obtain ⟨k, hk⟩ := Option.ne_none_iff_exists'.1 hv
      have h1 := (World.ownsRow.lt HO5.out k hk).2
      have h2 := (World.ownsRow.lt ho' k (e.symm.trans hk)).1
      omega
  have HB6 : Hid (Below w.heap.size w w6) := HB5.out.trans (hb6.mono (by omega))
  have HGU : Hid (GoodU U (rankL 0 M')) := ⟨HM.out.good (by rw [HV.out.1]; exact lV), rank_from HM.out HZ.out⟩
  have hlen : (rankL 0 M').length ≤ 4194304 := by have := HGU.out.len; omega
  clear hM' ho' hb6 m7 m8
  go_wp2_with fail
  refine (summed_any g c Ls nx v u (rankL 0 M') w w6 HS.out.1 HB6.out HO6.out HU6.out HAP.out hlen (by omega)).mono ?_
  rintro e w7 ⟨rfl, c', hst, hcc, hbg, hsz, hfr⟩
  have HF : Hid (∃ c' Ls' nx', StateE w7 g c' Ls' nx' ∧ (∀ L ∈ Ls', GoodU U L) ∧ nx' ≤ nx + 1 ∧ (∀ j, j ≠ 0 → j ≠ 4 → j ≠ 5 → j ≠ 12 → c'[j]? = c[j]?) ∧ Below g w w7 ∧ Frame w w7) :=
    ⟨c', _, nx + 1, hst, fun L hL => by rcases List.mem_append.1 hL with h | h; exact HS.out.2 L h; simp at h; rw [h]; exact HGU.out, Int.le_refl _, hcc, (HB6.out.mono (by omega)).trans hbg, hfr⟩
  clear hst hcc hbg hsz hfr
  go_wp2
  go_ret
  exact ⟨rfl, HF.out⟩
end Go.Proofs.YtfcgnpchbcmdeaaGreat
