/-
  Plain mathematics of summaries: cutting: the nearest entry is found by one walk; what is kept is a part of what there was.
-/
import Derived.Test.YtfcgnpchbcmdeaaGreatSmb
namespace Go.Proofs.YtfcgnpchbcmdeaaGreat

/-- Twice the middle of the entry at a place. -/
def midA (L : List Ent) (i : Nat) : Int := (L.getD i e0).lo + (L.getD i e0).hi

theorem mid_lt {L : List Ent} (g : Good L) {i j : Nat} (hij : i < j) (h : j < L.length) : midA L i < midA L j := by
  have h1 := g.lt hij h
  have h2 := g.at (show i < L.length by omega)
  have h3 := g.at h
  unfold midA; omega

theorem mid_in {L : List Ent} (g : Good L) {i : Nat} (h : i < L.length) : 1 ≤ midA L i ∧ midA L i ≤ 2000000000000 := by
  have h2 := g.at h
  unfold midA; omega

/-- Is the next entry nearer to the share k than this one? -/
def nearB (L : List Ent) (s : Nat) (k i : Nat) : Bool := decide ((midA L i + midA L (i + 1)) * ((s : Int) - 1) < 4 * (k : Int) * totalL L)

def firstStop (C : Nat → Bool) : Nat → Nat → Nat
  | 0, i => i
  | f + 1, i => if C i = true then firstStop C f (i + 1) else i

theorem firstStop_spec (C : Nat → Bool) : ∀ f i, i ≤ firstStop C f i ∧ firstStop C f i ≤ i + f ∧ (∀ j, i ≤ j → j < firstStop C f i → C j = true) ∧ (firstStop C f i = i + f ∨ C (firstStop C f i) = false)
  | 0, i => by simp [firstStop]; omega
  | f + 1, i => by
    have ih := firstStop_spec C f (i + 1)
    simp only [firstStop]
    by_cases h : C i = true
    · rw [if_pos h]
      refine ⟨by omega, by omega, fun j h1 h2 => ?_, ?_⟩
      · by_cases e : j = i
        · rw [e]; exact h
        · exact ih.2.2.1 j (by omega) h2
      · rcases ih.2.2.2 with e | e
        · left; omega
        · right; exact e
    · rw [if_neg h]
      exact ⟨Nat.le_refl _, by omega, fun j h1 h2 => by omega, .inr (by simpa using h)⟩

/-- The place that is nearest to the share k. -/
def bestK (L : List Ent) (s k : Nat) : Nat := firstStop (nearB L s k) (L.length - 3) 1

structure BestP (L : List Ent) (s k r : Nat) : Prop where
  pos : 1 ≤ r
  le : r + 2 ≤ L.length
  yes : ∀ i, 1 ≤ i → i < r → nearB L s k i = true
  no : r + 2 = L.length ∨ nearB L s k r = false

theorem best_spec (L : List Ent) (s k : Nat) (h : 3 ≤ L.length) : BestP L s k (bestK L s k) := by
  have := firstStop_spec (nearB L s k) (L.length - 3) 1
  unfold bestK
  exact ⟨this.1, by omega, this.2.2.1, by rcases this.2.2.2 with e | e; · left; omega
                                          · right; exact e⟩

theorem BestP.unique {L : List Ent} {s k r q : Nat} (hr : BestP L s k r) (hq : BestP L s k q) : r = q := by
  rcases Nat.lt_trichotomy r q with h | h | h
  · have h1 := hq.yes r hr.pos h
    rcases hr.no with e | e
    · have := hq.le; omega
    · rw [h1] at e; cases e
  · exact h
  · have h1 := hr.yes q hq.pos h
    rcases hq.no with e | e
    · have := hr.le; omega
    · rw [h1] at e; cases e

theorem total_pos {L : List Ent} (g : Good L) : 0 ≤ totalL L ∧ totalL L ≤ 1000000000000 := by
  unfold totalL
  split
  · omega
  · have := g.at (show L.length - 1 < L.length by omega); omega

theorem near_mono {L : List Ent} (g : Good L) {s k i : Nat} (h : nearB L s k i = true) : nearB L s (k + 1) i = true := by
  unfold nearB at *
  have ht := (total_pos g).1
  rw [decide_eq_true_eq] at *
  have : 4 * (k : Int) * totalL L ≤ 4 * ((k + 1 : Nat) : Int) * totalL L := Int.mul_le_mul_of_nonneg_right (by omega) ht
  omega

theorem best_mono {L : List Ent} (g : Good L) (s k : Nat) (h : 3 ≤ L.length) : bestK L s k ≤ bestK L s (k + 1) := by
  have h1 := best_spec L s k h
  have h2 := best_spec L s (k + 1) h
  by_cases hc : bestK L s k ≤ bestK L s (k + 1)
  · exact hc
  · have h3 := near_mono g (h1.yes (bestK L s (k + 1)) h2.pos (by omega))
    rcases h2.no with e | e
    · have := h1.le; omega
    · rw [h3] at e; cases e

/-- The place that was taken last. -/
def prevK (L : List Ent) (s k : Nat) : Nat := if k = 0 then 0 else bestK L s k

/-- What is kept behind the share k. -/
def keptK (L : List Ent) (s : Nat) : Nat → List Ent
  | 0 => [L.getD 0 e0]
  | k + 1 => if bestK L s (k + 1) = prevK L s k then keptK L s k else keptK L s k ++ [L.getD (bestK L s (k + 1)) e0]

def cutL (L : List Ent) (size : Int) : List Ent :=
  if (L.length : Int) ≤ max size 2 then L else keptK L (max size 2).toNat ((max size 2).toNat - 2) ++ [L.getD (L.length - 1) e0]

theorem take_snocE (L : List Ent) {r : Nat} (h : r < L.length) : L.take (r + 1) = L.take r ++ [L.getD r e0] := by
  rw [List.take_succ_eq_append_getElem h]; simp [List.getD, h]

theorem kept_sub {L : List Ent} (g : Good L) (s : Nat) (h : 3 ≤ L.length) : ∀ k, (keptK L s k).Sublist (L.take (prevK L s k + 1)) ∧ prevK L s k + 2 ≤ L.length ∧ prevK L s k ≤ bestK L s (k + 1)
  | 0 => by
    have := (best_spec L s 1 h).pos
    refine ⟨?_, by simp [prevK]; omega, by simp [prevK]⟩
    have e := take_snocE L (show 0 < L.length by omega)
    simp only [prevK, if_true, keptK]
    rw [e]; simp
  | k + 1 => by
    have ih := kept_sub g s h k
    have hb := best_spec L s (k + 1) h
    have hp : prevK L s (k + 1) = bestK L s (k + 1) := by simp [prevK]
    rw [hp]
    refine ⟨?_, hb.le, best_mono g s (k + 1) h⟩
    simp only [keptK]
    split
    · rename_i e
      rw [e]; exact ih.1
    · rename_i e
      rw [take_snocE L (show bestK L s (k + 1) < L.length by have := hb.le; omega)]
      refine List.Sublist.append ?_ (List.Sublist.refl _)
      refine ih.1.trans ?_
      exact List.take_sublist_take_left (by omega)

theorem cutL_sub {L : List Ent} (g : Good L) (size : Int) : (cutL L size).Sublist L := by
  unfold cutL
  split
  · exact List.Sublist.refl _
  · rename_i h
    have h3 : 3 ≤ L.length := by omega
    have ks := kept_sub g (max size 2).toNat h3 ((max size 2).toNat - 2)
    have e : L = L.take (L.length - 1 + 1) := by rw [List.take_of_length_le (by omega)]
    conv => rhs; rw [e]
    rw [take_snocE L (show L.length - 1 < L.length by omega)]
    refine List.Sublist.append (ks.1.trans ?_) (List.Sublist.refl _)
    exact List.take_sublist_take_left (by omega)

/-- The reference's measure of distance. -/
def distK (L : List Ent) (s k i : Nat) : Int := if midA L i * ((s : Int) - 1) - 2 * (k : Int) * totalL L < 0 then -(midA L i * ((s : Int) - 1) - 2 * (k : Int) * totalL L) else midA L i * ((s : Int) - 1) - 2 * (k : Int) * totalL L

theorem dist_step {L : List Ent} (g : Good L) {s k i j : Nat} (hs : 2 ≤ s) (hij : i < j) (h : j < L.length) : distK L s k j < distK L s k i ↔ (midA L i + midA L j) * ((s : Int) - 1) < 4 * (k : Int) * totalL L := by
  have hm := mid_lt g hij h
  have hp : midA L i * ((s : Int) - 1) < midA L j * ((s : Int) - 1) := Int.mul_lt_mul_of_pos_right hm (by omega)
  have e1 : (midA L i + midA L j) * ((s : Int) - 1) = midA L i * ((s : Int) - 1) + midA L j * ((s : Int) - 1) := Int.add_mul _ _ _
  have e2 : 4 * (k : Int) * totalL L = 2 * (2 * (k : Int) * totalL L) := by rw [← Int.mul_assoc, ← Int.mul_assoc]; rfl
  rw [e1, e2]
  unfold distK
  generalize midA L i * ((s : Int) - 1) = p at *
  generalize midA L j * ((s : Int) - 1) = q at *
  generalize 2 * (k : Int) * totalL L = t at *
  split <;> split <;> constructor <;> omega

/-- One round of the reference's search. -/
theorem best_round {L : List Ent} (g : Good L) {s k i : Nat} (hs : 2 ≤ s) (h2 : 2 ≤ i) (hi : i + 1 < L.length) :
    (if distK L s k i < distK L s k (min (i - 1) (bestK L s k)) then i else min (i - 1) (bestK L s k)) = min i (bestK L s k) := by
  have hb := best_spec L s k (by omega)
  by_cases h : i - 1 < bestK L s k
  · rw [show min (i - 1) (bestK L s k) = i - 1 by omega]
    have hn := hb.yes (i - 1) (by omega) h
    unfold nearB at hn
    rw [decide_eq_true_eq, show i - 1 + 1 = i by omega] at hn
    rw [if_pos ((dist_step g hs (show i - 1 < i by omega) (by omega)).2 hn)]
    omega
  · rw [show min (i - 1) (bestK L s k) = bestK L s k by omega]
    rw [if_neg, show min i (bestK L s k) = bestK L s k by omega]
    rw [dist_step g hs (show bestK L s k < i by omega) (by omega)]
    have hno : nearB L s k (bestK L s k) = false := by
      rcases hb.no with e | e
      · omega
      · exact e
    unfold nearB at hno
    rw [decide_eq_false_iff_not] at hno
    have hle : midA L (bestK L s k + 1) ≤ midA L i := by
      by_cases e : bestK L s k + 1 = i
      · rw [e]; exact Int.le_refl _
      · exact Int.le_of_lt (mid_lt g (by omega) (by omega))
    have : (midA L (bestK L s k) + midA L (bestK L s k + 1)) * ((s : Int) - 1) ≤ (midA L (bestK L s k) + midA L i) * ((s : Int) - 1) := Int.mul_le_mul_of_nonneg_right (by omega) (by omega)
    omega

/-- Is a place taken for a share up to k? -/
def takenK (L : List Ent) (s k i : Nat) : Bool := (List.range k).any fun j => bestK L s (j + 1) == i

theorem best_le {L : List Ent} (g : Good L) (s : Nat) (h : 3 ≤ L.length) : ∀ d k, bestK L s k ≤ bestK L s (k + d)
  | 0, _ => Nat.le_refl _
  | d + 1, k => Nat.le_trans (best_le g s h d k) (best_mono g s (k + d) h)

theorem taken_iff {L : List Ent} (g : Good L) (s k : Nat) (h : 3 ≤ L.length) : takenK L s k (bestK L s (k + 1)) = decide (bestK L s (k + 1) = prevK L s k) := by
  have hpos := (best_spec L s (k + 1) h).pos
  rw [Bool.eq_iff_iff, decide_eq_true_eq]
  unfold takenK
  rw [List.any_eq_true]
  constructor
  · rintro ⟨j, hj, e⟩
    simp at hj e
    have h1 := best_le g s h (k - (j + 1)) (j + 1)
    have h2 := best_mono g s k h
    rw [show j + 1 + (k - (j + 1)) = k by omega] at h1
    unfold prevK
    rw [if_neg (by omega)]
    omega
  · intro e
    unfold prevK at e
    split at e
    · omega
    · exact ⟨k - 1, by simp; omega, by rw [show k - 1 + 1 = k by omega]; simp [e]⟩

theorem taken_succ (L : List Ent) (s k i : Nat) : takenK L s (k + 1) i = (takenK L s k i || bestK L s (k + 1) == i) := by
  unfold takenK; rw [List.range_succ, List.any_append]; simp

/-- The program's own way to the share k: whole and rest. -/
theorem goal_iff {x whole rest parts tot : Int} (hp : 0 < parts) (hr : 0 ≤ rest) (hlt : rest < parts) (he : whole * parts + rest = tot) : x < (if 0 < rest then whole + 1 else whole) ↔ x * parts < tot := by
  constructor
  · intro h
    split at h
    · have : x * parts ≤ whole * parts := Int.mul_le_mul_of_nonneg_right (by omega) (by omega)
      omega
    · have : x * parts < whole * parts := Int.mul_lt_mul_of_pos_right h hp
      omega
  · intro h
    split
    · have h2 : x * parts < (whole + 1) * parts := by rw [Int.add_mul]; omega
      exact Int.lt_of_mul_lt_mul_right h2 (by omega)
    · have h2 : x * parts < whole * parts := by omega
      exact Int.lt_of_mul_lt_mul_right h2 (by omega)

theorem good_len {L : List Ent} {U : List Int} (hp : L.Pairwise fun e f => e.v < f.v ∧ e.lo + e.wt ≤ f.lo ∧ e.hi ≤ f.hi - f.wt) (hU : ∀ e ∈ L, e.v ∈ U) : L.length ≤ U.length := by
  induction L generalizing U with
  | nil => simp
  | cons e L ih =>
    rw [List.pairwise_cons] at hp
    have h1 : e.v ∈ U := hU e (by simp)
    have h2 := ih (U := U.erase e.v) hp.2 (fun f hf => by
      have hne : f.v ≠ e.v := by have := (hp.1 f hf).1; omega
      exact (List.mem_erase_of_ne hne).2 (hU f (by simp [hf])))
    rw [List.length_erase_of_mem h1] at h2
    have : 0 < U.length := List.length_pos_of_mem h1
    simp; omega

theorem Good.len {L : List Ent} (g : Good L) {U : List Int} (hU : ∀ e ∈ L, e.v ∈ U) : L.length ≤ U.length := good_len g.step hU
end Go.Proofs.YtfcgnpchbcmdeaaGreat
