/-
  Plain mathematics of summaries: no program, no memory: that a list of values with their weights has one summary alone, however it was made.
-/
namespace Go.Proofs.YtfcgnpchbcmdeaaGreat

/-- AN ENTRY. -/
structure Ent where
  v : Int
  lo : Int
  hi : Int
  wt : Int

def clampV (z : Int) : Int := if 1000000000 < z then 1000000000 else if z < -1000000000 then -1000000000 else z
def clampW (z : Int) : Int := if z < 1 ∨ 1000 < z then 1 else z
def pairsOf (vs ws : List Int) : List (Int × Int) := (List.zip vs ws).map fun p => (clampV p.1, clampW p.2)

theorem pairsOf_len (vs ws : List Int) : (pairsOf vs ws).length = min vs.length ws.length := by simp [pairsOf]

def wOf : List (Int × Int) → Int → Int
  | [], _ => 0
  | p :: r, v => (if p.1 = v then p.2 else 0) + wOf r v

theorem wOf_append (a b : List (Int × Int)) (v : Int) : wOf (a ++ b) v = wOf a v + wOf b v := by
  induction a with
  | nil => simp [wOf]
  | cons p r ih => simp only [List.cons_append, wOf, ih]; omega

theorem wOf_perm {a b : List (Int × Int)} (h : a.Perm b) (v : Int) : wOf a v = wOf b v := by
  induction h with
  | nil => rfl
  | cons x _ ih => simp only [wOf, ih]
  | swap x y l => simp only [wOf]; omega
  | trans _ _ h1 h2 => exact h1.trans h2

theorem wOf_none {a : List (Int × Int)} {v : Int} (h : ∀ p ∈ a, p.1 ≠ v) : wOf a v = 0 := by
  induction a with
  | nil => rfl
  | cons p r ih => simp only [wOf]; rw [if_neg (h p (by simp)), ih (fun q hq => h q (by simp [hq]))]; rfl

/-- THE VALUES OF A LIST, EACH ONCE, RISING, WITH ALL ITS WEIGHT. -/
structure IsSum (ps M : List (Int × Int)) : Prop where
  rise : M.Pairwise fun p q => p.1 < q.1
  sub : ∀ p ∈ M, ∃ q ∈ ps, q.1 = p.1
  all : ∀ q ∈ ps, ∃ p ∈ M, p.1 = q.1
  wt : ∀ p ∈ M, p.2 = wOf ps p.1

theorem rise_eq : ∀ {M N : List (Int × Int)}, M.Pairwise (fun p q => p.1 < q.1) → N.Pairwise (fun p q => p.1 < q.1) → (∀ p, p ∈ M ↔ p ∈ N) → M = N
  | [], [], _, _, _ => rfl
  | [], q :: _, _, _, h => absurd ((h q).2 (by simp)) (by simp)
  | p :: _, [], _, _, h => absurd ((h p).1 (by simp)) (by simp)
  | p :: M, q :: N, hM, hN, h => by
    rw [List.pairwise_cons] at hM hN
    have hpq : p = q := by
      rcases List.mem_cons.1 ((h p).1 (by simp)) with e | e
      · exact e
      · rcases List.mem_cons.1 ((h q).2 (by simp)) with e' | e'
        · exact e'.symm
        · have h1 := hN.1 p e; have h2 := hM.1 q e'; omega
    subst hpq
    congr 1
    refine rise_eq hM.2 hN.2 fun r => ⟨fun hr => ?_, fun hr => ?_⟩
    · rcases List.mem_cons.1 ((h r).1 (by simp [hr])) with e | e
      · have := hM.1 r hr; rw [e] at this; omega
      · exact e
    · rcases List.mem_cons.1 ((h r).2 (by simp [hr])) with e | e
      · have := hN.1 r hr; rw [e] at this; omega
      · exact e

theorem IsSum.unique {ps M N : List (Int × Int)} (hM : IsSum ps M) (hN : IsSum ps N) : M = N := by
  refine rise_eq hM.rise hN.rise fun p => ⟨fun hp => ?_, fun hp => ?_⟩
  · obtain ⟨q, hq, e⟩ := hM.sub p hp
    obtain ⟨r, hr, e'⟩ := hN.all q hq
    have hpr : p = r := Prod.ext (by omega) (by rw [hM.wt p hp, hN.wt r hr, e', e])
    exact hpr ▸ hr
  · obtain ⟨q, hq, e⟩ := hN.sub p hp
    obtain ⟨r, hr, e'⟩ := hM.all q hq
    have hpr : p = r := Prod.ext (by omega) (by rw [hN.wt p hp, hM.wt r hr, e', e])
    exact hpr ▸ hr

theorem IsSum.perm {ps qs M : List (Int × Int)} (h : IsSum ps M) (hp : ps.Perm qs) : IsSum qs M :=
  ⟨h.rise, fun p hpM => let ⟨q, hq, e⟩ := h.sub p hpM; ⟨q, hp.mem_iff.1 hq, e⟩, fun q hq => h.all q (hp.mem_iff.2 hq), fun p hpM => (h.wt p hpM).trans (wOf_perm hp _)⟩

/-- THE PROGRAM's WAY: one more of a sorted list. -/
theorem IsSum.more {ps M : List (Int × Int)} (h : IsSum ps M) (p : Int × Int) (hle : ∀ q ∈ ps, q.1 < p.1) : IsSum (ps ++ [p]) (M ++ [p]) := by
  refine ⟨?_, ?_, ?_, ?_⟩
  · rw [List.pairwise_append]
    refine ⟨h.rise, by simp, fun a ha b hb => ?_⟩
    simp at hb; subst hb
    obtain ⟨q, hq, e⟩ := h.sub a ha
    have := hle q hq; omega
  · intro a ha
    rcases List.mem_append.1 ha with ha | ha
    · obtain ⟨q, hq, e⟩ := h.sub a ha; exact ⟨q, by simp [hq], e⟩
    · simp at ha; subst ha; exact ⟨a, by simp, rfl⟩
  · intro q hq
    rcases List.mem_append.1 hq with hq | hq
    · obtain ⟨a, ha, e⟩ := h.all q hq; exact ⟨a, by simp [ha], e⟩
    · simp at hq; subst hq; exact ⟨q, by simp, rfl⟩
  · intro a ha
    rw [wOf_append]
    rcases List.mem_append.1 ha with ha | ha
    · obtain ⟨q, hq, e⟩ := h.sub a ha
      have := hle q hq
      simp only [wOf]
      rw [if_neg (by omega), h.wt a ha]; omega
    · simp at ha; subst ha
      rw [wOf_none (fun q hq => by have := hle q hq; omega)]
      simp [wOf]

theorem IsSum.same {ps M : List (Int × Int)} {v w : Int} (h : IsSum ps (M ++ [(v, w)])) (u : Int) : IsSum (ps ++ [(v, u)]) (M ++ [(v, w + u)]) := by
  have hr := h.rise
  rw [List.pairwise_append] at hr
  refine ⟨?_, ?_, ?_, ?_⟩
  · rw [List.pairwise_append]
    refine ⟨hr.1, by simp, fun a ha b hb => ?_⟩
    simp at hb; subst hb
    exact hr.2.2 a ha (v, w) (by simp)
  · intro a ha
    rcases List.mem_append.1 ha with ha | ha
    · obtain ⟨q, hq, e⟩ := h.sub a (by simp [ha]); exact ⟨q, by simp [hq], e⟩
    · simp at ha; subst ha; exact ⟨(v, u), by simp, rfl⟩
  · intro q hq
    rcases List.mem_append.1 hq with hq | hq
    · obtain ⟨a, ha, e⟩ := h.all q hq
      rcases List.mem_append.1 ha with ha | ha
      · exact ⟨a, by simp [ha], e⟩
      · simp at ha; subst ha; exact ⟨(v, w + u), by simp, e⟩
    · simp at hq; subst hq; exact ⟨(v, w + u), by simp, rfl⟩
  · intro a ha
    rw [wOf_append]
    rcases List.mem_append.1 ha with ha | ha
    · have := hr.2.2 a ha (v, w) (by simp)
      simp only [wOf]
      simp only at this
      rw [if_neg (by omega), h.wt a (by simp [ha])]; omega
    · simp at ha; subst ha
      have := h.wt (v, w) (by simp)
      simp only [wOf, if_true] at *
      omega

theorem IsSum.nil : IsSum [] [] := ⟨by simp, by simp, by simp, by simp⟩

/-- THE REFERENCE's WAY: the least value that is not there yet. -/
theorem IsSum.least {ps M : List (Int × Int)} (hr : M.Pairwise fun p q => p.1 < q.1) (hs : ∀ p ∈ M, ∃ q ∈ ps, q.1 = p.1) (hw : ∀ p ∈ M, p.2 = wOf ps p.1) (hall : ∀ q ∈ ps, ∃ p ∈ M, p.1 = q.1) : IsSum ps M := ⟨hr, hs, hall, hw⟩

/-- RANKS. -/
def rankL : Int → List (Int × Int) → List Ent
  | _, [] => []
  | low, p :: r => ⟨p.1, low, low + p.2, p.2⟩ :: rankL (low + p.2) r

def sumW : List (Int × Int) → Int
  | [] => 0
  | p :: r => p.2 + sumW r

theorem sumW_append (a b : List (Int × Int)) : sumW (a ++ b) = sumW a + sumW b := by
  induction a with
  | nil => simp [sumW]
  | cons p r ih => simp only [List.cons_append, sumW, ih]; omega

theorem rankL_append (low : Int) (a b : List (Int × Int)) : rankL low (a ++ b) = rankL low a ++ rankL (low + sumW a) b := by
  induction a generalizing low with
  | nil => simp [rankL, sumW]
  | cons p r ih => simp only [List.cons_append, rankL, ih, sumW]; rw [show low + p.2 + sumW r = low + (p.2 + sumW r) by omega]

theorem rankL_len (low : Int) (a : List (Int × Int)) : (rankL low a).length = a.length := by
  induction a generalizing low with
  | nil => rfl
  | cons p r ih => simp [rankL, ih]

/-- WHAT EVERY SUMMARY KEEPS. -/
structure Good (L : List Ent) : Prop where
  each : ∀ e ∈ L, 0 ≤ e.lo ∧ 1 ≤ e.wt ∧ e.lo + e.wt ≤ e.hi ∧ e.hi ≤ 1000000000000 ∧ -1000000000 ≤ e.v ∧ e.v ≤ 1000000000
  step : L.Pairwise fun e f => e.v < f.v ∧ e.lo + e.wt ≤ f.lo ∧ e.hi ≤ f.hi - f.wt

theorem Good.nil : Good [] := ⟨by simp, by simp⟩
theorem Good.sub {L M : List Ent} (h : Good L) (hs : M.Sublist L) : Good M := ⟨fun e he => h.each e (hs.subset he), h.step.sublist hs⟩

theorem rank_mem {low : Int} {a : List (Int × Int)} (hp : ∀ p ∈ a, 1 ≤ p.2) : ∀ e ∈ rankL low a, low ≤ e.lo ∧ e.hi = e.lo + e.wt ∧ e.hi ≤ low + sumW a ∧ ∃ p ∈ a, p.1 = e.v ∧ p.2 = e.wt := by
  induction a generalizing low with
  | nil => simp [rankL]
  | cons p r ih =>
    intro e he
    have hp1 := hp p (by simp)
    have hpos : 0 ≤ sumW r := by
      clear ih he hp1
      induction r with
      | nil => simp [sumW]
      | cons q r ih => simp only [sumW]; have := hp q (by simp); have := ih (fun x hx => hp x (by simp at hx ⊢; rcases hx with h | h <;> simp [h])); omega
    rcases List.mem_cons.1 he with rfl | he
    · refine ⟨?_, ?_, ?_, p, by simp, rfl, rfl⟩
      · exact Int.le_refl _
      · rfl
      · simp only [sumW]; omega
    · obtain ⟨h1, h2, h3, q, hq, e1, e2⟩ := ih (fun x hx => hp x (by simp [hx])) e he
      simp only [sumW]; exact ⟨by omega, h2, by omega, q, by simp [hq], e1, e2⟩

theorem rank_step {low : Int} {a : List (Int × Int)} (hp : ∀ p ∈ a, 1 ≤ p.2) (hr : a.Pairwise fun p q => p.1 < q.1) : (rankL low a).Pairwise fun e f => e.v < f.v ∧ e.lo + e.wt ≤ f.lo ∧ e.hi ≤ f.hi - f.wt := by
  induction a generalizing low with
  | nil => simp [rankL]
  | cons p r ih =>
    rw [List.pairwise_cons] at hr
    simp only [rankL]
    rw [List.pairwise_cons]
    refine ⟨fun f hf => ?_, ih (fun x hx => hp x (by simp [hx])) hr.2⟩
    obtain ⟨h1, h2, _, q, hq, e1, e2⟩ := rank_mem (fun x hx => hp x (by simp [hx])) f hf
    have := hr.1 q hq
    simp only
    omega

theorem rank_good {a : List (Int × Int)} (hp : ∀ p ∈ a, 1 ≤ p.2) (hr : a.Pairwise fun p q => p.1 < q.1) (hv : ∀ p ∈ a, -1000000000 ≤ p.1 ∧ p.1 ≤ 1000000000) (hs : sumW a ≤ 1000000000000) : Good (rankL 0 a) := by
  refine ⟨fun e he => ?_, rank_step hp hr⟩
  obtain ⟨h1, h2, h3, q, hq, e1, e2⟩ := rank_mem hp e he
  have := hv q hq
  have := hp q hq
  omega
end Go.Proofs.YtfcgnpchbcmdeaaGreat
