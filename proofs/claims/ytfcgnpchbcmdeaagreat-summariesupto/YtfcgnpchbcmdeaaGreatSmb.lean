/-
  Plain mathematics of summaries: what every joined summary keeps.
-/
import Derived.Test.YtfcgnpchbcmdeaaGreatSma
namespace Go.Proofs.YtfcgnpchbcmdeaaGreat

/-! ### How much a summary weighs -/

theorem wOf_pos {ps : List (Int × Int)} (hp : ∀ p ∈ ps, 1 ≤ p.2) : ∀ v, 0 ≤ wOf ps v := by
  induction ps with
  | nil => intro v; simp [wOf]
  | cons p r ih =>
    intro v
    have h1 := ih (fun q hq => hp q (by simp [hq])) v
    have h2 := hp p (by simp)
    simp only [wOf]
    split <;> omega

theorem wOf_ge {ps : List (Int × Int)} (hp : ∀ p ∈ ps, 1 ≤ p.2) : ∀ q ∈ ps, 1 ≤ wOf ps q.1 := by
  induction ps with
  | nil => simp
  | cons p r ih =>
    intro q hq
    have h2 := hp p (by simp)
    simp only [wOf]
    rcases List.mem_cons.1 hq with rfl | hq
    · have := wOf_pos (fun x hx => hp x (List.mem_cons_of_mem _ hx)) q.1
      simp; omega
    · have := ih (fun x hx => hp x (by simp [hx])) q hq
      split <;> omega

def totW (ps : List (Int × Int)) : List (Int × Int) → Int
  | [] => 0
  | p :: M => wOf ps p.1 + totW ps M

theorem totW_cons (q : Int × Int) (r M : List (Int × Int)) (hq : 0 ≤ q.2) (hr : M.Pairwise fun p q => p.1 < q.1) : totW (q :: r) M ≤ totW r M + q.2 ∧ ((∀ p ∈ M, p.1 ≠ q.1) → totW (q :: r) M = totW r M) := by
  induction M with
  | nil => simp [totW]; exact hq
  | cons p M ih =>
    rw [List.pairwise_cons] at hr
    have ih := ih hr.2
    simp only [totW, wOf]
    by_cases h : q.1 = p.1
    · have := ih.2 (fun x hx e => by have := hr.1 x hx; omega)
      rw [if_pos h]
      exact ⟨by omega, fun hn => absurd h.symm (hn p (by simp))⟩
    · rw [if_neg h]
      exact ⟨by omega, fun hn => by have := ih.2 (fun x hx => hn x (by simp [hx])); omega⟩

theorem totW_nil (M : List (Int × Int)) : totW [] M = 0 := by
  induction M with
  | nil => rfl
  | cons p M ih => simp [totW, wOf, ih]

theorem totW_le {ps M : List (Int × Int)} (hp : ∀ p ∈ ps, 1 ≤ p.2) (hr : M.Pairwise fun p q => p.1 < q.1) : totW ps M ≤ sumW ps := by
  induction ps with
  | nil => simp [totW_nil, sumW]
  | cons q r ih =>
    have h1 := (totW_cons q r M (by have := hp q (by simp); omega) hr).1
    have h2 := ih (fun x hx => hp x (by simp [hx]))
    simp only [sumW]; omega

theorem sumW_tot {ps M : List (Int × Int)} (h : ∀ p ∈ M, p.2 = wOf ps p.1) : sumW M = totW ps M := by
  induction M with
  | nil => rfl
  | cons p M ih => simp only [sumW, totW]; rw [h p (by simp), ih (fun x hx => h x (by simp [hx]))]

theorem sumW_le {ps : List (Int × Int)} (hp : ∀ p ∈ ps, p.2 ≤ 1000) : sumW ps ≤ 1000 * ps.length := by
  induction ps with
  | nil => simp [sumW]
  | cons q r ih =>
    have h1 := hp q (by simp)
    have h2 := ih (fun x hx => hp x (by simp [hx]))
    simp only [sumW, List.length_cons]; omega

theorem clampW_in (z : Int) : 1 ≤ clampW z ∧ clampW z ≤ 1000 := by unfold clampW; split <;> omega
theorem clampV_in (z : Int) : -1000000000 ≤ clampV z ∧ clampV z ≤ 1000000000 := by unfold clampV; split <;> (try split) <;> omega

theorem pairs_in {vs ws : List Int} {p : Int × Int} (h : p ∈ pairsOf vs ws) : (1 ≤ p.2 ∧ p.2 ≤ 1000) ∧ (-1000000000 ≤ p.1 ∧ p.1 ≤ 1000000000) ∧ ∃ z ∈ vs, p.1 = clampV z := by
  unfold pairsOf at h
  obtain ⟨q, hq, rfl⟩ := List.mem_map.1 h
  exact ⟨clampW_in _, clampV_in _, q.1, (List.of_mem_zip hq).1, rfl⟩

theorem IsSum.good {vs ws : List Int} {M : List (Int × Int)} (h : IsSum (pairsOf vs ws) M) (hl : vs.length ≤ 2097152) : Good (rankL 0 M) := by
  have hp : ∀ p ∈ pairsOf vs ws, 1 ≤ p.2 := fun p hp => (pairs_in hp).1.1
  refine rank_good ?_ h.rise ?_ ?_
  · intro p hpM
    obtain ⟨q, hq, e⟩ := h.sub p hpM
    rw [h.wt p hpM, ← e]
    exact wOf_ge hp q hq
  · intro p hpM
    obtain ⟨q, hq, e⟩ := h.sub p hpM
    have := (pairs_in hq).2.1
    omega
  · have h1 := totW_le hp h.rise
    have h2 := sumW_le (fun p hp => (pairs_in hp).1.2 : ∀ p ∈ pairsOf vs ws, p.2 ≤ 1000)
    rw [sumW_tot h.wt]
    have h3 : (pairsOf vs ws).length ≤ 2097152 := by rw [pairsOf_len]; omega
    omega

/-! ### Joining -/

def e0 : Ent := ⟨0, 0, 0, 0⟩
def totalL (L : List Ent) : Int := if L.length = 0 then 0 else (L.getD (L.length - 1) e0).hi
def belowL (L : List Ent) (j : Nat) : Int := if j = 0 then 0 else (L.getD (j - 1) e0).lo + (L.getD (j - 1) e0).wt
def perhL (L : List Ent) (j : Nat) : Int := if j = L.length then totalL L else (L.getD j e0).hi - (L.getD j e0).wt
def seen (o : List Ent) (j : Nat) (e : Ent) : Ent := ⟨e.v, e.lo + belowL o j, e.hi + perhL o j, e.wt⟩
def sum2 (e f : Ent) : Ent := ⟨e.v, e.lo + f.lo, e.hi + f.hi, e.wt + f.wt⟩

def joinF (a b : List Ent) : Nat → Nat → Nat → List Ent
  | 0, _, _ => []
  | n + 1, i, j =>
    if i < a.length ∧ (j < b.length → (a.getD i e0).v < (b.getD j e0).v) then seen b j (a.getD i e0) :: joinF a b n (i + 1) j
    else if j < b.length ∧ (i < a.length → (b.getD j e0).v < (a.getD i e0).v) then seen a i (b.getD j e0) :: joinF a b n i (j + 1)
    else if i < a.length ∧ j < b.length then sum2 (a.getD i e0) (b.getD j e0) :: joinF a b n (i + 1) (j + 1)
    else []

def joinL (a b : List Ent) : List Ent := joinF a b (a.length + b.length) 0 0

theorem joinF_fuel (a b : List Ent) : ∀ n m i j, a.length - i + (b.length - j) ≤ n → a.length - i + (b.length - j) ≤ m → joinF a b n i j = joinF a b m i j
  | 0, 0, _, _, _, _ => rfl
  | 0, m + 1, i, j, h, _ => by
    simp only [joinF]
    rw [if_neg (by omega), if_neg (by omega), if_neg (by omega)]
  | n + 1, 0, i, j, _, h => by
    simp only [joinF]
    rw [if_neg (by omega), if_neg (by omega), if_neg (by omega)]
  | n + 1, m + 1, i, j, h, h' => by
    simp only [joinF]
    split
    · rw [joinF_fuel a b n m (i + 1) j (by omega) (by omega)]
    · split
      · rw [joinF_fuel a b n m i (j + 1) (by omega) (by omega)]
      · split
        · rw [joinF_fuel a b n m (i + 1) (j + 1) (by omega) (by omega)]
        · rfl

/-- WHAT IS STILL TO COME. -/
def restJ (a b : List Ent) (i j : Nat) : List Ent := joinF a b (a.length - i + (b.length - j)) i j

theorem restJ_zero (a b : List Ent) : restJ a b 0 0 = joinL a b := by unfold restJ joinL; simp
theorem restJ_a {a b : List Ent} {i j : Nat} (hi : i < a.length) (h : j < b.length → (a.getD i e0).v < (b.getD j e0).v) : restJ a b i j = seen b j (a.getD i e0) :: restJ a b (i + 1) j := by
  unfold restJ
  rw [show a.length - i + (b.length - j) = (a.length - (i + 1) + (b.length - j)) + 1 by omega]
  simp only [joinF]
  rw [if_pos ⟨hi, h⟩]
theorem restJ_b {a b : List Ent} {i j : Nat} (hj : j < b.length) (h : i < a.length → (b.getD j e0).v < (a.getD i e0).v) : restJ a b i j = seen a i (b.getD j e0) :: restJ a b i (j + 1) := by
  unfold restJ
  rw [show a.length - i + (b.length - j) = (a.length - i + (b.length - (j + 1))) + 1 by omega]
  simp only [joinF]
  rw [if_neg (fun hc => by have h1 := hc.2 hj; have h2 := h hc.1; omega), if_pos ⟨hj, h⟩]
theorem restJ_ab {a b : List Ent} {i j : Nat} (hi : i < a.length) (hj : j < b.length) (h : (a.getD i e0).v = (b.getD j e0).v) : restJ a b i j = sum2 (a.getD i e0) (b.getD j e0) :: restJ a b (i + 1) (j + 1) := by
  unfold restJ
  rw [show a.length - i + (b.length - j) = (a.length - (i + 1) + (b.length - (j + 1)) + 1) + 1 by omega]
  simp only [joinF]
  rw [if_neg (fun hc => by have h1 := hc.2 hj; omega), if_neg (fun hc => by have h1 := hc.2 hi; omega), if_pos ⟨hi, hj⟩]
  congr 1
  exact joinF_fuel a b (a.length - (i + 1) + (b.length - (j + 1)) + 1) (a.length - (i + 1) + (b.length - (j + 1))) (i + 1) (j + 1) (by omega) (by omega)
theorem restJ_end {a b : List Ent} {i j : Nat} (hi : ¬ i < a.length) (hj : ¬ j < b.length) : restJ a b i j = [] := by
  unfold restJ
  rw [show a.length - i + (b.length - j) = 0 by omega]
  rfl

theorem getD_mem {L : List Ent} {i : Nat} (h : i < L.length) : L.getD i e0 ∈ L := by
  simp [List.getD, h]
theorem Good.at {L : List Ent} (g : Good L) {i : Nat} (h : i < L.length) : 0 ≤ (L.getD i e0).lo ∧ 1 ≤ (L.getD i e0).wt ∧ (L.getD i e0).lo + (L.getD i e0).wt ≤ (L.getD i e0).hi ∧ (L.getD i e0).hi ≤ 1000000000000 ∧ -1000000000 ≤ (L.getD i e0).v ∧ (L.getD i e0).v ≤ 1000000000 := g.each _ (getD_mem h)
theorem Good.lt {L : List Ent} (g : Good L) {i j : Nat} (hij : i < j) (h : j < L.length) : (L.getD i e0).v < (L.getD j e0).v ∧ (L.getD i e0).lo + (L.getD i e0).wt ≤ (L.getD j e0).lo ∧ (L.getD i e0).hi ≤ (L.getD j e0).hi - (L.getD j e0).wt := by
  have := List.pairwise_iff_getElem.1 g.step i j (by omega) h hij
  have e1 : L.getD i e0 = L[i]'(by omega) := by simp [List.getD, show i < L.length by omega]
  have e2 : L.getD j e0 = L[j] := by simp [List.getD, h]
  rw [e1, e2]
  exact this

theorem perh_succ {L : List Ent} (g : Good L) {i : Nat} (h : i < L.length) : (L.getD i e0).hi ≤ perhL L (i + 1) ∧ perhL L i ≤ perhL L (i + 1) ∧ perhL L i = (L.getD i e0).hi - (L.getD i e0).wt := by
  have a := g.at h
  have e : perhL L i = (L.getD i e0).hi - (L.getD i e0).wt := by unfold perhL; rw [if_neg (by omega)]
  have k : (L.getD i e0).hi ≤ perhL L (i + 1) := by
    unfold perhL
    split
    · unfold totalL; rw [if_neg (by omega)]
      rw [show L.length - 1 = i by omega]; exact Int.le_refl _
    · exact (g.lt (show i < i + 1 by omega) (by omega)).2.2
  exact ⟨k, by omega, e⟩

theorem below_at {L : List Ent} (g : Good L) {i : Nat} (h : i < L.length) : belowL L i ≤ (L.getD i e0).lo ∧ belowL L (i + 1) = (L.getD i e0).lo + (L.getD i e0).wt := by
  refine ⟨?_, by unfold belowL; simp⟩
  unfold belowL
  split
  · exact (g.at h).1
  · exact (g.lt (show i - 1 < i by omega) h).2.1

theorem total_at {L : List Ent} (g : Good L) {i : Nat} (h : i < L.length) : (L.getD i e0).hi ≤ totalL L := by
  unfold totalL
  rw [if_neg (by omega)]
  by_cases e : i = L.length - 1
  · rw [e]; exact Int.le_refl _
  · have h1 := (g.lt (show i < L.length - 1 by omega) (by omega)).2.2
    have h2 := g.at (show L.length - 1 < L.length by omega)
    omega

theorem perh_le {L : List Ent} (g : Good L) {j : Nat} (h : j ≤ L.length) : perhL L j ≤ totalL L ∧ 0 ≤ belowL L j ∧ belowL L j ≤ perhL L j := by
  by_cases e : j = L.length
  · have hp : perhL L j = totalL L := by unfold perhL; rw [if_pos e]
    rw [hp]
    refine ⟨Int.le_refl _, ?_, ?_⟩
    · unfold belowL; split
      · omega
      · have := g.at (show j - 1 < L.length by omega); omega
    · unfold belowL totalL; split
      · rw [if_pos (by omega)]; omega
      · have := g.at (show j - 1 < L.length by omega); rw [if_neg (by omega), ← e]; omega
  · have hj : j < L.length := by omega
    have h1 := perh_succ g hj
    have h2 := total_at g hj
    have h3 := g.at hj
    have h4 := below_at g hj
    refine ⟨by omega, ?_, ?_⟩
    · unfold belowL; split
      · omega
      · have := g.at (show j - 1 < L.length by omega); omega
    · unfold belowL; split
      · omega
      · have := g.lt (show j - 1 < j by omega) hj; have := g.at (show j - 1 < L.length by omega); omega

/-- WHAT EVERY ENTRY THAT IS STILL TO COME KEEPS. -/
structure ComeJ (a b : List Ent) (i j : Nat) (f : Ent) : Prop where
  lo : belowL a i + belowL b j ≤ f.lo
  hi : perhL a i + perhL b j ≤ f.hi - f.wt
  top : f.hi ≤ totalL a + totalL b
  wt : 1 ≤ f.wt
  rng : f.lo + f.wt ≤ f.hi
  va : 0 < i → (a.getD (i - 1) e0).v < f.v
  vb : 0 < j → (b.getD (j - 1) e0).v < f.v
  from_ : (∃ e ∈ a, e.v = f.v) ∨ ∃ e ∈ b, e.v = f.v

theorem ComeJ.back {a b : List Ent} (ga : Good a) (gb : Good b) {i j i' j' : Nat} {f : Ent} (h : ComeJ a b i' j' f) (hi : i ≤ i') (hj : j ≤ j') (hi2 : i' ≤ i + 1) (hj2 : j' ≤ j + 1) (hil : i' ≤ a.length) (hjl : j' ≤ b.length) : ComeJ a b i j f := by
  have ka : belowL a i ≤ belowL a i' ∧ perhL a i ≤ perhL a i' ∧ (0 < i → (a.getD (i - 1) e0).v < f.v) := by
    by_cases e : i' = i
    · subst e; exact ⟨Int.le_refl _, Int.le_refl _, h.va⟩
    · obtain rfl : i' = i + 1 := by omega
      have h1 := below_at ga (show i < a.length by omega)
      have h2 := perh_succ ga (show i < a.length by omega)
      have h3 := ga.at (show i < a.length by omega)
      refine ⟨by omega, by omega, fun h0 => ?_⟩
      have h4 := (ga.lt (show i - 1 < i by omega) (by omega)).1
      have h5 := h.va (by omega)
      simp only [Nat.add_sub_cancel] at h5
      omega
  have kb : belowL b j ≤ belowL b j' ∧ perhL b j ≤ perhL b j' ∧ (0 < j → (b.getD (j - 1) e0).v < f.v) := by
    by_cases e : j' = j
    · subst e; exact ⟨Int.le_refl _, Int.le_refl _, h.vb⟩
    · obtain rfl : j' = j + 1 := by omega
      have h1 := below_at gb (show j < b.length by omega)
      have h2 := perh_succ gb (show j < b.length by omega)
      have h3 := gb.at (show j < b.length by omega)
      refine ⟨by omega, by omega, fun h0 => ?_⟩
      have h4 := (gb.lt (show j - 1 < j by omega) (by omega)).1
      have h5 := h.vb (by omega)
      simp only [Nat.add_sub_cancel] at h5
      omega
  have h1 := h.lo
  have h2 := h.hi
  exact ⟨by omega, by omega, h.top, h.wt, h.rng, ka.2.2, kb.2.2, h.from_⟩

def StepJ (e f : Ent) : Prop := e.v < f.v ∧ e.lo + e.wt ≤ f.lo ∧ e.hi ≤ f.hi - f.wt

theorem joinF_keeps {a b : List Ent} (ga : Good a) (gb : Good b) : ∀ n i j, i ≤ a.length → j ≤ b.length → (i < a.length → 0 < j → (b.getD (j - 1) e0).v < (a.getD i e0).v) → (j < b.length → 0 < i → (a.getD (i - 1) e0).v < (b.getD j e0).v) →
    (∀ f ∈ joinF a b n i j, ComeJ a b i j f) ∧ (joinF a b n i j).Pairwise StepJ
  | 0, i, j, _, _, _, _ => by simp [joinF]
  | n + 1, i, j, hi, hj, hva, hvb => by
    simp only [joinF]
    split
    · rename_i h
      have a1 := ga.at h.1
      have a2 := below_at ga h.1
      have a3 := perh_succ ga h.1
      have a4 := total_at ga h.1
      have b1 := perh_le gb hj
      have ih := joinF_keeps ga gb n (i + 1) j (by omega) hj (fun h1 h0 => by have := hva h.1 h0; have := (ga.lt (show i < i + 1 by omega) h1).1; omega) (fun h1 _ => by simpa using h.2 h1)
      refine ⟨fun f hf => ?_, ?_⟩
      · rcases List.mem_cons.1 hf with rfl | hf
        · refine ⟨?_, ?_, ?_, a1.2.1, ?_, ?_, fun h0 => hva h.1 h0, .inl ⟨_, getD_mem h.1, rfl⟩⟩
          · simp only [seen]; omega
          · simp only [seen]; omega
          · simp only [seen]; omega
          · simp only [seen]; omega
          · intro h0; exact (ga.lt (show i - 1 < i by omega) h.1).1
        · exact (ih.1 f hf).back ga gb (by omega) (by omega) (by omega) (by omega) (by omega) hj
      · rw [List.pairwise_cons]
        refine ⟨fun f hf => ?_, ih.2⟩
        have c := ih.1 f hf
        have c1 := c.lo
        have c2 := c.hi
        have c3 := c.va (by omega)
        simp only [Nat.add_sub_cancel] at c3
        unfold StepJ
        simp only [seen]
        omega
    · split
      · rename_i _ h
        have a1 := gb.at h.1
        have a2 := below_at gb h.1
        have a3 := perh_succ gb h.1
        have a4 := total_at gb h.1
        have b1 := perh_le ga hi
        have ih := joinF_keeps ga gb n i (j + 1) hi (by omega) (fun h1 _ => by simpa using h.2 h1) (fun h1 h0 => by have := hvb h.1 h0; have := (gb.lt (show j < j + 1 by omega) h1).1; omega)
        refine ⟨fun f hf => ?_, ?_⟩
        · rcases List.mem_cons.1 hf with rfl | hf
          · refine ⟨?_, ?_, ?_, a1.2.1, ?_, fun h0 => hvb h.1 h0, ?_, .inr ⟨_, getD_mem h.1, rfl⟩⟩
            · simp only [seen]; omega
            · simp only [seen]; omega
            · simp only [seen]; omega
            · simp only [seen]; omega
            · intro h0; exact (gb.lt (show j - 1 < j by omega) h.1).1
          · exact (ih.1 f hf).back ga gb (by omega) (by omega) (by omega) (by omega) hi (by omega)
        · rw [List.pairwise_cons]
          refine ⟨fun f hf => ?_, ih.2⟩
          have c := ih.1 f hf
          have c1 := c.lo
          have c2 := c.hi
          have c3 := c.vb (by omega)
          simp only [Nat.add_sub_cancel] at c3
          unfold StepJ
          simp only [seen]
          omega
      · split
        · rename_i hA hB h
          have he : (a.getD i e0).v = (b.getD j e0).v := by
            have h1 : ¬ (a.getD i e0).v < (b.getD j e0).v := fun hc => hA ⟨h.1, fun _ => hc⟩
            have h2 : ¬ (b.getD j e0).v < (a.getD i e0).v := fun hc => hB ⟨h.2, fun _ => hc⟩
            omega
          have a1 := ga.at h.1
          have a2 := below_at ga h.1
          have a3 := perh_succ ga h.1
          have a4 := total_at ga h.1
          have b1 := gb.at h.2
          have b2 := below_at gb h.2
          have b3 := perh_succ gb h.2
          have b4 := total_at gb h.2
          have ih := joinF_keeps ga gb n (i + 1) (j + 1) (by omega) (by omega) (fun h1 _ => by have := (ga.lt (show i < i + 1 by omega) h1).1; simp only [Nat.add_sub_cancel]; omega) (fun h1 _ => by have := (gb.lt (show j < j + 1 by omega) h1).1; simp only [Nat.add_sub_cancel]; omega)
          refine ⟨fun f hf => ?_, ?_⟩
          · rcases List.mem_cons.1 hf with rfl | hf
            · refine ⟨?_, ?_, ?_, ?_, ?_, ?_, ?_, .inl ⟨_, getD_mem h.1, rfl⟩⟩
              · simp only [sum2]; omega
              · simp only [sum2]; omega
              · simp only [sum2]; omega
              · simp only [sum2]; omega
              · simp only [sum2]; omega
              · intro h0; exact (ga.lt (show i - 1 < i by omega) h.1).1
              · intro h0; have := (gb.lt (show j - 1 < j by omega) h.2).1; simp only [sum2]; omega
            · exact (ih.1 f hf).back ga gb (by omega) (by omega) (by omega) (by omega) (by omega) (by omega)
          · rw [List.pairwise_cons]
            refine ⟨fun f hf => ?_, ih.2⟩
            have c := ih.1 f hf
            have c1 := c.lo
            have c2 := c.hi
            have c3 := c.va (by omega)
            simp only [Nat.add_sub_cancel] at c3
            unfold StepJ
            simp only [sum2]
            omega
        · simp

theorem joinL_good {a b : List Ent} (ga : Good a) (gb : Good b) (ht : totalL a + totalL b ≤ 1000000000000) : Good (joinL a b) := by
  have h := joinF_keeps ga gb (a.length + b.length) 0 0 (by omega) (by omega) (fun _ h => absurd h (by omega)) (fun _ h => absurd h (by omega))
  refine ⟨fun f hf => ?_, h.2⟩
  have c := h.1 f hf
  have c1 := c.lo
  have c4 := c.top
  have c5 := c.wt
  have c6 := c.rng
  have : belowL a 0 = 0 := rfl
  have : belowL b 0 = 0 := rfl
  rcases c.from_ with ⟨e, he, ev⟩ | ⟨e, he, ev⟩
  · have := ga.each e he; omega
  · have := gb.each e he; omega

theorem joinL_from {a b : List Ent} (ga : Good a) (gb : Good b) : ∀ f ∈ joinL a b, (∃ e ∈ a, e.v = f.v) ∨ ∃ e ∈ b, e.v = f.v := by
  have h := joinF_keeps ga gb (a.length + b.length) 0 0 (by omega) (by omega) (fun _ h => absurd h (by omega)) (fun _ h => absurd h (by omega))
  exact fun f hf => (h.1 f hf).from_
end Go.Proofs.YtfcgnpchbcmdeaaGreat
