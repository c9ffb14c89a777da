/-
  A summary is true: the mathematics (P9).
  The summary of a feature, in blocks: the mathematics.
  Contracts of the functions that make one entry of a joined summary: what a summary knows of a value.
-/
import Derived.Test.YtfcgnpchbcmdeaaGreatZtaa
import Derived.Test.YtfcgnpchbcmdeaaGreatZtab
import Derived.Deep.RegionWith
import Derived.Deep.DeepCutAuto
namespace Go.Proofs.YtfcgnpchbcmdeaaGreat

/-- What the lesser values weigh. -/
def lowW : List (Int × Int) → Int → Int
  | [], _ => 0
  | p :: r, x => (if p.1 < x then p.2 else 0) + lowW r x

theorem lowW_append (a b : List (Int × Int)) (x : Int) : lowW (a ++ b) x = lowW a x + lowW b x := by
  induction a with
  | nil => simp [lowW]
  | cons p r ih => simp only [List.cons_append, lowW, ih]; omega
theorem wOf_app (a b : List (Int × Int)) (x : Int) : wOf (a ++ b) x = wOf a x + wOf b x := by
  induction a with
  | nil => simp [wOf]
  | cons p r ih => simp only [List.cons_append, wOf, ih]; omega

def Pos (ps : List (Int × Int)) : Prop := ∀ p ∈ ps, 1 ≤ p.2
theorem Pos.tail {p : Int × Int} {r : List (Int × Int)} (h : Pos (p :: r)) : Pos r := fun q hq => h q (by simp [hq])
theorem Pos.append {a b : List (Int × Int)} (h : Pos a) (k : Pos b) : Pos (a ++ b) := fun q hq => by
  rcases List.mem_append.1 hq with e | e
  · exact h q e
  · exact k q e

theorem low_lt {ps : List (Int × Int)} (hp : Pos ps) {x y : Int} (h : x < y) : lowW ps x + wOf ps x ≤ lowW ps y := by
  induction ps with
  | nil => simp [lowW, wOf]
  | cons p r ih =>
    have h1 := hp p (by simp)
    have h2 := ih hp.tail
    simp only [lowW, wOf]
    by_cases a : p.1 < x
    · rw [if_pos a, if_neg (by omega), if_pos (by omega)]; omega
    · by_cases b : p.1 = x
      · rw [if_neg a, if_pos b, if_pos (by omega)]; omega
      · rw [if_neg a, if_neg b]
        by_cases c : p.1 < y
        · rw [if_pos c]; omega
        · rw [if_neg c]; omega
theorem low_all {ps : List (Int × Int)} (hp : Pos ps) (x : Int) : 0 ≤ lowW ps x ∧ 0 ≤ wOf ps x ∧ lowW ps x + wOf ps x ≤ sumW ps := by
  induction ps with
  | nil => simp [lowW, wOf, sumW]
  | cons p r ih =>
    have h1 := hp p (by simp)
    obtain ⟨h2, h3, h4⟩ := ih hp.tail
    simp only [lowW, wOf, sumW]
    by_cases a : p.1 < x
    · rw [if_pos a, if_neg (by omega)]; omega
    · rw [if_neg a]
      by_cases b : p.1 = x
      · rw [if_pos b]; omega
      · rw [if_neg b]; omega

/-- A SUMMARY THAT IS TRUE of values and weights. -/
structure SumTrue (ps : List (Int × Int)) (L : List Ent) : Prop where
  each : ∀ e ∈ L, e.lo ≤ lowW ps e.v ∧ lowW ps e.v + wOf ps e.v ≤ e.hi ∧ e.wt ≤ wOf ps e.v
  least : ∀ q ∈ ps, ∃ e ∈ L, e.v ≤ q.1
  most : ∀ q ∈ ps, ∃ e ∈ L, q.1 ≤ e.v
  total : totalL L = sumW ps

theorem SumTrue.nil : SumTrue [] [] := ⟨by simp, by simp, by simp, by simp [totalL, sumW]⟩

/-- What a value that one has takes from the other. -/
theorem seen_true {ps qs : List (Int × Int)} {b : List Ent} {e : Ent} {j : Nat} (hq : Pos qs) (hb : SumTrue qs b) (he : e.lo ≤ lowW ps e.v ∧ lowW ps e.v + wOf ps e.v ≤ e.hi ∧ e.wt ≤ wOf ps e.v) (hj : j ≤ b.length)
    (h1 : 0 < j → (b.getD (j - 1) e0).v < e.v) (h2 : j < b.length → e.v < (b.getD j e0).v) :
    (seen b j e).lo ≤ lowW ps e.v + lowW qs e.v ∧ (lowW ps e.v + lowW qs e.v) + (wOf ps e.v + wOf qs e.v) ≤ (seen b j e).hi ∧ (seen b j e).wt ≤ wOf ps e.v + wOf qs e.v := by
  have hall := low_all hq e.v
  have lo : belowL b j ≤ lowW qs e.v := by
    unfold belowL
    split
    · omega
    · rename_i hn
      have hm := getD_mem (show j - 1 < b.length by omega)
      obtain ⟨k1, k2, k3⟩ := hb.each _ hm
      have := low_lt hq (h1 (by omega))
      omega
  have hi : lowW qs e.v + wOf qs e.v ≤ perhL b j := by
    unfold perhL
    split
    · rw [hb.total]; exact hall.2.2
    · rename_i hn
      have hjl : j < b.length := by omega
      obtain ⟨k1, k2, k3⟩ := hb.each _ (getD_mem hjl)
      have := low_lt hq (h2 hjl)
      omega
  simp only [seen]
  omega

/-- What a join tells of each of its entries. -/
theorem joinF_true {ps qs : List (Int × Int)} {a b : List Ent} (hp : Pos ps) (hq : Pos qs) (ga : Good a) (gb : Good b) (ha : SumTrue ps a) (hb : SumTrue qs b) :
    ∀ n i j, i ≤ a.length → j ≤ b.length → (i < a.length → 0 < j → (b.getD (j - 1) e0).v < (a.getD i e0).v) → (j < b.length → 0 < i → (a.getD (i - 1) e0).v < (b.getD j e0).v) →
      ∀ f ∈ joinF a b n i j, f.lo ≤ lowW (ps ++ qs) f.v ∧ lowW (ps ++ qs) f.v + wOf (ps ++ qs) f.v ≤ f.hi ∧ f.wt ≤ wOf (ps ++ qs) f.v
  | 0, i, j, _, _, _, _ => by simp [joinF]
  | n + 1, i, j, hi, hj, ia, ib => by
    intro f hf
    simp only [joinF] at hf
    split at hf
    · rename_i c
      rcases List.mem_cons.1 hf with rfl | hf
      · rw [lowW_append, wOf_app]
        have := seen_true (ps := ps) hq hb (ha.each _ (getD_mem c.1)) hj (ia c.1) c.2
        exact this
      · refine joinF_true hp hq ga gb ha hb n (i + 1) j (by omega) hj (fun h1 h2 => ?_) (fun h1 _ => ?_) f hf
        · have := ia c.1 h2
          have := (ga.lt (show i < i + 1 by omega) h1).1
          omega
        · exact c.2 h1
    · rename_i c
      split at hf
      · rename_i d
        rcases List.mem_cons.1 hf with rfl | hf
        · rw [lowW_append, wOf_app]
          have := seen_true (ps := qs) hp ha (hb.each _ (getD_mem d.1)) hi (ib d.1) d.2
          show _ ≤ _ + _ ∧ _ + _ + (_ + _) ≤ _ ∧ _ ≤ _ + _
          simp only [seen] at this ⊢
          omega
        · refine joinF_true hp hq ga gb ha hb n i (j + 1) hi (by omega) (fun h1 _ => ?_) (fun h1 h2 => ?_) f hf
          · exact d.2 h1
          · have := ib d.1 h2
            have := (gb.lt (show j < j + 1 by omega) h1).1
            omega
      · rename_i d
        split at hf
        · rename_i k
          have hv : (a.getD i e0).v = (b.getD j e0).v := by
            rcases Int.lt_trichotomy (a.getD i e0).v (b.getD j e0).v with h | h | h
            · exact absurd ⟨k.1, fun _ => h⟩ c
            · exact h
            · exact absurd ⟨k.2, fun _ => h⟩ d
          rcases List.mem_cons.1 hf with rfl | hf
          · rw [lowW_append, wOf_app]
            have e1 := ha.each _ (getD_mem k.1)
            have e2 := hb.each _ (getD_mem k.2)
            simp only [sum2]
            rw [← hv] at e2
            omega
          · refine joinF_true hp hq ga gb ha hb n (i + 1) (j + 1) (by omega) (by omega) (fun h1 _ => ?_) (fun h1 _ => ?_) f hf
            · have := (ga.lt (show i < i + 1 by omega) h1).1
              show (b.getD j e0).v < _
              omega
            · have := (gb.lt (show j < j + 1 by omega) h1).1
              show (a.getD i e0).v < _
              omega
        · simp at hf

theorem joinF_has (a b : List Ent) : ∀ n i j, a.length - i + (b.length - j) ≤ n →
    (∀ k, i ≤ k → k < a.length → ∃ f ∈ joinF a b n i j, f.v = (a.getD k e0).v) ∧ (∀ k, j ≤ k → k < b.length → ∃ f ∈ joinF a b n i j, f.v = (b.getD k e0).v)
  | 0, i, j, h => ⟨fun k h1 h2 => by omega, fun k h1 h2 => by omega⟩
  | n + 1, i, j, h => by
    simp only [joinF]
    split
    · rename_i c
      obtain ⟨p, q⟩ := joinF_has a b n (i + 1) j (by omega)
      refine ⟨fun k h1 h2 => ?_, fun k h1 h2 => ?_⟩
      · by_cases e : k = i
        · subst e; exact ⟨_, List.mem_cons_self, rfl⟩
        · obtain ⟨f, hf, e⟩ := p k (by omega) h2
          exact ⟨f, by simp [hf], e⟩
      · obtain ⟨f, hf, e⟩ := q k h1 h2
        exact ⟨f, by simp [hf], e⟩
    · rename_i c
      split
      · rename_i d
        obtain ⟨p, q⟩ := joinF_has a b n i (j + 1) (by omega)
        refine ⟨fun k h1 h2 => ?_, fun k h1 h2 => ?_⟩
        · obtain ⟨f, hf, e⟩ := p k h1 h2
          exact ⟨f, by simp [hf], e⟩
        · by_cases e : k = j
          · subst e; exact ⟨_, List.mem_cons_self, rfl⟩
          · obtain ⟨f, hf, e⟩ := q k (by omega) h2
            exact ⟨f, by simp [hf], e⟩
      · rename_i d
        split
        · rename_i m
          have hv : (a.getD i e0).v = (b.getD j e0).v := by
            rcases Int.lt_trichotomy (a.getD i e0).v (b.getD j e0).v with h | h | h
            · exact absurd ⟨m.1, fun _ => h⟩ c
            · exact h
            · exact absurd ⟨m.2, fun _ => h⟩ d
          obtain ⟨p, q⟩ := joinF_has a b n (i + 1) (j + 1) (by omega)
          refine ⟨fun k h1 h2 => ?_, fun k h1 h2 => ?_⟩
          · by_cases e : k = i
            · subst e; exact ⟨_, List.mem_cons_self, rfl⟩
            · obtain ⟨f, hf, e⟩ := p k (by omega) h2
              exact ⟨f, by simp [hf], e⟩
          · by_cases e : k = j
            · subst e; exact ⟨_, List.mem_cons_self, hv⟩
            · obtain ⟨f, hf, e⟩ := q k (by omega) h2
              exact ⟨f, by simp [hf], e⟩
        · rename_i m
          refine ⟨fun k h1 h2 => ?_, fun k h1 h2 => ?_⟩
          · exfalso
            have hi : i < a.length := by omega
            by_cases hj : j < b.length
            · exact m ⟨hi, hj⟩
            · exact c ⟨hi, fun x => absurd x hj⟩
          · exfalso
            have hj : j < b.length := by omega
            by_cases hi : i < a.length
            · exact m ⟨hi, hj⟩
            · exact d ⟨hj, fun x => absurd x hi⟩

theorem total_cons (e f : Ent) (L : List Ent) : totalL (e :: f :: L) = totalL (f :: L) := by
  unfold totalL
  simp [List.getD]
theorem total_one (e : Ent) : totalL [e] = e.hi := by simp [totalL]

theorem joinF_total (a b : List Ent) : ∀ n i j, i ≤ a.length → j ≤ b.length → a.length - i + (b.length - j) ≤ n → (i < a.length ∨ j < b.length) → totalL (joinF a b n i j) = totalL a + totalL b
  | 0, i, j, _, _, h, h' => by omega
  | n + 1, i, j, hi, hj, h, h' => by
    have step : ∀ (f : Ent) (i' j' : Nat), i' ≤ a.length → j' ≤ b.length → a.length - i' + (b.length - j') ≤ n → (i' = a.length → j' = b.length → f.hi = totalL a + totalL b) → totalL (f :: joinF a b n i' j') = totalL a + totalL b := fun f i' j' q1 q2 q3 q4 => by
      by_cases e : i' < a.length ∨ j' < b.length
      · have ih := joinF_total a b n i' j' q1 q2 q3 e
        cases hJ : joinF a b n i' j' with
        | nil =>
          exfalso
          obtain ⟨p, q⟩ := joinF_has a b n i' j' q3
          rcases e with e | e
          · obtain ⟨f, hf, _⟩ := p i' (Nat.le_refl _) e
            rw [hJ] at hf; cases hf
          · obtain ⟨f, hf, _⟩ := q j' (Nat.le_refl _) e
            rw [hJ] at hf; cases hf
        | cons g R =>
          rw [hJ] at ih
          rw [total_cons]; exact ih
      · have hnil : joinF a b n i' j' = [] := by
          cases n with
          | zero => rfl
          | succ n =>
            simp only [joinF]
            rw [if_neg (by omega), if_neg (by omega), if_neg (by omega)]
        rw [hnil, total_one]
        exact q4 (by omega) (by omega)
    simp only [joinF]
    split
    · rename_i c
      refine step _ _ _ (by omega) hj (by omega) (fun e1 e2 => ?_)
      have : totalL a = (a.getD i e0).hi := by unfold totalL; rw [if_neg (by omega), show a.length - 1 = i by omega]
      simp only [seen, perhL]
      rw [if_pos e2, this]
    · rename_i c
      split
      · rename_i d
        refine step _ _ _ hi (by omega) (by omega) (fun e1 e2 => ?_)
        have : totalL b = (b.getD j e0).hi := by unfold totalL; rw [if_neg (by omega), show b.length - 1 = j by omega]
        simp only [seen, perhL]
        rw [if_pos e1, this]; omega
      · rename_i d
        split
        · rename_i m
          refine step _ _ _ (by omega) (by omega) (by omega) (fun e1 e2 => ?_)
          have t1 : totalL a = (a.getD i e0).hi := by unfold totalL; rw [if_neg (by omega), show a.length - 1 = i by omega]
          have t2 : totalL b = (b.getD j e0).hi := by unfold totalL; rw [if_neg (by omega), show b.length - 1 = j by omega]
          simp only [sum2]
          rw [t1, t2]
        · rename_i m
          exfalso
          rcases h' with e | e
          · by_cases hj : j < b.length
            · exact m ⟨e, hj⟩
            · exact c ⟨e, fun x => absurd x hj⟩
          · by_cases hi : i < a.length
            · exact m ⟨hi, e⟩
            · exact d ⟨e, fun x => absurd x hi⟩

theorem mem_getD {L : List Ent} {e : Ent} (h : e ∈ L) : ∃ k, k < L.length ∧ L.getD k e0 = e := by
  obtain ⟨k, hk, rfl⟩ := List.getElem_of_mem h
  exact ⟨k, hk, by simp [List.getD, hk]⟩

/-- JOINED, A SUMMARY IS TRUE of both. -/
theorem SumTrue.join {ps qs : List (Int × Int)} {a b : List Ent} (hp : Pos ps) (hq : Pos qs) (ga : Good a) (gb : Good b) (ha : SumTrue ps a) (hb : SumTrue qs b) : SumTrue (ps ++ qs) (joinL a b) := by
  have has := joinF_has a b (a.length + b.length) 0 0 (by omega)
  refine ⟨joinF_true hp hq ga gb ha hb _ 0 0 (by omega) (by omega) (fun _ h => absurd h (by omega)) (fun _ h => absurd h (by omega)), fun q hq' => ?_, fun q hq' => ?_, ?_⟩
  · rcases List.mem_append.1 hq' with h | h
    · obtain ⟨e, he, hle⟩ := ha.least q h
      obtain ⟨k, hk, rfl⟩ := mem_getD he
      obtain ⟨f, hf, ev⟩ := has.1 k (by omega) hk
      exact ⟨f, hf, by omega⟩
    · obtain ⟨e, he, hle⟩ := hb.least q h
      obtain ⟨k, hk, rfl⟩ := mem_getD he
      obtain ⟨f, hf, ev⟩ := has.2 k (by omega) hk
      exact ⟨f, hf, by omega⟩
  · rcases List.mem_append.1 hq' with h | h
    · obtain ⟨e, he, hle⟩ := ha.most q h
      obtain ⟨k, hk, rfl⟩ := mem_getD he
      obtain ⟨f, hf, ev⟩ := has.1 k (by omega) hk
      exact ⟨f, hf, by omega⟩
    · obtain ⟨e, he, hle⟩ := hb.most q h
      obtain ⟨k, hk, rfl⟩ := mem_getD he
      obtain ⟨f, hf, ev⟩ := has.2 k (by omega) hk
      exact ⟨f, hf, by omega⟩
  · rw [sumW_append, ← ha.total, ← hb.total]
    by_cases h : 0 < a.length ∨ 0 < b.length
    · exact joinF_total a b _ 0 0 (by omega) (by omega) (by omega) h
    · have h1 : a = [] := List.eq_nil_of_length_eq_zero (by omega)
      have h2 : b = [] := List.eq_nil_of_length_eq_zero (by omega)
      subst h1 h2
      rfl

theorem kept_first (L : List Ent) (s : Nat) : ∀ k, L.getD 0 e0 ∈ keptK L s k
  | 0 => by simp [keptK]
  | k + 1 => by
    simp only [keptK]
    split
    · exact kept_first L s k
    · exact List.mem_append_left _ (kept_first L s k)

theorem total_snoc (A : List Ent) (e : Ent) : totalL (A ++ [e]) = e.hi := by
  unfold totalL
  rw [if_neg (by simp)]
  simp [List.getD]

/-- CUT, A SUMMARY STAYS TRUE. -/
theorem SumTrue.cut {ps : List (Int × Int)} {L : List Ent} (g : Good L) (h : SumTrue ps L) (size : Int) : SumTrue ps (cutL L size) := by
  have sub := cutL_sub g size
  by_cases c : (L.length : Int) ≤ max size 2
  · have : cutL L size = L := by unfold cutL; rw [if_pos c]
    rw [this]; exact h
  · have e : cutL L size = keptK L (max size 2).toNat ((max size 2).toNat - 2) ++ [L.getD (L.length - 1) e0] := by unfold cutL; rw [if_neg c]
    have hl : 0 < L.length := by omega
    have m0 : L.getD 0 e0 ∈ cutL L size := by rw [e]; exact List.mem_append_left _ (kept_first _ _ _)
    have m1 : L.getD (L.length - 1) e0 ∈ cutL L size := by rw [e]; simp
    refine ⟨fun x hx => h.each x (sub.subset hx), fun q hq => ?_, fun q hq => ?_, ?_⟩
    · obtain ⟨x, hx, hle⟩ := h.least q hq
      obtain ⟨k, hk, rfl⟩ := mem_getD hx
      refine ⟨_, m0, ?_⟩
      by_cases k0 : k = 0
      · subst k0; exact hle
      · have := (g.lt (show 0 < k by omega) hk).1; omega
    · obtain ⟨x, hx, hle⟩ := h.most q hq
      obtain ⟨k, hk, rfl⟩ := mem_getD hx
      refine ⟨_, m1, ?_⟩
      by_cases k0 : k = L.length - 1
      · subst k0; exact hle
      · have := (g.lt (show k < L.length - 1 by omega) (by omega)).1; omega
    · rw [e, total_snoc, ← h.total]
      unfold totalL
      rw [if_neg (by omega)]

/-- The weight of the values of M. -/
theorem tot_step {M : List (Int × Int)} (hr : M.Pairwise fun p q => p.1 < q.1) (q : Int × Int) (r : List (Int × Int)) : totW (q :: r) M = totW r M + (if ∃ p ∈ M, p.1 = q.1 then q.2 else 0) := by
  induction M with
  | nil => simp [totW]
  | cons p N ih =>
    rw [List.pairwise_cons] at hr
    have := ih hr.2
    simp only [totW, wOf]
    rw [this]
    by_cases e : q.1 = p.1
    · rw [if_pos e]
      have h1 : ¬ ∃ x ∈ N, x.1 = q.1 := by
        rintro ⟨x, hx, hv⟩
        have := hr.1 x hx
        omega
      have h2 : ∃ x ∈ p :: N, x.1 = q.1 := ⟨p, by simp, e.symm⟩
      rw [if_neg h1, if_pos h2]; omega
    · rw [if_neg e]
      by_cases h1 : ∃ x ∈ N, x.1 = q.1
      · have h2 : ∃ x ∈ p :: N, x.1 = q.1 := by
          obtain ⟨x, hx, hv⟩ := h1
          exact ⟨x, by simp [hx], hv⟩
        rw [if_pos h1, if_pos h2]; omega
      · have h2 : ¬ ∃ x ∈ p :: N, x.1 = q.1 := by
          rintro ⟨x, hx, hv⟩
          rcases List.mem_cons.1 hx with rfl | hx
          · exact e hv.symm
          · exact h1 ⟨x, hx, hv⟩
        rw [if_neg h1, if_neg h2]; omega

theorem tot_low {M : List (Int × Int)} (hr : M.Pairwise fun p q => p.1 < q.1) (x : Int) : ∀ ps : List (Int × Int), (∀ q ∈ ps, ∃ p ∈ M, p.1 = q.1) → totW ps (M.filter fun p => decide (p.1 < x)) = lowW ps x
  | [], _ => by simp [lowW, totW_nil]
  | q :: r, h => by
    rw [tot_step (hr.sublist List.filter_sublist), tot_low hr x r (fun y hy => h y (by simp [hy]))]
    simp only [lowW]
    by_cases c : q.1 < x
    · rw [if_pos c, if_pos ?_]
      · omega
      · obtain ⟨p, hp, e⟩ := h q (by simp)
        exact ⟨p, by simp [hp]; omega, e⟩
    · rw [if_neg c, if_neg ?_]
      · omega
      · rintro ⟨p, hp, e⟩
        simp at hp
        omega
theorem tot_all {M : List (Int × Int)} (hr : M.Pairwise fun p q => p.1 < q.1) : ∀ ps : List (Int × Int), (∀ q ∈ ps, ∃ p ∈ M, p.1 = q.1) → totW ps M = sumW ps
  | [], _ => by simp [sumW, totW_nil]
  | q :: r, h => by
    rw [tot_step hr, tot_all hr r (fun y hy => h y (by simp [hy])), if_pos (h q (by simp))]
    simp only [sumW]; omega

theorem rank_low {x : Int} : ∀ (M : List (Int × Int)) (low : Int), M.Pairwise (fun p q => p.1 < q.1) → ∀ e ∈ rankL low M, e.lo = low + sumW (M.filter fun p => decide (p.1 < e.v))
  | [], _, _ => by simp [rankL]
  | p :: r, low, hr => by
    rw [List.pairwise_cons] at hr
    intro e he
    simp only [rankL] at he
    rcases List.mem_cons.1 he with rfl | he
    · have : (p :: r).filter (fun q => decide (q.1 < p.1)) = [] := by
        rw [List.filter_eq_nil_iff]
        intro q hq
        rcases List.mem_cons.1 hq with rfl | hq
        · simp
        · have := hr.1 q hq; simp; omega
      show low = low + sumW ((p :: r).filter fun q => decide (q.1 < p.1))
      rw [this]; simp [sumW]
    · have h1 := rank_low (x := x) r (low + p.2) hr.2 e he
      have h2 : p.1 < e.v := by
        have : ∀ (N : List (Int × Int)) (l : Int) (e : Ent), e ∈ rankL l N → ∃ q ∈ N, q.1 = e.v := by
          intro N
          induction N with
          | nil => intro l e he; simp [rankL] at he
          | cons q N ih =>
            intro l e he
            simp only [rankL] at he
            rcases List.mem_cons.1 he with rfl | he
            · exact ⟨q, by simp, rfl⟩
            · obtain ⟨y, hy, e'⟩ := ih _ e he
              exact ⟨y, by simp [hy], e'⟩
        obtain ⟨q, hq, e'⟩ := this r _ e he
        have := hr.1 q hq
        omega
      rw [h1, List.filter_cons_of_pos (by simpa using h2)]
      simp only [sumW]; omega

theorem rank_vals : ∀ (M : List (Int × Int)) (low : Int), (∀ e ∈ rankL low M, ∃ p ∈ M, p.1 = e.v ∧ p.2 = e.wt ∧ e.hi = e.lo + e.wt) ∧ (∀ p ∈ M, ∃ e ∈ rankL low M, e.v = p.1) ∧ (M ≠ [] → totalL (rankL low M) = low + sumW M)
  | [], low => by simp [rankL]
  | p :: r, low => by
    obtain ⟨h1, h2, h3⟩ := rank_vals r (low + p.2)
    refine ⟨fun e he => ?_, fun q hq => ?_, fun _ => ?_⟩
    · simp only [rankL] at he
      rcases List.mem_cons.1 he with rfl | he
      · exact ⟨p, by simp, rfl, rfl, rfl⟩
      · obtain ⟨q, hq, k⟩ := h1 e he
        exact ⟨q, by simp [hq], k⟩
    · simp only [rankL]
      rcases List.mem_cons.1 hq with rfl | hq
      · exact ⟨_, List.mem_cons_self, rfl⟩
      · obtain ⟨e, he, k⟩ := h2 q hq
        exact ⟨e, by simp [he], k⟩
    · cases r with
      | nil => simp [rankL, total_one, sumW]
      | cons q r =>
        have := h3 (by simp)
        simp only [rankL] at this ⊢
        rw [total_cons, this]
        simp only [sumW]; omega

/-- THE SUMMARY OF VALUES IS TRUE of them. -/
theorem SumTrue.of_sum {ps M : List (Int × Int)} (h : IsSum ps M) : SumTrue ps (rankL 0 M) := by
  obtain ⟨r1, r2, r3⟩ := rank_vals M 0
  have hw : ∀ N : List (Int × Int), (∀ p ∈ N, p ∈ M) → sumW N = totW ps N := fun N hN => sumW_tot (fun p hp => h.wt p (hN p hp))
  refine ⟨fun e he => ?_, fun q hq => ?_, fun q hq => ?_, ?_⟩
  · obtain ⟨p, hp, ev, ew, eh⟩ := r1 e he
    have el := rank_low (x := 0) M 0 h.rise e he
    rw [hw _ (fun p hp => (List.mem_filter.1 hp).1), tot_low h.rise e.v ps h.all] at el
    have := h.wt p hp
    rw [ev] at this
    omega
  · obtain ⟨p, hp, e⟩ := h.all q hq
    obtain ⟨f, hf, k⟩ := r2 p hp
    exact ⟨f, hf, by omega⟩
  · obtain ⟨p, hp, e⟩ := h.all q hq
    obtain ⟨f, hf, k⟩ := r2 p hp
    exact ⟨f, hf, by omega⟩
  · by_cases e : M = []
    · subst e
      have : ps = [] := by
        cases ps with
        | nil => rfl
        | cons q r => obtain ⟨p, hp, _⟩ := h.all q (by simp); cases hp
      subst this
      rfl
    · rw [r3 e, hw M (fun _ x => x), tot_all h.rise ps h.all]; omega
end Go.Proofs.YtfcgnpchbcmdeaaGreat

namespace Go.Proofs.YtfcgnpchbcmdeaaGreat

/-- A value more in a sum. -/
def insP (p : Int × Int) : List (Int × Int) → List (Int × Int)
  | [] => [p]
  | q :: r => if p.1 < q.1 then p :: q :: r else if p.1 = q.1 then (q.1, q.2 + p.2) :: r else q :: insP p r
/-- THE SUM OF VALUES, as a function. -/
def sumOf : List (Int × Int) → List (Int × Int)
  | [] => []
  | p :: r => insP p (sumOf r)

theorem insP_vals (p : Int × Int) : ∀ (M : List (Int × Int)) (x : Int), (∃ q ∈ insP p M, q.1 = x) ↔ (p.1 = x ∨ ∃ q ∈ M, q.1 = x)
  | [], x => by simp [insP]
  | q :: r, x => by
    simp only [insP]
    split
    · simp
    · split
      · rename_i h; simp [h]
      · have ih := insP_vals p r x
        simp only [List.mem_cons, exists_eq_or_imp]
        rw [ih]
        constructor
        · rintro (h | h | h)
          · exact .inr (.inl h)
          · exact .inl h
          · exact .inr (.inr h)
        · rintro (h | h | h)
          · exact .inr (.inl h)
          · exact .inl h
          · exact .inr (.inr h)
theorem insP_rise (p : Int × Int) : ∀ (M : List (Int × Int)), M.Pairwise (fun p q => p.1 < q.1) → (insP p M).Pairwise fun p q => p.1 < q.1
  | [], _ => by simp [insP]
  | q :: r, h => by
    rw [List.pairwise_cons] at h
    simp only [insP]
    split
    · rename_i hc
      rw [List.pairwise_cons, List.pairwise_cons]
      refine ⟨fun x hx => ?_, h⟩
      rcases List.mem_cons.1 hx with rfl | hx
      · exact hc
      · have := h.1 x hx; omega
    · split
      · rw [List.pairwise_cons]; exact h
      · rename_i h1 h2
        rw [List.pairwise_cons]
        refine ⟨fun x hx => ?_, insP_rise p r h.2⟩
        rcases (insP_vals p r x.1).1 ⟨x, hx, rfl⟩ with e | ⟨y, hy, e⟩
        · omega
        · have := h.1 y hy; omega
theorem insP_wt (p : Int × Int) : ∀ (M : List (Int × Int)), M.Pairwise (fun p q => p.1 < q.1) → ∀ q ∈ insP p M, (q.1 ≠ p.1 → q ∈ M) ∧ (q.1 = p.1 → (∃ z, (q.1, z) ∈ M ∧ q.2 = z + p.2) ∨ (q.2 = p.2 ∧ ∀ y ∈ M, y.1 ≠ q.1))
  | [], _, q, hq => by
    simp [insP] at hq; subst hq
    exact ⟨fun h => absurd rfl h, fun _ => .inr ⟨rfl, by simp⟩⟩
  | x :: r, h, q, hq => by
    rw [List.pairwise_cons] at h
    simp only [insP] at hq
    split at hq
    · rename_i hc
      rcases List.mem_cons.1 hq with rfl | hq
      · refine ⟨fun h => absurd rfl h, fun _ => .inr ⟨rfl, fun y hy => ?_⟩⟩
        rcases List.mem_cons.1 hy with rfl | hy
        · omega
        · have := h.1 y hy; omega
      · refine ⟨fun _ => hq, fun e => ?_⟩
        rcases List.mem_cons.1 hq with rfl | hy
        · omega
        · have := h.1 q hy; omega
    · split at hq
      · rename_i h1 h2
        rcases List.mem_cons.1 hq with rfl | hq
        · refine ⟨fun e => absurd h2.symm e, fun _ => .inl ⟨x.2, by simp, rfl⟩⟩
        · refine ⟨fun _ => by simp [hq], fun e => ?_⟩
          have := h.1 q hq; omega
      · rename_i h1 h2
        rcases List.mem_cons.1 hq with rfl | hq
        · exact ⟨fun _ => by simp, fun e => absurd e.symm h2⟩
        · obtain ⟨i1, i2⟩ := insP_wt p r h.2 q hq
          refine ⟨fun e => by simp [i1 e], fun e => ?_⟩
          rcases i2 e with ⟨z, hz, e2⟩ | ⟨e2, hn⟩
          · exact .inl ⟨z, by simp [hz], e2⟩
          · refine .inr ⟨e2, fun y hy => ?_⟩
            rcases List.mem_cons.1 hy with rfl | hy
            · omega
            · exact hn y hy

theorem sumOf_is : ∀ ps : List (Int × Int), IsSum ps (sumOf ps)
  | [] => IsSum.nil
  | p :: r => by
    have ih := sumOf_is r
    have hv := insP_vals p (sumOf r)
    refine ⟨insP_rise p _ ih.rise, fun q hq => ?_, fun q hq => ?_, fun q hq => ?_⟩
    · rcases (hv q.1).1 ⟨q, hq, rfl⟩ with e | ⟨y, hy, e⟩
      · exact ⟨p, by simp, e⟩
      · obtain ⟨z, hz, e2⟩ := ih.sub y hy
        exact ⟨z, by simp [hz], by omega⟩
    · rcases List.mem_cons.1 hq with rfl | hq
      · obtain ⟨x, hx, e⟩ := (hv q.1).2 (.inl rfl)
        exact ⟨x, hx, e⟩
      · obtain ⟨y, hy, e⟩ := ih.all q hq
        obtain ⟨x, hx, e2⟩ := (hv q.1).2 (.inr ⟨y, hy, e⟩)
        exact ⟨x, hx, e2⟩
    · obtain ⟨i1, i2⟩ := insP_wt p (sumOf r) ih.rise q hq
      simp only [wOf]
      by_cases e : q.1 = p.1
      · rw [if_pos e.symm]
        rcases i2 e with ⟨z, hz, e2⟩ | ⟨e2, hn⟩
        · have := ih.wt _ hz
          simp only at this
          omega
        · have : wOf r q.1 = 0 := wOf_none (fun y hy he => by
            obtain ⟨x, hx, e3⟩ := ih.all y hy
            exact hn x hx (by omega))
          omega
      · rw [if_neg (fun h => e h.symm), ih.wt q (i1 e)]; omega
theorem sumOf_eq {ps M : List (Int × Int)} (h : IsSum ps M) : sumOf ps = M := (sumOf_is ps).unique h

/-- The summary of values, as a function. -/
def sumE (vs ws : List Int) : List Ent := rankL 0 (sumOf (pairsOf vs ws))

theorem total_join (a b : List Ent) : totalL (joinL a b) = totalL a + totalL b := by
  by_cases h : 0 < a.length ∨ 0 < b.length
  · exact joinF_total a b _ 0 0 (Nat.zero_le _) (Nat.zero_le _) (by omega) (by omega)
  · have ha : a.length = 0 := by omega
    have hb : b.length = 0 := by omega
    have hj : (joinL a b).length = 0 := by have := joinL_len a b; omega
    simp [totalL, ha, hb, hj]
theorem total_cut {L : List Ent} (size : Int) : totalL (cutL L size) = totalL L := by
  unfold cutL
  split
  · rfl
  · rw [total_snoc]; unfold totalL; rw [if_neg (by omega)]
theorem kept_len' {L : List Ent} (s : Nat) : ∀ k, (keptK L s k).length ≤ k + 1
  | 0 => by simp [keptK]
  | k + 1 => by
    have := kept_len' (L := L) s k
    simp only [keptK]
    split
    · omega
    · simp; omega
theorem cutL_len (L : List Ent) {size : Int} (h : 2 ≤ size) : ((cutL L size).length : Int) ≤ size := by
  unfold cutL
  split
  · omega
  · have := kept_len' (L := L) (max size 2).toNat ((max size 2).toNat - 2)
    simp; omega

/-- A summary is taken in: carried up to the first level that has none. -/
def takeInL (size : Int) : List (List Ent) → List Ent → List (List Ent)
  | [], l => [l]
  | o :: r, l => if o.length = 0 then l :: r else [] :: takeInL size r (cutL (joinL o l) size)

def totals : List (List Ent) → Int
  | [] => 0
  | l :: r => totalL l + totals r

structure LevOk (Ls : List (List Ent)) : Prop where
  good : ∀ l ∈ Ls, Good l
  len : ∀ l ∈ Ls, l.length ≤ 32

theorem totals_pos : ∀ {Ls : List (List Ent)}, (∀ l ∈ Ls, Good l) → 0 ≤ totals Ls
  | [], _ => by simp [totals]
  | l :: r, h => by
    have := (total_pos (h l (by simp))).1
    have := totals_pos (Ls := r) (fun l hl => h l (by simp [hl]))
    simp only [totals]; omega

theorem LevOk.nil : LevOk [] := ⟨by simp, by simp⟩

theorem takeIn_ok {size : Int} (hs : 2 ≤ size) (hs2 : size ≤ 32) : ∀ {Ls : List (List Ent)} {l : List Ent}, LevOk Ls → Good l → l.length ≤ 32 → totals Ls + totalL l ≤ 1000000000000 →
    LevOk (takeInL size Ls l) ∧ totals (takeInL size Ls l) = totals Ls + totalL l
  | [], l, h, g, hl, ht => by
    refine ⟨⟨?_, ?_⟩, ?_⟩
    · simp [takeInL, g]
    · simp [takeInL, hl]
    · simp [takeInL, totals]
  | o :: r, l, h, g, hl, ht => by
    have go := h.good o (by simp)
    have hr : LevOk r := ⟨fun x hx => h.good x (by simp [hx]), fun x hx => h.len x (by simp [hx])⟩
    have p1 := totals_pos hr.good
    have p2 := (total_pos go).1
    have p3 := (total_pos g).1
    simp only [totals] at ht
    simp only [takeInL]
    split
    · rename_i h0
      refine ⟨⟨fun x hx => ?_, fun x hx => ?_⟩, ?_⟩
      · rcases List.mem_cons.1 hx with rfl | hx
        · exact g
        · exact hr.good x hx
      · rcases List.mem_cons.1 hx with rfl | hx
        · exact hl
        · exact hr.len x hx
      · have : totalL o = 0 := by unfold totalL; rw [if_pos h0]
        simp only [totals]; omega
    · have gj := joinL_good go g (by omega)
      have gc : Good (cutL (joinL o l) size) := gj.sub (cutL_sub gj size)
      have tc : totalL (cutL (joinL o l) size) = totalL o + totalL l := by rw [total_cut, total_join]
      have lc := cutL_len (joinL o l) hs
      obtain ⟨i1, i2⟩ := takeIn_ok hs hs2 hr gc (by omega) (by omega)
      refine ⟨⟨fun x hx => ?_, fun x hx => ?_⟩, ?_⟩
      · rcases List.mem_cons.1 hx with rfl | hx
        · exact Good.nil
        · exact i1.good x hx
      · rcases List.mem_cons.1 hx with rfl | hx
        · simp
        · exact i1.len x hx
      · have : totalL ([] : List Ent) = 0 := rfl
        simp only [totals]; omega

theorem takeIn_len (size : Int) : ∀ (Ls : List (List Ent)) (l : List Ent), (takeInL size Ls l).length ≤ Ls.length + 1
  | [], l => by simp [takeInL]
  | o :: r, l => by
    have := takeIn_len size r (cutL (joinL o l) size)
    simp only [takeInL]
    split
    · simp
    · simp; omega

/-- All blocks, taken in. -/
def blocksF (size : Nat) : Nat → List (List Ent) → List Int → List Int → List (List Ent)
  | 0, Ls, _, _ => Ls
  | f + 1, Ls, vs, ws => if vs.length = 0 then Ls else blocksF size f (takeInL size Ls (sumE (vs.take size) (ws.take size))) (vs.drop size) (ws.drop size)

/-- All levels, joined. -/
def foldLev (size : Int) : List Ent → List (List Ent) → List Ent
  | all, [] => all
  | all, l :: r => foldLev size (cutL (joinL all l) size) r

def inBlocksL (size : Nat) (vs ws : List Int) : List Ent := foldLev size [] (blocksF size vs.length [] vs ws)
end Go.Proofs.YtfcgnpchbcmdeaaGreat

namespace Go.Proofs.YtfcgnpchbcmdeaaGreat
open Go.RowKit

/-- AN ENTRY AS A VALUE. -/
def aggE (x : Ent) : Value := .agg #[.int .i64 x.v, .int .i64 x.lo, .int .i64 x.hi, .int .i64 x.wt]

set_option maxHeartbeats 1000000 in
theorem seenFrom_any (a : Option Addr) (L : List Ent) (cap j : Nat) (x : Ent) (w : World) (h : EntsV w a L) (g : Good L) (hj : j ≤ L.length) (hx : 0 ≤ x.lo ∧ 0 ≤ x.hi ∧ x.lo ≤ 1000000000000 ∧ x.hi ≤ 1000000000000) :
    Calls Tryz.prog 85 #[.slice a L.length cap, .int .i64 j, .agg #[.int .i64 x.v, .int .i64 x.lo, .int .i64 x.hi, .int .i64 x.wt]] w fun e w' => e = .returned (.agg #[.int .i64 (seen L j x).v, .int .i64 (seen L j x).lo, .int .i64 (seen L j x).hi, .int .i64 (seen L j x).wt]) ∧ Below w.heap.size w w' := by
  obtain ⟨x1, x2, x3, x4⟩ := hx
  have hb := perh_le g hj
  have ht := total_pos g
  have HE : Hid (EntsV w a L) := h
  have HG : Hid (Good L) := g
  clear h g
  obtain ⟨b1, b2, b3⟩ := hb
  have hlow : 0 ≤ belowL L j ∧ belowL L j ≤ 1000000000000 := by omega
  have hper : 0 ≤ perhL L j ∧ perhL L j ≤ 1000000000000 := by omega
  obtain ⟨l1, l2⟩ := hlow
  obtain ⟨p1, p2⟩ := hper
  clear b1 b2 b3 ht
  have HS : Hid (seen L j x = ⟨x.v, x.lo + belowL L j, x.hi + perhL L j, x.wt⟩) := show _ = _ from rfl
  go_enter Tryz.func85, Tryz.ntmps85
  go_wp2_with fail
  go_region_with (go_at_call 152; refine (surelyBelow_any a L cap j _ ?_ HG.out hj).mono ?_; exact HE.out.below (by repeat (first | with_reducible exact Below.refl _ _ | with_reducible refine Below.drew ?_ | with_reducible refine below_drewN ?_ _ | with_reducible refine Below.setCell ?_ (by simp) _ | with_reducible refine Below.alloc ?_ (by simp <;> omega) _)); rintro e w' ⟨rfl, n, rfl⟩)
  all_goals go_wp2_with fail
  all_goals go_region_with (go_at_call 153; refine (perhapsBelow_any a L cap j _ ?_ HG.out hj).mono ?_; exact HE.out.below (by repeat (first | with_reducible exact Below.refl _ _ | with_reducible refine Below.drew ?_ | with_reducible refine below_drewN ?_ _ | with_reducible refine Below.setCell ?_ (by simp) _ | with_reducible refine Below.alloc ?_ (by simp <;> omega) _)); rintro e w' ⟨rfl, n2, rfl⟩)
  all_goals go_wp2
  all_goals exact bodyPost_ret (v := .agg #[.int .i64 x.v, .int .i64 (x.lo + belowL L j), .int .i64 (x.hi + perhL L j), .int .i64 x.wt]) (by simp [results, Tryz.results85, go_sem]) rfl ⟨by rw [HS.out], (by repeat (first | with_reducible exact Below.refl _ _ | with_reducible refine Below.drew ?_ | with_reducible refine below_drewN ?_ _ | with_reducible refine Below.setCell ?_ (by simp) _ | with_reducible refine Below.alloc ?_ (by simp <;> omega) _))⟩
end Go.Proofs.YtfcgnpchbcmdeaaGreat
