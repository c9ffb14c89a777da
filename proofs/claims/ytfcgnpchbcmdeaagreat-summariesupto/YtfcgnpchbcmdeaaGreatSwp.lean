/-
  What the reference's Summary has found so far, as mathematics: the least value beyond those that it has, with its weight.
-/
import Derived.Test.YtfcgnpchbcmdeaaGreatSwe
import Derived.Test.YtfcgnpchbcmdeaaGreatSwo
namespace Go.Proofs.YtfcgnpchbcmdeaaGreat
open Go.RowKit

theorem info3 : (Tryz.prog.info? 3).map (fun i => (i.zero, i.size, i.bytes)) = some (some (.int .i64 0), 1, 8) := by kernel_rfl

/-- NUMBERS OF THE CALL's OWN. -/
def OwnI (w : World) (base : Nat) (v : Value) (zs : List Int) : Prop := w.ownsRow base 3 1 v zs.length (zs.map (Value.int .i64))

theorem OwnI.nil (w : World) (base : Nat) : OwnI w base (.slice none 0 0) [] := World.ownsRow_nil w base 3 1
theorem OwnI.below {w w' : World} {base : Nat} {v : Value} {zs : List Int} (h : OwnI w base v zs) (hb : Below w.heap.size w w') : OwnI w' base v zs := by
  refine ⟨h.1, ?_⟩
  rcases h.2 with hn | ⟨g, cap, cur, e, hg, hh, r⟩
  · exact .inl hn
  · exact .inr ⟨g, cap, cur, e, hg, (hb.block g (Array.getElem?_eq_some_iff.1 hh).1).trans hh, r⟩
theorem OwnI.kept {w w' : World} {base : Nat} {v : Value} {zs : List Int} {row : Option Nat} (h : OwnI w base v zs) (hg : w.grownBy w' row) (hne : v.ownBlock = none ∨ v.ownBlock ≠ row) : OwnI w' base v zs := World.ownsRow.kept h hg hne
theorem OwnI.more {w : World} {base : Nat} {v : Value} {zs : List Int} {x : Int} (h : w.ownsRow base 3 1 v (zs.length + 1) (zs.map (Value.int .i64) ++ [.int .i64 x])) : OwnI w base v (zs ++ [x]) := by
  unfold OwnI
  rw [List.map_append, List.length_append]
  exact h

def cap1 (x : Int) : Int := if 1000000000 < x then 1000000000 else x
theorem cap1_clamp (x : Int) : clampV x = if cap1 x < -1000000000 then -1000000000 else cap1 x := by
  unfold clampV cap1; split <;> (try split) <;> (try split) <;> omega

def badW (y : Int) : Bool := decide (y < 1 ∨ 1000 < y)

theorem clampW_bad (y : Int) : clampW y = if badW y = true then 1 else y := by
  unfold clampW badW
  by_cases h : y < 1 ∨ 1000 < y
  · rw [if_pos h, if_pos (decide_eq_true h)]
  · rw [if_neg h, if_neg (fun hc => h (of_decide_eq_true hc))]

/-- Is a value beyond all that there are? -/
def freshB (M : List (Int × Int)) (x : Int) : Bool := match M.getLast? with
  | none => true
  | some p => decide (p.1 < x)

theorem fresh_nil (x : Int) : freshB [] x = true := rfl
theorem fresh_snoc (N : List (Int × Int)) (p : Int × Int) (x : Int) : freshB (N ++ [p]) x = decide (p.1 < x) := by simp [freshB]

theorem fresh_lt {M : List (Int × Int)} (hr : M.Pairwise fun p q => p.1 < q.1) {x : Int} (h : freshB M x = true) : ∀ p ∈ M, p.1 < x := by
  rcases List.eq_nil_or_concat M with hM | ⟨N, p, hM⟩
  · subst hM; simp
  · rw [List.concat_eq_append] at hM
    subst hM
    rw [fresh_snoc] at h
    simp at h
    intro q hq
    rcases List.mem_append.1 hq with hq | hq
    · have := (List.pairwise_append.1 hr).2.2 q hq p (by simp); omega
    · simp at hq; rw [hq]; exact h

structure PreSum (P M : List (Int × Int)) : Prop where
  rise : M.Pairwise fun p q => p.1 < q.1
  sub : ∀ p ∈ M, ∃ q ∈ P, q.1 = p.1
  wt : ∀ p ∈ M, p.2 = wOf P p.1
  low : ∀ q ∈ P, freshB M q.1 = false → ∃ p ∈ M, p.1 = q.1

theorem PreSum.nil (P : List (Int × Int)) : PreSum P [] := ⟨by simp, by simp, by simp, fun q _ h => by rw [fresh_nil] at h; cases h⟩

structure InSt (P M : List (Int × Int)) (i : Nat) (fd : Bool) (le wt : Int) : Prop where
  no : fd = false → le = 0 ∧ wt = 0 ∧ ∀ q ∈ P.take i, freshB M q.1 = false
  yes : fd = true → (∃ q ∈ P.take i, freshB M q.1 = true ∧ q.1 = le) ∧ (∀ q ∈ P.take i, freshB M q.1 = true → le ≤ q.1) ∧ wt = wOf (P.take i) le

theorem InSt.start (P M : List (Int × Int)) : InSt P M 0 false 0 0 := ⟨(fun _ => ⟨rfl, rfl, by simp⟩), (fun h => by cases h)⟩

theorem InSt.new {P M : List (Int × Int)} {i : Nat} {fd : Bool} {le wt : Int} (h : InSt P M i fd le wt) (hi : i < P.length) (hf : freshB M P[i].1 = true) (hc : fd = false ∨ P[i].1 < le) : InSt P M (i + 1) true P[i].1 P[i].2 := by
  refine ⟨(fun h => by cases h), fun _ => ?_⟩
  simp only [List.take_succ_eq_append_getElem hi]
  refine ⟨⟨P[i], List.mem_append.2 (.inr (by simp)), hf, rfl⟩, fun q hq hfq => ?_, ?_⟩
  · rcases List.mem_append.1 hq with hq | hq
    · cases hfd : fd with
      | false => have := (h.no hfd).2.2 q hq; rw [this] at hfq; cases hfq
      | true =>
        have := (h.yes hfd).2.1 q hq hfq
        rcases hc with hc | hc
        · rw [hc] at hfd; cases hfd
        · omega
    · simp at hq; rw [hq]; exact Int.le_refl _
  · rw [wOf_append, wOf_none (fun q hq e => ?_)]
    · simp [wOf]
    · have hfq : freshB M q.1 = true := by rw [e]; exact hf
      cases hfd : fd with
      | false => have := (h.no hfd).2.2 q hq; rw [this] at hfq; cases hfq
      | true =>
        have := (h.yes hfd).2.1 q hq hfq
        rcases hc with hc | hc
        · rw [hc] at hfd; cases hfd
        · omega

theorem InSt.same {P M : List (Int × Int)} {i : Nat} {le wt : Int} (h : InSt P M i true le wt) (hi : i < P.length) (he : P[i].1 = le) : InSt P M (i + 1) true le (wt + P[i].2) := by
  obtain ⟨⟨q, hq, hf, e⟩, h2, h3⟩ := h.yes rfl
  refine ⟨(fun h => by cases h), fun _ => ?_⟩
  simp only [List.take_succ_eq_append_getElem hi]
  refine ⟨⟨q, List.mem_append.2 (.inl hq), hf, e⟩, fun q' hq' hf' => ?_, ?_⟩
  · rcases List.mem_append.1 hq' with hq' | hq'
    · exact h2 q' hq' hf'
    · simp at hq'; rw [hq', he]; exact Int.le_refl _
  · rw [wOf_append, h3]; simp [wOf, he]

theorem InSt.pass {P M : List (Int × Int)} {i : Nat} {fd : Bool} {le wt : Int} (h : InSt P M i fd le wt) (hi : i < P.length) (hn : fd = false → freshB M P[i].1 = false) (hy : fd = true → P[i].1 ≠ le ∧ (freshB M P[i].1 = true → le ≤ P[i].1)) : InSt P M (i + 1) fd le wt := by
  refine ⟨fun hf => ?_, fun hf => ?_⟩
  · obtain ⟨h1, h2, h3⟩ := h.no hf
    refine ⟨h1, h2, fun q hq => ?_⟩
    rw [List.take_succ_eq_append_getElem hi] at hq
    rcases List.mem_append.1 hq with hq | hq
    · exact h3 q hq
    · simp at hq; rw [hq]; exact hn hf
  · obtain ⟨⟨q, hq, hfq, e⟩, h2, h3⟩ := h.yes hf
    simp only [List.take_succ_eq_append_getElem hi]
    refine ⟨⟨q, List.mem_append.2 (.inl hq), hfq, e⟩, fun q' hq' hf' => ?_, ?_⟩
    · rcases List.mem_append.1 hq' with hq' | hq'
      · exact h2 q' hq' hf'
      · simp at hq'; rw [hq'] at hf' ⊢; exact (hy hf).2 hf'
    · rw [wOf_append, h3]; simp [wOf, (hy hf).1]

theorem PreSum.done {P M : List (Int × Int)} {le wt : Int} (h : PreSum P M) (hs : InSt P M P.length false le wt) : IsSum P M := by
  obtain ⟨_, _, h3⟩ := hs.no rfl
  rw [List.take_of_length_le (Nat.le_refl _)] at h3
  exact ⟨h.rise, h.sub, fun q hq => h.low q hq (h3 q hq), h.wt⟩

theorem PreSum.more {P M : List (Int × Int)} {le wt : Int} (h : PreSum P M) (hs : InSt P M P.length true le wt) : PreSum P (M ++ [(le, wt)]) := by
  obtain ⟨⟨q, hq, hf, e⟩, h2, h3⟩ := hs.yes rfl
  rw [List.take_of_length_le (Nat.le_refl _)] at hq h2 h3
  refine ⟨?_, ?_, ?_, ?_⟩
  · rw [List.pairwise_append]
    refine ⟨h.rise, by simp, fun a ha b hb => ?_⟩
    simp at hb; rw [hb]
    have := fresh_lt h.rise hf a ha
    simp; omega
  · intro p hp
    rcases List.mem_append.1 hp with hp | hp
    · exact h.sub p hp
    · simp at hp; rw [hp]; exact ⟨q, hq, e⟩
  · intro p hp
    rcases List.mem_append.1 hp with hp | hp
    · exact h.wt p hp
    · simp at hp; rw [hp]; exact h3
  · intro r hr hfr
    rw [fresh_snoc] at hfr
    simp at hfr
    cases hM : freshB M r.1 with
    | false => obtain ⟨p, hp, e⟩ := h.low r hr hM; exact ⟨p, by simp [hp], e⟩
    | true => have := h2 r hr hM; exact ⟨(le, wt), by simp, by simp; omega⟩

theorem PreSum.len {P M : List (Int × Int)} (h : PreSum P M) : M.length ≤ P.length := by
  have g : ∀ (M : List (Int × Int)) (U : List Int), (M.Pairwise fun p q => p.1 < q.1) → (∀ p ∈ M, p.1 ∈ U) → M.length ≤ U.length := by
    intro M
    induction M with
    | nil => simp
    | cons e M ih =>
      intro U hp hU
      rw [List.pairwise_cons] at hp
      have h1 : e.1 ∈ U := hU e (by simp)
      have h2 := ih (U.erase e.1) hp.2 (fun f hf => by
        have hne : f.1 ≠ e.1 := by have := hp.1 f hf; omega
        exact (List.mem_erase_of_ne hne).2 (hU f (by simp [hf])))
      rw [List.length_erase_of_mem h1] at h2
      have : 0 < U.length := List.length_pos_of_mem h1
      simp; omega
  have := g M (P.map (·.1)) h.rise (fun p hp => by obtain ⟨q, hq, e⟩ := h.sub p hp; exact List.mem_map.2 ⟨q, hq, e⟩)
  simpa using this

theorem one_int (W : World) {n : Nat} (hW : W.heap.size = n) (x : Int) : ∀ j u, [Value.int .i64 x][j]? = some u → (W.alloc (.cells #[.int .i64 x] 3)).cell? ((⟨n, 0, none⟩ : Addr).add j) = some u := by
  subst hW; exact one_new W #[.int .i64 x] 3

/-- TWO ROWS THAT ARE NOT ONE. -/
def Apart (v u : Value) : Prop := v.ownBlock = none ∨ u.ownBlock = none ∨ v.ownBlock ≠ u.ownBlock

theorem Apart.symm {v u : Value} (h : Apart v u) : Apart u v := by
  rcases h with h | h | h
  · exact .inr (.inl h)
  · exact .inl h
  · exact .inr (.inr (Ne.symm h))
theorem Apart.keeps {v u : Value} (h : Apart v u) : u.ownBlock = none ∨ u.ownBlock ≠ v.ownBlock := by
  rcases h with h | h | h
  · cases hu : u.ownBlock with
    | none => exact .inl rfl
    | some k => exact .inr (by rw [h]; simp)
  · exact .inl h
  · exact .inr (Ne.symm h)
theorem Apart.moved {w : World} {base : Nat} {v v' u : Value} {zs : List Int} (h : Apart v u) (hu : OwnI w base u zs) (hv : v'.ownBlock = v.ownBlock ∨ v'.ownBlock = some w.heap.size) : Apart v' u := by
  rcases hv with hv | hv
  · unfold Apart; rw [hv]; exact h
  · cases hk : u.ownBlock with
    | none => exact .inr (.inl hk)
    | some k =>
      have := (World.ownsRow.lt hu k hk).2
      refine .inr (.inr ?_)
      rw [hv, hk]
      simp; omega

end Go.Proofs.YtfcgnpchbcmdeaaGreat
