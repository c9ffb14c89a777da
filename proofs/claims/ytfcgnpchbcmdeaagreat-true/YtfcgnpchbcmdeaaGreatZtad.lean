/-
  What the reference's Summary has found so far, as mathematics: the least value beyond those that it has, with its weight.
  What a call leaves alone; lists that hold one mark; the block of a script's world; an append that says whether it wrote in place.
  The contract of bounds: where a feature of numbers is cut.
  The contract of bounds.
-/
import Derived.Test.YtfcgnpchbcmdeaaGreatZtac
import Derived.Test.YtfcgnpchbcmdeaaGreatZtaa
import Derived.Deep.DeepCutAuto
namespace Go.Proofs.YtfcgnpchbcmdeaaGreat
open Go.RowKit

theorem info3 : (Tryz.prog.info? 3).map (fun i => (i.zero, i.size, i.bytes)) = some (some (.int .i64 0), 1, 8) := by kernel_rfl

/-- NUMBERS OF THE CALL's OWN. -/
def OwnI (w : World) (base : Nat) (v : Value) (zs : List Int) : Prop := w.ownsRow base 3 1 v zs.length (zs.map (Value.int .i64))

theorem OwnI.nil (w : World) (base : Nat) : OwnI w base (.slice none 0 0) [] := World.ownsRow_nil w base 3 1
theorem OwnI.below {w w' : World} {base : Nat} {v : Value} {zs : List Int} (h : OwnI w base v zs) (hb : Below w.heap.size w w') : OwnI w' base v zs := by
  refine ⟨h.1, ?_⟩
  rcases h.2 with hn | ⟨g, cap, cur, e, hg, hh, r⟩
  · exact .inl hn
  · exact .inr ⟨g, cap, cur, e, hg, (hb.block g (Array.getElem?_eq_some_iff.1 hh).1).trans hh, r⟩
theorem OwnI.kept {w w' : World} {base : Nat} {v : Value} {zs : List Int} {row : Option Nat} (h : OwnI w base v zs) (hg : w.grownBy w' row) (hne : v.ownBlock = none ∨ v.ownBlock ≠ row) : OwnI w' base v zs := World.ownsRow.kept h hg hne
theorem OwnI.more {w : World} {base : Nat} {v : Value} {zs : List Int} {x : Int} (h : w.ownsRow base 3 1 v (zs.length + 1) (zs.map (Value.int .i64) ++ [.int .i64 x])) : OwnI w base v (zs ++ [x]) := by
  unfold OwnI
  rw [List.map_append, List.length_append]
  exact h

def cap1 (x : Int) : Int := if 1000000000 < x then 1000000000 else x
theorem cap1_clamp (x : Int) : clampV x = if cap1 x < -1000000000 then -1000000000 else cap1 x := by
  unfold clampV cap1; split <;> (try split) <;> (try split) <;> omega

def badW (y : Int) : Bool := decide (y < 1 ∨ 1000 < y)

theorem clampW_bad (y : Int) : clampW y = if badW y = true then 1 else y := by
  unfold clampW badW
  by_cases h : y < 1 ∨ 1000 < y
  · rw [if_pos h, if_pos (decide_eq_true h)]
  · rw [if_neg h, if_neg (fun hc => h (of_decide_eq_true hc))]

/-- Is a value beyond all that there are? -/
def freshB (M : List (Int × Int)) (x : Int) : Bool := match M.getLast? with
  | none => true
  | some p => decide (p.1 < x)

theorem fresh_nil (x : Int) : freshB [] x = true := rfl
theorem fresh_snoc (N : List (Int × Int)) (p : Int × Int) (x : Int) : freshB (N ++ [p]) x = decide (p.1 < x) := by simp [freshB]

theorem fresh_lt {M : List (Int × Int)} (hr : M.Pairwise fun p q => p.1 < q.1) {x : Int} (h : freshB M x = true) : ∀ p ∈ M, p.1 < x := by
  rcases List.eq_nil_or_concat M with hM | ⟨N, p, hM⟩
  · subst hM; simp
  · rw [List.concat_eq_append] at hM
    subst hM
    rw [fresh_snoc] at h
    simp at h
    intro q hq
    rcases List.mem_append.1 hq with hq | hq
    · have := (List.pairwise_append.1 hr).2.2 q hq p (by simp); omega
    · simp at hq; rw [hq]; exact h

structure PreSum (P M : List (Int × Int)) : Prop where
  rise : M.Pairwise fun p q => p.1 < q.1
  sub : ∀ p ∈ M, ∃ q ∈ P, q.1 = p.1
  wt : ∀ p ∈ M, p.2 = wOf P p.1
  low : ∀ q ∈ P, freshB M q.1 = false → ∃ p ∈ M, p.1 = q.1

theorem PreSum.nil (P : List (Int × Int)) : PreSum P [] := ⟨by simp, by simp, by simp, fun q _ h => by rw [fresh_nil] at h; cases h⟩

structure InSt (P M : List (Int × Int)) (i : Nat) (fd : Bool) (le wt : Int) : Prop where
  no : fd = false → le = 0 ∧ wt = 0 ∧ ∀ q ∈ P.take i, freshB M q.1 = false
  yes : fd = true → (∃ q ∈ P.take i, freshB M q.1 = true ∧ q.1 = le) ∧ (∀ q ∈ P.take i, freshB M q.1 = true → le ≤ q.1) ∧ wt = wOf (P.take i) le

theorem InSt.start (P M : List (Int × Int)) : InSt P M 0 false 0 0 := ⟨(fun _ => ⟨rfl, rfl, by simp⟩), (fun h => by cases h)⟩

theorem InSt.new {P M : List (Int × Int)} {i : Nat} {fd : Bool} {le wt : Int} (h : InSt P M i fd le wt) (hi : i < P.length) (hf : freshB M P[i].1 = true) (hc : fd = false ∨ P[i].1 < le) : InSt P M (i + 1) true P[i].1 P[i].2 := by
  refine ⟨(fun h => by cases h), fun _ => ?_⟩
  simp only [List.take_succ_eq_append_getElem hi]
  refine ⟨⟨P[i], List.mem_append.2 (.inr (by simp)), hf, rfl⟩, fun q hq hfq => ?_, ?_⟩
  · rcases List.mem_append.1 hq with hq | hq
    · cases hfd : fd with
      | false => have := (h.no hfd).2.2 q hq; rw [this] at hfq; cases hfq
      | true =>
        have := (h.yes hfd).2.1 q hq hfq
        rcases hc with hc | hc
        · rw [hc] at hfd; cases hfd
        · omega
    · simp at hq; rw [hq]; exact Int.le_refl _
  · rw [wOf_append, wOf_none (fun q hq e => ?_)]
    · simp [wOf]
    · have hfq : freshB M q.1 = true := by rw [e]; exact hf
      cases hfd : fd with
      | false => have := (h.no hfd).2.2 q hq; rw [this] at hfq; cases hfq
      | true =>
        have := (h.yes hfd).2.1 q hq hfq
        rcases hc with hc | hc
        · rw [hc] at hfd; cases hfd
        · omega

theorem InSt.same {P M : List (Int × Int)} {i : Nat} {le wt : Int} (h : InSt P M i true le wt) (hi : i < P.length) (he : P[i].1 = le) : InSt P M (i + 1) true le (wt + P[i].2) := by
  obtain ⟨⟨q, hq, hf, e⟩, h2, h3⟩ := h.yes rfl
  refine ⟨(fun h => by cases h), fun _ => ?_⟩
  simp only [List.take_succ_eq_append_getElem hi]
  refine ⟨⟨q, List.mem_append.2 (.inl hq), hf, e⟩, fun q' hq' hf' => ?_, ?_⟩
  · rcases List.mem_append.1 hq' with hq' | hq'
    · exact h2 q' hq' hf'
    · simp at hq'; rw [hq', he]; exact Int.le_refl _
  · rw [wOf_append, h3]; simp [wOf, he]

theorem InSt.pass {P M : List (Int × Int)} {i : Nat} {fd : Bool} {le wt : Int} (h : InSt P M i fd le wt) (hi : i < P.length) (hn : fd = false → freshB M P[i].1 = false) (hy : fd = true → P[i].1 ≠ le ∧ (freshB M P[i].1 = true → le ≤ P[i].1)) : InSt P M (i + 1) fd le wt := by
  refine ⟨fun hf => ?_, fun hf => ?_⟩
  · obtain ⟨h1, h2, h3⟩ := h.no hf
    refine ⟨h1, h2, fun q hq => ?_⟩
    rw [List.take_succ_eq_append_getElem hi] at hq
    rcases List.mem_append.1 hq with hq | hq
    · exact h3 q hq
    · simp at hq; rw [hq]; exact hn hf
  · obtain ⟨⟨q, hq, hfq, e⟩, h2, h3⟩ := h.yes hf
    simp only [List.take_succ_eq_append_getElem hi]
    refine ⟨⟨q, List.mem_append.2 (.inl hq), hfq, e⟩, fun q' hq' hf' => ?_, ?_⟩
    · rcases List.mem_append.1 hq' with hq' | hq'
      · exact h2 q' hq' hf'
      · simp at hq'; rw [hq'] at hf' ⊢; exact (hy hf).2 hf'
    · rw [wOf_append, h3]; simp [wOf, (hy hf).1]

theorem PreSum.done {P M : List (Int × Int)} {le wt : Int} (h : PreSum P M) (hs : InSt P M P.length false le wt) : IsSum P M := by
  obtain ⟨_, _, h3⟩ := hs.no rfl
  rw [List.take_of_length_le (Nat.le_refl _)] at h3
  exact ⟨h.rise, h.sub, fun q hq => h.low q hq (h3 q hq), h.wt⟩

theorem PreSum.more {P M : List (Int × Int)} {le wt : Int} (h : PreSum P M) (hs : InSt P M P.length true le wt) : PreSum P (M ++ [(le, wt)]) := by
  obtain ⟨⟨q, hq, hf, e⟩, h2, h3⟩ := hs.yes rfl
  rw [List.take_of_length_le (Nat.le_refl _)] at hq h2 h3
  refine ⟨?_, ?_, ?_, ?_⟩
  · rw [List.pairwise_append]
    refine ⟨h.rise, by simp, fun a ha b hb => ?_⟩
    simp at hb; rw [hb]
    have := fresh_lt h.rise hf a ha
    simp; omega
  · intro p hp
    rcases List.mem_append.1 hp with hp | hp
    · exact h.sub p hp
    · simp at hp; rw [hp]; exact ⟨q, hq, e⟩
  · intro p hp
    rcases List.mem_append.1 hp with hp | hp
    · exact h.wt p hp
    · simp at hp; rw [hp]; exact h3
  · intro r hr hfr
    rw [fresh_snoc] at hfr
    simp at hfr
    cases hM : freshB M r.1 with
    | false => obtain ⟨p, hp, e⟩ := h.low r hr hM; exact ⟨p, by simp [hp], e⟩
    | true => have := h2 r hr hM; exact ⟨(le, wt), by simp, by simp; omega⟩

theorem PreSum.len {P M : List (Int × Int)} (h : PreSum P M) : M.length ≤ P.length := by
  have g : ∀ (M : List (Int × Int)) (U : List Int), (M.Pairwise fun p q => p.1 < q.1) → (∀ p ∈ M, p.1 ∈ U) → M.length ≤ U.length := by
    intro M
    induction M with
    | nil => simp
    | cons e M ih =>
      intro U hp hU
      rw [List.pairwise_cons] at hp
      have h1 : e.1 ∈ U := hU e (by simp)
      have h2 := ih (U.erase e.1) hp.2 (fun f hf => by
        have hne : f.1 ≠ e.1 := by have := hp.1 f hf; omega
        exact (List.mem_erase_of_ne hne).2 (hU f (by simp [hf])))
      rw [List.length_erase_of_mem h1] at h2
      have : 0 < U.length := List.length_pos_of_mem h1
      simp; omega
  have := g M (P.map (·.1)) h.rise (fun p hp => by obtain ⟨q, hq, e⟩ := h.sub p hp; exact List.mem_map.2 ⟨q, hq, e⟩)
  simpa using this

theorem one_int (W : World) {n : Nat} (hW : W.heap.size = n) (x : Int) : ∀ j u, [Value.int .i64 x][j]? = some u → (W.alloc (.cells #[.int .i64 x] 3)).cell? ((⟨n, 0, none⟩ : Addr).add j) = some u := by
  subst hW; exact one_new W #[.int .i64 x] 3

/-- TWO ROWS THAT ARE NOT ONE. -/
def Apart (v u : Value) : Prop := v.ownBlock = none ∨ u.ownBlock = none ∨ v.ownBlock ≠ u.ownBlock

theorem Apart.symm {v u : Value} (h : Apart v u) : Apart u v := by
  rcases h with h | h | h
  · exact .inr (.inl h)
  · exact .inl h
  · exact .inr (.inr (Ne.symm h))
theorem Apart.keeps {v u : Value} (h : Apart v u) : u.ownBlock = none ∨ u.ownBlock ≠ v.ownBlock := by
  rcases h with h | h | h
  · cases hu : u.ownBlock with
    | none => exact .inl rfl
    | some k => exact .inr (by rw [h]; simp)
  · exact .inl h
  · exact .inr (Ne.symm h)
theorem Apart.moved {w : World} {base : Nat} {v v' u : Value} {zs : List Int} (h : Apart v u) (hu : OwnI w base u zs) (hv : v'.ownBlock = v.ownBlock ∨ v'.ownBlock = some w.heap.size) : Apart v' u := by
  rcases hv with hv | hv
  · unfold Apart; rw [hv]; exact h
  · cases hk : u.ownBlock with
    | none => exact .inr (.inl hk)
    | some k =>
      have := (World.ownsRow.lt hu k hk).2
      refine .inr (.inr ?_)
      rw [hv, hk]
      simp; omega

end Go.Proofs.YtfcgnpchbcmdeaaGreat

namespace Go.Proofs.YtfcgnpchbcmdeaaGreat
open Go.RowKit

/-- ALL BLOCKS BUT THOSE OF S ARE AS THEY WERE. -/
structure Touch (S : Nat → Prop) (w w' : World) : Prop where
  os : w'.os = w.os
  tape : w'.tape = w.tape
  output : w'.output = w.output
  size : w.heap.size ≤ w'.heap.size
  block : ∀ k, k < w.heap.size → ¬ S k → w'.heap[k]? = w.heap[k]?

theorem Touch.refl (S : Nat → Prop) (w : World) : Touch S w w := ⟨rfl, rfl, rfl, Nat.le_refl _, fun _ _ _ => rfl⟩
theorem Touch.trans {S : Nat → Prop} {a b c : World} (h : Touch S a b) (k : Touch S b c) : Touch S a c :=
  ⟨k.os.trans h.os, k.tape.trans h.tape, k.output.trans h.output, Nat.le_trans h.size k.size, fun i hi hs => (k.block i (Nat.lt_of_lt_of_le hi h.size) hs).trans (h.block i hi hs)⟩
theorem Touch.mono {S S' : Nat → Prop} {a b : World} (h : Touch S a b) (hs : ∀ k, k < a.heap.size → S k → S' k) : Touch S' a b :=
  ⟨h.os, h.tape, h.output, h.size, fun k hk hn => h.block k hk (fun e => hn (hs k hk e))⟩
theorem Touch.of_below {S : Nat → Prop} {a b : World} (h : Below a.heap.size a b) : Touch S a b := ⟨h.os, h.tape, h.output, h.size, fun k hk _ => h.block k hk⟩
theorem Touch.below {S : Nat → Prop} {a b c : World} (h : Touch S a b) (k : Below b.heap.size b c) : Touch S a c := h.trans (.of_below k)
theorem Touch.alloc {S : Nat → Prop} {a b : World} (h : Touch S a b) (o : Obj) : Touch S a (b.alloc o) := h.below ((Below.refl _ _).alloc (Nat.le_refl _) _)
theorem Touch.drew {S : Nat → Prop} {a b : World} (h : Touch S a b) : Touch S a b.drew := h.below (Below.refl _ _).drew
theorem Touch.setCell {S : Nat → Prop} {a b : World} (h : Touch S a b) {p : Addr} (hp : p.block < a.heap.size → S p.block) (u : Value) : Touch S a (b.setCell p u) :=
  ⟨h.os, h.tape, h.output, by have := h.size; simpa [World.setCell] using this, fun k hk hn => (Below.heap_setCell b p u k (fun e => hn (e ▸ hp (e ▸ hk)))).trans (h.block k hk hn)⟩
theorem Touch.grown {S : Nat → Prop} {a b c : World} {row : Option Nat} (h : Touch S a b) (hg : b.grownBy c row) (hr : ∀ k, row = some k → k < a.heap.size → S k) : Touch S a c :=
  ⟨hg.os.trans h.os, hg.tape.trans h.tape, hg.output.trans h.output, Nat.le_trans h.size hg.size, fun k hk hn => (hg.block k (Nat.lt_of_lt_of_le hk h.size) (fun e => hn (hr k e.symm hk))).trans (h.block k hk hn)⟩
theorem Touch.row {S : Nat → Prop} {a b : World} (h : Touch S a b) {base : Nat} {e : TypeId} {size : Nat} {v : Value} {n : Nat} {xs : List Value} (hr : a.ownsRow base e size v n xs) (hs : ∀ k, v.ownBlock = some k → ¬ S k) : b.ownsRow base e size v n xs := by
  refine ⟨hr.1, ?_⟩
  rcases hr.2 with hn | ⟨g, cap, cur, rfl, hb, hgg, rest⟩
  · exact .inl hn
  · exact .inr ⟨g, cap, cur, rfl, hb, (h.block g (Array.getElem?_eq_some_iff.1 hgg).1 (hs g rfl)).trans hgg, rest⟩
theorem Touch.at_ {S : Nat → Prop} {a b : World} (h : Touch S a b) {g : Nat} {o : Obj} (hg : a.heap[g]? = some o) (hs : ¬ S g) : b.heap[g]? = some o := (h.block g (Array.getElem?_eq_some_iff.1 hg).1 hs).trans hg

/-- A LIST OF ENTRIES THAT HOLDS ONE MARK THROUGHOUT. -/
def AllM (w : World) (z : Int) (v : Value) : Prop := ∃ (a : Option Addr) (n c : Nat), v = .slice a n c ∧ n ≤ maxLen ∧ (n = 0 ∨ ∃ (g : Nat) (cur : Array Value), a = some ⟨g, 0, none⟩ ∧ w.heap[g]? = some (.cells cur 98 (0, 0)) ∧ ∀ i, i < n → cur[i * 4]? = some (.int .i64 z) ∧ cur[i * 4 + 1]? = some (.int .i64 0) ∧ cur[i * 4 + 2]? = some (.int .i64 0) ∧ cur[i * 4 + 3]? = some (.int .i64 0))

def markE (z : Int) : Ent := ⟨z, 0, 0, 0⟩

theorem flat_rep_get (z : Int) : ∀ (n i : Nat), i < n → ∀ c, c < 4 → (flat (List.replicate n (markE z)))[i * 4 + c]? = (cellsE (markE z))[c]?
  | 0, i, h => by omega
  | n + 1, 0, _ => fun c hc => by
    simp only [List.replicate_succ, flat]
    rw [show 0 * 4 + c = c by omega, List.getElem?_append_left (by simpa [cellsE] using hc)]
  | n + 1, i + 1, h => fun c hc => by
    simp only [List.replicate_succ, flat]
    rw [List.getElem?_append_right (by simp [cellsE]; omega), show (i + 1) * 4 + c - (cellsE (markE z)).length = i * 4 + c by simp [cellsE]; omega]
    exact flat_rep_get z n i (by omega) c hc

theorem flat_rep_snoc (z : Int) (n m : Nat) : flat (List.replicate n (markE z)) ++ flat (List.replicate m (markE z)) = flat (List.replicate (n + m) (markE z)) := by
  rw [← flat_append, List.replicate_append_replicate]

/-- A row of marks, longer than the list or as long, at the list's own block. -/
theorem AllM.of_row {w : World} {base g n cap m : Nat} {a : Option Addr} {c : Nat} {z : Int} (hr : OwnE w base (.slice (some ⟨g, 0, none⟩) m cap) (List.replicate m (markE z))) (hm : m ≤ maxLen) (hn : n ≤ m) (ha : a = some ⟨g, 0, none⟩) : AllM w z (.slice a n c) := by
  subst ha
  rcases hr.2 with ⟨e, _⟩ | ⟨g', cap', cur, e, _, hh, _, _, _, ht⟩
  · cases e
  · injection e with e1 e2 e3
    injection e1 with e1
    injection e1 with e1
    subst e1
    refine ⟨_, n, c, rfl, by omega, .inr ⟨g, cur, rfl, hh, fun i hi => ?_⟩⟩
    have key : ∀ k, k < 4 → cur[i * 4 + k]? = (cellsE (markE z))[k]? := fun k hk => by
      rw [← flat_rep_get z m i (by omega) k hk, ← ht, List.getElem?_take, if_pos (by simp; omega)]
      simp
    exact ⟨key 0 (by omega), key 1 (by omega), key 2 (by omega), key 3 (by omega)⟩

theorem AllM.nil (w : World) (z : Int) (a : Option Addr) (c : Nat) : AllM w z (.slice a 0 c) := ⟨a, 0, c, rfl, by simp [maxLen], .inl rfl⟩

/-- The marks of a row of one's own. -/
theorem AllM.own {w : World} {base : Nat} {v : Value} {m : Nat} {z : Int} (hr : OwnE w base v (List.replicate m (markE z))) (hm : m ≤ maxLen) : AllM w z v := by
  have hr' := hr
  rcases hr.2 with ⟨rfl, _⟩ | ⟨g', cap', cur, e, _, hh, _, _, _, ht⟩
  · exact .nil _ _ _ _
  · subst e
    have : (List.replicate m (markE z)).length = m := by simp
    rw [this] at hr' ⊢
    exact .of_row hr' hm (Nat.le_refl _) rfl

theorem AllM.touch {S : Nat → Prop} {w w' : World} {z : Int} {v : Value} (h : AllM w z v) (t : Touch S w w') (hs : ∀ k cur, v.ownBlock = some k → w.heap[k]? = some (.cells cur 98 (0, 0)) → ¬ S k) : AllM w' z v := by
  obtain ⟨a, n, c, rfl, hm, hn | ⟨g, cur, rfl, hg, hc⟩⟩ := h
  · exact ⟨a, n, c, rfl, hm, .inl hn⟩
  · exact ⟨_, n, c, rfl, hm, .inr ⟨g, cur, rfl, t.at_ hg (hs g cur rfl hg), hc⟩⟩
theorem AllM.below {w w' : World} {z : Int} {v : Value} (h : AllM w z v) (hb : Below w.heap.size w w') : AllM w' z v := h.touch (S := fun _ => False) (.of_below hb) (fun _ _ _ _ => id)
theorem AllM.alloc {w : World} {z : Int} {v : Value} (h : AllM w z v) (o : Obj) : AllM (w.alloc o) z v := h.below ((Below.refl _ _).alloc (Nat.le_refl _) _)

def lenV : Value → Nat
  | .slice _ n _ => n
  | _ => 0

/-- Whatever holds the mark holds it still behind an append of such marks. -/
theorem AllM.append {w w' : World} {z : Int} {u v v' : Value} {base m N : Nat} (h : AllM w z u) (hg : w.grownBy w' v.ownBlock) (hd : v'.ownBlock = v.ownBlock ∨ v'.ownBlock = some N ∧ Below N w w') (hN : w.heap.size = N)
    (ho : OwnE w' base v' (List.replicate m (markE z))) (hm : m ≤ maxLen) (hf : ∃ g cap, v' = .slice (some ⟨g, 0, none⟩) m cap) (hl : lenV u ≤ m) : AllM w' z u := by
  subst hN
  rcases hd with hd | ⟨_, hb⟩
  · obtain ⟨a, n, c, rfl, hm', hn | ⟨g, cur, rfl, hgg, hc⟩⟩ := h
    · exact ⟨a, n, c, rfl, hm', .inl hn⟩
    · obtain ⟨g', cap, rfl⟩ := hf
      by_cases e : g = g'
      · subst e
        exact .of_row ho hm (by simpa [lenV] using hl) rfl
      · refine ⟨_, n, c, rfl, hm', .inr ⟨g, cur, rfl, ?_, hc⟩⟩
        rw [hg.block g (Array.getElem?_eq_some_iff.1 hgg).1 (by rw [← hd]; simpa [Value.ownBlock] using e)]
        exact hgg
  · exact h.below hb

/-- An append of marks onto a list of marks: in place or in new memory; whatever held the mark holds it still. -/
theorem run_append_mark {P : Program} (w : World) (base : Nat) (t ty e : TypeId) (i : TypeInfo) (z : Value) (size bytes : Nat) (ht : P.underlying t = some (.slice e)) (hi : P.info? e = some i) (hz : i.zero = some z)
    (hsize : i.size = size) (hby : i.bytes = bytes) (hzs : z.cells.size = size) (hsz : 0 < size)
    (v : Value) (n : Nat) (xs : List Value) (hown : w.ownsRow base e size v n xs)
    (a : Addr) (m c : Nat) (news : List Value) (hl : news.length = m * size) (hnews : ∀ j u, news[j]? = some u → w.cell? (a.add j) = some u) (h1 : ∀ u ∈ news, u.oneCell' = true)
    (hm : 0 < m) (h63 : n + m ≤ maxLen) (hbytes : (n + m) * bytes ≤ 140737488355328) (hbase : base ≤ w.heap.size) :
    ∃ v' w', (Builtin.append_ #[t, t] ty #[v, .slice (some a) m c]).run P w = .ok v' w' ∧ w'.ownsRow base e size v' (n + m) (xs ++ news) ∧ w.grownBy w' v.ownBlock ∧
      (v'.ownBlock = v.ownBlock ∨ v'.ownBlock = some w.heap.size ∧ Below w.heap.size w w') ∧ w'.ownsRow base e size v n xs ∧ ∃ g cap, v' = .slice (some ⟨g, 0, none⟩) (n + m) cap := by
  obtain ⟨v', w', hr, h2, h3, h4, h5, h6⟩ := run_append_keep (P := P) w base t ty e i z size bytes ht hi hz hsize hby hzs hsz v n xs hown a m c news hl hnews h1 hm h63 hbytes hbase
  refine ⟨v', w', hr, h2, h3, ?_, h5, h6⟩
  subst hsize hby
  rcases hown.2 with ⟨rfl, rfl⟩ | ⟨g, cap, cur, rfl, hbg, hg, hnc, hcm, hcs, htake⟩
  · have hr2 := run_append_nil (P := P) w t ty e i z ht hi hz a m c news hl hnews hm (by simp only [maxLen] at h63; omega) (by simp only [Nat.zero_add] at hbytes; omega)
    rw [hr] at hr2
    simp only [Result.ok.injEq] at hr2
    right
    refine ⟨by rw [hr2.1]; rfl, ?_⟩
    rw [hr2.2]
    exact ((Below.refl _ _).drew).alloc (by simp) _
  · by_cases hroom : n + m ≤ cap
    · have hfit : n * i.size + news.length ≤ cur.size := by rw [hl, hcs, ← Nat.add_mul]; exact Nat.mul_le_mul_right _ hroom
      have hr2 := run_append_room (P := P) w t ty e i ht hi g n cap cur hg a m c news hl hnews h1 hroom hfit
      rw [hr] at hr2
      simp only [Result.ok.injEq] at hr2
      left; rw [hr2.1]; rfl
    · have holds : ∀ j u, xs[j]? = some u → w.cell? ((⟨g, 0, none⟩ : Addr).add j) = some u := hown.cells (g := g) rfl
      have hr2 := run_append_grow (P := P) w t ty e i z ht hi hz ⟨g, 0, none⟩ n cap xs hown.1 holds a m c news hl hnews (by omega) (by simp only [maxLen] at h63; omega) (growslice_fits (by omega) hbytes)
      rw [hr] at hr2
      simp only [Result.ok.injEq] at hr2
      right
      refine ⟨by rw [hr2.1]; rfl, ?_⟩
      rw [hr2.2]
      exact ((Below.refl _ _).drew).alloc (by simp) _

theorem wpList_append_mark {P : Program} {w : World} {ops : Array Oper} {rest : List Oper} {o : Oper} {a : Act} {Q : Exit → Act → World → Prop} (hgd : o.guard = none) (s x : Operand) (t : TypeId)
    (ho : o.op = .call { callee := .builtin .append, args := #[s, x], argTypes := #[t, t] })
    (base : Nat) (e : TypeId) (i : TypeInfo) (z : Value) (size bytes : Nat) (ht : P.underlying t = some (.slice e)) (hi : P.info? e = some i) (hz : i.zero = some z)
    (hsize : i.size = size) (hby : i.bytes = bytes) (hzs : z.cells.size = size) (hsz : 0 < size)
    (v : Value) (n : Nat) (xs : List Value) (hs : a.eval s = v) (hown : w.ownsRow base e size v n xs)
    (ad : Addr) (m c : Nat) (news : List Value) (hx : a.eval x = .slice (some ad) m c) (hl : news.length = m * size) (hnews : ∀ j u, news[j]? = some u → w.cell? (ad.add j) = some u) (h1 : ∀ u ∈ news, u.oneCell' = true)
    (hm : 0 < m) (h63 : n + m ≤ maxLen) (hbytes : (n + m) * bytes ≤ 140737488355328) (hbase : base ≤ w.heap.size)
    (h : ∀ v' w', Hid (w'.ownsRow base e size v' (n + m) (xs ++ news) ∧ w.grownBy w' v.ownBlock ∧ (v'.ownBlock = v.ownBlock ∨ v'.ownBlock = some w.heap.size ∧ Below w.heap.size w w') ∧ w'.ownsRow base e size v n xs ∧ ∃ g cap, v' = .slice (some ⟨g, 0, none⟩) (n + m) cap) → wpList P ops Q rest (a.put o.dst v') w') : wpList P ops Q (o :: rest) a w := by
  refine wpList_plain hgd fun K hK => ?_
  obtain ⟨v', w', hr, h2⟩ := run_append_mark (P := P) w base t o.type e i z size bytes ht hi hz hsize hby hzs hsz v n xs hown ad m c news hl hnews h1 hm h63 hbytes hbase
  unfold Oper.wp
  simp only [execOp, ho, resolve, invoke, builtin, Sem.run_bind, Sem.run_pure, Result.andThen_ok, List.map_toArray, List.map_cons, List.map_nil, hs, hx, hr]
  exact hK _ _ (h v' w' h2)

/-- Rows of different types lie in different blocks. -/
theorem types_apart {w : World} {b1 b2 e1 e2 s1 s2 n1 n2 : Nat} {v u : Value} {xs ys : List Value} (h : w.ownsRow b1 e1 s1 v n1 xs) (g : w.ownsRow b2 e2 s2 u n2 ys) (hne : e1 ≠ e2) : u.ownBlock = none ∨ u.ownBlock ≠ v.ownBlock := by
  rcases g.2 with ⟨rfl, _⟩ | ⟨g1, cap1, cur1, rfl, _, hg1, _⟩
  · exact .inl rfl
  · rcases h.2 with ⟨rfl, _⟩ | ⟨g2, cap2, cur2, rfl, _, hg2, _⟩
    · exact .inr (by simp [Value.ownBlock])
    · refine .inr fun e => ?_
      simp [Value.ownBlock] at e
      rw [e, hg2] at hg1
      simp at hg1
      exact hne hg1.2
theorem row_type {w : World} {base e size n : Nat} {v : Value} {xs : List Value} (h : w.ownsRow base e size v n xs) {k : Nat} (hk : v.ownBlock = some k) : ∃ cur, w.heap[k]? = some (.cells cur e (0, 0)) := by
  rcases h.2 with ⟨rfl, _⟩ | ⟨g2, cap2, cur2, rfl, _, hg2, _⟩
  · cases hk
  · simp [Value.ownBlock] at hk; subst hk; exact ⟨_, hg2⟩

/-- THE BLOCK OF A SCRIPT's WORLD: sums, intake, data, store, and the book: es, em, ns, nm, ss, sm, ls, lm, next. -/
def WB (w : World) (g : Nat) (c : Array Value) : Prop := w.heap[g]? = some (.cells c 90 (0, 0))

theorem WB.lt {w : World} {g : Nat} {c : Array Value} (h : WB w g c) : g < w.heap.size := (Array.getElem?_eq_some_iff.1 h).1
theorem WB.cell {w : World} {g : Nat} {c : Array Value} (h : WB w g c) (j : Nat) : w.cell? ⟨g, j, none⟩ = c[j]? := cell_of_row w g j c 90 (0, 0) h
theorem WB.frozen {w : World} {g : Nat} {c : Array Value} (h : WB w g c) (j : Nat) : w.frozen? ⟨g, j, none⟩ = false := frozen_of_row w g j c 90 h
theorem WB.set {w : World} {g : Nat} {c : Array Value} (h : WB w g c) (j : Nat) (u : Value) : WB (w.setCell ⟨g, j, none⟩ u) g (c.setIfInBounds j u) := by
  have := heap_setCell_same w g j c 90 u h
  unfold WB
  rw [this]
theorem WB.touch {S : Nat → Prop} {w w' : World} {g : Nat} {c : Array Value} (h : WB w g c) (t : Touch S w w') (hs : ¬ S g) : WB w' g c := t.at_ h hs
theorem WB.below {B : Nat} {w w' : World} {g : Nat} {c : Array Value} (h : WB w g c) (hb : Below B w w') (hg : g < B) : WB w' g c := (hb.block g hg).trans h
end Go.Proofs.YtfcgnpchbcmdeaaGreat

namespace Go.Proofs.YtfcgnpchbcmdeaaGreat
open Go.RowKit

theorem OwnI.alloc {w : World} {base : Nat} {v : Value} {zs : List Int} (h : OwnI w base v zs) (o : Obj) : OwnI (w.alloc o) base v zs := World.ownsRow.alloc h o

/-- A number appended to numbers of one's own. -/
theorem wpList_append_int {w : World} {ops : Array Oper} {rest : List Oper} {o : Oper} {a : Act} {Q : Exit → Act → World → Prop} (hgd : o.guard = none) (s x : Operand)
    (ho : o.op = .call { callee := .builtin .append, args := #[s, x], argTypes := #[25, 25] }) (base : Nat) (v : Value) (zs : List Int) (z : Int) (hs : a.eval s = v) (hown : OwnI w base v zs)
    (g c : Nat) (hx : a.eval x = .slice (some ⟨g, 0, none⟩) 1 c) (hg : w.cell? ⟨g, 0, none⟩ = some (.int .i64 z)) (hl : zs.length ≤ 1000000000) (hbase : base ≤ w.heap.size)
    (h : ∀ v' w', Hid (OwnI w' base v' (zs ++ [z]) ∧ w.grownBy w' v.ownBlock ∧ (v'.ownBlock = v.ownBlock ∨ v'.ownBlock = some w.heap.size ∧ Below w.heap.size w w')) → wpList Tryz.prog ops Q rest (a.put o.dst v') w') : wpList Tryz.prog ops Q (o :: rest) a w := by
  obtain ⟨i0, hinf, hz0, hz1, hz2⟩ := info_parts info3
  refine wpList_append_mark hgd s x 25 ho base 3 i0 (.int .i64 0) 1 8 Tryz.underlying25 hinf hz0 hz1 hz2 rfl (by decide) v zs.length (zs.map (Value.int .i64)) hs hown ⟨g, 0, none⟩ 1 c [.int .i64 z] hx rfl ?_ ?_ (by decide) (by unfold maxLen; omega) (by omega) hbase ?_
  · intro j u hj
    cases j with
    | zero => simp at hj; subst hj; simpa [Addr.add] using hg
    | succ j => simp at hj
  · intro u hu; simp at hu; subst hu; rfl
  · intro v' w' H
    obtain ⟨h1, h2, h3, _, _⟩ := H.out
    exact h v' w' ⟨OwnI.more h1, h2, h3⟩

/-- How many shares an entry reaches. -/
def shareR (bins tot hi : Int) : Int := bins * hi / tot

def boundsB (tot bins : Int) : Int → List Ent → List Int
  | _, [] => []
  | share, e :: r => if share ≤ shareR bins tot e.hi then e.v :: boundsB tot bins (shareR bins tot e.hi + 1) r else boundsB tot bins share r

def boundsL (L : List Ent) (bins : Int) : List Int :=
  if L.length = 0 then [] else if (L.length : Int) ≤ bins then (L.take (L.length - 1)).map (fun e => e.v) else boundsB (totalL L) bins 1 (L.take (L.length - 1))

theorem drop_getD {L : List Ent} {k m : Nat} (hk : k < m) (hm : m ≤ L.length) : (L.take m).drop k = L.getD k e0 :: (L.take m).drop (k + 1) := by
  have h : k < (L.take m).length := by simp; omega
  rw [List.drop_eq_getElem_cons h]
  simp [List.getD, show k < L.length by omega]

theorem shareR_in {bins tot hi : Int} (h0 : 0 ≤ bins) (h1 : bins ≤ 16) (h2 : 0 ≤ hi) (h3 : hi ≤ tot) (h4 : 1 ≤ tot) : 0 ≤ shareR bins tot hi ∧ shareR bins tot hi ≤ 16 := by
  unfold shareR
  have a1 : 0 ≤ bins * hi := Int.mul_nonneg h0 h2
  have a2 : bins * hi ≤ 16 * tot := Int.mul_le_mul h1 h3 h2 (by omega)
  constructor
  · exact Int.ediv_nonneg a1 (by omega)
  · have := Int.ediv_le_ediv (show 0 < tot by omega) a2
    rwa [Int.mul_ediv_cancel _ (by omega)] at this

set_option maxHeartbeats 400000 in
theorem sharesReached_any (hi tot bins : Int) (w : World) (h0 : 0 ≤ bins) (h1 : bins ≤ 16) (h2 : 0 ≤ hi) (h3 : hi ≤ tot) (h4 : 1 ≤ tot) (h5 : tot ≤ 1000000000000) :
    Calls Tryz.prog 317 #[.int .i64 hi, .int .i64 tot, .int .i64 bins] w fun e w' => e = .returned (.int .i64 (shareR bins tot hi)) ∧ w' = w := by
  have a1 : 0 ≤ bins * hi := Int.mul_nonneg h0 h2
  have a2 : bins * hi ≤ 16 * 1000000000000 := Int.mul_le_mul h1 (by omega) h2 (by omega)
  have a3 := shareR_in h0 h1 h2 h3 h4
  have hne : tot ≠ 0 := by omega
  have hnb : (tot == 0) = false := beq_eq_false_iff_ne.2 hne
  have HT : Hid (shareR bins tot hi = (bins * hi).tdiv tot) := show _ = _ by unfold shareR; rw [Int.tdiv_eq_ediv_of_nonneg a1]
  unfold Hid at HT
  rw [HT] at a3 ⊢
  obtain ⟨b1, b2⟩ := a3
  clear HT
  go_enter Tryz.func317, Tryz.ntmps317
  go_wp2
  go_ret
  exact ⟨rfl, rfl⟩
end Go.Proofs.YtfcgnpchbcmdeaaGreat

namespace Go.Proofs.YtfcgnpchbcmdeaaGreat
open Go.RowKit


set_option maxRecDepth 100000 in
set_option maxHeartbeats 2000000 in
theorem bounds_few (b off : Nat) (L : List Ent) (cap : Nat) (bins : Int) (w : World) (h : EntsAt w b off L) (hcap : L.length ≤ cap) (h0 : L.length ≠ 0) (hl : L.length ≤ 4194304) (hfew : (L.length : Int) ≤ bins) :
    Calls Tryz.prog 273 #[.slice (some ⟨b, off, none⟩) L.length cap, .int .i64 bins] w fun e w' => ∃ v, e = .returned v ∧ OwnI w' w.heap.size v (boundsL L bins) ∧ Below w.heap.size w w' := by
  obtain ⟨i0, hinf, hz0, hz1, hz2⟩ := info_parts info3
  have HB : Hid (boundsL L bins = (L.take (L.length - 1)).map (fun e => e.v)) := show _ = _ by unfold boundsL; rw [if_neg h0, if_pos hfew]
  have hbl := h.lt (by omega)
  have HE : Hid (EntsAt w b off L) := h
  obtain ⟨m, hm⟩ : ∃ m, L.length = m + 1 := ⟨L.length - 1, by omega⟩
  have HL : Hid (L.length = m + 1) := hm
  rw [hm] at hcap hl hfew ⊢
  have hne : (((m : Int) + 1) == 0) = false := beq_eq_false_iff_ne.2 (by omega)
  have hfew2 : (m : Int) + 1 ≤ bins := by omega
  clear h h0 hm hfew
  go_enter Tryz.func273, Tryz.ntmps273
  go_wp2_with fail
  go_loopw [28, 6] (fun ti o wr => ∃ k : Nat, ti = .int .i64 k ∧ k ≤ m ∧ Hid (OwnI wr w.heap.size o ((L.take k).map (fun e => e.v))) ∧ Below w.heap.size w wr) (fun ti _ _ => m - (intOf ti).toNat)
  case atStart => exact ⟨0, rfl, Nat.zero_le _, OwnI.nil _ _, Below.refl _ _⟩
  case round =>
    obtain ⟨k, rfl, hk, HO, hbel⟩ := hrel
    by_cases hkm : k < m
    · have hA := HE.out
      have hkl : k < L.length := by rw [HL.out]; omega
      obtain ⟨a0, a1, a2, a3⟩ : wr.cell? ⟨b, off + k * 4, none⟩ = some (.int .i64 (L.getD k e0).v) ∧ wr.cell? ⟨b, off + k * 4 + 1, none⟩ = some (.int .i64 (L.getD k e0).lo) ∧ wr.cell? ⟨b, off + k * 4 + 2, none⟩ = some (.int .i64 (L.getD k e0).hi) ∧ wr.cell? ⟨b, off + k * 4 + 3, none⟩ = some (.int .i64 (L.getD k e0).wt) :=
        ⟨(hbel.cell (p := ⟨b, _, none⟩) hbl).trans (hA.v k hkl), (hbel.cell (p := ⟨b, _, none⟩) hbl).trans (hA.lo k hkl), (hbel.cell (p := ⟨b, _, none⟩) hbl).trans (hA.hi k hkl), (hbel.cell (p := ⟨b, _, none⟩) hbl).trans (hA.wt k hkl)⟩
      have HX : Hid ((L.take (k + 1)).map (fun e => e.v) = (L.take k).map (fun e => e.v) ++ [(L.getD k e0).v]) := show _ = _ by rw [take_snocE L hkl]; simp
      have HLEN : Hid (((L.take k).map (fun e => e.v)).length = k) := show _ = _ by simp; omega
      generalize (L.take k).map (fun e => e.v) = out at *
      generalize L.getD k e0 = x at *
      have bi1 : (0 : Int) ≤ (k : Int) := by omega
      have bi2 : (k : Int) < (m : Int) := by omega
      have hsz := hbel.size
      clear hA hkl
      have hlo : out.length ≤ 1000000000 := by rw [HLEN.out]; omega
      go_wp2_with (at_builtin; refine wpList_append_int rfl (.tmp 32) (.tmp 35) rfl w.heap.size _ out x.v rfl ((HO.out.alloc _).alloc _) (wr.heap.size + 1) 1 rfl ?_ hlo ?_ ?_)
      · simp [go_sem]
      · simp; omega
      intro v3 w3 H3
      have hb4 : Below w.heap.size w w3 := by
        obtain ⟨q1, q2, q3⟩ := H3.out
        exact hbel.trans ((((Below.refl _ _).alloc hsz _).alloc (by simp; omega) _).grown q2 (by simp; omega) (fun k hk => (HO.out.lt k hk).1))
      have HF : Hid (OwnI w3 w.heap.size v3 (out ++ [x.v])) := H3.out.1
      clear H3
      go_wp2
      go_roundw
      case rel => exact ⟨k + 1, by go_num, by omega, by rw [HX.out]; exact HF, hb4⟩
      case measure => simp [intOf]; omega
    · have hkm2 : ¬ (k : Int) < (m : Int) := by omega
      have HF : Hid (OwnI wr w.heap.size u6 (boundsL L bins)) := show OwnI _ _ _ _ by
        rw [HB.out, HL.out]
        have : k = m := by omega
        subst this
        exact HO.out
      clear HO
      go_wp2
      go_ret
      exact ⟨_, rfl, HF.out, hbel⟩

set_option maxRecDepth 100000 in
set_option maxHeartbeats 2000000 in
theorem bounds_many (b off : Nat) (L : List Ent) (cap : Nat) (bins : Int) (w : World) (h : EntsAt w b off L) (g : Good L) (hcap : L.length ≤ cap) (hl : L.length ≤ 4194304) (hb1 : 2 ≤ bins) (hb2 : bins ≤ 16) (hmany : bins < (L.length : Int)) :
    Calls Tryz.prog 273 #[.slice (some ⟨b, off, none⟩) L.length cap, .int .i64 bins] w fun e w' => ∃ v, e = .returned v ∧ OwnI w' w.heap.size v (boundsL L bins) ∧ Below w.heap.size w w' := by
  have h0 : L.length ≠ 0 := by omega
  have hbl := h.lt (by omega)
  have HE : Hid (EntsAt w b off L) := h
  have HG : Hid (Good L) := g
  obtain ⟨m, hm⟩ : ∃ m, L.length = m + 1 := ⟨L.length - 1, by omega⟩
  have HL : Hid (L.length = m + 1) := hm
  have HB : Hid (boundsL L bins = boundsB (totalL L) bins 1 (L.take m)) := show _ = _ by unfold boundsL; rw [if_neg h0, if_neg (by omega), hm]; rfl
  have ht : totalL L = (L.getD m e0).hi := by unfold totalL; rw [if_neg h0, hm]; rfl
  have c0 := h.hi m (by omega)
  rw [← ht] at c0
  have t1 : 1 ≤ totalL L := by have := g.at (show m < L.length by omega); rw [ht]; omega
  have t2 : totalL L ≤ 1000000000000 := (total_pos g).2
  have HTOT : Hid (∀ k, k < L.length → (L.getD k e0).hi ≤ totalL L) := fun k hk => total_at g hk
  rw [hm] at hcap hl hmany ⊢
  have hne : (((m : Int) + 1) == 0) = false := beq_eq_false_iff_ne.2 (by omega)
  have hmany2 : ¬ (m : Int) + 1 ≤ bins := by omega
  have b1 : (0 : Int) ≤ (m : Int) + 1 - 1 := by omega
  have b2 : (m : Int) + 1 - 1 < (m : Int) + 1 := by omega
  clear h g h0 hm hmany ht
  generalize totalL L = tot at *
  go_enter Tryz.func273, Tryz.ntmps273
  go_wp2_with fail
  go_loopw [48, 6, 10] (fun ti o ts wr => ∃ (k : Nat) (share : Int) (out : List Int), ti = .int .i64 k ∧ ts = .int .i64 share ∧ 1 ≤ share ∧ share ≤ 17 ∧ k ≤ m ∧ out.length ≤ k ∧ Hid (OwnI wr w.heap.size o out) ∧ Hid (out ++ boundsB tot bins share ((L.take m).drop k) = boundsL L bins) ∧ Below w.heap.size w wr) (fun ti _ _ _ => m - (intOf ti).toNat)
  case atStart => exact ⟨0, 1, [], rfl, rfl, by decide, by decide, Nat.zero_le _, Nat.le_refl _, OwnI.nil _ _, by show _ = _; rw [HB.out]; rfl, Below.refl _ _⟩
  case round =>
    clear c0
    obtain ⟨k, share, out, rfl, rfl, hs1, hs2, hk, hol, HO, HR, hbel⟩ := hrel
    by_cases hkm : k < m
    · have hA := HE.out
      have hkl : k < L.length := by rw [HL.out]; omega
      obtain ⟨a0, a1, a2, a3⟩ : wr.cell? ⟨b, off + k * 4, none⟩ = some (.int .i64 (L.getD k e0).v) ∧ wr.cell? ⟨b, off + k * 4 + 1, none⟩ = some (.int .i64 (L.getD k e0).lo) ∧ wr.cell? ⟨b, off + k * 4 + 2, none⟩ = some (.int .i64 (L.getD k e0).hi) ∧ wr.cell? ⟨b, off + k * 4 + 3, none⟩ = some (.int .i64 (L.getD k e0).wt) :=
        ⟨(hbel.cell (p := ⟨b, _, none⟩) hbl).trans (hA.v k hkl), (hbel.cell (p := ⟨b, _, none⟩) hbl).trans (hA.lo k hkl), (hbel.cell (p := ⟨b, _, none⟩) hbl).trans (hA.hi k hkl), (hbel.cell (p := ⟨b, _, none⟩) hbl).trans (hA.wt k hkl)⟩
      have hx1 : 0 ≤ (L.getD k e0).hi := by have := HG.out.at hkl; omega
      have hx2 := HTOT.out k hkl
      have hd : (L.take m).drop k = L.getD k e0 :: (L.take m).drop (k + 1) := drop_getD hkm (by rw [HL.out]; omega)
      have hr := HR.out
      rw [hd] at hr
      clear hd HR
      generalize L.getD k e0 = x at *
      have hsh := shareR_in (show 0 ≤ bins by omega) hb2 hx1 hx2 t1
      obtain ⟨s1, s2⟩ := hsh
      have bi1 : (0 : Int) ≤ (k : Int) := by omega
      have bi2 : (k : Int) < (m : Int) := by omega
      have hsz := hbel.size
      have hlo : out.length ≤ 1000000000 := by omega
      simp only [boundsB] at hr
      have HSC : Hid (∀ W : World, Calls Tryz.prog 317 #[.int .i64 x.hi, .int .i64 tot, .int .i64 bins] W fun e w' => e = .returned (.int .i64 (shareR bins tot x.hi)) ∧ w' = W) := fun W => sharesReached_any x.hi tot bins W (by omega) hb2 hx1 hx2 t1 t2
      generalize shareR bins tot x.hi = r at *
      clear hA hkl hx1 hx2
      by_cases hc : share ≤ r
      · rw [if_pos hc] at hr
        have HR : Hid (out ++ x.v :: boundsB tot bins (r + 1) ((L.take m).drop (k + 1)) = boundsL L bins) := hr
        clear hr
        go_wp2_with fail
        refine (HSC.out _).mono ?_
        rintro e w1 ⟨rfl, rfl⟩
        go_wp2_with (at_builtin; refine wpList_append_int rfl (.tmp 60) (.tmp 63) rfl w.heap.size _ out x.v rfl ((HO.out.alloc _).alloc _) (wr.heap.size + 1) 1 rfl ?_ hlo ?_ ?_)
        · simp [go_sem]
        · simp; omega
        intro v3 w3 H3
        have hb4 : Below w.heap.size w w3 := by
          obtain ⟨q1, q2, q3⟩ := H3.out
          exact hbel.trans ((((Below.refl _ _).alloc hsz _).alloc (by simp; omega) _).grown q2 (by simp; omega) (fun k hk => (HO.out.lt k hk).1))
        have HF : Hid (OwnI w3 w.heap.size v3 (out ++ [x.v])) := H3.out.1
        clear H3
        go_wp2
        go_roundw
        case rel => exact ⟨k + 1, r + 1, out ++ [x.v], by go_num, by go_num, by omega, by omega, by omega, by simp; omega, HF, by show _ = _; rw [List.append_assoc]; exact HR.out, hb4⟩
        case measure => simp [intOf]; omega
      · rw [if_neg hc] at hr
        have HR : Hid (out ++ boundsB tot bins share ((L.take m).drop (k + 1)) = boundsL L bins) := hr
        clear hr
        go_wp2_with fail
        refine (HSC.out _).mono ?_
        rintro e w1 ⟨rfl, rfl⟩
        have HF := HO.out.alloc (.cells #[.int .i64 x.v, .int .i64 x.lo, .int .i64 x.hi, .int .i64 x.wt] 98)
        have HFF : Hid (OwnI (wr.alloc (.cells #[.int .i64 x.v, .int .i64 x.lo, .int .i64 x.hi, .int .i64 x.wt] 98)) w.heap.size u6 out) := HF
        clear HF
        go_wp2
        go_roundw
        case rel => exact ⟨k + 1, share, out, by go_num, rfl, by omega, by omega, by omega, by omega, HFF, HR, hbel.trans ((Below.refl _ _).alloc hsz _)⟩
        case measure => simp [intOf]; omega
    · have hkm2 : ¬ (k : Int) < (m : Int) := by omega
      have HF : Hid (OwnI wr w.heap.size u6 (boundsL L bins)) := show OwnI _ _ _ _ by
        have := HR.out
        rw [List.drop_eq_nil_of_le (by simp; omega)] at this
        simp only [boundsB, List.append_nil] at this
        rw [← this]
        exact HO.out
      clear HO HR
      go_wp2
      go_ret
      exact ⟨_, rfl, HF.out, hbel⟩

set_option maxHeartbeats 400000 in
theorem bounds_any (a : Option Addr) (L : List Ent) (cap : Nat) (bins : Int) (w : World) (h : EntsV w a L) (g : Good L) (hcap : L.length ≤ cap) (hb1 : 2 ≤ bins) (hb2 : bins ≤ 16) :
    Calls Tryz.prog 273 #[.slice a L.length cap, .int .i64 bins] w fun e w' => ∃ v, e = .returned v ∧ OwnI w' w.heap.size v (boundsL L bins) ∧ Below w.heap.size w w' := by
  obtain ⟨hl, h0 | ⟨b, off, rfl, hA⟩⟩ := h
  · have hB : boundsL L bins = [] := by unfold boundsL; rw [if_pos h0]
    rw [hB, h0]
    go_enter Tryz.func273, Tryz.ntmps273
    go_wp2
    go_ret
    exact ⟨_, rfl, OwnI.nil _ _, Below.refl _ _⟩
  · by_cases h0 : L.length = 0
    · have hB : boundsL L bins = [] := by unfold boundsL; rw [if_pos h0]
      rw [hB, h0]
      go_enter Tryz.func273, Tryz.ntmps273
      go_wp2
      go_ret
      exact ⟨_, rfl, OwnI.nil _ _, Below.refl _ _⟩
    · by_cases hf : (L.length : Int) ≤ bins
      · exact bounds_few b off L cap bins w hA hcap h0 hl hf
      · exact bounds_many b off L cap bins w hA g hcap hl hb1 hb2 (by omega)
end Go.Proofs.YtfcgnpchbcmdeaaGreat
