/-
  What a call leaves alone; lists that hold one mark; the block of a script's world; an append that says whether it wrote in place.
-/
import Derived.Test.YtfcgnpchbcmdeaaGreatSwo
import Derived.Test.YtfcgnpchbcmdeaaGreatSwp
namespace Go.Proofs.YtfcgnpchbcmdeaaGreat
open Go.RowKit

/-- ALL BLOCKS BUT THOSE OF S ARE AS THEY WERE. -/
structure Touch (S : Nat → Prop) (w w' : World) : Prop where
  os : w'.os = w.os
  tape : w'.tape = w.tape
  output : w'.output = w.output
  size : w.heap.size ≤ w'.heap.size
  block : ∀ k, k < w.heap.size → ¬ S k → w'.heap[k]? = w.heap[k]?

theorem Touch.refl (S : Nat → Prop) (w : World) : Touch S w w := ⟨rfl, rfl, rfl, Nat.le_refl _, fun _ _ _ => rfl⟩
theorem Touch.trans {S : Nat → Prop} {a b c : World} (h : Touch S a b) (k : Touch S b c) : Touch S a c :=
  ⟨k.os.trans h.os, k.tape.trans h.tape, k.output.trans h.output, Nat.le_trans h.size k.size, fun i hi hs => (k.block i (Nat.lt_of_lt_of_le hi h.size) hs).trans (h.block i hi hs)⟩
theorem Touch.mono {S S' : Nat → Prop} {a b : World} (h : Touch S a b) (hs : ∀ k, k < a.heap.size → S k → S' k) : Touch S' a b :=
  ⟨h.os, h.tape, h.output, h.size, fun k hk hn => h.block k hk (fun e => hn (hs k hk e))⟩
theorem Touch.of_below {S : Nat → Prop} {a b : World} (h : Below a.heap.size a b) : Touch S a b := ⟨h.os, h.tape, h.output, h.size, fun k hk _ => h.block k hk⟩
theorem Touch.below {S : Nat → Prop} {a b c : World} (h : Touch S a b) (k : Below b.heap.size b c) : Touch S a c := h.trans (.of_below k)
theorem Touch.alloc {S : Nat → Prop} {a b : World} (h : Touch S a b) (o : Obj) : Touch S a (b.alloc o) := h.below ((Below.refl _ _).alloc (Nat.le_refl _) _)
theorem Touch.drew {S : Nat → Prop} {a b : World} (h : Touch S a b) : Touch S a b.drew := h.below (Below.refl _ _).drew
theorem Touch.setCell {S : Nat → Prop} {a b : World} (h : Touch S a b) {p : Addr} (hp : p.block < a.heap.size → S p.block) (u : Value) : Touch S a (b.setCell p u) :=
  ⟨h.os, h.tape, h.output, by have := h.size; simpa [World.setCell] using this, fun k hk hn => (Below.heap_setCell b p u k (fun e => hn (e ▸ hp (e ▸ hk)))).trans (h.block k hk hn)⟩
theorem Touch.grown {S : Nat → Prop} {a b c : World} {row : Option Nat} (h : Touch S a b) (hg : b.grownBy c row) (hr : ∀ k, row = some k → k < a.heap.size → S k) : Touch S a c :=
  ⟨hg.os.trans h.os, hg.tape.trans h.tape, hg.output.trans h.output, Nat.le_trans h.size hg.size, fun k hk hn => (hg.block k (Nat.lt_of_lt_of_le hk h.size) (fun e => hn (hr k e.symm hk))).trans (h.block k hk hn)⟩
theorem Touch.row {S : Nat → Prop} {a b : World} (h : Touch S a b) {base : Nat} {e : TypeId} {size : Nat} {v : Value} {n : Nat} {xs : List Value} (hr : a.ownsRow base e size v n xs) (hs : ∀ k, v.ownBlock = some k → ¬ S k) : b.ownsRow base e size v n xs := by
  refine ⟨hr.1, ?_⟩
  rcases hr.2 with hn | ⟨g, cap, cur, rfl, hb, hgg, rest⟩
  · exact .inl hn
  · exact .inr ⟨g, cap, cur, rfl, hb, (h.block g (Array.getElem?_eq_some_iff.1 hgg).1 (hs g rfl)).trans hgg, rest⟩
theorem Touch.at_ {S : Nat → Prop} {a b : World} (h : Touch S a b) {g : Nat} {o : Obj} (hg : a.heap[g]? = some o) (hs : ¬ S g) : b.heap[g]? = some o := (h.block g (Array.getElem?_eq_some_iff.1 hg).1 hs).trans hg

/-- A LIST OF ENTRIES THAT HOLDS ONE MARK THROUGHOUT. -/
def AllM (w : World) (z : Int) (v : Value) : Prop := ∃ (a : Option Addr) (n c : Nat), v = .slice a n c ∧ n ≤ maxLen ∧ (n = 0 ∨ ∃ (g : Nat) (cur : Array Value), a = some ⟨g, 0, none⟩ ∧ w.heap[g]? = some (.cells cur 98 (0, 0)) ∧ ∀ i, i < n → cur[i * 4]? = some (.int .i64 z) ∧ cur[i * 4 + 1]? = some (.int .i64 0) ∧ cur[i * 4 + 2]? = some (.int .i64 0) ∧ cur[i * 4 + 3]? = some (.int .i64 0))

def markE (z : Int) : Ent := ⟨z, 0, 0, 0⟩

theorem flat_rep_get (z : Int) : ∀ (n i : Nat), i < n → ∀ c, c < 4 → (flat (List.replicate n (markE z)))[i * 4 + c]? = (cellsE (markE z))[c]?
  | 0, i, h => by omega
  | n + 1, 0, _ => fun c hc => by
    simp only [List.replicate_succ, flat]
    rw [show 0 * 4 + c = c by omega, List.getElem?_append_left (by simpa [cellsE] using hc)]
  | n + 1, i + 1, h => fun c hc => by
    simp only [List.replicate_succ, flat]
    rw [List.getElem?_append_right (by simp [cellsE]; omega), show (i + 1) * 4 + c - (cellsE (markE z)).length = i * 4 + c by simp [cellsE]; omega]
    exact flat_rep_get z n i (by omega) c hc

theorem flat_rep_snoc (z : Int) (n m : Nat) : flat (List.replicate n (markE z)) ++ flat (List.replicate m (markE z)) = flat (List.replicate (n + m) (markE z)) := by
  rw [← flat_append, List.replicate_append_replicate]

/-- A row of marks, longer than the list or as long, at the list's own block. -/
theorem AllM.of_row {w : World} {base g n cap m : Nat} {a : Option Addr} {c : Nat} {z : Int} (hr : OwnE w base (.slice (some ⟨g, 0, none⟩) m cap) (List.replicate m (markE z))) (hm : m ≤ maxLen) (hn : n ≤ m) (ha : a = some ⟨g, 0, none⟩) : AllM w z (.slice a n c) := by
  subst ha
  rcases hr.2 with ⟨e, _⟩ | ⟨g', cap', cur, e, _, hh, _, _, _, ht⟩
  · cases e
  · injection e with e1 e2 e3
    injection e1 with e1
    injection e1 with e1
    subst e1
    refine ⟨_, n, c, rfl, by omega, .inr ⟨g, cur, rfl, hh, fun i hi => ?_⟩⟩
    have key : ∀ k, k < 4 → cur[i * 4 + k]? = (cellsE (markE z))[k]? := fun k hk => by
      rw [← flat_rep_get z m i (by omega) k hk, ← ht, List.getElem?_take, if_pos (by simp; omega)]
      simp
    exact ⟨key 0 (by omega), key 1 (by omega), key 2 (by omega), key 3 (by omega)⟩

theorem AllM.nil (w : World) (z : Int) (a : Option Addr) (c : Nat) : AllM w z (.slice a 0 c) := ⟨a, 0, c, rfl, by simp [maxLen], .inl rfl⟩

/-- The marks of a row of one's own. -/
theorem AllM.own {w : World} {base : Nat} {v : Value} {m : Nat} {z : Int} (hr : OwnE w base v (List.replicate m (markE z))) (hm : m ≤ maxLen) : AllM w z v := by
  have hr' := hr
  rcases hr.2 with ⟨rfl, _⟩ | ⟨g', cap', cur, e, _, hh, _, _, _, ht⟩
  · exact .nil _ _ _ _
  · subst e
    have : (List.replicate m (markE z)).length = m := by simp
    rw [this] at hr' ⊢
    exact .of_row hr' hm (Nat.le_refl _) rfl

theorem AllM.touch {S : Nat → Prop} {w w' : World} {z : Int} {v : Value} (h : AllM w z v) (t : Touch S w w') (hs : ∀ k cur, v.ownBlock = some k → w.heap[k]? = some (.cells cur 98 (0, 0)) → ¬ S k) : AllM w' z v := by
  obtain ⟨a, n, c, rfl, hm, hn | ⟨g, cur, rfl, hg, hc⟩⟩ := h
  · exact ⟨a, n, c, rfl, hm, .inl hn⟩
  · exact ⟨_, n, c, rfl, hm, .inr ⟨g, cur, rfl, t.at_ hg (hs g cur rfl hg), hc⟩⟩
theorem AllM.below {w w' : World} {z : Int} {v : Value} (h : AllM w z v) (hb : Below w.heap.size w w') : AllM w' z v := h.touch (S := fun _ => False) (.of_below hb) (fun _ _ _ _ => id)
theorem AllM.alloc {w : World} {z : Int} {v : Value} (h : AllM w z v) (o : Obj) : AllM (w.alloc o) z v := h.below ((Below.refl _ _).alloc (Nat.le_refl _) _)

def lenV : Value → Nat
  | .slice _ n _ => n
  | _ => 0

/-- Whatever holds the mark holds it still behind an append of such marks. -/
theorem AllM.append {w w' : World} {z : Int} {u v v' : Value} {base m N : Nat} (h : AllM w z u) (hg : w.grownBy w' v.ownBlock) (hd : v'.ownBlock = v.ownBlock ∨ v'.ownBlock = some N ∧ Below N w w') (hN : w.heap.size = N)
    (ho : OwnE w' base v' (List.replicate m (markE z))) (hm : m ≤ maxLen) (hf : ∃ g cap, v' = .slice (some ⟨g, 0, none⟩) m cap) (hl : lenV u ≤ m) : AllM w' z u := by
  subst hN
  rcases hd with hd | ⟨_, hb⟩
  · obtain ⟨a, n, c, rfl, hm', hn | ⟨g, cur, rfl, hgg, hc⟩⟩ := h
    · exact ⟨a, n, c, rfl, hm', .inl hn⟩
    · obtain ⟨g', cap, rfl⟩ := hf
      by_cases e : g = g'
      · subst e
        exact .of_row ho hm (by simpa [lenV] using hl) rfl
      · refine ⟨_, n, c, rfl, hm', .inr ⟨g, cur, rfl, ?_, hc⟩⟩
        rw [hg.block g (Array.getElem?_eq_some_iff.1 hgg).1 (by rw [← hd]; simpa [Value.ownBlock] using e)]
        exact hgg
  · exact h.below hb

/-- An append of marks onto a list of marks: in place or in new memory; whatever held the mark holds it still. -/
theorem run_append_mark {P : Program} (w : World) (base : Nat) (t ty e : TypeId) (i : TypeInfo) (z : Value) (size bytes : Nat) (ht : P.underlying t = some (.slice e)) (hi : P.info? e = some i) (hz : i.zero = some z)
    (hsize : i.size = size) (hby : i.bytes = bytes) (hzs : z.cells.size = size) (hsz : 0 < size)
    (v : Value) (n : Nat) (xs : List Value) (hown : w.ownsRow base e size v n xs)
    (a : Addr) (m c : Nat) (news : List Value) (hl : news.length = m * size) (hnews : ∀ j u, news[j]? = some u → w.cell? (a.add j) = some u) (h1 : ∀ u ∈ news, u.oneCell' = true)
    (hm : 0 < m) (h63 : n + m ≤ maxLen) (hbytes : (n + m) * bytes ≤ 140737488355328) (hbase : base ≤ w.heap.size) :
    ∃ v' w', (Builtin.append_ #[t, t] ty #[v, .slice (some a) m c]).run P w = .ok v' w' ∧ w'.ownsRow base e size v' (n + m) (xs ++ news) ∧ w.grownBy w' v.ownBlock ∧
      (v'.ownBlock = v.ownBlock ∨ v'.ownBlock = some w.heap.size ∧ Below w.heap.size w w') ∧ w'.ownsRow base e size v n xs ∧ ∃ g cap, v' = .slice (some ⟨g, 0, none⟩) (n + m) cap := by
  obtain ⟨v', w', hr, h2, h3, h4, h5, h6⟩ := run_append_keep (P := P) w base t ty e i z size bytes ht hi hz hsize hby hzs hsz v n xs hown a m c news hl hnews h1 hm h63 hbytes hbase
  refine ⟨v', w', hr, h2, h3, ?_, h5, h6⟩
  subst hsize hby
  rcases hown.2 with ⟨rfl, rfl⟩ | ⟨g, cap, cur, rfl, hbg, hg, hnc, hcm, hcs, htake⟩
  · have hr2 := run_append_nil (P := P) w t ty e i z ht hi hz a m c news hl hnews hm (by simp only [maxLen] at h63; omega) (by simp only [Nat.zero_add] at hbytes; omega)
    rw [hr] at hr2
    simp only [Result.ok.injEq] at hr2
    right
    refine ⟨by rw [hr2.1]; rfl, ?_⟩
    rw [hr2.2]
    exact ((Below.refl _ _).drew).alloc (by simp) _
  · by_cases hroom : n + m ≤ cap
    · have hfit : n * i.size + news.length ≤ cur.size := by rw [hl, hcs, ← Nat.add_mul]; exact Nat.mul_le_mul_right _ hroom
      have hr2 := run_append_room (P := P) w t ty e i ht hi g n cap cur hg a m c news hl hnews h1 hroom hfit
      rw [hr] at hr2
      simp only [Result.ok.injEq] at hr2
      left; rw [hr2.1]; rfl
    · have holds : ∀ j u, xs[j]? = some u → w.cell? ((⟨g, 0, none⟩ : Addr).add j) = some u := hown.cells (g := g) rfl
      have hr2 := run_append_grow (P := P) w t ty e i z ht hi hz ⟨g, 0, none⟩ n cap xs hown.1 holds a m c news hl hnews (by omega) (by simp only [maxLen] at h63; omega) (growslice_fits (by omega) hbytes)
      rw [hr] at hr2
      simp only [Result.ok.injEq] at hr2
      right
      refine ⟨by rw [hr2.1]; rfl, ?_⟩
      rw [hr2.2]
      exact ((Below.refl _ _).drew).alloc (by simp) _

theorem wpList_append_mark {P : Program} {w : World} {ops : Array Oper} {rest : List Oper} {o : Oper} {a : Act} {Q : Exit → Act → World → Prop} (hgd : o.guard = none) (s x : Operand) (t : TypeId)
    (ho : o.op = .call { callee := .builtin .append, args := #[s, x], argTypes := #[t, t] })
    (base : Nat) (e : TypeId) (i : TypeInfo) (z : Value) (size bytes : Nat) (ht : P.underlying t = some (.slice e)) (hi : P.info? e = some i) (hz : i.zero = some z)
    (hsize : i.size = size) (hby : i.bytes = bytes) (hzs : z.cells.size = size) (hsz : 0 < size)
    (v : Value) (n : Nat) (xs : List Value) (hs : a.eval s = v) (hown : w.ownsRow base e size v n xs)
    (ad : Addr) (m c : Nat) (news : List Value) (hx : a.eval x = .slice (some ad) m c) (hl : news.length = m * size) (hnews : ∀ j u, news[j]? = some u → w.cell? (ad.add j) = some u) (h1 : ∀ u ∈ news, u.oneCell' = true)
    (hm : 0 < m) (h63 : n + m ≤ maxLen) (hbytes : (n + m) * bytes ≤ 140737488355328) (hbase : base ≤ w.heap.size)
    (h : ∀ v' w', Hid (w'.ownsRow base e size v' (n + m) (xs ++ news) ∧ w.grownBy w' v.ownBlock ∧ (v'.ownBlock = v.ownBlock ∨ v'.ownBlock = some w.heap.size ∧ Below w.heap.size w w') ∧ w'.ownsRow base e size v n xs ∧ ∃ g cap, v' = .slice (some ⟨g, 0, none⟩) (n + m) cap) → wpList P ops Q rest (a.put o.dst v') w') : wpList P ops Q (o :: rest) a w := by
  refine wpList_plain hgd fun K hK => ?_
  obtain ⟨v', w', hr, h2⟩ := run_append_mark (P := P) w base t o.type e i z size bytes ht hi hz hsize hby hzs hsz v n xs hown ad m c news hl hnews h1 hm h63 hbytes hbase
  unfold Oper.wp
  simp only [execOp, ho, resolve, invoke, builtin, Sem.run_bind, Sem.run_pure, Result.andThen_ok, List.map_toArray, List.map_cons, List.map_nil, hs, hx, hr]
  exact hK _ _ (h v' w' h2)

/-- Rows of different types lie in different blocks. -/
theorem types_apart {w : World} {b1 b2 e1 e2 s1 s2 n1 n2 : Nat} {v u : Value} {xs ys : List Value} (h : w.ownsRow b1 e1 s1 v n1 xs) (g : w.ownsRow b2 e2 s2 u n2 ys) (hne : e1 ≠ e2) : u.ownBlock = none ∨ u.ownBlock ≠ v.ownBlock := by
  rcases g.2 with ⟨rfl, _⟩ | ⟨g1, cap1, cur1, rfl, _, hg1, _⟩
  · exact .inl rfl
  · rcases h.2 with ⟨rfl, _⟩ | ⟨g2, cap2, cur2, rfl, _, hg2, _⟩
    · exact .inr (by simp [Value.ownBlock])
    · refine .inr fun e => ?_
      simp [Value.ownBlock] at e
      rw [e, hg2] at hg1
      simp at hg1
      exact hne hg1.2
theorem row_type {w : World} {base e size n : Nat} {v : Value} {xs : List Value} (h : w.ownsRow base e size v n xs) {k : Nat} (hk : v.ownBlock = some k) : ∃ cur, w.heap[k]? = some (.cells cur e (0, 0)) := by
  rcases h.2 with ⟨rfl, _⟩ | ⟨g2, cap2, cur2, rfl, _, hg2, _⟩
  · cases hk
  · simp [Value.ownBlock] at hk; subst hk; exact ⟨_, hg2⟩

/-- THE BLOCK OF A SCRIPT's WORLD: sums, intake, data, store, and the book: es, em, ns, nm, ss, sm, ls, lm, next. -/
def WB (w : World) (g : Nat) (c : Array Value) : Prop := w.heap[g]? = some (.cells c 90 (0, 0))

theorem WB.lt {w : World} {g : Nat} {c : Array Value} (h : WB w g c) : g < w.heap.size := (Array.getElem?_eq_some_iff.1 h).1
theorem WB.cell {w : World} {g : Nat} {c : Array Value} (h : WB w g c) (j : Nat) : w.cell? ⟨g, j, none⟩ = c[j]? := cell_of_row w g j c 90 (0, 0) h
theorem WB.frozen {w : World} {g : Nat} {c : Array Value} (h : WB w g c) (j : Nat) : w.frozen? ⟨g, j, none⟩ = false := frozen_of_row w g j c 90 h
theorem WB.set {w : World} {g : Nat} {c : Array Value} (h : WB w g c) (j : Nat) (u : Value) : WB (w.setCell ⟨g, j, none⟩ u) g (c.setIfInBounds j u) := by
  have := heap_setCell_same w g j c 90 u h
  unfold WB
  rw [this]
theorem WB.touch {S : Nat → Prop} {w w' : World} {g : Nat} {c : Array Value} (h : WB w g c) (t : Touch S w w') (hs : ¬ S g) : WB w' g c := t.at_ h hs
theorem WB.below {B : Nat} {w w' : World} {g : Nat} {c : Array Value} (h : WB w g c) (hb : Below B w w') (hg : g < B) : WB w' g c := (hb.block g hg).trans h
end Go.Proofs.YtfcgnpchbcmdeaaGreat
