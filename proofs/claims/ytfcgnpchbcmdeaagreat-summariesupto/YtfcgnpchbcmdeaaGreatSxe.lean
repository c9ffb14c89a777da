/-
  Lists that are lent and looked at again, nil or not: numbers and entries.
-/
import Derived.Test.YtfcgnpchbcmdeaaGreatSxd
import Derived.Test.YtfcgnpchbcmdeaaGreatSww
namespace Go.Proofs.YtfcgnpchbcmdeaaGreat
open Go.RowKit

/-- NUMBERS THAT WERE LENT: o is the copy. -/
def LentN (w : World) (base : Nat) (o : Value) (a : Option Addr) (n c : Nat) (zs : List Int) : Prop :=
  (a = none ∧ n = 0 ∧ c = 0 ∧ zs = [] ∧ o = .slice none 0 0) ∨ ∃ p g, a = some p ∧ o = .slice (some ⟨g, 0, none⟩) n (n + 8) ∧ base ≤ g ∧ g < w.heap.size ∧ zs.length = n ∧ (∀ z ∈ zs, (Lit.int .i64 z).wf = true) ∧ w.rowIs g 3 (n + 8) (lentK zs (n + 8))

theorem LentN.below {w w' : World} {base : Nat} {o : Value} {a : Option Addr} {n c : Nat} {zs : List Int} (h : LentN w base o a n c zs) (hb : Below w.heap.size w w') : LentN w' base o a n c zs := by
  rcases h with h | ⟨p, g, h1, h2, h3, h4, h5, h6, cur, h7, h8, h9⟩
  · exact .inl h
  · exact .inr ⟨p, g, h1, h2, h3, Nat.lt_of_lt_of_le h4 hb.size, h5, h6, cur, (hb.block g h4).trans h7, h8, h9⟩

theorem LentN.view {w : World} {base : Nat} {o : Value} {a : Option Addr} {n c : Nat} {zs : List Int} (h : LentN w base o a n c zs) : ∃ a' c', o = .slice a' n c' ∧ IntsV w a' n zs := by
  rcases h with ⟨rfl, rfl, rfl, rfl, rfl⟩ | ⟨p, g, rfl, rfl, h3, h4, h5, h6, cur, h7, h8, h9⟩
  · exact ⟨none, 0, rfl, rfl, by simp, .inl rfl⟩
  · refine ⟨_, _, rfl, h5, h6, .inr ⟨g, 0, rfl, h4, fun i hi => ?_⟩⟩
    rw [Nat.zero_add, cell_of_row w g i cur 3 (0, 0) h7, h9 i (by omega)]
    unfold lentK
    rw [if_pos (by omega)]

theorem lentN_any (a : Option Addr) (n c : Nat) (zs : List Int) (w : World) (h : IntsV w a n zs) (hz : a = none → n = 0 ∧ c = 0) (hn : n ≤ 2097152) :
    Calls Tryz.prog 112 #[.slice a n c] w fun e w' => ∃ o, e = .returned o ∧ LentN w' w.heap.size o a n c zs ∧ Below w.heap.size w w' := by
  cases a with
  | none =>
    obtain ⟨rfl, rfl⟩ := hz rfl
    refine (lentNumbers_nil w).mono ?_
    rintro e w' ⟨rfl, rfl⟩
    exact ⟨_, rfl, .inl ⟨rfl, rfl, rfl, List.eq_nil_of_length_eq_zero h.1, rfl⟩, Below.refl _ _⟩
  | some p =>
    refine (lentNumbers_any p n c zs w h hn).mono ?_
    rintro e w' ⟨rfl, h2, h3⟩
    refine ⟨_, rfl, .inr ⟨p, w.heap.size, rfl, rfl, Nat.le_refl _, ?_, h.1, h.2.1, h2⟩, h3⟩
    obtain ⟨cur, h7, _⟩ := h2
    exact (Array.getElem?_eq_some_iff.1 h7).1

theorem stillN_any (a : Option Addr) (n c base : Nat) (zs : List Int) (o : Value) (w : World) (h : LentN w base o a n c zs) (hv : IntsV w a n zs) (hlt : ∀ b off, a = some ⟨b, off, none⟩ → 0 < n → b < base) (hn : n ≤ 2097152) :
    Calls Tryz.prog 113 #[o, .slice a n c] w fun e w' => e = .returned (.bool true) ∧ w.grownBy w' o.ownBlock := by
  rcases h with ⟨rfl, rfl, rfl, rfl, rfl⟩ | ⟨p, g, rfl, rfl, h3, h4, h5, h6, h7⟩
  · refine (stillNumbers_nil _ w).mono ?_
    rintro e w' ⟨rfl, rfl⟩
    exact ⟨rfl, grown_refl _ _⟩
  · refine (stillNumbers_any p n c g zs w hv hn h7 (fun h0 e => ?_)).mono ?_
    · rcases hv.2.2 with h | ⟨b, off, e1, _, _⟩
      · omega
      · have e2 : p = ⟨b, off, none⟩ := by simpa using e1
        have := hlt b off (by rw [e2]) h0
        rw [e2] at e
        simp at e
        omega
    · rintro e w' ⟨rfl, hg⟩
      exact ⟨rfl, hg⟩

theorem LentN.own {w : World} {base : Nat} {o : Value} {a : Option Addr} {n c : Nat} {zs : List Int} (h : LentN w base o a n c zs) {k : Nat} (hk : o.ownBlock = some k) : base ≤ k ∧ k < w.heap.size ∧ ∃ cur, w.heap[k]? = some (.cells cur 3 (0, 0)) := by
  rcases h with ⟨rfl, rfl, rfl, rfl, rfl⟩ | ⟨p, g, rfl, rfl, h3, h4, h5, h6, cur, h7, h8⟩
  · cases hk
  · simp [Value.ownBlock] at hk
    subst hk
    exact ⟨h3, h4, cur, h7⟩

theorem IntsV.touch {S : Nat → Prop} {w w' : World} {a : Option Addr} {n : Nat} {zs : List Int} (h : IntsV w a n zs) (t : Touch S w w') (hs : ∀ b off, a = some ⟨b, off, none⟩ → 0 < n → ¬ S b) : IntsV w' a n zs := by
  obtain ⟨h1, h2, h3⟩ := h
  refine ⟨h1, h2, ?_⟩
  rcases h3 with h3 | ⟨b, off, rfl, hb, hc⟩
  · exact .inl h3
  · by_cases h0 : n = 0
    · exact .inl h0
    · refine .inr ⟨b, off, rfl, Nat.lt_of_lt_of_le hb t.size, fun i hi => ?_⟩
      rw [World.cell?_of_block (w := w) (a := ⟨b, off + i, none⟩) (t.block b hb (hs b off rfl (by omega)))]
      exact hc i hi

/-- ENTRIES THAT WERE LENT. -/
def LentE (w : World) (base : Nat) (o : Value) (a : Option Addr) (c : Nat) (L : List Ent) : Prop :=
  (a = none ∧ L = [] ∧ c = 0 ∧ o = .slice none 0 0) ∨ ∃ p g, a = some p ∧ o = .slice (some ⟨g, 0, none⟩) L.length (L.length + 8) ∧ base ≤ g ∧ OwnE w base (.slice (some ⟨g, 0, none⟩) (L.length + 8) (L.length + 8)) (lentE L 8)

theorem LentE.below {w w' : World} {base : Nat} {o : Value} {a : Option Addr} {c : Nat} {L : List Ent} (h : LentE w base o a c L) (hb : Below w.heap.size w w') : LentE w' base o a c L := by
  rcases h with h | ⟨p, g, h1, h2, h3, h4⟩
  · exact .inl h
  · exact .inr ⟨p, g, h1, h2, h3, h4.below hb⟩

theorem LentE.view {w : World} {base : Nat} {o : Value} {a : Option Addr} {c : Nat} {L : List Ent} (h : LentE w base o a c L) (hl : L.length ≤ 2097152) : ∃ a' c', o = .slice a' L.length c' ∧ EntsV w a' L ∧ (a' = none → c' = 0) := by
  rcases h with ⟨rfl, rfl, rfl, rfl⟩ | ⟨p, g, rfl, rfl, h3, h4⟩
  · exact ⟨none, 0, rfl, ⟨by simp, .inl rfl⟩, fun _ => rfl⟩
  · have e : lentE L 8 = L ++ marksE L.length 8 := by unfold lentE; simp
    rw [e] at h4
    have h5 : OwnE w base (.slice (some ⟨g, 0, none⟩) L.length (L.length + 8)) L := h4.pfx (by simp [marksE]) rfl
    obtain ⟨a', c', e1, e2, e3⟩ := h5.view (by omega)
    exact ⟨a', c', e1, e2, e3⟩

theorem lentE_any (a : Option Addr) (c : Nat) (L : List Ent) (w : World) (h : EntsV w a L) (hz : a = none → L = [] ∧ c = 0) (hl : L.length ≤ 2097152) :
    Calls Tryz.prog 118 #[.slice a L.length c] w fun e w' => ∃ o, e = .returned o ∧ LentE w' w.heap.size o a c L ∧ Below w.heap.size w w' := by
  cases a with
  | none =>
    obtain ⟨rfl, rfl⟩ := hz rfl
    refine (lentEntries_nil w).mono ?_
    rintro e w' ⟨rfl, rfl⟩
    exact ⟨_, rfl, .inl ⟨rfl, rfl, rfl, rfl⟩, Below.refl _ _⟩
  | some p =>
    refine (lentEntries_any p L c w h hl).mono ?_
    rintro e w' ⟨rfl, h2, h3⟩
    exact ⟨_, rfl, .inr ⟨p, w.heap.size, rfl, rfl, Nat.le_refl _, h2⟩, h3⟩

theorem stillE_any (a : Option Addr) (c base : Nat) (L : List Ent) (o : Value) (w : World) (h : LentE w base o a c L) (hv : EntsV w a L) (hlt : ∀ b off, a = some ⟨b, off, none⟩ → 0 < L.length → b < base) (hl : L.length ≤ 2097152) :
    Calls Tryz.prog 119 #[o, .slice a L.length c] w fun e w' => e = .returned (.bool true) ∧ w.grownBy w' o.ownBlock := by
  rcases h with ⟨rfl, rfl, rfl, rfl⟩ | ⟨p, g, rfl, rfl, h3, h4⟩
  · refine (stillEntries_nil _ w).mono ?_
    rintro e w' ⟨rfl, rfl⟩
    exact ⟨rfl, grown_refl _ _⟩
  · refine (stillEntries_any p L c g base w hv hl h4 (fun h0 e => ?_)).mono ?_
    · rcases hv.2 with h | ⟨b, off, e1, _⟩
      · omega
      · have e2 : p = ⟨b, off, none⟩ := by simpa using e1
        have := hlt b off (by rw [e2]) h0
        rw [e2] at e
        simp at e
        omega
    · rintro e w' ⟨rfl, hg⟩
      exact ⟨rfl, hg⟩

theorem LentE.own {w : World} {base : Nat} {o : Value} {a : Option Addr} {c : Nat} {L : List Ent} (h : LentE w base o a c L) {k : Nat} (hk : o.ownBlock = some k) : base ≤ k ∧ k < w.heap.size := by
  rcases h with ⟨rfl, rfl, rfl, rfl⟩ | ⟨p, g, rfl, rfl, h3, h4⟩
  · cases hk
  · simp [Value.ownBlock] at hk
    subst hk
    exact ⟨h3, (World.ownsRow.lt h4 g rfl).2⟩
end Go.Proofs.YtfcgnpchbcmdeaaGreat
