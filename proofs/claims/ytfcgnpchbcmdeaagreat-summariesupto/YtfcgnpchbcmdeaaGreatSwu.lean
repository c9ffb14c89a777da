/-
  The contract of lentEntries: a list of entries to hand over, with eight entries of the caller's behind it.
-/
import Derived.Test.YtfcgnpchbcmdeaaGreatSwt
import Derived.Test.YtfcgnpchbcmdeaaGreatSwn
namespace Go.Proofs.YtfcgnpchbcmdeaaGreat
open Go.RowKit

theorem run_copy_wide {P : Program} (w : World) (dT sT ty elem : TypeId) (i : TypeInfo) (g dLen dCap : Nat) (a : Addr) (sLen sCap : Nat) (cur : Array Value) (t : TypeId) (cs : List Value)
    (hu : P.underlying dT = some (.slice elem)) (hq : P.info? elem = some i)
    (hg : w.heap[g]? = some (.cells cur t (0, 0))) (hn : cs.length = Nat.min sLen dLen * i.size)
    (hsrc : ∀ j v, cs[j]? = some v → w.cell? (a.add j) = some v) (hfit : cs.length ≤ cur.size) (h1 : ∀ v ∈ cs, v.oneCell' = true) :
    (Builtin.copy_ #[dT, sT] ty #[.slice (some ⟨g, 0, none⟩) dLen dCap, .slice (some a) sLen sCap]).run P w =
      .ok (goInt (Nat.min sLen dLen)) (w.setRow g (cur.toList.take 0 ++ cs ++ cur.toList.drop (0 + cs.length)).toArray) := by
  have hl := run_loadCells_list (P := P) w a cs hsrc
  have hst := run_storeCells_at P g 0 t cs 0 cur w hg (by simpa using hfit) h1
  have hn2 : Nat.min sLen dLen * i.size = cs.length := hn.symm
  simp [Builtin.copy_, run_underlying hu, Builtin.lenOf, Builtin.firstCells, sizeOf, typeInfo, hq, hn2, hl, hst]

def marksE (n m : Nat) : List Ent := (List.range m).map fun j => ⟨-7 - ((n + j : Nat) : Int), 0, 0, 0⟩
def lentE (L : List Ent) (m : Nat) : List Ent := (L ++ marksE L.length m) ++ List.replicate (8 - m) e0

theorem lentE_len (L : List Ent) {m : Nat} (hm : m ≤ 8) : (lentE L m).length = L.length + 8 := by simp [lentE, marksE]; omega
theorem lentE_at (L : List Ent) {m : Nat} (hm : m < 8) : lentE L m = (L ++ marksE L.length m) ++ e0 :: List.replicate (8 - (m + 1)) e0 := by
  unfold lentE; rw [show 8 - m = 8 - (m + 1) + 1 by omega, List.replicate_succ]
theorem lentE_next (L : List Ent) {m : Nat} (_ : m < 8) : lentE L (m + 1) = (L ++ marksE L.length m) ++ (⟨-7 - ((L.length + m : Nat) : Int), 0, 0, 0⟩ : Ent) :: List.replicate (8 - (m + 1)) e0 := by
  unfold lentE marksE; rw [List.range_succ]; simp

theorem ents_cells {w : World} {b off : Nat} {L : List Ent} (h : EntsAt w b off L) : ∀ j v, (flat L)[j]? = some v → w.cell? ((⟨b, off, none⟩ : Addr).add j) = some v := by
  intro j v hj
  have hadd : (⟨b, off, none⟩ : Addr).add j = ⟨b, off + j, none⟩ := by unfold Addr.add; split <;> simp_all
  have hjl : j < L.length * 4 := by have := (List.getElem?_eq_some_iff.1 hj).1; rw [flat_len] at this; exact this
  have hi : j / 4 < L.length := by omega
  have hk := flat_key L (j / 4) (j % 4) hi (by omega)
  rw [show j / 4 * 4 + j % 4 = j by omega, hj] at hk
  rw [hadd]
  rcases (show j % 4 = 0 ∨ j % 4 = 1 ∨ j % 4 = 2 ∨ j % 4 = 3 by omega) with e | e | e | e
  · rw [show off + j = off + j / 4 * 4 by omega, h.v _ hi, hk, e]; rfl
  · rw [show off + j = off + j / 4 * 4 + 1 by omega, h.lo _ hi, hk, e]; rfl
  · rw [show off + j = off + j / 4 * 4 + 2 by omega, h.hi _ hi, hk, e]; rfl
  · rw [show off + j = off + j / 4 * 4 + 3 by omega, h.wt _ hi, hk, e]; rfl

set_option maxRecDepth 100000 in
set_option maxHeartbeats 2000000 in
theorem lentEntries_any (p : Addr) (L : List Ent) (c : Nat) (w : World) (h : EntsV w (some p) L) (hl : L.length ≤ 2097152) :
    Calls Tryz.prog 118 #[.slice (some p) L.length c] w fun e w' => e = .returned (.slice (some ⟨w.heap.size, 0, none⟩) L.length (L.length + 8)) ∧ OwnE w' w.heap.size (.slice (some ⟨w.heap.size, 0, none⟩) (L.length + 8) (L.length + 8)) (lentE L 8) ∧ Below w.heap.size w w' := by
  obtain ⟨i0, hinf, hz0, hz1, hz2⟩ := info_parts info98
  have hnil : ∀ W : World, (binOp .eql 29 (.slice (some p) L.length c) (.slice none 0 0)).run Tryz.prog W = .ok (.bool false) W := fun W => Lib.run_eql_slice_nil W 29 98 (some p) L.length c 0 0 Tryz.underlying29
  obtain ⟨n, hn⟩ : ∃ n, n = L.length := ⟨_, rfl⟩
  have hmk : ∀ W : World, (Instr.makeSlice 29 (.int .i64 ((n : Int) + 8)) (.int .i64 ((n : Int) + 8))).run Tryz.prog W = .ok (.slice (some ⟨W.heap.size, 0, none⟩) (n + 8) (n + 8)) (W.alloc (.cells (madeCells #[.int .i64 0, .int .i64 0, .int .i64 0, .int .i64 0] ((n + 8) * 4)) 98)) := by
    intro W
    have := run_make (P := Tryz.prog) W 29 98 i0 _ Tryz.underlying29 hinf hz0 .i64 .i64 ((n : Int) + 8) ((n : Int) + 8) (by omega) (by omega) (by rw [hz2]; omega) (by omega)
    rw [hz1] at this
    rw [this, show ((n : Int) + 8).toNat = n + 8 by omega]
    rfl
  obtain ⟨cur, hcur⟩ : ∃ cur, cur = madeCells #[.int .i64 0, .int .i64 0, .int .i64 0, .int .i64 0] ((n + 8) * 4) := ⟨_, rfl⟩
  rw [← hcur] at hmk
  have hcl : cur.size = (n + 8) * 4 := by rw [hcur]; exact size_madeCells _ _
  have hcf : cur.toList = flat (List.replicate (n + 8) e0) := by rw [hcur]; exact made_flat _
  obtain ⟨w2, hcp, HR2, hb2⟩ : ∃ w2 : World, (Builtin.copy_ #[29, 29] 3 #[.slice (some ⟨w.heap.size, 0, none⟩) (n + 8) (n + 8), .slice (some p) n c]).run Tryz.prog (w.alloc (.cells cur 98)) = .ok (.int .i64 n) w2 ∧ Hid (OwnE w2 w.heap.size (.slice (some ⟨w.heap.size, 0, none⟩) (n + 8) (n + 8)) (lentE L 0)) ∧ Below w.heap.size w w2 := by
    have hb1 : Below w.heap.size w (w.alloc (.cells cur 98)) := (Below.refl _ _).alloc (Nat.le_refl _) _
    have hblk : (w.alloc (.cells cur 98)).heap[w.heap.size]? = some (.cells cur 98 (0, 0)) := heap_alloc_new w _
    have hmin : Nat.min n (n + 8) = n := Nat.min_eq_left (by omega)
    have hsrc : ∀ j v, (flat L)[j]? = some v → (w.alloc (.cells cur 98)).cell? (p.add j) = some v := fun j v hj => by
      obtain ⟨_, h0 | ⟨b, off, e, hA⟩⟩ := h.below hb1
      · have := (List.getElem?_eq_some_iff.1 hj).1; rw [flat_len] at this; omega
      · simp at e
        rw [e]
        exact ents_cells hA j v hj
    have hr := run_copy_wide (P := Tryz.prog) (w.alloc (.cells cur 98)) 29 29 3 98 i0 w.heap.size (n + 8) (n + 8) p n c cur 98 (flat L) Tryz.underlying29 hinf hblk (by rw [hmin, hz1, flat_len, hn]) hsrc (by rw [flat_len, hcl]; omega) (flat_one_cell L)
    rw [hmin] at hr
    refine ⟨_, hr, ?_, below_setRow hb1 (Nat.le_refl _) _⟩
    have hh := setRow_heap (w.alloc (.cells cur 98)) w.heap.size cur (cur.toList.take 0 ++ flat L ++ cur.toList.drop (0 + (flat L).length)).toArray 98 (0, 0) hblk
    have hlist : cur.toList.take 0 ++ flat L ++ cur.toList.drop (0 + (flat L).length) = flat (lentE L 0) := by
      rw [hcf, List.take_zero, List.nil_append, Nat.zero_add, flat_len, ← hn, ← List.replicate_append_replicate, flat_append, List.drop_left' (by rw [flat_len]; simp)]
      simp [lentE, marksE, flat_append]
    rw [hlist] at hh ⊢
    refine ⟨by rw [flat_len], .inr ⟨w.heap.size, n + 8, _, by rw [lentE_len L (by omega), hn], Nat.le_refl _, hh, by rw [lentE_len L (by omega), hn]; exact Nat.le_refl _, by unfold maxLen; omega, ?_, ?_⟩⟩
    · simp [flat_len, lentE_len, hn]
    · exact List.take_of_length_le (by simp [flat_len])
  have hs2 := hb2.size
  have hlt2 := (World.ownsRow.lt HR2.out w.heap.size rfl).2
  have HNL : Hid (n = L.length) := hn
  rw [← hn] at hnil ⊢
  have hn8 : n ≤ 2097152 := by omega
  clear hn hcf hcl hl h hcur
  go_enter Tryz.func118, Tryz.ntmps118
  go_wp2_with fail
  go_loopw [4] (fun ti wr => ∃ m : Nat, m ≤ 8 ∧ ti = .int .i64 ((n : Int) + (m : Int)) ∧ Hid (OwnE wr w.heap.size (.slice (some ⟨w.heap.size, 0, none⟩) (n + 8) (n + 8)) (lentE L m)) ∧ Below w.heap.size w wr) (fun ti _ => n + 8 - (intOf ti).toNat)
  case atStart => exact ⟨0, by omega, by simp, HR2.out, hb2⟩
  case round =>
    obtain ⟨m, hm, rfl, HO, hbel⟩ := hrel
    have hlt := (World.ownsRow.lt HO.out w.heap.size rfl).2
    by_cases hm8 : m < 8
    · obtain ⟨k, hk⟩ : ∃ k, k = n + m := ⟨_, rfl⟩
      have hki : (n : Int) + (m : Int) = (k : Int) := by omega
      have hown := HO.out
      have hfl : (lentE L m).length = n + 8 := by rw [lentE_len L (show m ≤ 8 by omega), HNL.out]
      rw [lentE_at L hm8] at hown hfl
      have hAl : (L ++ marksE L.length m).length = k := by simp [marksE]; have := HNL.out; omega
      obtain ⟨c0, c1, c2, c3, cf⟩ := hown.at hfl.symm hAl
      have HOW : Hid (OwnE wr w.heap.size (.slice (some ⟨w.heap.size, 0, none⟩) (n + 8) (n + 8)) ((L ++ marksE L.length m) ++ e0 :: List.replicate (8 - (m + 1)) e0)) := hown
      have HFL : Hid (n + 8 = ((L ++ marksE L.length m) ++ e0 :: List.replicate (8 - (m + 1)) e0).length) := hfl.symm
      have HAL : Hid ((L ++ marksE L.length m).length = k) := hAl
      have HE2 : Hid (lentE L (m + 1) = (L ++ marksE L.length m) ++ (⟨-7 - (k : Int), 0, 0, 0⟩ : Ent) :: List.replicate (8 - (m + 1)) e0) := show _ = _ by rw [lentE_next L hm8, hk, HNL.out]
      simp only [e0] at c0 c1 c2 c3
      have bk1 : (0 : Int) ≤ (k : Int) := by omega
      have bk2 : (k : Int) < (n : Int) + 8 := by omega
      have HKE : Hid (k = n + m) := hk
      clear hown hfl hAl hk
      rw [hki]
      go_wp2
      go_roundw
      case rel =>
        refine ⟨m + 1, by omega, by rw [HKE.out]; go_num, ?_, ?_⟩
        · rw [HE2.out]
          exact ((((HOW.out.store HFL.out (by simp) (flat_set0 HAL.out _)).store (HFL.out.trans (by simp)) (by simp) (flat_set1 HAL.out _)).store (HFL.out.trans (by simp)) (by simp) (flat_set2 HAL.out _)).store (HFL.out.trans (by simp)) (by simp) (flat_set3 HAL.out _))
        · exact ((((hbel.setCell (Nat.le_refl _) _).setCell (Nat.le_refl _) _).setCell (Nat.le_refl _) _).setCell (Nat.le_refl _) _)
      case measure => have := HKE.out; simp [intOf]; omega
    · have hme : m = 8 := by omega
      subst hme
      go_wp2
      go_ret
      exact ⟨rfl, HO.out, hbel⟩
end Go.Proofs.YtfcgnpchbcmdeaaGreat
