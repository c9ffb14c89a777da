/-
  The contract of lentNumbers: a list of numbers to hand over, with eight numbers of the caller's behind it.
-/
import Derived.Test.YtfcgnpchbcmdeaaGreatSwn
import Derived.Test.YtfcgnpchbcmdeaaGreatSwp
import Derived.Deep.OwnRows
import Derived.Laws.CopyOwn
namespace Go.Proofs.YtfcgnpchbcmdeaaGreat
open Go.RowKit

def lentK (zs : List Int) (k i : Nat) : Value := if i < zs.length then .int .i64 (zs.getD i 0) else if i < k then .int .i64 (-7 - (i : Int)) else .int .i64 0

theorem lent_copied {w2 : World} {b n : Nat} {zs : List Int} {cur X : List Value} (hcur : cur = List.replicate (n + 8) (.int .i64 0)) (hX : X = zs.map (Value.int .i64)) (hl : zs.length = n) (hg : w2.heap[b]? = some (.cells (splice cur 0 X).toArray 3 (0, 0))) : w2.rowIs b 3 (n + 8) (lentK zs n) := by
  refine ⟨_, hg, ?_, fun i hi => ?_⟩
  · simp [splice, hcur, hX, hl]
  · subst hcur hX hl
    have hl : (List.map (Value.int .i64) zs).length = zs.length := by simp
    unfold lentK splice
    rw [List.getElem?_toArray, List.take_zero, List.nil_append]
    by_cases h : i < zs.length
    · rw [if_pos h, List.getElem?_append_left (by rw [hl]; exact h)]; simp [h]
    · rw [if_neg h, if_neg h, List.getElem?_append_right (by rw [hl]; omega), List.getElem?_drop, List.getElem?_replicate, if_pos (by simp; omega)]

set_option maxRecDepth 100000 in
theorem lentNumbers_any (p : Addr) (n c : Nat) (zs : List Int) (w : World) (h : IntsV w (some p) n zs) (hn : n ≤ 2097152) :
    Calls Tryz.prog 112 #[.slice (some p) n c] w fun e w' => e = .returned (.slice (some ⟨w.heap.size, 0, none⟩) n (n + 8)) ∧ w'.rowIs w.heap.size 3 (n + 8) (lentK zs (n + 8)) ∧ Below w.heap.size w w' := by
  obtain ⟨j0, jinf, jz0, jz1, jz2⟩ := info_parts info3
  have HV : Hid (IntsV w (some p) n zs) := h
  clear h
  have hnil : ∀ W : World, (binOp .eql 25 (.slice (some p) n c) (.slice none 0 0)).run Tryz.prog W = .ok (.bool false) W := fun W => Lib.run_eql_slice_nil W 25 3 (some p) n c 0 0 Tryz.underlying25
  obtain ⟨cur, hcur⟩ : ∃ cur : List Value, cur = List.replicate (n + 8) (.int .i64 0) := ⟨_, rfl⟩
  obtain ⟨X, hX⟩ : ∃ X : List Value, X = zs.map (Value.int .i64) := ⟨_, rfl⟩
  have hmk : ∀ W : World, (Instr.makeSlice 25 (.int .i64 ((n : Int) + 8)) (.int .i64 ((n : Int) + 8))).run Tryz.prog W = .ok (.slice (some ⟨W.heap.size, 0, none⟩) (n + 8) (n + 8)) (W.alloc (.cells cur.toArray 3)) := by
    intro W
    have := run_make_row' (P := Tryz.prog) 25 3 (.int .i64 0) 8 Tryz.underlying25 info3 rfl .i64 .i64 (n + 8) (by omega) (by omega) W
    rw [show ((n + 8 : Nat) : Int) = (n : Int) + 8 by omega] at this
    rw [this, hcur]
    congr 3
    apply Array.ext
    · simp [madeCells]
    · intro i h1 h2; simp [madeCells, Nat.mod_one]
  have HCUR : Hid (cur = List.replicate (n + 8) (.int .i64 0)) := hcur
  have HX : Hid (X = zs.map (Value.int .i64)) := hX
  have hcl : cur.length = n + 8 := by rw [hcur]; simp
  have hxl : X.length = n := by rw [hX]; simp [HV.out.1]
  clear hcur hX
  have hszs : (Tryz.prog.info? 3).map (·.size) = some 1 := by rw [jinf]; simp [jz1]
  have HSRC : Hid (∀ W : World, Below w.heap.size w W → 0 < X.length → ∃ ad, some p = some ad ∧ ∀ j v, X[j]? = some v → W.cell? (ad.add j) = some v) := fun W hb h0 => by
    refine ⟨p, rfl, fun j v hj => ?_⟩
    obtain ⟨h1, _, h2 | ⟨b, o, e, hlt, hc⟩⟩ := HV.out
    · omega
    · simp at e
      subst e
      have hadd : (⟨b, o, none⟩ : Addr).add j = ⟨b, o + j, none⟩ := by unfold Addr.add; split <;> simp_all
      have hjn : j < n := by have := (List.getElem?_eq_some_iff.1 hj).1; omega
      rw [hadd, hb.cell (p := ⟨b, o + j, none⟩) hlt, hc j hjn, ← hj, HX.out]
      have : j < zs.length := by omega
      simp [this]
  obtain ⟨w2, hcp, HR2, hb2⟩ : ∃ w2 : World, (Builtin.copy_ #[25, 25] 3 #[.slice (some ⟨w.heap.size, 0, none⟩) (n + 8) (n + 8), .slice (some p) n c]).run Tryz.prog (w.alloc (.cells cur.toArray 3)) = .ok (.int .i64 n) w2 ∧ Hid (w2.rowIs w.heap.size 3 (n + 8) (lentK zs n)) ∧ Below w.heap.size w w2 := by
    have hb1 : Below w.heap.size w (w.alloc (.cells cur.toArray 3)) := (Below.refl _ _).alloc (Nat.le_refl _) _
    have hblk : (w.alloc (.cells cur.toArray 3)).heap[w.heap.size]? = some (.cells cur.toArray 3 (0, 0)) := heap_alloc_new w _
    have hsrc : ∀ j v, X[j]? = some v → (w.alloc (.cells cur.toArray 3)).cell? (p.add j) = some v := fun j v hj => by
      have h0 : 0 < X.length := by have := (List.getElem?_eq_some_iff.1 hj).1; omega
      obtain ⟨ad, e, hh⟩ := HSRC.out _ hb1 h0
      simp at e
      rw [e]
      exact hh j v hj
    have hr := run_copy_row (P := Tryz.prog) (w.alloc (.cells cur.toArray 3)) 25 25 3 3 w.heap.size 0 (n + 8) (n + 8) p n c cur.toArray 3 X Tryz.underlying25 hszs hblk (by rw [hxl]; exact (Nat.min_eq_left (by omega)).symm) hsrc (by simp; omega) (by rw [HX.out]; intro v hv; simp at hv; obtain ⟨_, _, rfl⟩ := hv; rfl)
    refine ⟨_, by rw [hr, hxl]; rfl, ?_, below_setRow hb1 (Nat.le_refl _) _⟩
    refine lent_copied HCUR.out HX.out HV.out.1 ?_
    have := setRow_heap (w.alloc (.cells cur.toArray 3)) w.heap.size cur.toArray (cur.toArray.toList.take 0 ++ X ++ cur.toArray.toList.drop (0 + X.length)).toArray 3 (0, 0) hblk
    rw [hxl] at this
    rw [this]
    simp [splice, hxl]
  have hs2 := hb2.size
  have hlt2 := HR2.out.lt
  clear HSRC
  go_enter Tryz.func112, Tryz.ntmps112
  go_wp2_with fail
  go_loopw [4] (fun ti wr => ∃ k : Nat, n ≤ k ∧ k ≤ n + 8 ∧ ti = .int .i64 k ∧ Hid (wr.rowIs w.heap.size 3 (n + 8) (lentK zs k)) ∧ Below w.heap.size w wr) (fun ti _ => n + 8 - (intOf ti).toNat)
  case atStart => exact ⟨n, Nat.le_refl _, by omega, rfl, HR2.out, hb2⟩
  case round =>
    obtain ⟨k, hk1, hk2, rfl, HR, hbel⟩ := hrel
    have hlt := HR.out.lt
    by_cases hk : k < n + 8
    · have bk1 : (0 : Int) ≤ (k : Int) := by omega
      have bk2 : (k : Int) < (n : Int) + 8 := by omega
      have hcell := HR.out.cell hk
      have hfro := HR.out.frozen k
      have HN : Hid ((wr.setCell ⟨w.heap.size, k, none⟩ (.int .i64 (-7 - (k : Int)))).rowIs w.heap.size 3 (n + 8) (lentK zs (k + 1))) := (HR.out.set k _).congr (fun j _ => by
        have hzl := HV.out.1
        unfold lentK
        by_cases e : j = k
        · subst e; rw [if_pos rfl, if_neg (by omega), if_pos (by omega)]
        · rw [if_neg e]
          by_cases h1 : j < zs.length
          · rw [if_pos h1, if_pos h1]
          · rw [if_neg h1, if_neg h1]
            by_cases h2 : j < k
            · rw [if_pos h2, if_pos (by omega)]
            · rw [if_neg h2, if_neg (by omega)])
      have hbN : Below w.heap.size w (wr.setCell ⟨w.heap.size, k, none⟩ (.int .i64 (-7 - (k : Int)))) := hbel.setCell (Nat.le_refl _) _
      generalize lentK zs k k = u at hcell
      go_wp2
      go_roundw
      case rel => exact ⟨k + 1, by omega, by omega, by go_num, HN.out, hbN⟩
      case measure => simp [intOf]; omega
    · have hke : k = n + 8 := by omega
      subst hke
      go_wp2
      go_ret
      exact ⟨rfl, HR.out, hbel⟩
end Go.Proofs.YtfcgnpchbcmdeaaGreat
