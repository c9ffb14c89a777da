/-
  The contract of the reference's Join: it hands back the joined summary, in memory of its own.
-/
import Derived.Test.YtfcgnpchbcmdeaaGreatZtab
namespace Go.Proofs.YtfcgnpchbcmdeaaGreat
open Go.RowKit

theorem one_new (w : World) (c : Array Value) (t : TypeId) : ∀ j u, c.toList[j]? = some u → (w.alloc (.cells c t)).cell? ((⟨w.heap.size, 0, none⟩ : Addr).add j) = some u := by
  intro j u hu
  have hadd : (⟨w.heap.size, 0, none⟩ : Addr).add j = ⟨w.heap.size, j, none⟩ := by unfold Addr.add; split <;> simp_all
  rw [hadd]
  rw [cell_of_row (w.alloc (.cells c t)) w.heap.size j c t (0, 0) (heap_alloc_new w _)]
  simpa using hu

/-- BEHIND AN APPEND OF ONE ENTRY. -/
theorem OwnE.more {w : World} {base : Nat} {v : Value} {L : List Ent} {x : Ent} (h : w.ownsRow base 98 4 v (L.length + 1) (flat L ++ [.int .i64 x.v, .int .i64 x.lo, .int .i64 x.hi, .int .i64 x.wt])) : OwnE w base v (L ++ [x]) := by
  unfold OwnE
  rw [flat_append, flat_one, List.length_append]
  exact h

set_option maxRecDepth 100000 in
set_option maxHeartbeats 4000000 in
theorem refJoin_any (aa ab : Option Addr) (a b : List Ent) (ca cb : Nat) (w : World) (hA : EntsV w aa a) (hB : EntsV w ab b) (ga : Good a) (gb : Good b) :
    Calls Tryz.prog 120 #[.slice aa a.length ca, .slice ab b.length cb] w fun e w' => ∃ v, e = .returned v ∧ OwnE w' w.heap.size v (joinL a b) ∧ Below w.heap.size w w' := by
  obtain ⟨i0, hinf, hz0, hz1, hz2⟩ := info_parts info98
  have la := hA.1
  have lb := hB.1
  have HA : Hid (EntsV w aa a) := hA
  have HB : Hid (EntsV w ab b) := hB
  have GA : Hid (Good a) := ga
  have GB : Hid (Good b) := gb
  clear hA hB ga gb
  go_enter Tryz.func120, Tryz.ntmps120
  go_wp2_with fail
  go_loopw [5, 6, 7] (fun o ti tj wr => ∃ (i j : Nat) (out : List Ent), ti = .int .i64 i ∧ tj = .int .i64 j ∧ Hid (RelJ a b i j out ∧ OwnE wr w.heap.size o out) ∧ Below w.heap.size w wr) (fun _ ti tj _ => (a.length - (intOf ti).toNat) + (b.length - (intOf tj).toNat))
  case atStart => exact ⟨0, 0, [], rfl, rfl, ⟨⟨⟨Nat.zero_le _, Nat.zero_le _, fun _ h => absurd h (by omega), fun _ h => absurd h (by omega)⟩, by simp [restJ_zero]⟩, OwnE.nil _ _⟩, Below.refl _ _⟩
  case round =>
    obtain ⟨i, j, out, rfl, rfl, HR, hbel⟩ := hrel
    obtain ⟨R, hown⟩ := HR.out
    have hlen := R.len
    have hi := R.st.hi
    have hj := R.st.hj
    have hsz := hbel.size
    have EA := HA.out.below hbel
    have EB := HB.out.below hbel
    have HEA : Hid (EntsV wr aa a) := EA
    have HEB : Hid (EntsV wr ab b) := EB
    have HO : Hid (OwnE wr w.heap.size u5 out) := hown
    have HRJ : Hid (RelJ a b i j out) := R
    clear HR R hown EA EB
    by_cases hil : i < a.length
    · rcases HEA.out with ⟨_, h0 | ⟨b1, o1, rfl, hA⟩⟩
      · omega
      have ca0 := hA.v i hil
      have hbb1 : b1 < w.heap.size := by
        rcases HA.out with ⟨_, h0 | ⟨b1', o1', e, hA'⟩⟩
        · omega
        · simp at e; rw [e.1]; exact hA'.lt (by omega)
      have bi1 : (0 : Int) ≤ (i : Int) := by omega
      have bi2 : (i : Int) < (a.length : Int) := by omega
      by_cases hjl : j < b.length
      · rcases HEB.out with ⟨_, h0 | ⟨b2, o2, rfl, hB⟩⟩
        · omega
        have cb0 := hB.v j hjl
        have hbb2 : b2 < w.heap.size := by
          rcases HB.out with ⟨_, h0 | ⟨b2', o2', e, hB'⟩⟩
          · omega
          · simp at e; rw [e.1]; exact hB'.lt (by omega)
        have bj1 : (0 : Int) ≤ (j : Int) := by omega
        have bj2 : (j : Int) < (b.length : Int) := by omega
        clear hA hB
        rcases Int.lt_trichotomy (a.getD i e0).v (b.getD j e0).v with hlt | heq | hgt
        · have P1 := partL_in GA.out hi (a.getD i e0).v
          have P2 := partL_in GB.out hj (a.getD i e0).v
          have HN : Hid (nextJ a b i j (a.getD i e0).v = seen b j (a.getD i e0)) := nextJ_a hil (fun _ => hlt)
          have HX : Hid (RelJ a b (i + 1) j (out ++ [seen b j (a.getD i e0)])) := HRJ.out.a GA.out hil (fun _ => hlt)
          have HPA : Hid (∀ W, EntsV W (some ⟨b1, o1, none⟩) a → Calls Tryz.prog 175 #[.slice (some ⟨b1, o1, none⟩) a.length ca, .int .i64 (a.getD i e0).v] W fun e w' => e = .returned (.agg #[.int .i64 (partL a i (a.getD i e0).v).v, .int .i64 (partL a i (a.getD i e0).v).lo, .int .i64 (partL a i (a.getD i e0).v).hi, .int .i64 (partL a i (a.getD i e0).v).wt]) ∧ Below W.heap.size W w') := fun W hW => part_any _ a ca i (a.getD i e0).v W hW GA.out hi (fun k hk => (GA.out.lt hk hil).1) (fun _ => Int.le_refl _)
          have HPB : Hid (∀ W, EntsV W (some ⟨b2, o2, none⟩) b → Calls Tryz.prog 175 #[.slice (some ⟨b2, o2, none⟩) b.length cb, .int .i64 (a.getD i e0).v] W fun e w' => e = .returned (.agg #[.int .i64 (partL b j (a.getD i e0).v).v, .int .i64 (partL b j (a.getD i e0).v).lo, .int .i64 (partL b j (a.getD i e0).v).hi, .int .i64 (partL b j (a.getD i e0).v).wt]) ∧ Below W.heap.size W w') := fun W hW => part_any _ b cb j (a.getD i e0).v W hW GB.out hj (below_all GB.out hj (HRJ.out.st.va hil)) (fun h => by have := (fun _ => hlt) h; omega)
          have HNX : Hid (seen b j (a.getD i e0) = ⟨(a.getD i e0).v, (partL a i (a.getD i e0).v).lo + (partL b j (a.getD i e0).v).lo, (partL a i (a.getD i e0).v).hi + (partL b j (a.getD i e0).v).hi, (partL a i (a.getD i e0).v).wt + (partL b j (a.getD i e0).v).wt⟩) := HN.out.symm
          clear HN
          generalize partL a i (a.getD i e0).v = pa at *
          generalize partL b j (a.getD i e0).v = pb at *
          generalize (a.getD i e0).v = va at *
          generalize (b.getD j e0).v = vb at *
          have hle : decide (va ≤ vb) = true := decide_eq_true (by omega)
          have e1 : (va == va) = true := beq_self_eq_true _
          have e2 : (vb == va) = false := beq_eq_false_iff_ne.2 (by omega)
          have gj : decide ((b.length : Int) ≤ (j : Int)) = false := decide_eq_false (by omega)
          have gj2 : decide (b.length ≤ j) = false := decide_eq_false (by omega)
          obtain ⟨p1, p2, p3, p4, p5, p6⟩ := P1
          obtain ⟨q1, q2, q3, q4, q5, q6⟩ := P2
          go_wp2_with fail
          go_big_quiet (fail)
          go_wp2_with fail
          refine (HPA.out _ (HEA.out.below (below_drewN (Below.refl _ _) _))).mono ?_
          rintro e w1 ⟨rfl, hb1⟩
          have hbw1 : Below wr.heap.size wr w1 := (below_drewN (Below.refl _ _) _).trans hb1
          have HEB1 : Hid (EntsV w1 (some ⟨b2, o2, none⟩) b) := HEB.out.below hbw1
          clear hb1
          go_wp2_with fail
          refine (HPB.out _ (HEB1.out.below ((Below.refl _ _).alloc (Nat.le_refl _) _))).mono ?_
          rintro e w2 ⟨rfl, hb2⟩
          have hX : Box4 w2 w1.heap.size pa.v pa.lo pa.hi pa.wt := by unfold Box4; rw [hb2.block _ (by simp)]; exact heap_alloc_new w1 _
          obtain ⟨_, x1, x2, x3, _⟩ := hX.cells
          have hzz : w1.heap.size < w2.heap.size := by have := hb2.size; simp at this; omega
          have hbw2 : Below wr.heap.size wr w2 := hbw1.trans ((((Below.refl _ _).alloc (Nat.le_refl _) _).trans (hb2.mono (by simp))).mono hbw1.size)
          have HO2 : Hid (OwnE w2 w.heap.size u5 out) := HO.out.below hbw2
          have hs2 : w.heap.size ≤ w2.heap.size := Nat.le_trans hsz hbw2.size
          clear hb2 hX
          go_wp2_with (at_builtin; refine wpList_append_own _ rfl (.tmp 60) (.tmp 78) 29 rfl w.heap.size 98 i0 (.agg #[.int .i64 0, .int .i64 0, .int .i64 0, .int .i64 0]) 4 32 Tryz.underlying29 hinf hz0 hz1 hz2 rfl (by decide) _ out.length (flat out) rfl ((HO2.out.alloc _).alloc _) ⟨w2.heap.size + 1, 0, none⟩ 1 1 [.int .i64 va, .int .i64 (pa.lo + pb.lo), .int .i64 (pa.hi + pb.hi), .int .i64 (pa.wt + pb.wt)] rfl rfl ?_ ?_ ?_ ?_ ?_ ?_)
          · have := one_new (w2.alloc (.cells #[.int .i64 pb.v, .int .i64 pb.lo, .int .i64 pb.hi, .int .i64 pb.wt] 98)) #[.int .i64 va, .int .i64 (pa.lo + pb.lo), .int .i64 (pa.hi + pb.hi), .int .i64 (pa.wt + pb.wt)] 98
            rw [show (w2.alloc (.cells #[.int .i64 pb.v, .int .i64 pb.lo, .int .i64 pb.hi, .int .i64 pb.wt] 98)).heap.size = w2.heap.size + 1 by simp] at this
            exact this
          · intro u hu; simp at hu; rcases hu with rfl | rfl | rfl | rfl <;> rfl
          · unfold maxLen; omega
          · omega
          · simp; omega
          intro v3 w3 hown3 hgrow _
          have hb3 : Below w.heap.size wr w3 := (((hbw2.mono hsz).alloc hs2 _).alloc (by simp; omega) _).grown hgrow (by simp; omega) (fun k hk => (HO2.out.lt k hk).1)
          have hb4 : Below w.heap.size w w3 := hbel.trans hb3
          have ca3 : w3.cell? ⟨b1, o1 + i * 4, none⟩ = some (.int .i64 va) := (hb3.cell (p := ⟨b1, o1 + i * 4, none⟩) hbb1).trans ca0
          have cb3 : w3.cell? ⟨b2, o2 + j * 4, none⟩ = some (.int .i64 vb) := (hb3.cell (p := ⟨b2, o2 + j * 4, none⟩) hbb2).trans cb0
          have HF : Hid (OwnE w3 w.heap.size v3 (out ++ [seen b j (a.getD i e0)])) := by rw [HNX.out]; exact OwnE.more hown3
          clear hown3 hgrow x1 x2 x3 ca0 cb0
          go_wp2
          go_roundw
          case rel => exact ⟨i + 1, j, _, by go_num, by go_num, ⟨HX.out, HF.out⟩, hb4⟩
          case measure => simp [intOf]; omega
        · have P1 := partL_in GA.out hi (a.getD i e0).v
          have P2 := partL_in GB.out hj (a.getD i e0).v
          have HN : Hid (nextJ a b i j (a.getD i e0).v = sum2 (a.getD i e0) (b.getD j e0)) := nextJ_ab hil hjl heq
          have HX : Hid (RelJ a b (i + 1) (j + 1) (out ++ [sum2 (a.getD i e0) (b.getD j e0)])) := HRJ.out.ab GA.out GB.out hil hjl heq
          have HPA : Hid (∀ W, EntsV W (some ⟨b1, o1, none⟩) a → Calls Tryz.prog 175 #[.slice (some ⟨b1, o1, none⟩) a.length ca, .int .i64 (a.getD i e0).v] W fun e w' => e = .returned (.agg #[.int .i64 (partL a i (a.getD i e0).v).v, .int .i64 (partL a i (a.getD i e0).v).lo, .int .i64 (partL a i (a.getD i e0).v).hi, .int .i64 (partL a i (a.getD i e0).v).wt]) ∧ Below W.heap.size W w') := fun W hW => part_any _ a ca i (a.getD i e0).v W hW GA.out hi (fun k hk => (GA.out.lt hk hil).1) (fun _ => Int.le_refl _)
          have HPB : Hid (∀ W, EntsV W (some ⟨b2, o2, none⟩) b → Calls Tryz.prog 175 #[.slice (some ⟨b2, o2, none⟩) b.length cb, .int .i64 (a.getD i e0).v] W fun e w' => e = .returned (.agg #[.int .i64 (partL b j (a.getD i e0).v).v, .int .i64 (partL b j (a.getD i e0).v).lo, .int .i64 (partL b j (a.getD i e0).v).hi, .int .i64 (partL b j (a.getD i e0).v).wt]) ∧ Below W.heap.size W w') := fun W hW => part_any _ b cb j (a.getD i e0).v W hW GB.out hj (below_all GB.out hj (HRJ.out.st.va hil)) (fun _ => by omega)
          have HNX : Hid (sum2 (a.getD i e0) (b.getD j e0) = ⟨(a.getD i e0).v, (partL a i (a.getD i e0).v).lo + (partL b j (a.getD i e0).v).lo, (partL a i (a.getD i e0).v).hi + (partL b j (a.getD i e0).v).hi, (partL a i (a.getD i e0).v).wt + (partL b j (a.getD i e0).v).wt⟩) := HN.out.symm
          clear HN
          generalize partL a i (a.getD i e0).v = pa at *
          generalize partL b j (a.getD i e0).v = pb at *
          generalize (a.getD i e0).v = va at *
          generalize (b.getD j e0).v = vb at *
          subst heq
          have hle : decide (va ≤ va) = true := decide_eq_true (by omega)
          have e1 : (va == va) = true := beq_self_eq_true _
          have gj : decide ((b.length : Int) ≤ (j : Int)) = false := decide_eq_false (by omega)
          have gj2 : decide (b.length ≤ j) = false := decide_eq_false (by omega)
          obtain ⟨p1, p2, p3, p4, p5, p6⟩ := P1
          obtain ⟨q1, q2, q3, q4, q5, q6⟩ := P2
          go_wp2_with fail
          go_big_quiet (fail)
          go_wp2_with fail
          refine (HPA.out _ (HEA.out.below (below_drewN (Below.refl _ _) _))).mono ?_
          rintro e w1 ⟨rfl, hb1⟩
          have hbw1 : Below wr.heap.size wr w1 := (below_drewN (Below.refl _ _) _).trans hb1
          have HEB1 : Hid (EntsV w1 (some ⟨b2, o2, none⟩) b) := HEB.out.below hbw1
          clear hb1
          go_wp2_with fail
          refine (HPB.out _ (HEB1.out.below ((Below.refl _ _).alloc (Nat.le_refl _) _))).mono ?_
          rintro e w2 ⟨rfl, hb2⟩
          have hX : Box4 w2 w1.heap.size pa.v pa.lo pa.hi pa.wt := by unfold Box4; rw [hb2.block _ (by simp)]; exact heap_alloc_new w1 _
          obtain ⟨_, x1, x2, x3, _⟩ := hX.cells
          have hzz : w1.heap.size < w2.heap.size := by have := hb2.size; simp at this; omega
          have hbw2 : Below wr.heap.size wr w2 := hbw1.trans ((((Below.refl _ _).alloc (Nat.le_refl _) _).trans (hb2.mono (by simp))).mono hbw1.size)
          have HO2 : Hid (OwnE w2 w.heap.size u5 out) := HO.out.below hbw2
          have hs2 : w.heap.size ≤ w2.heap.size := Nat.le_trans hsz hbw2.size
          clear hb2 hX
          go_wp2_with (at_builtin; refine wpList_append_own _ rfl (.tmp 60) (.tmp 78) 29 rfl w.heap.size 98 i0 (.agg #[.int .i64 0, .int .i64 0, .int .i64 0, .int .i64 0]) 4 32 Tryz.underlying29 hinf hz0 hz1 hz2 rfl (by decide) _ out.length (flat out) rfl ((HO2.out.alloc _).alloc _) ⟨w2.heap.size + 1, 0, none⟩ 1 1 [.int .i64 va, .int .i64 (pa.lo + pb.lo), .int .i64 (pa.hi + pb.hi), .int .i64 (pa.wt + pb.wt)] rfl rfl ?_ ?_ ?_ ?_ ?_ ?_)
          · have := one_new (w2.alloc (.cells #[.int .i64 pb.v, .int .i64 pb.lo, .int .i64 pb.hi, .int .i64 pb.wt] 98)) #[.int .i64 va, .int .i64 (pa.lo + pb.lo), .int .i64 (pa.hi + pb.hi), .int .i64 (pa.wt + pb.wt)] 98
            rw [show (w2.alloc (.cells #[.int .i64 pb.v, .int .i64 pb.lo, .int .i64 pb.hi, .int .i64 pb.wt] 98)).heap.size = w2.heap.size + 1 by simp] at this
            exact this
          · intro u hu; simp at hu; rcases hu with rfl | rfl | rfl | rfl <;> rfl
          · unfold maxLen; omega
          · omega
          · simp; omega
          intro v3 w3 hown3 hgrow _
          have hb3 : Below w.heap.size wr w3 := (((hbw2.mono hsz).alloc hs2 _).alloc (by simp; omega) _).grown hgrow (by simp; omega) (fun k hk => (HO2.out.lt k hk).1)
          have hb4 : Below w.heap.size w w3 := hbel.trans hb3
          have ca3 : w3.cell? ⟨b1, o1 + i * 4, none⟩ = some (.int .i64 va) := (hb3.cell (p := ⟨b1, o1 + i * 4, none⟩) hbb1).trans ca0
          have cb3 : w3.cell? ⟨b2, o2 + j * 4, none⟩ = some (.int .i64 va) := (hb3.cell (p := ⟨b2, o2 + j * 4, none⟩) hbb2).trans cb0
          have HF : Hid (OwnE w3 w.heap.size v3 (out ++ [sum2 (a.getD i e0) (b.getD j e0)])) := by rw [HNX.out]; exact OwnE.more hown3
          clear hown3 hgrow x1 x2 x3 ca0 cb0
          go_wp2
          go_roundw
          case rel => exact ⟨i + 1, j + 1, _, by go_num, by go_num, ⟨HX.out, HF.out⟩, hb4⟩
          case measure => simp [intOf]; omega
        · have P1 := partL_in GA.out hi (b.getD j e0).v
          have P2 := partL_in GB.out hj (b.getD j e0).v
          have HN : Hid (nextJ a b i j (b.getD j e0).v = seen a i (b.getD j e0)) := nextJ_b hjl (fun _ => hgt)
          have HX : Hid (RelJ a b i (j + 1) (out ++ [seen a i (b.getD j e0)])) := HRJ.out.b GB.out hjl (fun _ => hgt)
          have HPA : Hid (∀ W, EntsV W (some ⟨b1, o1, none⟩) a → Calls Tryz.prog 175 #[.slice (some ⟨b1, o1, none⟩) a.length ca, .int .i64 (b.getD j e0).v] W fun e w' => e = .returned (.agg #[.int .i64 (partL a i (b.getD j e0).v).v, .int .i64 (partL a i (b.getD j e0).v).lo, .int .i64 (partL a i (b.getD j e0).v).hi, .int .i64 (partL a i (b.getD j e0).v).wt]) ∧ Below W.heap.size W w') := fun W hW => part_any _ a ca i (b.getD j e0).v W hW GA.out hi (below_all GA.out hi (HRJ.out.st.vb hjl)) (fun h => by have := (fun _ => hgt) h; omega)
          have HPB : Hid (∀ W, EntsV W (some ⟨b2, o2, none⟩) b → Calls Tryz.prog 175 #[.slice (some ⟨b2, o2, none⟩) b.length cb, .int .i64 (b.getD j e0).v] W fun e w' => e = .returned (.agg #[.int .i64 (partL b j (b.getD j e0).v).v, .int .i64 (partL b j (b.getD j e0).v).lo, .int .i64 (partL b j (b.getD j e0).v).hi, .int .i64 (partL b j (b.getD j e0).v).wt]) ∧ Below W.heap.size W w') := fun W hW => part_any _ b cb j (b.getD j e0).v W hW GB.out hj (fun k hk => (GB.out.lt hk hjl).1) (fun _ => Int.le_refl _)
          have HNX : Hid (seen a i (b.getD j e0) = ⟨(b.getD j e0).v, (partL a i (b.getD j e0).v).lo + (partL b j (b.getD j e0).v).lo, (partL a i (b.getD j e0).v).hi + (partL b j (b.getD j e0).v).hi, (partL a i (b.getD j e0).v).wt + (partL b j (b.getD j e0).v).wt⟩) := HN.out.symm
          clear HN
          generalize partL a i (b.getD j e0).v = pa at *
          generalize partL b j (b.getD j e0).v = pb at *
          generalize (a.getD i e0).v = va at *
          generalize (b.getD j e0).v = vb at *
          have hle : decide (va ≤ vb) = false := decide_eq_false (by omega)
          have e1 : (va == vb) = false := beq_eq_false_iff_ne.2 (by omega)
          have e2 : (vb == vb) = true := beq_self_eq_true _
          have gj : decide ((b.length : Int) ≤ (j : Int)) = false := decide_eq_false (by omega)
          have gj2 : decide (b.length ≤ j) = false := decide_eq_false (by omega)
          obtain ⟨p1, p2, p3, p4, p5, p6⟩ := P1
          obtain ⟨q1, q2, q3, q4, q5, q6⟩ := P2
          go_wp2_with fail
          go_big_quiet (fail)
          go_wp2_with fail
          refine (HPA.out _ (HEA.out.below (below_drewN (Below.refl _ _) _))).mono ?_
          rintro e w1 ⟨rfl, hb1⟩
          have hbw1 : Below wr.heap.size wr w1 := (below_drewN (Below.refl _ _) _).trans hb1
          have HEB1 : Hid (EntsV w1 (some ⟨b2, o2, none⟩) b) := HEB.out.below hbw1
          clear hb1
          go_wp2_with fail
          refine (HPB.out _ (HEB1.out.below ((Below.refl _ _).alloc (Nat.le_refl _) _))).mono ?_
          rintro e w2 ⟨rfl, hb2⟩
          have hX : Box4 w2 w1.heap.size pa.v pa.lo pa.hi pa.wt := by unfold Box4; rw [hb2.block _ (by simp)]; exact heap_alloc_new w1 _
          obtain ⟨_, x1, x2, x3, _⟩ := hX.cells
          have hzz : w1.heap.size < w2.heap.size := by have := hb2.size; simp at this; omega
          have hbw2 : Below wr.heap.size wr w2 := hbw1.trans ((((Below.refl _ _).alloc (Nat.le_refl _) _).trans (hb2.mono (by simp))).mono hbw1.size)
          have HO2 : Hid (OwnE w2 w.heap.size u5 out) := HO.out.below hbw2
          have hs2 : w.heap.size ≤ w2.heap.size := Nat.le_trans hsz hbw2.size
          clear hb2 hX
          go_wp2_with (at_builtin; refine wpList_append_own _ rfl (.tmp 60) (.tmp 78) 29 rfl w.heap.size 98 i0 (.agg #[.int .i64 0, .int .i64 0, .int .i64 0, .int .i64 0]) 4 32 Tryz.underlying29 hinf hz0 hz1 hz2 rfl (by decide) _ out.length (flat out) rfl ((HO2.out.alloc _).alloc _) ⟨w2.heap.size + 1, 0, none⟩ 1 1 [.int .i64 vb, .int .i64 (pa.lo + pb.lo), .int .i64 (pa.hi + pb.hi), .int .i64 (pa.wt + pb.wt)] rfl rfl ?_ ?_ ?_ ?_ ?_ ?_)
          · have := one_new (w2.alloc (.cells #[.int .i64 pb.v, .int .i64 pb.lo, .int .i64 pb.hi, .int .i64 pb.wt] 98)) #[.int .i64 vb, .int .i64 (pa.lo + pb.lo), .int .i64 (pa.hi + pb.hi), .int .i64 (pa.wt + pb.wt)] 98
            rw [show (w2.alloc (.cells #[.int .i64 pb.v, .int .i64 pb.lo, .int .i64 pb.hi, .int .i64 pb.wt] 98)).heap.size = w2.heap.size + 1 by simp] at this
            exact this
          · intro u hu; simp at hu; rcases hu with rfl | rfl | rfl | rfl <;> rfl
          · unfold maxLen; omega
          · omega
          · simp; omega
          intro v3 w3 hown3 hgrow _
          have hb3 : Below w.heap.size wr w3 := (((hbw2.mono hsz).alloc hs2 _).alloc (by simp; omega) _).grown hgrow (by simp; omega) (fun k hk => (HO2.out.lt k hk).1)
          have hb4 : Below w.heap.size w w3 := hbel.trans hb3
          have ca3 : w3.cell? ⟨b1, o1 + i * 4, none⟩ = some (.int .i64 va) := (hb3.cell (p := ⟨b1, o1 + i * 4, none⟩) hbb1).trans ca0
          have cb3 : w3.cell? ⟨b2, o2 + j * 4, none⟩ = some (.int .i64 vb) := (hb3.cell (p := ⟨b2, o2 + j * 4, none⟩) hbb2).trans cb0
          have HF : Hid (OwnE w3 w.heap.size v3 (out ++ [seen a i (b.getD j e0)])) := by rw [HNX.out]; exact OwnE.more hown3
          clear hown3 hgrow x1 x2 x3 ca0 cb0
          go_wp2
          go_roundw
          case rel => exact ⟨i, j + 1, _, by go_num, by go_num, ⟨HX.out, HF.out⟩, hb4⟩
          case measure => simp [intOf]; omega
      · have P1 := partL_in GA.out hi (a.getD i e0).v
        have P2 := partL_in GB.out hj (a.getD i e0).v
        have HN : Hid (nextJ a b i j (a.getD i e0).v = seen b j (a.getD i e0)) := nextJ_a hil (fun h => absurd h hjl)
        have HX : Hid (RelJ a b (i + 1) j (out ++ [seen b j (a.getD i e0)])) := HRJ.out.a GA.out hil (fun h => absurd h hjl)
        have HPA : Hid (∀ W, EntsV W (some ⟨b1, o1, none⟩) a → Calls Tryz.prog 175 #[.slice (some ⟨b1, o1, none⟩) a.length ca, .int .i64 (a.getD i e0).v] W fun e w' => e = .returned (.agg #[.int .i64 (partL a i (a.getD i e0).v).v, .int .i64 (partL a i (a.getD i e0).v).lo, .int .i64 (partL a i (a.getD i e0).v).hi, .int .i64 (partL a i (a.getD i e0).v).wt]) ∧ Below W.heap.size W w') := fun W hW => part_any _ a ca i (a.getD i e0).v W hW GA.out hi (fun k hk => (GA.out.lt hk hil).1) (fun _ => Int.le_refl _)
        have HPB : Hid (∀ W, EntsV W ab b → Calls Tryz.prog 175 #[.slice ab b.length cb, .int .i64 (a.getD i e0).v] W fun e w' => e = .returned (.agg #[.int .i64 (partL b j (a.getD i e0).v).v, .int .i64 (partL b j (a.getD i e0).v).lo, .int .i64 (partL b j (a.getD i e0).v).hi, .int .i64 (partL b j (a.getD i e0).v).wt]) ∧ Below W.heap.size W w') := fun W hW => part_any _ b cb j (a.getD i e0).v W hW GB.out hj (below_all GB.out hj (HRJ.out.st.va hil)) (fun h => absurd h hjl)
        have HNX : Hid (seen b j (a.getD i e0) = ⟨(a.getD i e0).v, (partL a i (a.getD i e0).v).lo + (partL b j (a.getD i e0).v).lo, (partL a i (a.getD i e0).v).hi + (partL b j (a.getD i e0).v).hi, (partL a i (a.getD i e0).v).wt + (partL b j (a.getD i e0).v).wt⟩) := HN.out.symm
        clear HN
        generalize partL a i (a.getD i e0).v = pa at *
        generalize partL b j (a.getD i e0).v = pb at *
        generalize (a.getD i e0).v = va at *
        have e1 : (va == va) = true := beq_self_eq_true _
        have gj : decide ((b.length : Int) ≤ (j : Int)) = true := decide_eq_true (by omega)
        have gj2 : decide (b.length ≤ j) = true := decide_eq_true (by omega)
        obtain ⟨p1, p2, p3, p4, p5, p6⟩ := P1
        obtain ⟨q1, q2, q3, q4, q5, q6⟩ := P2
        go_wp2_with fail
        go_big_quiet (fail)
        go_wp2_with fail
        refine (HPA.out _ (HEA.out.below (below_drewN (Below.refl _ _) _))).mono ?_
        rintro e w1 ⟨rfl, hb1⟩
        have hbw1 : Below wr.heap.size wr w1 := (below_drewN (Below.refl _ _) _).trans hb1
        have HEB1 : Hid (EntsV w1 ab b) := HEB.out.below hbw1
        clear hb1
        go_wp2_with fail
        refine (HPB.out _ (HEB1.out.below ((Below.refl _ _).alloc (Nat.le_refl _) _))).mono ?_
        rintro e w2 ⟨rfl, hb2⟩
        have hX : Box4 w2 w1.heap.size pa.v pa.lo pa.hi pa.wt := by unfold Box4; rw [hb2.block _ (by simp)]; exact heap_alloc_new w1 _
        obtain ⟨_, x1, x2, x3, _⟩ := hX.cells
        have hzz : w1.heap.size < w2.heap.size := by have := hb2.size; simp at this; omega
        have hbw2 : Below wr.heap.size wr w2 := hbw1.trans ((((Below.refl _ _).alloc (Nat.le_refl _) _).trans (hb2.mono (by simp))).mono hbw1.size)
        have HO2 : Hid (OwnE w2 w.heap.size u5 out) := HO.out.below hbw2
        have hs2 : w.heap.size ≤ w2.heap.size := Nat.le_trans hsz hbw2.size
        clear hb2 hX
        go_wp2_with (at_builtin; refine wpList_append_own _ rfl (.tmp 60) (.tmp 78) 29 rfl w.heap.size 98 i0 (.agg #[.int .i64 0, .int .i64 0, .int .i64 0, .int .i64 0]) 4 32 Tryz.underlying29 hinf hz0 hz1 hz2 rfl (by decide) _ out.length (flat out) rfl ((HO2.out.alloc _).alloc _) ⟨w2.heap.size + 1, 0, none⟩ 1 1 [.int .i64 va, .int .i64 (pa.lo + pb.lo), .int .i64 (pa.hi + pb.hi), .int .i64 (pa.wt + pb.wt)] rfl rfl ?_ ?_ ?_ ?_ ?_ ?_)
        · have := one_new (w2.alloc (.cells #[.int .i64 pb.v, .int .i64 pb.lo, .int .i64 pb.hi, .int .i64 pb.wt] 98)) #[.int .i64 va, .int .i64 (pa.lo + pb.lo), .int .i64 (pa.hi + pb.hi), .int .i64 (pa.wt + pb.wt)] 98
          rw [show (w2.alloc (.cells #[.int .i64 pb.v, .int .i64 pb.lo, .int .i64 pb.hi, .int .i64 pb.wt] 98)).heap.size = w2.heap.size + 1 by simp] at this
          exact this
        · intro u hu; simp at hu; rcases hu with rfl | rfl | rfl | rfl <;> rfl
        · unfold maxLen; omega
        · omega
        · simp; omega
        intro v3 w3 hown3 hgrow _
        have hb3 : Below w.heap.size wr w3 := (((hbw2.mono hsz).alloc hs2 _).alloc (by simp; omega) _).grown hgrow (by simp; omega) (fun k hk => (HO2.out.lt k hk).1)
        have hb4 : Below w.heap.size w w3 := hbel.trans hb3
        have ca3 : w3.cell? ⟨b1, o1 + i * 4, none⟩ = some (.int .i64 va) := (hb3.cell (p := ⟨b1, o1 + i * 4, none⟩) hbb1).trans ca0
        have HF : Hid (OwnE w3 w.heap.size v3 (out ++ [seen b j (a.getD i e0)])) := by rw [HNX.out]; exact OwnE.more hown3
        clear hown3 hgrow x1 x2 x3 ca0 
        go_wp2
        go_roundw
        case rel => exact ⟨i + 1, j, _, by go_num, by go_num, ⟨HX.out, HF.out⟩, hb4⟩
        case measure => simp [intOf]; omega
    · by_cases hjl : j < b.length
      · rcases HEB.out with ⟨_, h0 | ⟨b2, o2, rfl, hB⟩⟩
        · omega
        have cb0 := hB.v j hjl
        have hbb2 : b2 < w.heap.size := by
          rcases HB.out with ⟨_, h0 | ⟨b2', o2', e, hB'⟩⟩
          · omega
          · simp at e; rw [e.1]; exact hB'.lt (by omega)
        have bj1 : (0 : Int) ≤ (j : Int) := by omega
        have bj2 : (j : Int) < (b.length : Int) := by omega
        clear hB
        have gi : decide ((i : Int) < (a.length : Int)) = false := decide_eq_false (by omega)
        have gi2 : decide (i < a.length) = false := decide_eq_false (by omega)
        · have P1 := partL_in GA.out hi (b.getD j e0).v
          have P2 := partL_in GB.out hj (b.getD j e0).v
          have HN : Hid (nextJ a b i j (b.getD j e0).v = seen a i (b.getD j e0)) := nextJ_b hjl (fun h => absurd h hil)
          have HX : Hid (RelJ a b i (j + 1) (out ++ [seen a i (b.getD j e0)])) := HRJ.out.b GB.out hjl (fun h => absurd h hil)
          have HPA : Hid (∀ W, EntsV W aa a → Calls Tryz.prog 175 #[.slice aa a.length ca, .int .i64 (b.getD j e0).v] W fun e w' => e = .returned (.agg #[.int .i64 (partL a i (b.getD j e0).v).v, .int .i64 (partL a i (b.getD j e0).v).lo, .int .i64 (partL a i (b.getD j e0).v).hi, .int .i64 (partL a i (b.getD j e0).v).wt]) ∧ Below W.heap.size W w') := fun W hW => part_any _ a ca i (b.getD j e0).v W hW GA.out hi (below_all GA.out hi (HRJ.out.st.vb hjl)) (fun h => absurd h hil)
          have HPB : Hid (∀ W, EntsV W (some ⟨b2, o2, none⟩) b → Calls Tryz.prog 175 #[.slice (some ⟨b2, o2, none⟩) b.length cb, .int .i64 (b.getD j e0).v] W fun e w' => e = .returned (.agg #[.int .i64 (partL b j (b.getD j e0).v).v, .int .i64 (partL b j (b.getD j e0).v).lo, .int .i64 (partL b j (b.getD j e0).v).hi, .int .i64 (partL b j (b.getD j e0).v).wt]) ∧ Below W.heap.size W w') := fun W hW => part_any _ b cb j (b.getD j e0).v W hW GB.out hj (fun k hk => (GB.out.lt hk hjl).1) (fun _ => Int.le_refl _)
          have HNX : Hid (seen a i (b.getD j e0) = ⟨(b.getD j e0).v, (partL a i (b.getD j e0).v).lo + (partL b j (b.getD j e0).v).lo, (partL a i (b.getD j e0).v).hi + (partL b j (b.getD j e0).v).hi, (partL a i (b.getD j e0).v).wt + (partL b j (b.getD j e0).v).wt⟩) := HN.out.symm
          clear HN
          generalize partL a i (b.getD j e0).v = pa at *
          generalize partL b j (b.getD j e0).v = pb at *
          generalize (b.getD j e0).v = vb at *
          have e2 : (vb == vb) = true := beq_self_eq_true _
          have gj : decide ((b.length : Int) ≤ (j : Int)) = false := decide_eq_false (by omega)
          have gj2 : decide (b.length ≤ j) = false := decide_eq_false (by omega)
          obtain ⟨p1, p2, p3, p4, p5, p6⟩ := P1
          obtain ⟨q1, q2, q3, q4, q5, q6⟩ := P2
          go_wp2_with fail
          go_big_quiet (fail)
          go_wp2_with fail
          refine (HPA.out _ (HEA.out.below (below_drewN (Below.refl _ _) _))).mono ?_
          rintro e w1 ⟨rfl, hb1⟩
          have hbw1 : Below wr.heap.size wr w1 := (below_drewN (Below.refl _ _) _).trans hb1
          have HEB1 : Hid (EntsV w1 (some ⟨b2, o2, none⟩) b) := HEB.out.below hbw1
          clear hb1
          go_wp2_with fail
          refine (HPB.out _ (HEB1.out.below ((Below.refl _ _).alloc (Nat.le_refl _) _))).mono ?_
          rintro e w2 ⟨rfl, hb2⟩
          have hX : Box4 w2 w1.heap.size pa.v pa.lo pa.hi pa.wt := by unfold Box4; rw [hb2.block _ (by simp)]; exact heap_alloc_new w1 _
          obtain ⟨_, x1, x2, x3, _⟩ := hX.cells
          have hzz : w1.heap.size < w2.heap.size := by have := hb2.size; simp at this; omega
          have hbw2 : Below wr.heap.size wr w2 := hbw1.trans ((((Below.refl _ _).alloc (Nat.le_refl _) _).trans (hb2.mono (by simp))).mono hbw1.size)
          have HO2 : Hid (OwnE w2 w.heap.size u5 out) := HO.out.below hbw2
          have hs2 : w.heap.size ≤ w2.heap.size := Nat.le_trans hsz hbw2.size
          clear hb2 hX
          go_wp2_with (at_builtin; refine wpList_append_own _ rfl (.tmp 60) (.tmp 78) 29 rfl w.heap.size 98 i0 (.agg #[.int .i64 0, .int .i64 0, .int .i64 0, .int .i64 0]) 4 32 Tryz.underlying29 hinf hz0 hz1 hz2 rfl (by decide) _ out.length (flat out) rfl ((HO2.out.alloc _).alloc _) ⟨w2.heap.size + 1, 0, none⟩ 1 1 [.int .i64 vb, .int .i64 (pa.lo + pb.lo), .int .i64 (pa.hi + pb.hi), .int .i64 (pa.wt + pb.wt)] rfl rfl ?_ ?_ ?_ ?_ ?_ ?_)
          · have := one_new (w2.alloc (.cells #[.int .i64 pb.v, .int .i64 pb.lo, .int .i64 pb.hi, .int .i64 pb.wt] 98)) #[.int .i64 vb, .int .i64 (pa.lo + pb.lo), .int .i64 (pa.hi + pb.hi), .int .i64 (pa.wt + pb.wt)] 98
            rw [show (w2.alloc (.cells #[.int .i64 pb.v, .int .i64 pb.lo, .int .i64 pb.hi, .int .i64 pb.wt] 98)).heap.size = w2.heap.size + 1 by simp] at this
            exact this
          · intro u hu; simp at hu; rcases hu with rfl | rfl | rfl | rfl <;> rfl
          · unfold maxLen; omega
          · omega
          · simp; omega
          intro v3 w3 hown3 hgrow _
          have hb3 : Below w.heap.size wr w3 := (((hbw2.mono hsz).alloc hs2 _).alloc (by simp; omega) _).grown hgrow (by simp; omega) (fun k hk => (HO2.out.lt k hk).1)
          have hb4 : Below w.heap.size w w3 := hbel.trans hb3
          have cb3 : w3.cell? ⟨b2, o2 + j * 4, none⟩ = some (.int .i64 vb) := (hb3.cell (p := ⟨b2, o2 + j * 4, none⟩) hbb2).trans cb0
          have HF : Hid (OwnE w3 w.heap.size v3 (out ++ [seen a i (b.getD j e0)])) := by rw [HNX.out]; exact OwnE.more hown3
          clear hown3 hgrow x1 x2 x3  cb0
          go_wp2
          go_roundw
          case rel => exact ⟨i, j + 1, _, by go_num, by go_num, ⟨HX.out, HF.out⟩, hb4⟩
          case measure => simp [intOf]; omega
      · have hfin : out = joinL a b := by have := HRJ.out.eq; rw [restJ_end hil hjl, List.append_nil] at this; exact this
        have HFI : Hid (OwnE wr w.heap.size u5 (joinL a b)) := hfin ▸ HO.out
        clear hfin
        go_wp2
        go_ret
        exact ⟨_, rfl, HFI.out, hbel⟩
end Go.Proofs.YtfcgnpchbcmdeaaGreat
