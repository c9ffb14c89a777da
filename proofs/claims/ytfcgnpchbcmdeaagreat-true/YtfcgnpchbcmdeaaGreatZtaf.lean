/-
  The contract of the reference's Join: it hands back the joined summary, in memory of its own.
  What the reference's Summary has found so far, as mathematics: the least value beyond those that it has, with its weight.
  What a call leaves alone; lists that hold one mark; the block of a script's world; an append that says whether it wrote in place.
  The contract of bounds: where a feature of numbers is cut.
-/
import Derived.Test.YtfcgnpchbcmdeaaGreatZtae
import Derived.Test.YtfcgnpchbcmdeaaGreatZtaa
import Derived.Deep.DeepCutAuto
namespace Go.Proofs.YtfcgnpchbcmdeaaGreat
open Go.RowKit

theorem one_new (w : World) (c : Array Value) (t : TypeId) : ∀ j u, c.toList[j]? = some u → (w.alloc (.cells c t)).cell? ((⟨w.heap.size, 0, none⟩ : Addr).add j) = some u := by
  intro j u hu
  have hadd : (⟨w.heap.size, 0, none⟩ : Addr).add j = ⟨w.heap.size, j, none⟩ := by unfold Addr.add; split <;> simp_all
  rw [hadd]
  rw [cell_of_row (w.alloc (.cells c t)) w.heap.size j c t (0, 0) (heap_alloc_new w _)]
  simpa using hu

/-- BEHIND AN APPEND OF ONE ENTRY. -/
theorem OwnE.more {w : World} {base : Nat} {v : Value} {L : List Ent} {x : Ent} (h : w.ownsRow base 98 4 v (L.length + 1) (flat L ++ [.int .i64 x.v, .int .i64 x.lo, .int .i64 x.hi, .int .i64 x.wt])) : OwnE w base v (L ++ [x]) := by
  unfold OwnE
  rw [flat_append, flat_one, List.length_append]
  exact h

set_option maxRecDepth 100000 in
set_option maxHeartbeats 4000000 in
theorem refJoin_any (aa ab : Option Addr) (a b : List Ent) (ca cb : Nat) (w : World) (hA : EntsV w aa a) (hB : EntsV w ab b) (ga : Good a) (gb : Good b) :
    Calls Tryz.prog 120 #[.slice aa a.length ca, .slice ab b.length cb] w fun e w' => ∃ v, e = .returned v ∧ OwnE w' w.heap.size v (joinL a b) ∧ Below w.heap.size w w' := by
  obtain ⟨i0, hinf, hz0, hz1, hz2⟩ := info_parts info98
  have la := hA.1
  have lb := hB.1
  have HA : Hid (EntsV w aa a) := hA
  have HB : Hid (EntsV w ab b) := hB
  have GA : Hid (Good a) := ga
  have GB : Hid (Good b) := gb
  clear hA hB ga gb
  go_enter Tryz.func120, Tryz.ntmps120
  go_wp2_with fail
  go_loopw [5, 6, 7] (fun o ti tj wr => ∃ (i j : Nat) (out : List Ent), ti = .int .i64 i ∧ tj = .int .i64 j ∧ Hid (RelJ a b i j out ∧ OwnE wr w.heap.size o out) ∧ Below w.heap.size w wr) (fun _ ti tj _ => (a.length - (intOf ti).toNat) + (b.length - (intOf tj).toNat))
  case atStart => exact ⟨0, 0, [], rfl, rfl, ⟨⟨⟨Nat.zero_le _, Nat.zero_le _, fun _ h => absurd h (by omega), fun _ h => absurd h (by omega)⟩, by simp [restJ_zero]⟩, OwnE.nil _ _⟩, Below.refl _ _⟩
  case round =>
    obtain ⟨i, j, out, rfl, rfl, HR, hbel⟩ := hrel
    obtain ⟨R, hown⟩ := HR.out
    have hlen := R.len
    have hi := R.st.hi
    have hj := R.st.hj
    have hsz := hbel.size
    have EA := HA.out.below hbel
    have EB := HB.out.below hbel
    have HEA : Hid (EntsV wr aa a) := EA
    have HEB : Hid (EntsV wr ab b) := EB
    have HO : Hid (OwnE wr w.heap.size u5 out) := hown
    have HRJ : Hid (RelJ a b i j out) := R
    clear HR R hown EA EB
    by_cases hil : i < a.length
    · rcases HEA.out with ⟨_, h0 | ⟨b1, o1, rfl, hA⟩⟩
      · omega
      have ca0 := hA.v i hil
      have hbb1 : b1 < w.heap.size := by
        rcases HA.out with ⟨_, h0 | ⟨b1', o1', e, hA'⟩⟩
        · omega
        · simp at e; rw [e.1]; exact hA'.lt (by omega)
      have bi1 : (0 : Int) ≤ (i : Int) := by omega
      have bi2 : (i : Int) < (a.length : Int) := by omega
      by_cases hjl : j < b.length
      · rcases HEB.out with ⟨_, h0 | ⟨b2, o2, rfl, hB⟩⟩
        · omega
        have cb0 := hB.v j hjl
        have hbb2 : b2 < w.heap.size := by
          rcases HB.out with ⟨_, h0 | ⟨b2', o2', e, hB'⟩⟩
          · omega
          · simp at e; rw [e.1]; exact hB'.lt (by omega)
        have bj1 : (0 : Int) ≤ (j : Int) := by omega
        have bj2 : (j : Int) < (b.length : Int) := by omega
        clear hA hB
        rcases Int.lt_trichotomy (a.getD i e0).v (b.getD j e0).v with hlt | heq | hgt
        · have P1 := partL_in GA.out hi (a.getD i e0).v
          have P2 := partL_in GB.out hj (a.getD i e0).v
          have HN : Hid (nextJ a b i j (a.getD i e0).v = seen b j (a.getD i e0)) := nextJ_a hil (fun _ => hlt)
          have HX : Hid (RelJ a b (i + 1) j (out ++ [seen b j (a.getD i e0)])) := HRJ.out.a GA.out hil (fun _ => hlt)
          have HPA : Hid (∀ W, EntsV W (some ⟨b1, o1, none⟩) a → Calls Tryz.prog 175 #[.slice (some ⟨b1, o1, none⟩) a.length ca, .int .i64 (a.getD i e0).v] W fun e w' => e = .returned (.agg #[.int .i64 (partL a i (a.getD i e0).v).v, .int .i64 (partL a i (a.getD i e0).v).lo, .int .i64 (partL a i (a.getD i e0).v).hi, .int .i64 (partL a i (a.getD i e0).v).wt]) ∧ Below W.heap.size W w') := fun W hW => part_any _ a ca i (a.getD i e0).v W hW GA.out hi (fun k hk => (GA.out.lt hk hil).1) (fun _ => Int.le_refl _)
          have HPB : Hid (∀ W, EntsV W (some ⟨b2, o2, none⟩) b → Calls Tryz.prog 175 #[.slice (some ⟨b2, o2, none⟩) b.length cb, .int .i64 (a.getD i e0).v] W fun e w' => e = .returned (.agg #[.int .i64 (partL b j (a.getD i e0).v).v, .int .i64 (partL b j (a.getD i e0).v).lo, .int .i64 (partL b j (a.getD i e0).v).hi, .int .i64 (partL b j (a.getD i e0).v).wt]) ∧ Below W.heap.size W w') := fun W hW => part_any _ b cb j (a.getD i e0).v W hW GB.out hj (below_all GB.out hj (HRJ.out.st.va hil)) (fun h => by have := (fun _ => hlt) h; omega)
          have HNX : Hid (seen b j (a.getD i e0) = ⟨(a.getD i e0).v, (partL a i (a.getD i e0).v).lo + (partL b j (a.getD i e0).v).lo, (partL a i (a.getD i e0).v).hi + (partL b j (a.getD i e0).v).hi, (partL a i (a.getD i e0).v).wt + (partL b j (a.getD i e0).v).wt⟩) := HN.out.symm
          clear HN
          generalize partL a i (a.getD i e0).v = pa at *
          generalize partL b j (a.getD i e0).v = pb at *
          generalize (a.getD i e0).v = va at *
          generalize (b.getD j e0).v = vb at *
          have hle : decide (va ≤ vb) = true := decide_eq_true (by omega)
          have e1 : (va == va) = true := beq_self_eq_true _
          have e2 : (vb == va) = false := beq_eq_false_iff_ne.2 (by omega)
          have gj : decide ((b.length : Int) ≤ (j : Int)) = false := decide_eq_false (by omega)
          have gj2 : decide (b.length ≤ j) = false := decide_eq_false (by omega)
          obtain ⟨p1, p2, p3, p4, p5, p6⟩ := P1
          obtain ⟨q1, q2, q3, q4, q5, q6⟩ := P2
          go_wp2_with fail
          go_big_quiet (fail)
          go_wp2_with fail
          refine (HPA.out _ (HEA.out.below (below_drewN (Below.refl _ _) _))).mono ?_
          rintro e w1 ⟨rfl, hb1⟩
          have hbw1 : Below wr.heap.size wr w1 := (below_drewN (Below.refl _ _) _).trans hb1
          have HEB1 : Hid (EntsV w1 (some ⟨b2, o2, none⟩) b) := HEB.out.below hbw1
          clear hb1
          go_wp2_with fail
          refine (HPB.out _ (HEB1.out.below ((Below.refl _ _).alloc (Nat.le_refl _) _))).mono ?_
          rintro e w2 ⟨rfl, hb2⟩
          have hX : Box4 w2 w1.heap.size pa.v pa.lo pa.hi pa.wt := by unfold Box4; rw [hb2.block _ (by simp)]; exact heap_alloc_new w1 _
          obtain ⟨_, x1, x2, x3, _⟩ := hX.cells
          have hzz : w1.heap.size < w2.heap.size := by have := hb2.size; simp at this; omega
          have hbw2 : Below wr.heap.size wr w2 := hbw1.trans ((((Below.refl _ _).alloc (Nat.le_refl _) _).trans (hb2.mono (by simp))).mono hbw1.size)
          have HO2 : Hid (OwnE w2 w.heap.size u5 out) := HO.out.below hbw2
          have hs2 : w.heap.size ≤ w2.heap.size := Nat.le_trans hsz hbw2.size
          clear hb2 hX
          go_wp2_with (at_builtin; refine wpList_append_own _ rfl (.tmp 60) (.tmp 78) 29 rfl w.heap.size 98 i0 (.agg #[.int .i64 0, .int .i64 0, .int .i64 0, .int .i64 0]) 4 32 Tryz.underlying29 hinf hz0 hz1 hz2 rfl (by decide) _ out.length (flat out) rfl ((HO2.out.alloc _).alloc _) ⟨w2.heap.size + 1, 0, none⟩ 1 1 [.int .i64 va, .int .i64 (pa.lo + pb.lo), .int .i64 (pa.hi + pb.hi), .int .i64 (pa.wt + pb.wt)] rfl rfl ?_ ?_ ?_ ?_ ?_ ?_)
          · have := one_new (w2.alloc (.cells #[.int .i64 pb.v, .int .i64 pb.lo, .int .i64 pb.hi, .int .i64 pb.wt] 98)) #[.int .i64 va, .int .i64 (pa.lo + pb.lo), .int .i64 (pa.hi + pb.hi), .int .i64 (pa.wt + pb.wt)] 98
            rw [show (w2.alloc (.cells #[.int .i64 pb.v, .int .i64 pb.lo, .int .i64 pb.hi, .int .i64 pb.wt] 98)).heap.size = w2.heap.size + 1 by simp] at this
            exact this
          · intro u hu; simp at hu; rcases hu with rfl | rfl | rfl | rfl <;> rfl
          · unfold maxLen; omega
          · omega
          · simp; omega
          intro v3 w3 hown3 hgrow _
          have hb3 : Below w.heap.size wr w3 := (((hbw2.mono hsz).alloc hs2 _).alloc (by simp; omega) _).grown hgrow (by simp; omega) (fun k hk => (HO2.out.lt k hk).1)
          have hb4 : Below w.heap.size w w3 := hbel.trans hb3
          have ca3 : w3.cell? ⟨b1, o1 + i * 4, none⟩ = some (.int .i64 va) := (hb3.cell (p := ⟨b1, o1 + i * 4, none⟩) hbb1).trans ca0
          have cb3 : w3.cell? ⟨b2, o2 + j * 4, none⟩ = some (.int .i64 vb) := (hb3.cell (p := ⟨b2, o2 + j * 4, none⟩) hbb2).trans cb0
          have HF : Hid (OwnE w3 w.heap.size v3 (out ++ [seen b j (a.getD i e0)])) := by rw [HNX.out]; exact OwnE.more hown3
          clear hown3 hgrow x1 x2 x3 ca0 cb0
          go_wp2
          go_roundw
          case rel => exact ⟨i + 1, j, _, by go_num, by go_num, ⟨HX.out, HF.out⟩, hb4⟩
          case measure => simp [intOf]; omega
        · have P1 := partL_in GA.out hi (a.getD i e0).v
          have P2 := partL_in GB.out hj (a.getD i e0).v
          have HN : Hid (nextJ a b i j (a.getD i e0).v = sum2 (a.getD i e0) (b.getD j e0)) := nextJ_ab hil hjl heq
          have HX : Hid (RelJ a b (i + 1) (j + 1) (out ++ [sum2 (a.getD i e0) (b.getD j e0)])) := HRJ.out.ab GA.out GB.out hil hjl heq
          have HPA : Hid (∀ W, EntsV W (some ⟨b1, o1, none⟩) a → Calls Tryz.prog 175 #[.slice (some ⟨b1, o1, none⟩) a.length ca, .int .i64 (a.getD i e0).v] W fun e w' => e = .returned (.agg #[.int .i64 (partL a i (a.getD i e0).v).v, .int .i64 (partL a i (a.getD i e0).v).lo, .int .i64 (partL a i (a.getD i e0).v).hi, .int .i64 (partL a i (a.getD i e0).v).wt]) ∧ Below W.heap.size W w') := fun W hW => part_any _ a ca i (a.getD i e0).v W hW GA.out hi (fun k hk => (GA.out.lt hk hil).1) (fun _ => Int.le_refl _)
          have HPB : Hid (∀ W, EntsV W (some ⟨b2, o2, none⟩) b → Calls Tryz.prog 175 #[.slice (some ⟨b2, o2, none⟩) b.length cb, .int .i64 (a.getD i e0).v] W fun e w' => e = .returned (.agg #[.int .i64 (partL b j (a.getD i e0).v).v, .int .i64 (partL b j (a.getD i e0).v).lo, .int .i64 (partL b j (a.getD i e0).v).hi, .int .i64 (partL b j (a.getD i e0).v).wt]) ∧ Below W.heap.size W w') := fun W hW => part_any _ b cb j (a.getD i e0).v W hW GB.out hj (below_all GB.out hj (HRJ.out.st.va hil)) (fun _ => by omega)
          have HNX : Hid (sum2 (a.getD i e0) (b.getD j e0) = ⟨(a.getD i e0).v, (partL a i (a.getD i e0).v).lo + (partL b j (a.getD i e0).v).lo, (partL a i (a.getD i e0).v).hi + (partL b j (a.getD i e0).v).hi, (partL a i (a.getD i e0).v).wt + (partL b j (a.getD i e0).v).wt⟩) := HN.out.symm
          clear HN
          generalize partL a i (a.getD i e0).v = pa at *
          generalize partL b j (a.getD i e0).v = pb at *
          generalize (a.getD i e0).v = va at *
          generalize (b.getD j e0).v = vb at *
          subst heq
          have hle : decide (va ≤ va) = true := decide_eq_true (by omega)
          have e1 : (va == va) = true := beq_self_eq_true _
          have gj : decide ((b.length : Int) ≤ (j : Int)) = false := decide_eq_false (by omega)
          have gj2 : decide (b.length ≤ j) = false := decide_eq_false (by omega)
          obtain ⟨p1, p2, p3, p4, p5, p6⟩ := P1
          obtain ⟨q1, q2, q3, q4, q5, q6⟩ := P2
          go_wp2_with fail
          go_big_quiet (fail)
          go_wp2_with fail
          refine (HPA.out _ (HEA.out.below (below_drewN (Below.refl _ _) _))).mono ?_
          rintro e w1 ⟨rfl, hb1⟩
          have hbw1 : Below wr.heap.size wr w1 := (below_drewN (Below.refl _ _) _).trans hb1
          have HEB1 : Hid (EntsV w1 (some ⟨b2, o2, none⟩) b) := HEB.out.below hbw1
          clear hb1
          go_wp2_with fail
          refine (HPB.out _ (HEB1.out.below ((Below.refl _ _).alloc (Nat.le_refl _) _))).mono ?_
          rintro e w2 ⟨rfl, hb2⟩
          have hX : Box4 w2 w1.heap.size pa.v pa.lo pa.hi pa.wt := by unfold Box4; rw [hb2.block _ (by simp)]; exact heap_alloc_new w1 _
          obtain ⟨_, x1, x2, x3, _⟩ := hX.cells
          have hzz : w1.heap.size < w2.heap.size := by have := hb2.size; simp at this; omega
          have hbw2 : Below wr.heap.size wr w2 := hbw1.trans ((((Below.refl _ _).alloc (Nat.le_refl _) _).trans (hb2.mono (by simp))).mono hbw1.size)
          have HO2 : Hid (OwnE w2 w.heap.size u5 out) := HO.out.below hbw2
          have hs2 : w.heap.size ≤ w2.heap.size := Nat.le_trans hsz hbw2.size
          clear hb2 hX
          go_wp2_with (at_builtin; refine wpList_append_own _ rfl (.tmp 60) (.tmp 78) 29 rfl w.heap.size 98 i0 (.agg #[.int .i64 0, .int .i64 0, .int .i64 0, .int .i64 0]) 4 32 Tryz.underlying29 hinf hz0 hz1 hz2 rfl (by decide) _ out.length (flat out) rfl ((HO2.out.alloc _).alloc _) ⟨w2.heap.size + 1, 0, none⟩ 1 1 [.int .i64 va, .int .i64 (pa.lo + pb.lo), .int .i64 (pa.hi + pb.hi), .int .i64 (pa.wt + pb.wt)] rfl rfl ?_ ?_ ?_ ?_ ?_ ?_)
          · have := one_new (w2.alloc (.cells #[.int .i64 pb.v, .int .i64 pb.lo, .int .i64 pb.hi, .int .i64 pb.wt] 98)) #[.int .i64 va, .int .i64 (pa.lo + pb.lo), .int .i64 (pa.hi + pb.hi), .int .i64 (pa.wt + pb.wt)] 98
            rw [show (w2.alloc (.cells #[.int .i64 pb.v, .int .i64 pb.lo, .int .i64 pb.hi, .int .i64 pb.wt] 98)).heap.size = w2.heap.size + 1 by simp] at this
            exact this
          · intro u hu; simp at hu; rcases hu with rfl | rfl | rfl | rfl <;> rfl
          · unfold maxLen; omega
          · omega
          · simp; omega
          intro v3 w3 hown3 hgrow _
          have hb3 : Below w.heap.size wr w3 := (((hbw2.mono hsz).alloc hs2 _).alloc (by simp; omega) _).grown hgrow (by simp; omega) (fun k hk => (HO2.out.lt k hk).1)
          have hb4 : Below w.heap.size w w3 := hbel.trans hb3
          have ca3 : w3.cell? ⟨b1, o1 + i * 4, none⟩ = some (.int .i64 va) := (hb3.cell (p := ⟨b1, o1 + i * 4, none⟩) hbb1).trans ca0
          have cb3 : w3.cell? ⟨b2, o2 + j * 4, none⟩ = some (.int .i64 va) := (hb3.cell (p := ⟨b2, o2 + j * 4, none⟩) hbb2).trans cb0
          have HF : Hid (OwnE w3 w.heap.size v3 (out ++ [sum2 (a.getD i e0) (b.getD j e0)])) := by rw [HNX.out]; exact OwnE.more hown3
          clear hown3 hgrow x1 x2 x3 ca0 cb0
          go_wp2
          go_roundw
          case rel => exact ⟨i + 1, j + 1, _, by go_num, by go_num, ⟨HX.out, HF.out⟩, hb4⟩
          case measure => simp [intOf]; omega
        · have P1 := partL_in GA.out hi (b.getD j e0).v
          have P2 := partL_in GB.out hj (b.getD j e0).v
          have HN : Hid (nextJ a b i j (b.getD j e0).v = seen a i (b.getD j e0)) := nextJ_b hjl (fun _ => hgt)
          have HX : Hid (RelJ a b i (j + 1) (out ++ [seen a i (b.getD j e0)])) := HRJ.out.b GB.out hjl (fun _ => hgt)
          have HPA : Hid (∀ W, EntsV W (some ⟨b1, o1, none⟩) a → Calls Tryz.prog 175 #[.slice (some ⟨b1, o1, none⟩) a.length ca, .int .i64 (b.getD j e0).v] W fun e w' => e = .returned (.agg #[.int .i64 (partL a i (b.getD j e0).v).v, .int .i64 (partL a i (b.getD j e0).v).lo, .int .i64 (partL a i (b.getD j e0).v).hi, .int .i64 (partL a i (b.getD j e0).v).wt]) ∧ Below W.heap.size W w') := fun W hW => part_any _ a ca i (b.getD j e0).v W hW GA.out hi (below_all GA.out hi (HRJ.out.st.vb hjl)) (fun h => by have := (fun _ => hgt) h; omega)
          have HPB : Hid (∀ W, EntsV W (some ⟨b2, o2, none⟩) b → Calls Tryz.prog 175 #[.slice (some ⟨b2, o2, none⟩) b.length cb, .int .i64 (b.getD j e0).v] W fun e w' => e = .returned (.agg #[.int .i64 (partL b j (b.getD j e0).v).v, .int .i64 (partL b j (b.getD j e0).v).lo, .int .i64 (partL b j (b.getD j e0).v).hi, .int .i64 (partL b j (b.getD j e0).v).wt]) ∧ Below W.heap.size W w') := fun W hW => part_any _ b cb j (b.getD j e0).v W hW GB.out hj (fun k hk => (GB.out.lt hk hjl).1) (fun _ => Int.le_refl _)
          have HNX : Hid (seen a i (b.getD j e0) = ⟨(b.getD j e0).v, (partL a i (b.getD j e0).v).lo + (partL b j (b.getD j e0).v).lo, (partL a i (b.getD j e0).v).hi + (partL b j (b.getD j e0).v).hi, (partL a i (b.getD j e0).v).wt + (partL b j (b.getD j e0).v).wt⟩) := HN.out.symm
          clear HN
          generalize partL a i (b.getD j e0).v = pa at *
          generalize partL b j (b.getD j e0).v = pb at *
          generalize (a.getD i e0).v = va at *
          generalize (b.getD j e0).v = vb at *
          have hle : decide (va ≤ vb) = false := decide_eq_false (by omega)
          have e1 : (va == vb) = false := beq_eq_false_iff_ne.2 (by omega)
          have e2 : (vb == vb) = true := beq_self_eq_true _
          have gj : decide ((b.length : Int) ≤ (j : Int)) = false := decide_eq_false (by omega)
          have gj2 : decide (b.length ≤ j) = false := decide_eq_false (by omega)
          obtain ⟨p1, p2, p3, p4, p5, p6⟩ := P1
          obtain ⟨q1, q2, q3, q4, q5, q6⟩ := P2
          go_wp2_with fail
          go_big_quiet (fail)
          go_wp2_with fail
          refine (HPA.out _ (HEA.out.below (below_drewN (Below.refl _ _) _))).mono ?_
          rintro e w1 ⟨rfl, hb1⟩
          have hbw1 : Below wr.heap.size wr w1 := (below_drewN (Below.refl _ _) _).trans hb1
          have HEB1 : Hid (EntsV w1 (some ⟨b2, o2, none⟩) b) := HEB.out.below hbw1
          clear hb1
          go_wp2_with fail
          refine (HPB.out _ (HEB1.out.below ((Below.refl _ _).alloc (Nat.le_refl _) _))).mono ?_
          rintro e w2 ⟨rfl, hb2⟩
          have hX : Box4 w2 w1.heap.size pa.v pa.lo pa.hi pa.wt := by unfold Box4; rw [hb2.block _ (by simp)]; exact heap_alloc_new w1 _
          obtain ⟨_, x1, x2, x3, _⟩ := hX.cells
          have hzz : w1.heap.size < w2.heap.size := by have := hb2.size; simp at this; omega
          have hbw2 : Below wr.heap.size wr w2 := hbw1.trans ((((Below.refl _ _).alloc (Nat.le_refl _) _).trans (hb2.mono (by simp))).mono hbw1.size)
          have HO2 : Hid (OwnE w2 w.heap.size u5 out) := HO.out.below hbw2
          have hs2 : w.heap.size ≤ w2.heap.size := Nat.le_trans hsz hbw2.size
          clear hb2 hX
          go_wp2_with (at_builtin; refine wpList_append_own _ rfl (.tmp 60) (.tmp 78) 29 rfl w.heap.size 98 i0 (.agg #[.int .i64 0, .int .i64 0, .int .i64 0, .int .i64 0]) 4 32 Tryz.underlying29 hinf hz0 hz1 hz2 rfl (by decide) _ out.length (flat out) rfl ((HO2.out.alloc _).alloc _) ⟨w2.heap.size + 1, 0, none⟩ 1 1 [.int .i64 vb, .int .i64 (pa.lo + pb.lo), .int .i64 (pa.hi + pb.hi), .int .i64 (pa.wt + pb.wt)] rfl rfl ?_ ?_ ?_ ?_ ?_ ?_)
          · have := one_new (w2.alloc (.cells #[.int .i64 pb.v, .int .i64 pb.lo, .int .i64 pb.hi, .int .i64 pb.wt] 98)) #[.int .i64 vb, .int .i64 (pa.lo + pb.lo), .int .i64 (pa.hi + pb.hi), .int .i64 (pa.wt + pb.wt)] 98
            rw [show (w2.alloc (.cells #[.int .i64 pb.v, .int .i64 pb.lo, .int .i64 pb.hi, .int .i64 pb.wt] 98)).heap.size = w2.heap.size + 1 by simp] at this
            exact this
          · intro u hu; simp at hu; rcases hu with rfl | rfl | rfl | rfl <;> rfl
          · unfold maxLen; omega
          · omega
          · simp; omega
          intro v3 w3 hown3 hgrow _
          have hb3 : Below w.heap.size wr w3 := (((hbw2.mono hsz).alloc hs2 _).alloc (by simp; omega) _).grown hgrow (by simp; omega) (fun k hk => (HO2.out.lt k hk).1)
          have hb4 : Below w.heap.size w w3 := hbel.trans hb3
          have ca3 : w3.cell? ⟨b1, o1 + i * 4, none⟩ = some (.int .i64 va) := (hb3.cell (p := ⟨b1, o1 + i * 4, none⟩) hbb1).trans ca0
          have cb3 : w3.cell? ⟨b2, o2 + j * 4, none⟩ = some (.int .i64 vb) := (hb3.cell (p := ⟨b2, o2 + j * 4, none⟩) hbb2).trans cb0
          have HF : Hid (OwnE w3 w.heap.size v3 (out ++ [seen a i (b.getD j e0)])) := by rw [HNX.out]; exact OwnE.more hown3
          clear hown3 hgrow x1 x2 x3 ca0 cb0
          go_wp2
          go_roundw
          case rel => exact ⟨i, j + 1, _, by go_num, by go_num, ⟨HX.out, HF.out⟩, hb4⟩
          case measure => simp [intOf]; omega
      · have P1 := partL_in GA.out hi (a.getD i e0).v
        have P2 := partL_in GB.out hj (a.getD i e0).v
        have HN : Hid (nextJ a b i j (a.getD i e0).v = seen b j (a.getD i e0)) := nextJ_a hil (fun h => absurd h hjl)
        have HX : Hid (RelJ a b (i + 1) j (out ++ [seen b j (a.getD i e0)])) := HRJ.out.a GA.out hil (fun h => absurd h hjl)
        have HPA : Hid (∀ W, EntsV W (some ⟨b1, o1, none⟩) a → Calls Tryz.prog 175 #[.slice (some ⟨b1, o1, none⟩) a.length ca, .int .i64 (a.getD i e0).v] W fun e w' => e = .returned (.agg #[.int .i64 (partL a i (a.getD i e0).v).v, .int .i64 (partL a i (a.getD i e0).v).lo, .int .i64 (partL a i (a.getD i e0).v).hi, .int .i64 (partL a i (a.getD i e0).v).wt]) ∧ Below W.heap.size W w') := fun W hW => part_any _ a ca i (a.getD i e0).v W hW GA.out hi (fun k hk => (GA.out.lt hk hil).1) (fun _ => Int.le_refl _)
        have HPB : Hid (∀ W, EntsV W ab b → Calls Tryz.prog 175 #[.slice ab b.length cb, .int .i64 (a.getD i e0).v] W fun e w' => e = .returned (.agg #[.int .i64 (partL b j (a.getD i e0).v).v, .int .i64 (partL b j (a.getD i e0).v).lo, .int .i64 (partL b j (a.getD i e0).v).hi, .int .i64 (partL b j (a.getD i e0).v).wt]) ∧ Below W.heap.size W w') := fun W hW => part_any _ b cb j (a.getD i e0).v W hW GB.out hj (below_all GB.out hj (HRJ.out.st.va hil)) (fun h => absurd h hjl)
        have HNX : Hid (seen b j (a.getD i e0) = ⟨(a.getD i e0).v, (partL a i (a.getD i e0).v).lo + (partL b j (a.getD i e0).v).lo, (partL a i (a.getD i e0).v).hi + (partL b j (a.getD i e0).v).hi, (partL a i (a.getD i e0).v).wt + (partL b j (a.getD i e0).v).wt⟩) := HN.out.symm
        clear HN
        generalize partL a i (a.getD i e0).v = pa at *
        generalize partL b j (a.getD i e0).v = pb at *
        generalize (a.getD i e0).v = va at *
        have e1 : (va == va) = true := beq_self_eq_true _
        have gj : decide ((b.length : Int) ≤ (j : Int)) = true := decide_eq_true (by omega)
        have gj2 : decide (b.length ≤ j) = true := decide_eq_true (by omega)
        obtain ⟨p1, p2, p3, p4, p5, p6⟩ := P1
        obtain ⟨q1, q2, q3, q4, q5, q6⟩ := P2
        go_wp2_with fail
        go_big_quiet (fail)
        go_wp2_with fail
        refine (HPA.out _ (HEA.out.below (below_drewN (Below.refl _ _) _))).mono ?_
        rintro e w1 ⟨rfl, hb1⟩
        have hbw1 : Below wr.heap.size wr w1 := (below_drewN (Below.refl _ _) _).trans hb1
        have HEB1 : Hid (EntsV w1 ab b) := HEB.out.below hbw1
        clear hb1
        go_wp2_with fail
        refine (HPB.out _ (HEB1.out.below ((Below.refl _ _).alloc (Nat.le_refl _) _))).mono ?_
        rintro e w2 ⟨rfl, hb2⟩
        have hX : Box4 w2 w1.heap.size pa.v pa.lo pa.hi pa.wt := by unfold Box4; rw [hb2.block _ (by simp)]; exact heap_alloc_new w1 _
        obtain ⟨_, x1, x2, x3, _⟩ := hX.cells
        have hzz : w1.heap.size < w2.heap.size := by have := hb2.size; simp at this; omega
        have hbw2 : Below wr.heap.size wr w2 := hbw1.trans ((((Below.refl _ _).alloc (Nat.le_refl _) _).trans (hb2.mono (by simp))).mono hbw1.size)
        have HO2 : Hid (OwnE w2 w.heap.size u5 out) := HO.out.below hbw2
        have hs2 : w.heap.size ≤ w2.heap.size := Nat.le_trans hsz hbw2.size
        clear hb2 hX
        go_wp2_with (at_builtin; refine wpList_append_own _ rfl (.tmp 60) (.tmp 78) 29 rfl w.heap.size 98 i0 (.agg #[.int .i64 0, .int .i64 0, .int .i64 0, .int .i64 0]) 4 32 Tryz.underlying29 hinf hz0 hz1 hz2 rfl (by decide) _ out.length (flat out) rfl ((HO2.out.alloc _).alloc _) ⟨w2.heap.size + 1, 0, none⟩ 1 1 [.int .i64 va, .int .i64 (pa.lo + pb.lo), .int .i64 (pa.hi + pb.hi), .int .i64 (pa.wt + pb.wt)] rfl rfl ?_ ?_ ?_ ?_ ?_ ?_)
        · have := one_new (w2.alloc (.cells #[.int .i64 pb.v, .int .i64 pb.lo, .int .i64 pb.hi, .int .i64 pb.wt] 98)) #[.int .i64 va, .int .i64 (pa.lo + pb.lo), .int .i64 (pa.hi + pb.hi), .int .i64 (pa.wt + pb.wt)] 98
          rw [show (w2.alloc (.cells #[.int .i64 pb.v, .int .i64 pb.lo, .int .i64 pb.hi, .int .i64 pb.wt] 98)).heap.size = w2.heap.size + 1 by simp] at this
          exact this
        · intro u hu; simp at hu; rcases hu with rfl | rfl | rfl | rfl <;> rfl
        · unfold maxLen; omega
        · omega
        · simp; omega
        intro v3 w3 hown3 hgrow _
        have hb3 : Below w.heap.size wr w3 := (((hbw2.mono hsz).alloc hs2 _).alloc (by simp; omega) _).grown hgrow (by simp; omega) (fun k hk => (HO2.out.lt k hk).1)
        have hb4 : Below w.heap.size w w3 := hbel.trans hb3
        have ca3 : w3.cell? ⟨b1, o1 + i * 4, none⟩ = some (.int .i64 va) := (hb3.cell (p := ⟨b1, o1 + i * 4, none⟩) hbb1).trans ca0
        have HF : Hid (OwnE w3 w.heap.size v3 (out ++ [seen b j (a.getD i e0)])) := by rw [HNX.out]; exact OwnE.more hown3
        clear hown3 hgrow x1 x2 x3 ca0 
        go_wp2
        go_roundw
        case rel => exact ⟨i + 1, j, _, by go_num, by go_num, ⟨HX.out, HF.out⟩, hb4⟩
        case measure => simp [intOf]; omega
    · by_cases hjl : j < b.length
      · rcases HEB.out with ⟨_, h0 | ⟨b2, o2, rfl, hB⟩⟩
        · omega
        have cb0 := hB.v j hjl
        have hbb2 : b2 < w.heap.size := by
          rcases HB.out with ⟨_, h0 | ⟨b2', o2', e, hB'⟩⟩
          · omega
          · simp at e; rw [e.1]; exact hB'.lt (by omega)
        have bj1 : (0 : Int) ≤ (j : Int) := by omega
        have bj2 : (j : Int) < (b.length : Int) := by omega
        clear hB
        have gi : decide ((i : Int) < (a.length : Int)) = false := decide_eq_false (by omega)
        have gi2 : decide (i < a.length) = false := decide_eq_false (by omega)
        · have P1 := partL_in GA.out hi (b.getD j e0).v
          have P2 := partL_in GB.out hj (b.getD j e0).v
          have HN : Hid (nextJ a b i j (b.getD j e0).v = seen a i (b.getD j e0)) := nextJ_b hjl (fun h => absurd h hil)
          have HX : Hid (RelJ a b i (j + 1) (out ++ [seen a i (b.getD j e0)])) := HRJ.out.b GB.out hjl (fun h => absurd h hil)
          have HPA : Hid (∀ W, EntsV W aa a → Calls Tryz.prog 175 #[.slice aa a.length ca, .int .i64 (b.getD j e0).v] W fun e w' => e = .returned (.agg #[.int .i64 (partL a i (b.getD j e0).v).v, .int .i64 (partL a i (b.getD j e0).v).lo, .int .i64 (partL a i (b.getD j e0).v).hi, .int .i64 (partL a i (b.getD j e0).v).wt]) ∧ Below W.heap.size W w') := fun W hW => part_any _ a ca i (b.getD j e0).v W hW GA.out hi (below_all GA.out hi (HRJ.out.st.vb hjl)) (fun h => absurd h hil)
          have HPB : Hid (∀ W, EntsV W (some ⟨b2, o2, none⟩) b → Calls Tryz.prog 175 #[.slice (some ⟨b2, o2, none⟩) b.length cb, .int .i64 (b.getD j e0).v] W fun e w' => e = .returned (.agg #[.int .i64 (partL b j (b.getD j e0).v).v, .int .i64 (partL b j (b.getD j e0).v).lo, .int .i64 (partL b j (b.getD j e0).v).hi, .int .i64 (partL b j (b.getD j e0).v).wt]) ∧ Below W.heap.size W w') := fun W hW => part_any _ b cb j (b.getD j e0).v W hW GB.out hj (fun k hk => (GB.out.lt hk hjl).1) (fun _ => Int.le_refl _)
          have HNX : Hid (seen a i (b.getD j e0) = ⟨(b.getD j e0).v, (partL a i (b.getD j e0).v).lo + (partL b j (b.getD j e0).v).lo, (partL a i (b.getD j e0).v).hi + (partL b j (b.getD j e0).v).hi, (partL a i (b.getD j e0).v).wt + (partL b j (b.getD j e0).v).wt⟩) := HN.out.symm
          clear HN
          generalize partL a i (b.getD j e0).v = pa at *
          generalize partL b j (b.getD j e0).v = pb at *
          generalize (b.getD j e0).v = vb at *
          have e2 : (vb == vb) = true := beq_self_eq_true _
          have gj : decide ((b.length : Int) ≤ (j : Int)) = false := decide_eq_false (by omega)
          have gj2 : decide (b.length ≤ j) = false := decide_eq_false (by omega)
          obtain ⟨p1, p2, p3, p4, p5, p6⟩ := P1
          obtain ⟨q1, q2, q3, q4, q5, q6⟩ := P2
          go_wp2_with fail
          go_big_quiet (fail)
          go_wp2_with fail
          refine (HPA.out _ (HEA.out.below (below_drewN (Below.refl _ _) _))).mono ?_
          rintro e w1 ⟨rfl, hb1⟩
          have hbw1 : Below wr.heap.size wr w1 := (below_drewN (Below.refl _ _) _).trans hb1
          have HEB1 : Hid (EntsV w1 (some ⟨b2, o2, none⟩) b) := HEB.out.below hbw1
          clear hb1
          go_wp2_with fail
          refine (HPB.out _ (HEB1.out.below ((Below.refl _ _).alloc (Nat.le_refl _) _))).mono ?_
          rintro e w2 ⟨rfl, hb2⟩
          have hX : Box4 w2 w1.heap.size pa.v pa.lo pa.hi pa.wt := by unfold Box4; rw [hb2.block _ (by simp)]; exact heap_alloc_new w1 _
          obtain ⟨_, x1, x2, x3, _⟩ := hX.cells
          have hzz : w1.heap.size < w2.heap.size := by have := hb2.size; simp at this; omega
          have hbw2 : Below wr.heap.size wr w2 := hbw1.trans ((((Below.refl _ _).alloc (Nat.le_refl _) _).trans (hb2.mono (by simp))).mono hbw1.size)
          have HO2 : Hid (OwnE w2 w.heap.size u5 out) := HO.out.below hbw2
          have hs2 : w.heap.size ≤ w2.heap.size := Nat.le_trans hsz hbw2.size
          clear hb2 hX
          go_wp2_with (at_builtin; refine wpList_append_own _ rfl (.tmp 60) (.tmp 78) 29 rfl w.heap.size 98 i0 (.agg #[.int .i64 0, .int .i64 0, .int .i64 0, .int .i64 0]) 4 32 Tryz.underlying29 hinf hz0 hz1 hz2 rfl (by decide) _ out.length (flat out) rfl ((HO2.out.alloc _).alloc _) ⟨w2.heap.size + 1, 0, none⟩ 1 1 [.int .i64 vb, .int .i64 (pa.lo + pb.lo), .int .i64 (pa.hi + pb.hi), .int .i64 (pa.wt + pb.wt)] rfl rfl ?_ ?_ ?_ ?_ ?_ ?_)
          · have := one_new (w2.alloc (.cells #[.int .i64 pb.v, .int .i64 pb.lo, .int .i64 pb.hi, .int .i64 pb.wt] 98)) #[.int .i64 vb, .int .i64 (pa.lo + pb.lo), .int .i64 (pa.hi + pb.hi), .int .i64 (pa.wt + pb.wt)] 98
            rw [show (w2.alloc (.cells #[.int .i64 pb.v, .int .i64 pb.lo, .int .i64 pb.hi, .int .i64 pb.wt] 98)).heap.size = w2.heap.size + 1 by simp] at this
            exact this
          · intro u hu; simp at hu; rcases hu with rfl | rfl | rfl | rfl <;> rfl
          · unfold maxLen; omega
          · omega
          · simp; omega
          intro v3 w3 hown3 hgrow _
          have hb3 : Below w.heap.size wr w3 := (((hbw2.mono hsz).alloc hs2 _).alloc (by simp; omega) _).grown hgrow (by simp; omega) (fun k hk => (HO2.out.lt k hk).1)
          have hb4 : Below w.heap.size w w3 := hbel.trans hb3
          have cb3 : w3.cell? ⟨b2, o2 + j * 4, none⟩ = some (.int .i64 vb) := (hb3.cell (p := ⟨b2, o2 + j * 4, none⟩) hbb2).trans cb0
          have HF : Hid (OwnE w3 w.heap.size v3 (out ++ [seen a i (b.getD j e0)])) := by rw [HNX.out]; exact OwnE.more hown3
          clear hown3 hgrow x1 x2 x3  cb0
          go_wp2
          go_roundw
          case rel => exact ⟨i, j + 1, _, by go_num, by go_num, ⟨HX.out, HF.out⟩, hb4⟩
          case measure => simp [intOf]; omega
      · have hfin : out = joinL a b := by have := HRJ.out.eq; rw [restJ_end hil hjl, List.append_nil] at this; exact this
        have HFI : Hid (OwnE wr w.heap.size u5 (joinL a b)) := hfin ▸ HO.out
        clear hfin
        go_wp2
        go_ret
        exact ⟨_, rfl, HFI.out, hbel⟩
end Go.Proofs.YtfcgnpchbcmdeaaGreat

namespace Go.Proofs.YtfcgnpchbcmdeaaGreat
open Go.RowKit

theorem info3 : (Tryz.prog.info? 3).map (fun i => (i.zero, i.size, i.bytes)) = some (some (.int .i64 0), 1, 8) := by kernel_rfl

/-- NUMBERS OF THE CALL's OWN. -/
def OwnI (w : World) (base : Nat) (v : Value) (zs : List Int) : Prop := w.ownsRow base 3 1 v zs.length (zs.map (Value.int .i64))

theorem OwnI.nil (w : World) (base : Nat) : OwnI w base (.slice none 0 0) [] := World.ownsRow_nil w base 3 1
theorem OwnI.below {w w' : World} {base : Nat} {v : Value} {zs : List Int} (h : OwnI w base v zs) (hb : Below w.heap.size w w') : OwnI w' base v zs := by
  refine ⟨h.1, ?_⟩
  rcases h.2 with hn | ⟨g, cap, cur, e, hg, hh, r⟩
  · exact .inl hn
  · exact .inr ⟨g, cap, cur, e, hg, (hb.block g (Array.getElem?_eq_some_iff.1 hh).1).trans hh, r⟩
theorem OwnI.kept {w w' : World} {base : Nat} {v : Value} {zs : List Int} {row : Option Nat} (h : OwnI w base v zs) (hg : w.grownBy w' row) (hne : v.ownBlock = none ∨ v.ownBlock ≠ row) : OwnI w' base v zs := World.ownsRow.kept h hg hne
theorem OwnI.more {w : World} {base : Nat} {v : Value} {zs : List Int} {x : Int} (h : w.ownsRow base 3 1 v (zs.length + 1) (zs.map (Value.int .i64) ++ [.int .i64 x])) : OwnI w base v (zs ++ [x]) := by
  unfold OwnI
  rw [List.map_append, List.length_append]
  exact h

def cap1 (x : Int) : Int := if 1000000000 < x then 1000000000 else x
theorem cap1_clamp (x : Int) : clampV x = if cap1 x < -1000000000 then -1000000000 else cap1 x := by
  unfold clampV cap1; split <;> (try split) <;> (try split) <;> omega

def badW (y : Int) : Bool := decide (y < 1 ∨ 1000 < y)

theorem clampW_bad (y : Int) : clampW y = if badW y = true then 1 else y := by
  unfold clampW badW
  by_cases h : y < 1 ∨ 1000 < y
  · rw [if_pos h, if_pos (decide_eq_true h)]
  · rw [if_neg h, if_neg (fun hc => h (of_decide_eq_true hc))]

/-- Is a value beyond all that there are? -/
def freshB (M : List (Int × Int)) (x : Int) : Bool := match M.getLast? with
  | none => true
  | some p => decide (p.1 < x)

theorem fresh_nil (x : Int) : freshB [] x = true := rfl
theorem fresh_snoc (N : List (Int × Int)) (p : Int × Int) (x : Int) : freshB (N ++ [p]) x = decide (p.1 < x) := by simp [freshB]

theorem fresh_lt {M : List (Int × Int)} (hr : M.Pairwise fun p q => p.1 < q.1) {x : Int} (h : freshB M x = true) : ∀ p ∈ M, p.1 < x := by
  rcases List.eq_nil_or_concat M with hM | ⟨N, p, hM⟩
  · subst hM; simp
  · rw [List.concat_eq_append] at hM
    subst hM
    rw [fresh_snoc] at h
    simp at h
    intro q hq
    rcases List.mem_append.1 hq with hq | hq
    · have := (List.pairwise_append.1 hr).2.2 q hq p (by simp); omega
    · simp at hq; rw [hq]; exact h

structure PreSum (P M : List (Int × Int)) : Prop where
  rise : M.Pairwise fun p q => p.1 < q.1
  sub : ∀ p ∈ M, ∃ q ∈ P, q.1 = p.1
  wt : ∀ p ∈ M, p.2 = wOf P p.1
  low : ∀ q ∈ P, freshB M q.1 = false → ∃ p ∈ M, p.1 = q.1

theorem PreSum.nil (P : List (Int × Int)) : PreSum P [] := ⟨by simp, by simp, by simp, fun q _ h => by rw [fresh_nil] at h; cases h⟩

structure InSt (P M : List (Int × Int)) (i : Nat) (fd : Bool) (le wt : Int) : Prop where
  no : fd = false → le = 0 ∧ wt = 0 ∧ ∀ q ∈ P.take i, freshB M q.1 = false
  yes : fd = true → (∃ q ∈ P.take i, freshB M q.1 = true ∧ q.1 = le) ∧ (∀ q ∈ P.take i, freshB M q.1 = true → le ≤ q.1) ∧ wt = wOf (P.take i) le

theorem InSt.start (P M : List (Int × Int)) : InSt P M 0 false 0 0 := ⟨(fun _ => ⟨rfl, rfl, by simp⟩), (fun h => by cases h)⟩

theorem InSt.new {P M : List (Int × Int)} {i : Nat} {fd : Bool} {le wt : Int} (h : InSt P M i fd le wt) (hi : i < P.length) (hf : freshB M P[i].1 = true) (hc : fd = false ∨ P[i].1 < le) : InSt P M (i + 1) true P[i].1 P[i].2 := by
  refine ⟨(fun h => by cases h), fun _ => ?_⟩
  simp only [List.take_succ_eq_append_getElem hi]
  refine ⟨⟨P[i], List.mem_append.2 (.inr (by simp)), hf, rfl⟩, fun q hq hfq => ?_, ?_⟩
  · rcases List.mem_append.1 hq with hq | hq
    · cases hfd : fd with
      | false => have := (h.no hfd).2.2 q hq; rw [this] at hfq; cases hfq
      | true =>
        have := (h.yes hfd).2.1 q hq hfq
        rcases hc with hc | hc
        · rw [hc] at hfd; cases hfd
        · omega
    · simp at hq; rw [hq]; exact Int.le_refl _
  · rw [wOf_append, wOf_none (fun q hq e => ?_)]
    · simp [wOf]
    · have hfq : freshB M q.1 = true := by rw [e]; exact hf
      cases hfd : fd with
      | false => have := (h.no hfd).2.2 q hq; rw [this] at hfq; cases hfq
      | true =>
        have := (h.yes hfd).2.1 q hq hfq
        rcases hc with hc | hc
        · rw [hc] at hfd; cases hfd
        · omega

theorem InSt.same {P M : List (Int × Int)} {i : Nat} {le wt : Int} (h : InSt P M i true le wt) (hi : i < P.length) (he : P[i].1 = le) : InSt P M (i + 1) true le (wt + P[i].2) := by
  obtain ⟨⟨q, hq, hf, e⟩, h2, h3⟩ := h.yes rfl
  refine ⟨(fun h => by cases h), fun _ => ?_⟩
  simp only [List.take_succ_eq_append_getElem hi]
  refine ⟨⟨q, List.mem_append.2 (.inl hq), hf, e⟩, fun q' hq' hf' => ?_, ?_⟩
  · rcases List.mem_append.1 hq' with hq' | hq'
    · exact h2 q' hq' hf'
    · simp at hq'; rw [hq', he]; exact Int.le_refl _
  · rw [wOf_append, h3]; simp [wOf, he]

theorem InSt.pass {P M : List (Int × Int)} {i : Nat} {fd : Bool} {le wt : Int} (h : InSt P M i fd le wt) (hi : i < P.length) (hn : fd = false → freshB M P[i].1 = false) (hy : fd = true → P[i].1 ≠ le ∧ (freshB M P[i].1 = true → le ≤ P[i].1)) : InSt P M (i + 1) fd le wt := by
  refine ⟨fun hf => ?_, fun hf => ?_⟩
  · obtain ⟨h1, h2, h3⟩ := h.no hf
    refine ⟨h1, h2, fun q hq => ?_⟩
    rw [List.take_succ_eq_append_getElem hi] at hq
    rcases List.mem_append.1 hq with hq | hq
    · exact h3 q hq
    · simp at hq; rw [hq]; exact hn hf
  · obtain ⟨⟨q, hq, hfq, e⟩, h2, h3⟩ := h.yes hf
    simp only [List.take_succ_eq_append_getElem hi]
    refine ⟨⟨q, List.mem_append.2 (.inl hq), hfq, e⟩, fun q' hq' hf' => ?_, ?_⟩
    · rcases List.mem_append.1 hq' with hq' | hq'
      · exact h2 q' hq' hf'
      · simp at hq'; rw [hq'] at hf' ⊢; exact (hy hf).2 hf'
    · rw [wOf_append, h3]; simp [wOf, (hy hf).1]

theorem PreSum.done {P M : List (Int × Int)} {le wt : Int} (h : PreSum P M) (hs : InSt P M P.length false le wt) : IsSum P M := by
  obtain ⟨_, _, h3⟩ := hs.no rfl
  rw [List.take_of_length_le (Nat.le_refl _)] at h3
  exact ⟨h.rise, h.sub, fun q hq => h.low q hq (h3 q hq), h.wt⟩

theorem PreSum.more {P M : List (Int × Int)} {le wt : Int} (h : PreSum P M) (hs : InSt P M P.length true le wt) : PreSum P (M ++ [(le, wt)]) := by
  obtain ⟨⟨q, hq, hf, e⟩, h2, h3⟩ := hs.yes rfl
  rw [List.take_of_length_le (Nat.le_refl _)] at hq h2 h3
  refine ⟨?_, ?_, ?_, ?_⟩
  · rw [List.pairwise_append]
    refine ⟨h.rise, by simp, fun a ha b hb => ?_⟩
    simp at hb; rw [hb]
    have := fresh_lt h.rise hf a ha
    simp; omega
  · intro p hp
    rcases List.mem_append.1 hp with hp | hp
    · exact h.sub p hp
    · simp at hp; rw [hp]; exact ⟨q, hq, e⟩
  · intro p hp
    rcases List.mem_append.1 hp with hp | hp
    · exact h.wt p hp
    · simp at hp; rw [hp]; exact h3
  · intro r hr hfr
    rw [fresh_snoc] at hfr
    simp at hfr
    cases hM : freshB M r.1 with
    | false => obtain ⟨p, hp, e⟩ := h.low r hr hM; exact ⟨p, by simp [hp], e⟩
    | true => have := h2 r hr hM; exact ⟨(le, wt), by simp, by simp; omega⟩

theorem PreSum.len {P M : List (Int × Int)} (h : PreSum P M) : M.length ≤ P.length := by
  have g : ∀ (M : List (Int × Int)) (U : List Int), (M.Pairwise fun p q => p.1 < q.1) → (∀ p ∈ M, p.1 ∈ U) → M.length ≤ U.length := by
    intro M
    induction M with
    | nil => simp
    | cons e M ih =>
      intro U hp hU
      rw [List.pairwise_cons] at hp
      have h1 : e.1 ∈ U := hU e (by simp)
      have h2 := ih (U.erase e.1) hp.2 (fun f hf => by
        have hne : f.1 ≠ e.1 := by have := hp.1 f hf; omega
        exact (List.mem_erase_of_ne hne).2 (hU f (by simp [hf])))
      rw [List.length_erase_of_mem h1] at h2
      have : 0 < U.length := List.length_pos_of_mem h1
      simp; omega
  have := g M (P.map (·.1)) h.rise (fun p hp => by obtain ⟨q, hq, e⟩ := h.sub p hp; exact List.mem_map.2 ⟨q, hq, e⟩)
  simpa using this

theorem one_int (W : World) {n : Nat} (hW : W.heap.size = n) (x : Int) : ∀ j u, [Value.int .i64 x][j]? = some u → (W.alloc (.cells #[.int .i64 x] 3)).cell? ((⟨n, 0, none⟩ : Addr).add j) = some u := by
  subst hW; exact one_new W #[.int .i64 x] 3

/-- TWO ROWS THAT ARE NOT ONE. -/
def Apart (v u : Value) : Prop := v.ownBlock = none ∨ u.ownBlock = none ∨ v.ownBlock ≠ u.ownBlock

theorem Apart.symm {v u : Value} (h : Apart v u) : Apart u v := by
  rcases h with h | h | h
  · exact .inr (.inl h)
  · exact .inl h
  · exact .inr (.inr (Ne.symm h))
theorem Apart.keeps {v u : Value} (h : Apart v u) : u.ownBlock = none ∨ u.ownBlock ≠ v.ownBlock := by
  rcases h with h | h | h
  · cases hu : u.ownBlock with
    | none => exact .inl rfl
    | some k => exact .inr (by rw [h]; simp)
  · exact .inl h
  · exact .inr (Ne.symm h)
theorem Apart.moved {w : World} {base : Nat} {v v' u : Value} {zs : List Int} (h : Apart v u) (hu : OwnI w base u zs) (hv : v'.ownBlock = v.ownBlock ∨ v'.ownBlock = some w.heap.size) : Apart v' u := by
  rcases hv with hv | hv
  · unfold Apart; rw [hv]; exact h
  · cases hk : u.ownBlock with
    | none => exact .inr (.inl hk)
    | some k =>
      have := (World.ownsRow.lt hu k hk).2
      refine .inr (.inr ?_)
      rw [hv, hk]
      simp; omega

end Go.Proofs.YtfcgnpchbcmdeaaGreat

namespace Go.Proofs.YtfcgnpchbcmdeaaGreat
open Go.RowKit

/-- ALL BLOCKS BUT THOSE OF S ARE AS THEY WERE. -/
structure Touch (S : Nat → Prop) (w w' : World) : Prop where
  os : w'.os = w.os
  tape : w'.tape = w.tape
  output : w'.output = w.output
  size : w.heap.size ≤ w'.heap.size
  block : ∀ k, k < w.heap.size → ¬ S k → w'.heap[k]? = w.heap[k]?

theorem Touch.refl (S : Nat → Prop) (w : World) : Touch S w w := ⟨rfl, rfl, rfl, Nat.le_refl _, fun _ _ _ => rfl⟩
theorem Touch.trans {S : Nat → Prop} {a b c : World} (h : Touch S a b) (k : Touch S b c) : Touch S a c :=
  ⟨k.os.trans h.os, k.tape.trans h.tape, k.output.trans h.output, Nat.le_trans h.size k.size, fun i hi hs => (k.block i (Nat.lt_of_lt_of_le hi h.size) hs).trans (h.block i hi hs)⟩
theorem Touch.mono {S S' : Nat → Prop} {a b : World} (h : Touch S a b) (hs : ∀ k, k < a.heap.size → S k → S' k) : Touch S' a b :=
  ⟨h.os, h.tape, h.output, h.size, fun k hk hn => h.block k hk (fun e => hn (hs k hk e))⟩
theorem Touch.of_below {S : Nat → Prop} {a b : World} (h : Below a.heap.size a b) : Touch S a b := ⟨h.os, h.tape, h.output, h.size, fun k hk _ => h.block k hk⟩
theorem Touch.below {S : Nat → Prop} {a b c : World} (h : Touch S a b) (k : Below b.heap.size b c) : Touch S a c := h.trans (.of_below k)
theorem Touch.alloc {S : Nat → Prop} {a b : World} (h : Touch S a b) (o : Obj) : Touch S a (b.alloc o) := h.below ((Below.refl _ _).alloc (Nat.le_refl _) _)
theorem Touch.drew {S : Nat → Prop} {a b : World} (h : Touch S a b) : Touch S a b.drew := h.below (Below.refl _ _).drew
theorem Touch.setCell {S : Nat → Prop} {a b : World} (h : Touch S a b) {p : Addr} (hp : p.block < a.heap.size → S p.block) (u : Value) : Touch S a (b.setCell p u) :=
  ⟨h.os, h.tape, h.output, by have := h.size; simpa [World.setCell] using this, fun k hk hn => (Below.heap_setCell b p u k (fun e => hn (e ▸ hp (e ▸ hk)))).trans (h.block k hk hn)⟩
theorem Touch.grown {S : Nat → Prop} {a b c : World} {row : Option Nat} (h : Touch S a b) (hg : b.grownBy c row) (hr : ∀ k, row = some k → k < a.heap.size → S k) : Touch S a c :=
  ⟨hg.os.trans h.os, hg.tape.trans h.tape, hg.output.trans h.output, Nat.le_trans h.size hg.size, fun k hk hn => (hg.block k (Nat.lt_of_lt_of_le hk h.size) (fun e => hn (hr k e.symm hk))).trans (h.block k hk hn)⟩
theorem Touch.row {S : Nat → Prop} {a b : World} (h : Touch S a b) {base : Nat} {e : TypeId} {size : Nat} {v : Value} {n : Nat} {xs : List Value} (hr : a.ownsRow base e size v n xs) (hs : ∀ k, v.ownBlock = some k → ¬ S k) : b.ownsRow base e size v n xs := by
  refine ⟨hr.1, ?_⟩
  rcases hr.2 with hn | ⟨g, cap, cur, rfl, hb, hgg, rest⟩
  · exact .inl hn
  · exact .inr ⟨g, cap, cur, rfl, hb, (h.block g (Array.getElem?_eq_some_iff.1 hgg).1 (hs g rfl)).trans hgg, rest⟩
theorem Touch.at_ {S : Nat → Prop} {a b : World} (h : Touch S a b) {g : Nat} {o : Obj} (hg : a.heap[g]? = some o) (hs : ¬ S g) : b.heap[g]? = some o := (h.block g (Array.getElem?_eq_some_iff.1 hg).1 hs).trans hg

/-- A LIST OF ENTRIES THAT HOLDS ONE MARK THROUGHOUT. -/
def AllM (w : World) (z : Int) (v : Value) : Prop := ∃ (a : Option Addr) (n c : Nat), v = .slice a n c ∧ n ≤ maxLen ∧ (n = 0 ∨ ∃ (g : Nat) (cur : Array Value), a = some ⟨g, 0, none⟩ ∧ w.heap[g]? = some (.cells cur 98 (0, 0)) ∧ ∀ i, i < n → cur[i * 4]? = some (.int .i64 z) ∧ cur[i * 4 + 1]? = some (.int .i64 0) ∧ cur[i * 4 + 2]? = some (.int .i64 0) ∧ cur[i * 4 + 3]? = some (.int .i64 0))

def markE (z : Int) : Ent := ⟨z, 0, 0, 0⟩

theorem flat_rep_get (z : Int) : ∀ (n i : Nat), i < n → ∀ c, c < 4 → (flat (List.replicate n (markE z)))[i * 4 + c]? = (cellsE (markE z))[c]?
  | 0, i, h => by omega
  | n + 1, 0, _ => fun c hc => by
    simp only [List.replicate_succ, flat]
    rw [show 0 * 4 + c = c by omega, List.getElem?_append_left (by simpa [cellsE] using hc)]
  | n + 1, i + 1, h => fun c hc => by
    simp only [List.replicate_succ, flat]
    rw [List.getElem?_append_right (by simp [cellsE]; omega), show (i + 1) * 4 + c - (cellsE (markE z)).length = i * 4 + c by simp [cellsE]; omega]
    exact flat_rep_get z n i (by omega) c hc

theorem flat_rep_snoc (z : Int) (n m : Nat) : flat (List.replicate n (markE z)) ++ flat (List.replicate m (markE z)) = flat (List.replicate (n + m) (markE z)) := by
  rw [← flat_append, List.replicate_append_replicate]

/-- A row of marks, longer than the list or as long, at the list's own block. -/
theorem AllM.of_row {w : World} {base g n cap m : Nat} {a : Option Addr} {c : Nat} {z : Int} (hr : OwnE w base (.slice (some ⟨g, 0, none⟩) m cap) (List.replicate m (markE z))) (hm : m ≤ maxLen) (hn : n ≤ m) (ha : a = some ⟨g, 0, none⟩) : AllM w z (.slice a n c) := by
  subst ha
  rcases hr.2 with ⟨e, _⟩ | ⟨g', cap', cur, e, _, hh, _, _, _, ht⟩
  · cases e
  · injection e with e1 e2 e3
    injection e1 with e1
    injection e1 with e1
    subst e1
    refine ⟨_, n, c, rfl, by omega, .inr ⟨g, cur, rfl, hh, fun i hi => ?_⟩⟩
    have key : ∀ k, k < 4 → cur[i * 4 + k]? = (cellsE (markE z))[k]? := fun k hk => by
      rw [← flat_rep_get z m i (by omega) k hk, ← ht, List.getElem?_take, if_pos (by simp; omega)]
      simp
    exact ⟨key 0 (by omega), key 1 (by omega), key 2 (by omega), key 3 (by omega)⟩

theorem AllM.nil (w : World) (z : Int) (a : Option Addr) (c : Nat) : AllM w z (.slice a 0 c) := ⟨a, 0, c, rfl, by simp [maxLen], .inl rfl⟩

/-- The marks of a row of one's own. -/
theorem AllM.own {w : World} {base : Nat} {v : Value} {m : Nat} {z : Int} (hr : OwnE w base v (List.replicate m (markE z))) (hm : m ≤ maxLen) : AllM w z v := by
  have hr' := hr
  rcases hr.2 with ⟨rfl, _⟩ | ⟨g', cap', cur, e, _, hh, _, _, _, ht⟩
  · exact .nil _ _ _ _
  · subst e
    have : (List.replicate m (markE z)).length = m := by simp
    rw [this] at hr' ⊢
    exact .of_row hr' hm (Nat.le_refl _) rfl

theorem AllM.touch {S : Nat → Prop} {w w' : World} {z : Int} {v : Value} (h : AllM w z v) (t : Touch S w w') (hs : ∀ k cur, v.ownBlock = some k → w.heap[k]? = some (.cells cur 98 (0, 0)) → ¬ S k) : AllM w' z v := by
  obtain ⟨a, n, c, rfl, hm, hn | ⟨g, cur, rfl, hg, hc⟩⟩ := h
  · exact ⟨a, n, c, rfl, hm, .inl hn⟩
  · exact ⟨_, n, c, rfl, hm, .inr ⟨g, cur, rfl, t.at_ hg (hs g cur rfl hg), hc⟩⟩
theorem AllM.below {w w' : World} {z : Int} {v : Value} (h : AllM w z v) (hb : Below w.heap.size w w') : AllM w' z v := h.touch (S := fun _ => False) (.of_below hb) (fun _ _ _ _ => id)
theorem AllM.alloc {w : World} {z : Int} {v : Value} (h : AllM w z v) (o : Obj) : AllM (w.alloc o) z v := h.below ((Below.refl _ _).alloc (Nat.le_refl _) _)

def lenV : Value → Nat
  | .slice _ n _ => n
  | _ => 0

/-- Whatever holds the mark holds it still behind an append of such marks. -/
theorem AllM.append {w w' : World} {z : Int} {u v v' : Value} {base m N : Nat} (h : AllM w z u) (hg : w.grownBy w' v.ownBlock) (hd : v'.ownBlock = v.ownBlock ∨ v'.ownBlock = some N ∧ Below N w w') (hN : w.heap.size = N)
    (ho : OwnE w' base v' (List.replicate m (markE z))) (hm : m ≤ maxLen) (hf : ∃ g cap, v' = .slice (some ⟨g, 0, none⟩) m cap) (hl : lenV u ≤ m) : AllM w' z u := by
  subst hN
  rcases hd with hd | ⟨_, hb⟩
  · obtain ⟨a, n, c, rfl, hm', hn | ⟨g, cur, rfl, hgg, hc⟩⟩ := h
    · exact ⟨a, n, c, rfl, hm', .inl hn⟩
    · obtain ⟨g', cap, rfl⟩ := hf
      by_cases e : g = g'
      · subst e
        exact .of_row ho hm (by simpa [lenV] using hl) rfl
      · refine ⟨_, n, c, rfl, hm', .inr ⟨g, cur, rfl, ?_, hc⟩⟩
        rw [hg.block g (Array.getElem?_eq_some_iff.1 hgg).1 (by rw [← hd]; simpa [Value.ownBlock] using e)]
        exact hgg
  · exact h.below hb

/-- An append of marks onto a list of marks: in place or in new memory; whatever held the mark holds it still. -/
theorem run_append_mark {P : Program} (w : World) (base : Nat) (t ty e : TypeId) (i : TypeInfo) (z : Value) (size bytes : Nat) (ht : P.underlying t = some (.slice e)) (hi : P.info? e = some i) (hz : i.zero = some z)
    (hsize : i.size = size) (hby : i.bytes = bytes) (hzs : z.cells.size = size) (hsz : 0 < size)
    (v : Value) (n : Nat) (xs : List Value) (hown : w.ownsRow base e size v n xs)
    (a : Addr) (m c : Nat) (news : List Value) (hl : news.length = m * size) (hnews : ∀ j u, news[j]? = some u → w.cell? (a.add j) = some u) (h1 : ∀ u ∈ news, u.oneCell' = true)
    (hm : 0 < m) (h63 : n + m ≤ maxLen) (hbytes : (n + m) * bytes ≤ 140737488355328) (hbase : base ≤ w.heap.size) :
    ∃ v' w', (Builtin.append_ #[t, t] ty #[v, .slice (some a) m c]).run P w = .ok v' w' ∧ w'.ownsRow base e size v' (n + m) (xs ++ news) ∧ w.grownBy w' v.ownBlock ∧
      (v'.ownBlock = v.ownBlock ∨ v'.ownBlock = some w.heap.size ∧ Below w.heap.size w w') ∧ w'.ownsRow base e size v n xs ∧ ∃ g cap, v' = .slice (some ⟨g, 0, none⟩) (n + m) cap := by
  obtain ⟨v', w', hr, h2, h3, h4, h5, h6⟩ := run_append_keep (P := P) w base t ty e i z size bytes ht hi hz hsize hby hzs hsz v n xs hown a m c news hl hnews h1 hm h63 hbytes hbase
  refine ⟨v', w', hr, h2, h3, ?_, h5, h6⟩
  subst hsize hby
  rcases hown.2 with ⟨rfl, rfl⟩ | ⟨g, cap, cur, rfl, hbg, hg, hnc, hcm, hcs, htake⟩
  · have hr2 := run_append_nil (P := P) w t ty e i z ht hi hz a m c news hl hnews hm (by simp only [maxLen] at h63; omega) (by simp only [Nat.zero_add] at hbytes; omega)
    rw [hr] at hr2
    simp only [Result.ok.injEq] at hr2
    right
    refine ⟨by rw [hr2.1]; rfl, ?_⟩
    rw [hr2.2]
    exact ((Below.refl _ _).drew).alloc (by simp) _
  · by_cases hroom : n + m ≤ cap
    · have hfit : n * i.size + news.length ≤ cur.size := by rw [hl, hcs, ← Nat.add_mul]; exact Nat.mul_le_mul_right _ hroom
      have hr2 := run_append_room (P := P) w t ty e i ht hi g n cap cur hg a m c news hl hnews h1 hroom hfit
      rw [hr] at hr2
      simp only [Result.ok.injEq] at hr2
      left; rw [hr2.1]; rfl
    · have holds : ∀ j u, xs[j]? = some u → w.cell? ((⟨g, 0, none⟩ : Addr).add j) = some u := hown.cells (g := g) rfl
      have hr2 := run_append_grow (P := P) w t ty e i z ht hi hz ⟨g, 0, none⟩ n cap xs hown.1 holds a m c news hl hnews (by omega) (by simp only [maxLen] at h63; omega) (growslice_fits (by omega) hbytes)
      rw [hr] at hr2
      simp only [Result.ok.injEq] at hr2
      right
      refine ⟨by rw [hr2.1]; rfl, ?_⟩
      rw [hr2.2]
      exact ((Below.refl _ _).drew).alloc (by simp) _

theorem wpList_append_mark {P : Program} {w : World} {ops : Array Oper} {rest : List Oper} {o : Oper} {a : Act} {Q : Exit → Act → World → Prop} (hgd : o.guard = none) (s x : Operand) (t : TypeId)
    (ho : o.op = .call { callee := .builtin .append, args := #[s, x], argTypes := #[t, t] })
    (base : Nat) (e : TypeId) (i : TypeInfo) (z : Value) (size bytes : Nat) (ht : P.underlying t = some (.slice e)) (hi : P.info? e = some i) (hz : i.zero = some z)
    (hsize : i.size = size) (hby : i.bytes = bytes) (hzs : z.cells.size = size) (hsz : 0 < size)
    (v : Value) (n : Nat) (xs : List Value) (hs : a.eval s = v) (hown : w.ownsRow base e size v n xs)
    (ad : Addr) (m c : Nat) (news : List Value) (hx : a.eval x = .slice (some ad) m c) (hl : news.length = m * size) (hnews : ∀ j u, news[j]? = some u → w.cell? (ad.add j) = some u) (h1 : ∀ u ∈ news, u.oneCell' = true)
    (hm : 0 < m) (h63 : n + m ≤ maxLen) (hbytes : (n + m) * bytes ≤ 140737488355328) (hbase : base ≤ w.heap.size)
    (h : ∀ v' w', Hid (w'.ownsRow base e size v' (n + m) (xs ++ news) ∧ w.grownBy w' v.ownBlock ∧ (v'.ownBlock = v.ownBlock ∨ v'.ownBlock = some w.heap.size ∧ Below w.heap.size w w') ∧ w'.ownsRow base e size v n xs ∧ ∃ g cap, v' = .slice (some ⟨g, 0, none⟩) (n + m) cap) → wpList P ops Q rest (a.put o.dst v') w') : wpList P ops Q (o :: rest) a w := by
  refine wpList_plain hgd fun K hK => ?_
  obtain ⟨v', w', hr, h2⟩ := run_append_mark (P := P) w base t o.type e i z size bytes ht hi hz hsize hby hzs hsz v n xs hown ad m c news hl hnews h1 hm h63 hbytes hbase
  unfold Oper.wp
  simp only [execOp, ho, resolve, invoke, builtin, Sem.run_bind, Sem.run_pure, Result.andThen_ok, List.map_toArray, List.map_cons, List.map_nil, hs, hx, hr]
  exact hK _ _ (h v' w' h2)

/-- Rows of different types lie in different blocks. -/
theorem types_apart {w : World} {b1 b2 e1 e2 s1 s2 n1 n2 : Nat} {v u : Value} {xs ys : List Value} (h : w.ownsRow b1 e1 s1 v n1 xs) (g : w.ownsRow b2 e2 s2 u n2 ys) (hne : e1 ≠ e2) : u.ownBlock = none ∨ u.ownBlock ≠ v.ownBlock := by
  rcases g.2 with ⟨rfl, _⟩ | ⟨g1, cap1, cur1, rfl, _, hg1, _⟩
  · exact .inl rfl
  · rcases h.2 with ⟨rfl, _⟩ | ⟨g2, cap2, cur2, rfl, _, hg2, _⟩
    · exact .inr (by simp [Value.ownBlock])
    · refine .inr fun e => ?_
      simp [Value.ownBlock] at e
      rw [e, hg2] at hg1
      simp at hg1
      exact hne hg1.2
theorem row_type {w : World} {base e size n : Nat} {v : Value} {xs : List Value} (h : w.ownsRow base e size v n xs) {k : Nat} (hk : v.ownBlock = some k) : ∃ cur, w.heap[k]? = some (.cells cur e (0, 0)) := by
  rcases h.2 with ⟨rfl, _⟩ | ⟨g2, cap2, cur2, rfl, _, hg2, _⟩
  · cases hk
  · simp [Value.ownBlock] at hk; subst hk; exact ⟨_, hg2⟩

/-- THE BLOCK OF A SCRIPT's WORLD: sums, intake, data, store, and the book: es, em, ns, nm, ss, sm, ls, lm, next. -/
def WB (w : World) (g : Nat) (c : Array Value) : Prop := w.heap[g]? = some (.cells c 90 (0, 0))

theorem WB.lt {w : World} {g : Nat} {c : Array Value} (h : WB w g c) : g < w.heap.size := (Array.getElem?_eq_some_iff.1 h).1
theorem WB.cell {w : World} {g : Nat} {c : Array Value} (h : WB w g c) (j : Nat) : w.cell? ⟨g, j, none⟩ = c[j]? := cell_of_row w g j c 90 (0, 0) h
theorem WB.frozen {w : World} {g : Nat} {c : Array Value} (h : WB w g c) (j : Nat) : w.frozen? ⟨g, j, none⟩ = false := frozen_of_row w g j c 90 h
theorem WB.set {w : World} {g : Nat} {c : Array Value} (h : WB w g c) (j : Nat) (u : Value) : WB (w.setCell ⟨g, j, none⟩ u) g (c.setIfInBounds j u) := by
  have := heap_setCell_same w g j c 90 u h
  unfold WB
  rw [this]
theorem WB.touch {S : Nat → Prop} {w w' : World} {g : Nat} {c : Array Value} (h : WB w g c) (t : Touch S w w') (hs : ¬ S g) : WB w' g c := t.at_ h hs
theorem WB.below {B : Nat} {w w' : World} {g : Nat} {c : Array Value} (h : WB w g c) (hb : Below B w w') (hg : g < B) : WB w' g c := (hb.block g hg).trans h
end Go.Proofs.YtfcgnpchbcmdeaaGreat

namespace Go.Proofs.YtfcgnpchbcmdeaaGreat
open Go.RowKit

theorem OwnI.alloc {w : World} {base : Nat} {v : Value} {zs : List Int} (h : OwnI w base v zs) (o : Obj) : OwnI (w.alloc o) base v zs := World.ownsRow.alloc h o

/-- A number appended to numbers of one's own. -/
theorem wpList_append_int {w : World} {ops : Array Oper} {rest : List Oper} {o : Oper} {a : Act} {Q : Exit → Act → World → Prop} (hgd : o.guard = none) (s x : Operand)
    (ho : o.op = .call { callee := .builtin .append, args := #[s, x], argTypes := #[25, 25] }) (base : Nat) (v : Value) (zs : List Int) (z : Int) (hs : a.eval s = v) (hown : OwnI w base v zs)
    (g c : Nat) (hx : a.eval x = .slice (some ⟨g, 0, none⟩) 1 c) (hg : w.cell? ⟨g, 0, none⟩ = some (.int .i64 z)) (hl : zs.length ≤ 1000000000) (hbase : base ≤ w.heap.size)
    (h : ∀ v' w', Hid (OwnI w' base v' (zs ++ [z]) ∧ w.grownBy w' v.ownBlock ∧ (v'.ownBlock = v.ownBlock ∨ v'.ownBlock = some w.heap.size ∧ Below w.heap.size w w')) → wpList Tryz.prog ops Q rest (a.put o.dst v') w') : wpList Tryz.prog ops Q (o :: rest) a w := by
  obtain ⟨i0, hinf, hz0, hz1, hz2⟩ := info_parts info3
  refine wpList_append_mark hgd s x 25 ho base 3 i0 (.int .i64 0) 1 8 Tryz.underlying25 hinf hz0 hz1 hz2 rfl (by decide) v zs.length (zs.map (Value.int .i64)) hs hown ⟨g, 0, none⟩ 1 c [.int .i64 z] hx rfl ?_ ?_ (by decide) (by unfold maxLen; omega) (by omega) hbase ?_
  · intro j u hj
    cases j with
    | zero => simp at hj; subst hj; simpa [Addr.add] using hg
    | succ j => simp at hj
  · intro u hu; simp at hu; subst hu; rfl
  · intro v' w' H
    obtain ⟨h1, h2, h3, _, _⟩ := H.out
    exact h v' w' ⟨OwnI.more h1, h2, h3⟩

/-- How many shares an entry reaches. -/
def shareR (bins tot hi : Int) : Int := bins * hi / tot

def boundsB (tot bins : Int) : Int → List Ent → List Int
  | _, [] => []
  | share, e :: r => if share ≤ shareR bins tot e.hi then e.v :: boundsB tot bins (shareR bins tot e.hi + 1) r else boundsB tot bins share r

def boundsL (L : List Ent) (bins : Int) : List Int :=
  if L.length = 0 then [] else if (L.length : Int) ≤ bins then (L.take (L.length - 1)).map (fun e => e.v) else boundsB (totalL L) bins 1 (L.take (L.length - 1))

theorem drop_getD {L : List Ent} {k m : Nat} (hk : k < m) (hm : m ≤ L.length) : (L.take m).drop k = L.getD k e0 :: (L.take m).drop (k + 1) := by
  have h : k < (L.take m).length := by simp; omega
  rw [List.drop_eq_getElem_cons h]
  simp [List.getD, show k < L.length by omega]

theorem shareR_in {bins tot hi : Int} (h0 : 0 ≤ bins) (h1 : bins ≤ 16) (h2 : 0 ≤ hi) (h3 : hi ≤ tot) (h4 : 1 ≤ tot) : 0 ≤ shareR bins tot hi ∧ shareR bins tot hi ≤ 16 := by
  unfold shareR
  have a1 : 0 ≤ bins * hi := Int.mul_nonneg h0 h2
  have a2 : bins * hi ≤ 16 * tot := Int.mul_le_mul h1 h3 h2 (by omega)
  constructor
  · exact Int.ediv_nonneg a1 (by omega)
  · have := Int.ediv_le_ediv (show 0 < tot by omega) a2
    rwa [Int.mul_ediv_cancel _ (by omega)] at this

set_option maxHeartbeats 400000 in
theorem sharesReached_any (hi tot bins : Int) (w : World) (h0 : 0 ≤ bins) (h1 : bins ≤ 16) (h2 : 0 ≤ hi) (h3 : hi ≤ tot) (h4 : 1 ≤ tot) (h5 : tot ≤ 1000000000000) :
    Calls Tryz.prog 317 #[.int .i64 hi, .int .i64 tot, .int .i64 bins] w fun e w' => e = .returned (.int .i64 (shareR bins tot hi)) ∧ w' = w := by
  have a1 : 0 ≤ bins * hi := Int.mul_nonneg h0 h2
  have a2 : bins * hi ≤ 16 * 1000000000000 := Int.mul_le_mul h1 (by omega) h2 (by omega)
  have a3 := shareR_in h0 h1 h2 h3 h4
  have hne : tot ≠ 0 := by omega
  have hnb : (tot == 0) = false := beq_eq_false_iff_ne.2 hne
  have HT : Hid (shareR bins tot hi = (bins * hi).tdiv tot) := show _ = _ by unfold shareR; rw [Int.tdiv_eq_ediv_of_nonneg a1]
  unfold Hid at HT
  rw [HT] at a3 ⊢
  obtain ⟨b1, b2⟩ := a3
  clear HT
  go_enter Tryz.func317, Tryz.ntmps317
  go_wp2
  go_ret
  exact ⟨rfl, rfl⟩
end Go.Proofs.YtfcgnpchbcmdeaaGreat
