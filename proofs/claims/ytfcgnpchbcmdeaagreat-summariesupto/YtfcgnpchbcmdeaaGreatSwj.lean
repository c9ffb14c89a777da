/-
  The contract of the reference's Cut: it hands back the summary cut to the size, in memory of its own.
-/
import Derived.Test.YtfcgnpchbcmdeaaGreatSwi
import Derived.Deep.OwnRows
namespace Go.Proofs.YtfcgnpchbcmdeaaGreat
open Go.RowKit

set_option maxHeartbeats 400000 in
theorem distance_eq (x : Ent) (k t s : Int) (w : World) (hm : 0 ≤ x.lo ∧ 0 ≤ x.hi ∧ x.lo ≤ 1000000000000 ∧ x.hi ≤ 1000000000000) (hk : 0 ≤ k ∧ k ≤ 2097152) (ht : 0 ≤ t ∧ t ≤ 1000000000000) (hs : 2 ≤ s ∧ s ≤ 2097152) :
    Calls Tryz.prog 177 #[.agg #[.int .i64 x.v, .int .i64 x.lo, .int .i64 x.hi, .int .i64 x.wt], .int .i64 k, .int .i64 t, .int .i64 s] w fun e w' => e = .returned (.int .i64 (if (x.lo + x.hi) * (s - 1) - 2 * k * t < 0 then -((x.lo + x.hi) * (s - 1) - 2 * k * t) else (x.lo + x.hi) * (s - 1) - 2 * k * t)) ∧ w' = w.alloc (.cells #[.int .i64 x.v, .int .i64 x.lo, .int .i64 x.hi, .int .i64 x.wt] 98) := by
  obtain ⟨h1, h2, h3, h4⟩ := hm
  obtain ⟨k1, k2⟩ := hk
  obtain ⟨t1, t2⟩ := ht
  obtain ⟨s1, s2⟩ := hs
  have p1 : 0 ≤ (x.lo + x.hi) * (s - 1) := Int.mul_nonneg (by omega) (by omega)
  have p2 : (x.lo + x.hi) * (s - 1) ≤ 2000000000000 * 2097152 := Int.mul_le_mul (by omega) (by omega) (by omega) (by omega)
  have q1 : 0 ≤ 2 * k * t := Int.mul_nonneg (by omega) (by omega)
  have q2 : 2 * k * t ≤ 4194304 * 1000000000000 := Int.mul_le_mul (by omega) (by omega) (by omega) (by omega)
  by_cases hc : (x.lo + x.hi) * (s - 1) - 2 * k * t < 0
  all_goals
    first | rw [if_pos hc] | rw [if_neg hc]
    go_enter Tryz.func177, Tryz.ntmps177
    go_wp2
    go_ret
    exact ⟨rfl, rfl⟩

theorem info4 : (Tryz.prog.info? 4).map (fun i => (i.zero, i.size, i.bytes)) = some (some (.bool false), 1, 1) := by kernel_rfl

theorem OwnE.not_row {w : World} {base : Nat} {v : Value} {L : List Ent} {b n : Nat} {f : Nat → Value} (h : OwnE w base v L) (hM : w.rowIs b 4 n f) : v.ownBlock ≠ some b := by
  intro e
  obtain ⟨c, hb, _⟩ := hM
  rcases h.2 with ⟨rfl, _⟩ | ⟨g, cap, cur, rfl, _, hg, _⟩
  · simp [Value.ownBlock] at e
  · simp [Value.ownBlock] at e
    subst e
    rw [hb] at hg
    simp at hg

set_option maxRecDepth 100000 in
set_option maxHeartbeats 4000000 in
theorem refCut_any (a : Option Addr) (L : List Ent) (cap : Nat) (size : Int) (w : World) (h : EntsV w a L) (g : Good L) (hn : a = none → cap = 0) (hlen : L.length ≤ 2097152) :
    Calls Tryz.prog 121 #[.slice a L.length cap, .int .i64 size] w fun e w' => ∃ v, e = .returned v ∧ OwnE w' w.heap.size v (cutL L size) ∧ Below w.heap.size w w' := by
  obtain ⟨i0, hinf, hz0, hz1, hz2⟩ := info_parts info98
  have HE : Hid (EntsV w a L) := h
  have HG : Hid (Good L) := g
  clear h g
  obtain ⟨s, hs⟩ : ∃ s : Nat, max size 2 = (s : Int) := ⟨(max size 2).toNat, by omega⟩
  have hs2 : 2 ≤ s := by omega
  have HC : Hid (cutL L size = if L.length ≤ s then L else keptK L s (s - 2) ++ [L.getD (L.length - 1) e0]) := show _ = _ by
    unfold cutL; rw [hs, Int.toNat_natCast]; by_cases hc : L.length ≤ s
    · rw [if_pos hc, if_pos (by omega)]
    · rw [if_neg hc, if_neg (by omega)]
  have HS : Hid (max size 2 = (s : Int)) := hs
  clear hs
  go_enter Tryz.func121, Tryz.ntmps121
  go_upto_if 12 with fail
  go_cut [1] (fun v wx => v = .int .i64 s ∧ wx = w)
  case first =>
    have hsz := HS.out
    by_cases h2 : size < 2
    · have e : (s : Int) = 2 := by omega
      go_wp2
      go_meet
      exact ⟨by rw [e], rfl⟩
    · have e : (s : Int) = size := by omega
      go_wp2
      go_meet
      exact ⟨by rw [e], rfl⟩
  case rest =>
    obtain ⟨rfl, hw⟩ := hcut
    have hw2 := hw.symm
    clear hw
    subst hw2
    by_cases hle : L.length ≤ s
    · have HC2 : Hid (cutL L size = L) := show _ = _ by rw [HC.out, if_pos hle]
      have dl : decide ((L.length : Int) ≤ (s : Int)) = true := decide_eq_true (by omega)
      by_cases h0 : L.length = 0
      · have hL : L = [] := List.eq_nil_of_length_eq_zero h0
        subst hL
        cases a with
        | none =>
          have hcap := hn rfl
          subst hcap
          clear hn
          go_wp2_with (at_builtin; refine wpList_append_own_none rfl (.tmp 17) (.tmp 18) 29 rfl w.heap.size 98 i0 4 Tryz.underlying29 hinf (.slice none 0 0) 0 [] rfl (OwnE.nil _ _) rfl ?_)
          go_ret
          exact ⟨_, rfl, by rw [HC2.out]; exact OwnE.nil _ _, Below.refl _ _⟩
        | some ad =>
          clear hn
          go_wp2_with (at_builtin; refine wpList_append_own _ rfl (.tmp 17) (.tmp 18) 29 rfl w.heap.size 98 i0 (.agg #[.int .i64 0, .int .i64 0, .int .i64 0, .int .i64 0]) 4 32 Tryz.underlying29 hinf hz0 hz1 hz2 rfl (by decide) (.slice none 0 0) 0 [] rfl (OwnE.nil _ _) ad 0 cap [] rfl rfl (by simp) (by simp) ?_ ?_ ?_ ?_)
          · unfold maxLen; omega
          · omega
          · exact Nat.le_refl _
          intro v3 w3 hown3 hgrow _
          have hb : Below w.heap.size w w3 := (Below.refl _ _).grown hgrow (Nat.le_refl _) (fun k hk => by simp [Value.ownBlock] at hk)
          have hF : OwnE w3 w.heap.size v3 [] := by simpa [OwnE, flat] using hown3
          have HF : Hid (OwnE w3 w.heap.size v3 []) := hF
          clear hown3 hgrow hF
          go_wp2
          go_ret
          exact ⟨_, rfl, by rw [HC2.out]; exact HF.out, hb⟩
      · rcases HE.out with ⟨_, h1 | ⟨b, off, rfl, hA⟩⟩
        · exact absurd h1 h0
        clear hn
        go_wp2_with (at_builtin; refine wpList_append_own _ rfl (.tmp 17) (.tmp 18) 29 rfl w.heap.size 98 i0 (.agg #[.int .i64 0, .int .i64 0, .int .i64 0, .int .i64 0]) 4 32 Tryz.underlying29 hinf hz0 hz1 hz2 rfl (by decide) (.slice none 0 0) 0 [] rfl (OwnE.nil _ _) ⟨b, off, none⟩ L.length cap (flat L) rfl (flat_len L) (flat_cells hA) (flat_one_cell L) ?_ ?_ ?_ ?_)
        · unfold maxLen; omega
        · omega
        · exact Nat.le_refl _
        intro v3 w3 hown3 hgrow _
        have hb : Below w.heap.size w w3 := (Below.refl _ _).grown hgrow (Nat.le_refl _) (fun k hk => by simp [Value.ownBlock] at hk)
        have hF : OwnE w3 w.heap.size v3 L := by simpa [OwnE] using hown3
        have HF : Hid (OwnE w3 w.heap.size v3 L) := hF
        clear hown3 hgrow hF
        go_wp2
        go_ret
        exact ⟨_, rfl, by rw [HC2.out]; exact HF.out, hb⟩
    · clear hn
      have h3 : 3 ≤ L.length := by omega
      have HC2 : Hid (cutL L size = keptK L s (s - 2) ++ [L.getD (L.length - 1) e0]) := show _ = _ by rw [HC.out, if_neg hle]
      have dl : decide ((L.length : Int) ≤ (s : Int)) = false := decide_eq_false (by omega)
      rcases HE.out with ⟨_, h0 | ⟨b, off, rfl, hA⟩⟩
      · omega
      have hbb := hA.lt (by omega)
      have hmk := run_make_row' (P := Tryz.prog) 101 4 (.bool false) 1 Tryz.underlying101 info4 rfl .i64 .i64 L.length (by omega) (by omega)
      obtain ⟨a0, a1, a2, a3⟩ : w.cell? ⟨b, off, none⟩ = some (.int .i64 (L.getD 0 e0).v) ∧ w.cell? ⟨b, off + 1, none⟩ = some (.int .i64 (L.getD 0 e0).lo) ∧ w.cell? ⟨b, off + 2, none⟩ = some (.int .i64 (L.getD 0 e0).hi) ∧ w.cell? ⟨b, off + 3, none⟩ = some (.int .i64 (L.getD 0 e0).wt) := by
        have h0 := hA.v 0 (by omega); have h1 := hA.lo 0 (by omega); have h2 := hA.hi 0 (by omega); have h3 := hA.wt 0 (by omega)
        simp only [Nat.zero_mul, Nat.add_zero] at h0 h1 h2 h3
        exact ⟨h0, h1, h2, h3⟩
      have HK0 : Hid (keptK L s 0 = [L.getD 0 e0]) := show _ = _ from rfl
      clear hA
      generalize L.getD 0 e0 = x at *
      have b1 : (0 : Int) < (L.length : Int) := by omega
      have b2 : 0 < L.length := by omega
      go_wp2_with (at_builtin; refine wpList_append_own _ rfl (.tmp 20) (.tmp 24) 29 rfl w.heap.size 98 i0 (.agg #[.int .i64 0, .int .i64 0, .int .i64 0, .int .i64 0]) 4 32 Tryz.underlying29 hinf hz0 hz1 hz2 rfl (by decide) (.slice none 0 0) 0 [] rfl (OwnE.nil _ _) ⟨w.heap.size, 0, none⟩ 1 1 [.int .i64 x.v, .int .i64 x.lo, .int .i64 x.hi, .int .i64 x.wt] rfl rfl (one_new w #[.int .i64 x.v, .int .i64 x.lo, .int .i64 x.hi, .int .i64 x.wt] 98) (four_one x.v x.lo x.hi x.wt) (by unfold maxLen; omega) (by omega) (by simp) ?_)
      intro v1 w1 hown1 hg1 _
      have hb1 : Below w.heap.size w w1 := ((Below.refl _ _).alloc (Nat.le_refl _) _).grown hg1 (by simp) (fun q hq => by simp [Value.ownBlock] at hq)
      have hO1 : OwnE w1 w.heap.size v1 [x] := by simpa [OwnE, flat, cellsE] using hown1
      have HO1 : Hid (OwnE w1 w.heap.size v1 [x]) := hO1
      clear hown1 hg1 hO1 a0 a1 a2 a3
      go_wp2_with fail
      refine (total80 _ L cap _ (HE.out.below (hb1.alloc hb1.size _))).mono ?_
      rintro e w2 ⟨rfl, rfl⟩
      have htp := total_pos HG.out
      obtain ⟨t1, t2⟩ := htp
      have HBW : Hid (w.heap.size ≤ w1.heap.size) := hb1.size
      have HRI : Hid ((w1.alloc (.cells (madeCells #[.bool false] L.length) 4)).rowIs w1.heap.size 4 L.length (fun i => .bool (takenK L s 0 i))) := World.rowIs_made w1 (.bool false) L.length 4
      generalize htt : totalL L = t at *
      have HT : Hid (totalL L = t) := htt
      clear htt hmk
      go_wp2_with fail
      go_loopw [5, 8] (fun o tk wr => ∃ m : Nat, m ≤ s - 2 ∧ tk = .int .i64 ((m : Int) + 1) ∧ Hid (OwnE wr w.heap.size o (keptK L s m) ∧ wr.rowIs w1.heap.size 4 L.length (fun i => .bool (takenK L s m i))) ∧ Below w.heap.size w wr) (fun _ tk _ => s - (intOf tk).toNat)
      case atStart => exact ⟨0, Nat.zero_le _, rfl, ⟨by rw [HK0.out]; exact HO1.out.alloc _, HRI.out⟩, hb1.alloc hb1.size _⟩
      case round =>
        clear HO1 HRI hb1
        obtain ⟨m, hm, rfl, HR, hbel⟩ := hrel
        rename World => wo
        obtain ⟨hown, hrow⟩ := HR.out
        have HO : Hid (OwnE wo w.heap.size u5 (keptK L s m)) := hown
        have HW : Hid (wo.rowIs w1.heap.size 4 L.length (fun i => .bool (takenK L s m i))) := hrow
        have hsz := hbel.size
        have hkl := kept_len (L := L) s m
        clear HR hown hrow
        by_cases hms : m < s - 2
        · have hlt : (m : Int) + 1 ≤ (s : Int) - 2 := by omega
          have hbs := best_spec L s (m + 1) h3
          have HBS : Hid (BestP L s (m + 1) (bestK L s (m + 1))) := hbs
          go_wp2_with fail
          go_loopw [9, 10] (fun tb ti wq => ∃ i : Nat, 2 ≤ i ∧ i + 1 ≤ L.length ∧ ti = .int .i64 i ∧ tb = .int .i64 (min (i - 1) (bestK L s (m + 1)) : Nat) ∧ Below wo.heap.size wo wq) (fun _ ti _ => L.length - (intOf ti).toNat)
          case atStart => exact ⟨2, Nat.le_refl _, by omega, rfl, by rw [show min (2 - 1) (bestK L s (m + 1)) = 1 by have := hbs.pos; omega]; rfl, Below.refl _ _⟩
          case round =>
            obtain ⟨i, hi2, hil, rfl, rfl, hbq⟩ := hrel
            have hb2 : Below w.heap.size w wr := hbel.trans (hbq.mono hsz)
            have hsz2 := hb2.size
            generalize hbe : min (i - 1) (bestK L s (m + 1)) = be at *
            have HBE : Hid (min (i - 1) (bestK L s (m + 1)) = be) := hbe
            have hbe1 : 1 ≤ be ∧ be + 2 ≤ L.length := by have := hbs.pos; have := hbs.le; omega
            obtain ⟨e1, e2⟩ := hbe1
            clear hbe
            by_cases hie : i + 1 < L.length
            · rcases (HE.out.below hb2) with ⟨_, h0 | ⟨b', off', heb, hA⟩⟩
              · omega
              simp only [Option.some.injEq, Addr.mk.injEq, and_true] at heb
              obtain ⟨rfl, rfl⟩ := heb
              have gx := HG.out.at (show i < L.length by omega)
              have gy := HG.out.at (show be < L.length by omega)
              obtain ⟨a0, a1, a2, a3⟩ : wr.cell? ⟨b, off + i * 4, none⟩ = some (.int .i64 (L.getD i e0).v) ∧ wr.cell? ⟨b, off + i * 4 + 1, none⟩ = some (.int .i64 (L.getD i e0).lo) ∧ wr.cell? ⟨b, off + i * 4 + 2, none⟩ = some (.int .i64 (L.getD i e0).hi) ∧ wr.cell? ⟨b, off + i * 4 + 3, none⟩ = some (.int .i64 (L.getD i e0).wt) := ⟨hA.v i (by omega), hA.lo i (by omega), hA.hi i (by omega), hA.wt i (by omega)⟩
              obtain ⟨c0, c1, c2, c3⟩ : wr.cell? ⟨b, off + be * 4, none⟩ = some (.int .i64 (L.getD be e0).v) ∧ wr.cell? ⟨b, off + be * 4 + 1, none⟩ = some (.int .i64 (L.getD be e0).lo) ∧ wr.cell? ⟨b, off + be * 4 + 2, none⟩ = some (.int .i64 (L.getD be e0).hi) ∧ wr.cell? ⟨b, off + be * 4 + 3, none⟩ = some (.int .i64 (L.getD be e0).wt) := ⟨hA.v be (by omega), hA.lo be (by omega), hA.hi be (by omega), hA.wt be (by omega)⟩
              have HX : Hid (0 ≤ (L.getD i e0).lo ∧ 0 ≤ (L.getD i e0).hi ∧ (L.getD i e0).lo ≤ 1000000000000 ∧ (L.getD i e0).hi ≤ 1000000000000) := show _ ∧ _ by omega
              have HY : Hid (0 ≤ (L.getD be e0).lo ∧ 0 ≤ (L.getD be e0).hi ∧ (L.getD be e0).lo ≤ 1000000000000 ∧ (L.getD be e0).hi ≤ 1000000000000) := show _ ∧ _ by omega
              have HD1 : Hid (distK L s (m + 1) i = (if ((L.getD i e0).lo + (L.getD i e0).hi) * ((s : Int) - 1) - 2 * ((m : Int) + 1) * t < 0 then -(((L.getD i e0).lo + (L.getD i e0).hi) * ((s : Int) - 1) - 2 * ((m : Int) + 1) * t) else ((L.getD i e0).lo + (L.getD i e0).hi) * ((s : Int) - 1) - 2 * ((m : Int) + 1) * t)) := show _ = _ by unfold distK; rw [HT.out]; rfl
              have HD2 : Hid (distK L s (m + 1) be = (if ((L.getD be e0).lo + (L.getD be e0).hi) * ((s : Int) - 1) - 2 * ((m : Int) + 1) * t < 0 then -(((L.getD be e0).lo + (L.getD be e0).hi) * ((s : Int) - 1) - 2 * ((m : Int) + 1) * t) else ((L.getD be e0).lo + (L.getD be e0).hi) * ((s : Int) - 1) - 2 * ((m : Int) + 1) * t)) := show _ = _ by unfold distK; rw [HT.out]; rfl
              have HCX : Hid (∀ W : World, Calls Tryz.prog 177 #[.agg #[.int .i64 (L.getD i e0).v, .int .i64 (L.getD i e0).lo, .int .i64 (L.getD i e0).hi, .int .i64 (L.getD i e0).wt], .int .i64 ((m : Int) + 1), .int .i64 t, .int .i64 s] W fun e w' => e = .returned (.int .i64 (distK L s (m + 1) i)) ∧ w' = W.alloc (.cells #[.int .i64 (L.getD i e0).v, .int .i64 (L.getD i e0).lo, .int .i64 (L.getD i e0).hi, .int .i64 (L.getD i e0).wt] 98)) := fun W => by rw [HD1.out]; exact distance_eq _ _ _ _ W HX.out (by omega) (by omega) (by omega)
              have HCY : Hid (∀ W : World, Calls Tryz.prog 177 #[.agg #[.int .i64 (L.getD be e0).v, .int .i64 (L.getD be e0).lo, .int .i64 (L.getD be e0).hi, .int .i64 (L.getD be e0).wt], .int .i64 ((m : Int) + 1), .int .i64 t, .int .i64 s] W fun e w' => e = .returned (.int .i64 (distK L s (m + 1) be)) ∧ w' = W.alloc (.cells #[.int .i64 (L.getD be e0).v, .int .i64 (L.getD be e0).lo, .int .i64 (L.getD be e0).hi, .int .i64 (L.getD be e0).wt] 98)) := fun W => by rw [HD2.out]; exact distance_eq _ _ _ _ W HY.out (by omega) (by omega) (by omega)
              have HRD : Hid ((if distK L s (m + 1) i < distK L s (m + 1) be then i else be) = min i (bestK L s (m + 1))) := show _ = _ by rw [← HBE.out]; exact best_round HG.out hs2 hi2 hie
              clear hA gx gy HX HY HD1 HD2
              generalize distK L s (m + 1) i = d1 at *
              generalize distK L s (m + 1) be = d2 at *
              generalize L.getD i e0 = x1 at *
              generalize L.getD be e0 = x2 at *
              have hbb2 : b < wr.heap.size := by omega
              have bi1 : (0 : Int) ≤ (i : Int) := by omega
              have bi2 : (i : Int) < (L.length : Int) := by omega
              have bi3 : (i : Int) < (L.length : Int) - 1 := by omega
              have be1 : (0 : Int) ≤ (be : Int) := by omega
              have be2 : (be : Int) < (L.length : Int) := by omega
              by_cases hd : d1 < d2
              · have HRD2 : Hid (min i (bestK L s (m + 1)) = i) := show _ = _ by rw [← HRD.out, if_pos hd]
                go_wp2_with fail
                go_region_with (first | (go_at_call_of 177 (x1.v); refine (HCX.out _).mono ?_; rintro e w' ⟨rfl, rfl⟩) | (go_at_call_of 177 (x2.v); refine (HCY.out _).mono ?_; rintro e w' ⟨rfl, rfl⟩))
                all_goals go_wp2
                all_goals
                  go_roundw
                  case rel => exact ⟨i + 1, by omega, by omega, by go_num, by rw [show i + 1 - 1 = i by omega, HRD2.out], ((hbq.alloc hbq.size _).alloc (by have := hbq.size; simp; omega) _).drew⟩
                  case measure => simp [intOf]; omega
              · have HRD2 : Hid (min i (bestK L s (m + 1)) = be) := show _ = _ by rw [← HRD.out, if_neg hd]
                go_wp2_with fail
                go_region_with (first | (go_at_call_of 177 (x1.v); refine (HCX.out _).mono ?_; rintro e w' ⟨rfl, rfl⟩) | (go_at_call_of 177 (x2.v); refine (HCY.out _).mono ?_; rintro e w' ⟨rfl, rfl⟩))
                all_goals go_wp2
                all_goals
                  go_roundw
                  case rel => exact ⟨i + 1, by omega, by omega, by go_num, by rw [show i + 1 - 1 = i by omega, HRD2.out], ((hbq.alloc hbq.size _).alloc (by have := hbq.size; simp; omega) _).drew⟩
                  case measure => simp [intOf]; omega
            · have hbb3 : be = bestK L s (m + 1) := by have := HBE.out; have := hbs.le; omega
              have HB3 : Hid (be = bestK L s (m + 1)) := hbb3
              have HO2 : Hid (OwnE wr w.heap.size u5 (keptK L s m)) := HO.out.below hbq
              have HW2 : Hid (wr.rowIs w1.heap.size 4 L.length (fun i => .bool (takenK L s m i))) := HW.out.of_block (hbq.block _ HW.out.lt)
              have ct := HW2.out.cell (show be < L.length by omega)
              have cfz := HW2.out.frozen be
              have htk : takenK L s m be = decide (be = prevK L s m) := by rw [hbb3]; exact taken_iff HG.out s m h3
              rw [htk] at ct
              have be1 : (0 : Int) ≤ (be : Int) := by omega
              have be2 : (be : Int) < (L.length : Int) := by omega
              have bi3 : ¬ (i : Int) < (L.length : Int) - 1 := by omega
              have HTS : Hid (∀ j, takenK L s (m + 1) j = (takenK L s m j || be == j)) := fun j => by rw [taken_succ, ← HB3.out]
              have HTK : Hid (takenK L s m be = decide (be = prevK L s m)) := htk
              clear hbb3 htk
              by_cases hbp : be = prevK L s m
              · have HK2 : Hid (keptK L s (m + 1) = keptK L s m) := show _ = _ by simp only [keptK]; rw [if_pos (by rw [← HB3.out]; exact hbp)]
                have HT2 : Hid (∀ j, takenK L s (m + 1) j = takenK L s m j) := fun j => by
                  rw [HTS.out]
                  by_cases e : be = j
                  · rw [← e, HTK.out, decide_eq_true hbp, Bool.true_or]
                  · simp [e]
                rw [decide_eq_true hbp] at ct
                clear hbp
                go_wp2
                go_roundw
                case rel => exact ⟨m + 1, by omega, by go_num, ⟨by rw [HK2.out]; exact HO2.out, HW2.out.congr (fun j _ => by rw [HT2.out])⟩, hb2⟩
                case measure => simp [intOf]; omega
              · have HK2 : Hid (keptK L s (m + 1) = keptK L s m ++ [L.getD be e0]) := show _ = _ by simp only [keptK]; rw [if_neg (by rw [← HB3.out]; exact hbp), ← HB3.out]
                rw [decide_eq_false hbp] at ct
                rcases (HE.out.below hb2) with ⟨_, h0 | ⟨b', off', heb, hA⟩⟩
                · omega
                simp only [Option.some.injEq, Addr.mk.injEq, and_true] at heb
                obtain ⟨rfl, rfl⟩ := heb
                obtain ⟨c0, c1, c2, c3⟩ : wr.cell? ⟨b, off + be * 4, none⟩ = some (.int .i64 (L.getD be e0).v) ∧ wr.cell? ⟨b, off + be * 4 + 1, none⟩ = some (.int .i64 (L.getD be e0).lo) ∧ wr.cell? ⟨b, off + be * 4 + 2, none⟩ = some (.int .i64 (L.getD be e0).hi) ∧ wr.cell? ⟨b, off + be * 4 + 3, none⟩ = some (.int .i64 (L.getD be e0).wt) := ⟨hA.v be (by omega), hA.lo be (by omega), hA.hi be (by omega), hA.wt be (by omega)⟩
                clear hA hbp
                have hbw := HBW.out
                have hne : w1.heap.size ≠ b := by omega
                generalize L.getD be e0 = y at *
                generalize hkk : keptK L s m = kk at *
                clear hkk
                have HO3 : Hid (OwnE (wr.setCell ⟨w1.heap.size, be, none⟩ (.bool true)) w.heap.size u5 kk) := HO2.out.kept (grown_set (grown_refl _ _) be _) (HO2.out.not_row HW2.out)
                have HW3 : Hid ((wr.setCell ⟨w1.heap.size, be, none⟩ (.bool true)).rowIs w1.heap.size 4 L.length (fun j => .bool (takenK L s (m + 1) j))) := (HW2.out.set be (.bool true)).congr (fun j _ => by
                  rw [HTS.out]
                  by_cases e : j = be
                  · rw [if_pos e, e]; simp
                  · rw [if_neg e]
                    have : (be == j) = false := beq_eq_false_iff_ne.2 (fun x => e x.symm)
                    rw [this, Bool.or_false])
                have hb6 : Below w.heap.size w (wr.setCell ⟨w1.heap.size, be, none⟩ (.bool true)) := hb2.setCell hbw _
                go_wp2_with (at_builtin; refine wpList_append_own _ rfl (.tmp 70) (.tmp 75) 29 rfl w.heap.size 98 i0 (.agg #[.int .i64 0, .int .i64 0, .int .i64 0, .int .i64 0]) 4 32 Tryz.underlying29 hinf hz0 hz1 hz2 rfl (by decide) _ kk.length (flat kk) rfl (HO3.out.alloc _) ⟨wr.heap.size, 0, none⟩ 1 1 [.int .i64 y.v, .int .i64 y.lo, .int .i64 y.hi, .int .i64 y.wt] rfl rfl ?_ (four_one y.v y.lo y.hi y.wt) (by unfold maxLen; omega) (by omega) (by simp; omega) ?_)
                intro v5 w5 hown5 hg5 _
                have hb5 : Below w.heap.size w w5 := (hb6.alloc (by simp; omega) _).grown hg5 (by simp; omega) (fun q hq => (HO3.out.lt q hq).1)
                have HF : Hid (OwnE w5 w.heap.size v5 (kk ++ [y])) := OwnE.more hown5
                have HW5 : Hid (w5.rowIs w1.heap.size 4 L.length (fun j => .bool (takenK L s (m + 1) j))) := by
                  have hx := HO3.out.not_row HW3.out
                  have hl3 := HW3.out.lt
                  refine (HW3.out.alloc _).of_block (hg5.block _ ?_ (fun e => hx e.symm))
                  simp at hl3 ⊢; omega
                clear hown5 hg5 c0 c1 c2 c3 ct
                go_wp2
                go_roundw
                case rel => exact ⟨m + 1, by omega, by go_num, ⟨by rw [HK2.out]; exact HF.out, HW5.out⟩, hb5⟩
                case measure => simp [intOf]; omega
        · have hms2 : s - 2 = m := by omega
          have hnk : ¬ (m : Int) + 1 ≤ (s : Int) - 2 := by omega
          have HC3 : Hid (cutL L size = keptK L s m ++ [L.getD (L.length - 1) e0]) := show _ = _ by rw [HC2.out, hms2]
          rcases (HE.out.below hbel) with ⟨_, h0 | ⟨b', off', heb, hA⟩⟩
          · omega
          simp only [Option.some.injEq, Addr.mk.injEq, and_true] at heb
          obtain ⟨rfl, rfl⟩ := heb
          obtain ⟨c0, c1, c2, c3⟩ : wo.cell? ⟨b, off + (L.length - 1) * 4, none⟩ = some (.int .i64 (L.getD (L.length - 1) e0).v) ∧ wo.cell? ⟨b, off + (L.length - 1) * 4 + 1, none⟩ = some (.int .i64 (L.getD (L.length - 1) e0).lo) ∧ wo.cell? ⟨b, off + (L.length - 1) * 4 + 2, none⟩ = some (.int .i64 (L.getD (L.length - 1) e0).hi) ∧ wo.cell? ⟨b, off + (L.length - 1) * 4 + 3, none⟩ = some (.int .i64 (L.getD (L.length - 1) e0).wt) := ⟨hA.v _ (by omega), hA.lo _ (by omega), hA.hi _ (by omega), hA.wt _ (by omega)⟩
          clear hA
          generalize L.getD (L.length - 1) e0 = y at *
          generalize hkk : keptK L s m = kk at *
          clear hkk hms hms2
          obtain ⟨q, hq⟩ : ∃ q, L.length = q + 1 := ⟨L.length - 1, by omega⟩
          have hq1 : L.length - 1 = q := by omega
          rw [hq1] at c0 c1 c2 c3
          have hqi : (L.length : Int) - 1 = (q : Int) := by omega
          go_wp2_with (at_builtin; refine wpList_append_own _ rfl (.tmp 77) (.tmp 84) 29 rfl w.heap.size 98 i0 (.agg #[.int .i64 0, .int .i64 0, .int .i64 0, .int .i64 0]) 4 32 Tryz.underlying29 hinf hz0 hz1 hz2 rfl (by decide) _ kk.length (flat kk) rfl (HO.out.alloc _) ⟨wo.heap.size, 0, none⟩ 1 1 [.int .i64 y.v, .int .i64 y.lo, .int .i64 y.hi, .int .i64 y.wt] rfl rfl (one_new wo #[.int .i64 y.v, .int .i64 y.lo, .int .i64 y.hi, .int .i64 y.wt] 98) (four_one y.v y.lo y.hi y.wt) (by unfold maxLen; omega) (by omega) (by simp; omega) ?_)
          intro v5 w5 hown5 hg5 _
          have hb5 : Below w.heap.size w w5 := (hbel.alloc hsz _).grown hg5 (by simp; omega) (fun q hq => (HO.out.lt q hq).1)
          have HF : Hid (OwnE w5 w.heap.size v5 (kk ++ [y])) := OwnE.more hown5
          clear hown5 hg5 c0 c1 c2 c3
          go_wp2
          go_ret
          exact ⟨_, rfl, by rw [HC3.out]; exact HF.out, hb5⟩
end Go.Proofs.YtfcgnpchbcmdeaaGreat
