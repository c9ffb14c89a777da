/-
  The contract of the reference's Summary: it hands back the summary of the values with their weights, in memory of its own.
-/
import Derived.Test.YtfcgnpchbcmdeaaGreatSwn
import Derived.Test.YtfcgnpchbcmdeaaGreatSwp
namespace Go.Proofs.YtfcgnpchbcmdeaaGreat
open Go.RowKit

def lenOf : Value → Nat
  | .slice _ n _ => n
  | _ => 0

theorem OwnI.form {w : World} {base : Nat} {v : Value} {zs : List Int} (h : OwnI w base v zs) : ∃ a c, v = .slice a zs.length c ∧ ∀ i, i < zs.length → ∃ b, a = some ⟨b, 0, none⟩ ∧ b < w.heap.size ∧ w.cell? ⟨b, i, none⟩ = some (.int .i64 (zs.getD i 0)) := by
  rcases h.2 with ⟨rfl, h0⟩ | ⟨g, cap, cur, rfl, hb, hg, r⟩
  · exact ⟨none, 0, by rw [h0], fun i hi => by omega⟩
  · refine ⟨some ⟨g, 0, none⟩, cap, rfl, fun i hi => ⟨g, rfl, (Array.getElem?_eq_some_iff.1 hg).1, ?_⟩⟩
    rw [World.ownsRow.cellAt h i (by simp; exact hi)]
    simp [hi]

theorem OwnE.form {w : World} {base : Nat} {v : Value} {L : List Ent} (h : OwnE w base v L) : ∃ a c, v = .slice a L.length c ∧ ∀ A x, L = A ++ [x] → ∃ b, a = some ⟨b, 0, none⟩ ∧ b < w.heap.size ∧ w.cell? ⟨b, A.length * 4, none⟩ = some (.int .i64 x.v) := by
  rcases h.2 with ⟨rfl, h0⟩ | ⟨g, cap, cur, rfl, hb, hg, r⟩
  · exact ⟨none, 0, by rw [h0], fun A x e => by rw [e] at h0; simp at h0⟩
  · refine ⟨some ⟨g, 0, none⟩, cap, rfl, fun A x e => ⟨g, rfl, (Array.getElem?_eq_some_iff.1 hg).1, ?_⟩⟩
    subst e
    exact (OwnE.at (B := []) h rfl rfl).1

theorem apart_types {w : World} {base : Nat} {v u : Value} {L : List Ent} {zs : List Int} (h : OwnE w base v L) (g : OwnI w base u zs) : u.ownBlock = none ∨ u.ownBlock ≠ v.ownBlock := by
  rcases g.2 with ⟨rfl, _⟩ | ⟨g1, cap1, cur1, rfl, _, hg1, _⟩
  · exact .inl rfl
  · rcases h.2 with ⟨rfl, _⟩ | ⟨g2, cap2, cur2, rfl, _, hg2, _⟩
    · exact .inr (by simp [Value.ownBlock])
    · refine .inr fun e => ?_
      simp [Value.ownBlock] at e
      rw [e, hg2] at hg1
      simp at hg1

theorem InSt.bound {P M : List (Int × Int)} {i : Nat} {fd : Bool} {le wt : Int} (hp : ∀ p ∈ P, 1 ≤ p.2 ∧ p.2 ≤ 1000) (h : InSt P M i fd le wt) : 0 ≤ wt ∧ wt ≤ 1000 * P.length := by
  cases fd with
  | false => obtain ⟨_, e, _⟩ := h.no rfl; omega
  | true =>
    obtain ⟨_, _, e⟩ := h.yes rfl
    have h1 : ∀ p ∈ P.take i, 1 ≤ p.2 := fun p hq => (hp p (List.mem_of_mem_take hq)).1
    have h2 := wOf_pos h1 le
    have h3 := wOf_le h1 le
    have h4 := sumW_le (ps := P.take i) (fun p hq => (hp p (List.mem_of_mem_take hq)).2)
    have h5 : (P.take i).length ≤ P.length := by simp; omega
    omega

theorem PreSum.bound {P M : List (Int × Int)} (hp : ∀ p ∈ P, 1 ≤ p.2 ∧ p.2 ≤ 1000) (h : PreSum P M) : 0 ≤ sumW M ∧ sumW M ≤ 1000 * P.length := by
  have h1 : ∀ p ∈ P, 1 ≤ p.2 := fun p hq => (hp p hq).1
  have h2 := totW_le h1 h.rise
  have h3 := sumW_tot h.wt
  have h4 := sumW_le (ps := P) (fun p hq => (hp p hq).2)
  have h5 := (sumW_take_le (M := M) (fun p hq => by rw [h.wt p hq]; exact wOf_pos h1 _) 0).2
  simp [sumW] at h5
  omega

theorem fresh_form {M : List (Int × Int)} {x : Int} : (M.length = 0 ∧ freshB M x = true) ∨ ∃ N p, M = N ++ [p] ∧ freshB M x = decide (p.1 < x) := by
  rcases List.eq_nil_or_concat M with hM | ⟨N, p, hM⟩
  · subst hM; exact .inl ⟨rfl, rfl⟩
  · rw [List.concat_eq_append] at hM
    subst hM
    exact .inr ⟨N, p, rfl, fresh_snoc N p x⟩

theorem rankL_snoc (N : List (Int × Int)) (p : Int × Int) : rankL 0 (N ++ [p]) = rankL 0 N ++ [⟨p.1, sumW N, sumW N + p.2, p.2⟩] := by
  rw [rankL_append]; simp [rankL]

set_option maxRecDepth 100000 in
set_option maxHeartbeats 4000000 in
theorem refSummary_any (va wa : Option Addr) (vl vc wl wc : Nat) (vz wz : List Int) (w : World) (hv : IntsV w va vl vz) (hw : IntsV w wa wl wz) (lv : vl ≤ 2097152) (lw : wl ≤ 2097152) :
    Calls Tryz.prog 115 #[.slice va vl vc, .slice wa wl wc] w fun e w' => ∃ v M, e = .returned v ∧ IsSum (pairsOf vz wz) M ∧ OwnE w' w.heap.size v (rankL 0 M) ∧ Below w.heap.size w w' := by
  obtain ⟨i0, hinf, hz0, hz1, hz2⟩ := info_parts info98
  obtain ⟨j0, jinf, jz0, jz1, jz2⟩ := info_parts info3
  have hPl := pairsOf_len vz wz
  rw [hv.1, hw.1] at hPl
  have HPL : Hid ((pairsOf vz wz).length = min vl wl) := hPl
  have HV : Hid (IntsV w va vl vz) := hv
  have HW : Hid (IntsV w wa wl wz) := hw
  clear hv hw hPl
  go_enter Tryz.func115, Tryz.ntmps115
  go_wp2_with fail
  go_loopw [5, 6, 7] (fun tv tw ti wr => ∃ k : Nat, k ≤ vl ∧ k ≤ wl ∧ ti = .int .i64 k ∧ Hid (OwnI wr w.heap.size tv (((pairsOf vz wz).take k).map Prod.fst) ∧ OwnI wr w.heap.size tw (((pairsOf vz wz).take k).map Prod.snd) ∧ Apart tv tw) ∧ Below w.heap.size w wr) (fun _ _ ti _ => vl - (intOf ti).toNat)
  case atStart => exact ⟨0, Nat.zero_le _, Nat.zero_le _, rfl, ⟨OwnI.nil _ _, OwnI.nil _ _, .inl rfl⟩, Below.refl _ _⟩
  case round =>
    obtain ⟨k, hk1, hk2, rfl, HR, hbel⟩ := hrel
    obtain ⟨ho1, ho2, hap⟩ := HR.out
    have HO1 : Hid (OwnI wr w.heap.size u5 (((pairsOf vz wz).take k).map Prod.fst)) := ho1
    have HO2 : Hid (OwnI wr w.heap.size u6 (((pairsOf vz wz).take k).map Prod.snd)) := ho2
    have HAP : Hid (Apart u5 u6) := hap
    have hsz := hbel.size
    clear HR ho1 ho2 hap
    by_cases hkk : k < vl ∧ k < wl
    · obtain ⟨hkv, hkw⟩ := hkk
      have hPk : k < (pairsOf vz wz).length := by rw [HPL.out]; omega
      have hpg := pairs_get hPk
      have HT : Hid ((pairsOf vz wz).take (k + 1) = (pairsOf vz wz).take k ++ [(clampV (vz.getD k 0), clampW (wz.getD k 0))]) := show _ = _ by rw [List.take_succ_eq_append_getElem hPk, hpg]
      have HTL : Hid (((pairsOf vz wz).take k).length = k) := show _ = _ by simp; omega
      rcases HV.out with ⟨hv1, hv2, hv3 | ⟨b1, o1, rfl, hb1, hv3⟩⟩
      · omega
      rcases HW.out with ⟨hw1, hw2, hw3 | ⟨b2, o2, rfl, hb2, hw3⟩⟩
      · omega
      have d1 : wr.cell? ⟨b1, o1 + k, none⟩ = some (.int .i64 (vz.getD k 0)) := (hbel.cell (p := ⟨b1, o1 + k, none⟩) hb1).trans (hv3 k hkv)
      have d2 : wr.cell? ⟨b2, o2 + k, none⟩ = some (.int .i64 (wz.getD k 0)) := (hbel.cell (p := ⟨b2, o2 + k, none⟩) hb2).trans (hw3 k hkw)
      have bk1 : (0 : Int) ≤ (k : Int) := by omega
      have bk2 : (k : Int) < (vl : Int) := by omega
      have bk3 : (k : Int) < (wl : Int) := by omega
      clear hv1 hv2 hv3 hw1 hw2 hw3 hPk hpg
      generalize (pairsOf vz wz).take k = Q at *
      generalize vz.getD k 0 = x at *
      generalize wz.getD k 0 = y at *
      go_upto_if 34 with fail
      go_cut [8] (fun v wx => v = .int .i64 (cap1 x) ∧ wx = wr)
      case first =>
        by_cases h : 1000000000 < x
        · have HC : Hid (cap1 x = 1000000000) := if_pos h
          go_wp2
          go_meet
          exact ⟨by rw [HC.out], rfl⟩
        · have HC : Hid (cap1 x = x) := if_neg h
          go_wp2
          go_meet
          exact ⟨by rw [HC.out], rfl⟩
      case rest =>
        obtain ⟨rfl, hwx⟩ := hcut
        have hwx2 := hwx.symm
        clear hwx
        subst hwx2
        go_upto_if 36 with fail
        go_cut [8] (fun v wx => v = .int .i64 (clampV x) ∧ wx = wr)
        case first =>
          by_cases h : cap1 x < -1000000000
          · have HC : Hid (clampV x = -1000000000) := (cap1_clamp x).trans (if_pos h)
            go_wp2
            go_meet
            exact ⟨by rw [HC.out], rfl⟩
          · have HC : Hid (clampV x = cap1 x) := (cap1_clamp x).trans (if_neg h)
            go_wp2
            go_meet
            exact ⟨by rw [HC.out], rfl⟩
        case rest =>
          obtain ⟨rfl, hwx⟩ := hcut
          have hwx2 := hwx.symm
          clear hwx
          subst hwx2
          go_upto_region 12 with fail
          go_cut [46] (fun v wx => v = .bool (badW y) ∧ wx = wr)
          case first =>
            by_cases h : y < 1
            · have HC : Hid (badW y = true) := decide_eq_true (.inl h)
              go_wp2
              go_meet
              exact ⟨by rw [HC.out], rfl⟩
            · by_cases h2 : 1000 < y
              · have HC : Hid (badW y = true) := decide_eq_true (.inr h2)
                go_wp2
                go_meet
                exact ⟨by rw [HC.out], rfl⟩
              · have HC : Hid (badW y = false) := decide_eq_false (by omega)
                go_wp2
                go_meet
                exact ⟨by rw [HC.out], rfl⟩
          case rest =>
            obtain ⟨rfl, hwx⟩ := hcut
            have hwx2 := hwx.symm
            clear hwx
            subst hwx2
            have HCW : Hid (clampW y = if badW y = true then 1 else y) := clampW_bad y
            generalize badW y = bw at *
            go_upto_if 46 with fail
            go_cut [9] (fun v wx => v = .int .i64 (clampW y) ∧ wx = wr)
            case first =>
              cases bw
              · have HC : Hid (clampW y = y) := HCW.out
                go_wp2
                go_meet
                exact ⟨by rw [HC.out], rfl⟩
              · have HC : Hid (clampW y = 1) := HCW.out
                go_wp2
                go_meet
                exact ⟨by rw [HC.out], rfl⟩
            case rest =>
              obtain ⟨rfl, hwx⟩ := hcut
              have hwx2 := hwx.symm
              clear hwx HCW
              subst hwx2
              generalize clampV x = cx at *
              generalize clampW y = cy at *
              have hQl := HTL.out
              go_wp2_with (at_builtin; refine wpList_append_keep rfl (.tmp 47) (.tmp 49) 25 rfl w.heap.size 3 j0 (.int .i64 0) 1 8 Tryz.underlying25 jinf jz0 jz1 jz2 rfl (by decide) u5 (Q.map Prod.fst).length ((Q.map Prod.fst).map (Value.int .i64)) rfl (HO1.out.below ((Below.refl _ _).alloc (Nat.le_refl _) _)) ⟨wr.heap.size, 0, none⟩ 1 1 [.int .i64 cx] rfl rfl (one_int wr rfl cx) (by simp [Value.oneCell']) (by decide) (by unfold maxLen; simp; omega) (by simp; omega) (by simp; omega) ?_)
              intro v1 w1 hX
              obtain ⟨hn1, hg1, hm1, _, gg1, cc1, hf1⟩ := hX.out
              have hO2 : OwnI (wr.alloc (.cells #[.int .i64 cx] 3)) w.heap.size u6 (Q.map Prod.snd) := HO2.out.below ((Below.refl _ _).alloc (Nat.le_refl _) _)
              have HV1 : Hid (OwnI w1 w.heap.size v1 (Q.map Prod.fst ++ [cx])) := OwnI.more (by rw [List.length_map, List.map_map, hQl]; exact hn1)
              have HU1 : Hid (OwnI w1 w.heap.size u6 (Q.map Prod.snd)) := hO2.kept hg1 HAP.out.keeps
              have HA1 : Hid (Apart v1 u6) := HAP.out.moved hO2 (by simpa using hm1)
              have hbl : ∀ q, u5.ownBlock = some q → w.heap.size ≤ q := fun q hq => (World.ownsRow.lt HO1.out q hq).1
              have hb1w : Below w.heap.size w w1 := (hbel.alloc hsz _).grown hg1 (by simp; omega) hbl
              have hsz1 := hb1w.size
              have hlt1 : wr.heap.size < w1.heap.size := by have := hg1.size; simp at this; omega
              clear hX hn1 hg1 hm1 hO2 hbl hf1
              go_wp2_with (at_builtin; refine wpList_append_keep rfl (.tmp 51) (.tmp 53) 25 rfl w.heap.size 3 j0 (.int .i64 0) 1 8 Tryz.underlying25 jinf jz0 jz1 jz2 rfl (by decide) u6 (Q.map Prod.snd).length ((Q.map Prod.snd).map (Value.int .i64)) rfl (HU1.out.below ((Below.refl _ _).alloc (Nat.le_refl _) _)) ⟨w1.heap.size, 0, none⟩ 1 1 [.int .i64 cy] rfl rfl (one_int w1 rfl cy) (by simp [Value.oneCell']) (by decide) (by unfold maxLen; simp; omega) (by simp; omega) (by simp; omega) ?_)
              intro v2 w2 hX
              obtain ⟨hn2, hg2, hm2, _, gg2, cc2, hf2⟩ := hX.out
              have hV2 : OwnI (w1.alloc (.cells #[.int .i64 cy] 3)) w.heap.size v1 (Q.map Prod.fst ++ [cx]) := HV1.out.below ((Below.refl _ _).alloc (Nat.le_refl _) _)
              have HU2 : Hid (OwnI w2 w.heap.size v2 (Q.map Prod.snd ++ [cy])) := OwnI.more (by rw [List.length_map, List.map_map, hQl]; exact hn2)
              have HV2 : Hid (OwnI w2 w.heap.size v1 (Q.map Prod.fst ++ [cx])) := hV2.kept hg2 HA1.out.symm.keeps
              have HA2 : Hid (Apart v1 v2) := (HA1.out.symm.moved hV2 (by simpa using hm2)).symm
              have hbl2 : ∀ q, u6.ownBlock = some q → w.heap.size ≤ q := fun q hq => (World.ownsRow.lt HU1.out q hq).1
              have hb2w : Below w.heap.size w w2 := (hb1w.alloc hsz1 _).grown hg2 (by simp; omega) hbl2
              clear hX hn2 hg2 hm2 hV2 hbl2 hf2
              go_wp2
              go_roundw
              case rel => exact ⟨k + 1, by omega, by omega, by go_num, ⟨by rw [HT.out, List.map_append]; exact HV2.out, by rw [HT.out, List.map_append]; exact HU2.out, HA2.out⟩, hb2w⟩
              case measure => simp [intOf]; omega
    · go_upto_region 4 with fail
      go_cut [26] (fun v wx => v = .bool false ∧ wx = wr)
      case first =>
        by_cases h1 : k < vl
        · have h2 : ¬ k < wl := fun h => hkk ⟨h1, h⟩
          have bk2 : (k : Int) < (vl : Int) := by omega
          have bk3 : ¬ (k : Int) < (wl : Int) := by omega
          go_wp2
          go_meet
          exact ⟨by simp <;> omega, rfl⟩
        · have bk2 : ¬ (k : Int) < (vl : Int) := by omega
          go_wp2
          go_meet
          exact ⟨by simp <;> omega, rfl⟩
      case rest =>
        obtain ⟨rfl, hwx⟩ := hcut
        have hwx2 := hwx.symm
        clear hwx
        subst hwx2
        have hkl : k = (pairsOf vz wz).length := by rw [HPL.out]; omega
        have hP : (pairsOf vz wz).take k = pairsOf vz wz := by rw [hkl]; exact List.take_of_length_le (Nat.le_refl _)
        rw [hP] at HO1 HO2
        have HPI : Hid (∀ p ∈ pairsOf vz wz, 1 ≤ p.2 ∧ p.2 ≤ 1000) := fun p hp => (pairs_in hp).1
        have hPl2 : (pairsOf vz wz).length ≤ 2097152 := by rw [HPL.out]; omega
        clear HPL HV HW hP hkl
        obtain ⟨P, hPE⟩ : ∃ P, P = pairsOf vz wz := ⟨_, rfl⟩
        rw [← hPE] at HO1 HO2 HPI hPl2
        have HPE : Hid (P = pairsOf vz wz) := hPE
        clear hPE
        rename World => wr1
        go_wp2_with fail
        go_loopw [10, 11] (fun o tl wx => ∃ M, tl = .int .i64 (sumW M) ∧ Hid (PreSum P M ∧ OwnE wx w.heap.size o (rankL 0 M) ∧ OwnI wx w.heap.size u5 (P.map Prod.fst) ∧ OwnI wx w.heap.size u6 (P.map Prod.snd)) ∧ Below w.heap.size w wx) (fun o _ _ => P.length - lenOf o)
        case atStart => exact ⟨[], rfl, ⟨PreSum.nil P, OwnE.nil _ _, HO1.out, HO2.out⟩, hbel⟩
        case round =>
          clear HO1 HO2 hbel hsz
          obtain ⟨M, rfl, HR, hbel⟩ := hrel
          rename World => wo
          obtain ⟨hpre, hown, hi5, hi6⟩ := HR.out
          have HPRE : Hid (PreSum P M) := hpre
          have HO : Hid (OwnE wo w.heap.size u10 (rankL 0 M)) := hown
          have HI5 : Hid (OwnI wo w.heap.size u5 (P.map Prod.fst)) := hi5
          have HI6 : Hid (OwnI wo w.heap.size u6 (P.map Prod.snd)) := hi6
          have hbs := hpre.bound HPI.out
          have hml := hpre.len
          have hsz := hbel.size
          have hrl := rankL_len 0 M
          obtain ⟨a5, c5, hu5, hc5⟩ := hi5.form
          obtain ⟨a6, c6, hu6, hc6⟩ := hi6.form
          obtain ⟨a10, c10, hu10, hc10⟩ := hown.form
          rw [List.length_map] at hu5 hu6
          rw [hrl] at hu10
          have HC5 : Hid (∀ i (hi : i < P.length), ∃ b, a5 = some ⟨b, 0, none⟩ ∧ b < wo.heap.size ∧ wo.cell? ⟨b, i, none⟩ = some (.int .i64 P[i].1)) := fun i hi => by obtain ⟨b, e, hb, hc⟩ := hc5 i (by simpa using hi); exact ⟨b, e, hb, by rw [hc]; simp [hi]⟩
          have HC6 : Hid (∀ i (hi : i < P.length), ∃ b, a6 = some ⟨b, 0, none⟩ ∧ b < wo.heap.size ∧ wo.cell? ⟨b, i, none⟩ = some (.int .i64 P[i].2)) := fun i hi => by obtain ⟨b, e, hb, hc⟩ := hc6 i (by simpa using hi); exact ⟨b, e, hb, by rw [hc]; simp [hi]⟩
          have HC10 : Hid (∀ x, (M.length = 0 ∧ freshB M x = true) ∨ ∃ n b pv, M.length = n + 1 ∧ a10 = some ⟨b, 0, none⟩ ∧ b < wo.heap.size ∧ wo.cell? ⟨b, n * 4, none⟩ = some (.int .i64 pv) ∧ freshB M x = decide (pv < x)) := fun x => by
            rcases fresh_form (M := M) (x := x) with h | ⟨N, p, hM, hf⟩
            · exact .inl h
            · obtain ⟨b, e, hb, hc⟩ := hc10 (rankL 0 N) ⟨p.1, sumW N, sumW N + p.2, p.2⟩ (by rw [hM, rankL_snoc])
              exact .inr ⟨N.length, b, p.1, by rw [hM]; simp, e, hb, by rw [rankL_len] at hc; exact hc, hf⟩
          clear HR hpre hown hi5 hi6 hc5 hc6 hc10
          subst hu5 hu6 hu10
          have hmm : ∃ m, m = M.length := ⟨_, rfl⟩
          obtain ⟨m, hm⟩ := hmm
          rw [← hm] at HC10 HO hml hrl ⊢
          have HM : Hid (m = M.length) := hm
          clear hm
          go_wp2_with fail
          go_loopw [12, 13, 14, 15] (fun tf tl tw ti wq => ∃ (fd : Bool) (le wt : Int) (i : Nat), tf = .bool fd ∧ tl = .int .i64 le ∧ tw = .int .i64 wt ∧ ti = .int .i64 i ∧ i ≤ P.length ∧ Hid (InSt P M i fd le wt) ∧ Below wo.heap.size wo wq) (fun _ _ _ ti _ => P.length - (intOf ti).toNat)
          case atStart => exact ⟨false, 0, 0, 0, rfl, rfl, rfl, rfl, Nat.zero_le _, InSt.start P M, Below.refl _ _⟩
          case round =>
            obtain ⟨fd, le, wt, i, rfl, rfl, rfl, rfl, hi, HI, hbq⟩ := hrel
            have hwt := HI.out.bound HPI.out
            by_cases hil : i < P.length
            · obtain ⟨b5, rfl, hb5, d5⟩ := HC5.out i hil
              obtain ⟨b6, rfl, hb6, d6⟩ := HC6.out i hil
              have e5 : wr.cell? ⟨b5, i, none⟩ = some (.int .i64 P[i].1) := (hbq.cell (p := ⟨b5, i, none⟩) hb5).trans d5
              have e6 : wr.cell? ⟨b6, i, none⟩ = some (.int .i64 P[i].2) := (hbq.cell (p := ⟨b6, i, none⟩) hb6).trans d6
              have hfr := HC10.out P[i].1
              have HNEW : Hid (freshB M P[i].1 = true → (fd = false ∨ P[i].1 < le) → InSt P M (i + 1) true P[i].1 P[i].2) := fun h1 h2 => HI.out.new hil h1 h2
              have HSAME : Hid (fd = true → P[i].1 = le → InSt P M (i + 1) true le (wt + P[i].2)) := fun h1 h2 => by have := HI.out; rw [h1] at this; exact this.same hil h2
              have HPASS : Hid ((fd = false → freshB M P[i].1 = false) → (fd = true → P[i].1 ≠ le ∧ (freshB M P[i].1 = true → le ≤ P[i].1)) → InSt P M (i + 1) fd le wt) := fun h1 h2 => HI.out.pass hil h1 h2
              have hy := HPI.out P[i] (List.getElem_mem hil)
              have bi1 : (0 : Int) ≤ (i : Int) := by omega
              have bi2 : (i : Int) < (P.length : Int) := by omega
              clear d5 d6 HC5 HC6 HI
              generalize P[i].2 = y at *
              generalize P[i].1 = x at *
              generalize hfe : freshB M x = fr at *
              go_upto_region 24 with fail
              go_cut [16] (fun v wy => v = .bool fr ∧ Below wr.heap.size wr wy)
              case first =>
                rcases hfr with ⟨hm0, rfl⟩ | ⟨n, b, pv, hmn, rfl, hb, hc, hf⟩
                · have hm1 : decide (m = 0) = true := decide_eq_true hm0
                  subst hm0
                  go_big_quiet (fail)
                  go_wp2
                  go_meet
                  exact ⟨rfl, below_drewN (Below.refl _ _) _⟩
                · have e7 : wr.cell? ⟨b, n * 4, none⟩ = some (.int .i64 pv) := (hbq.cell (p := ⟨b, n * 4, none⟩) hb).trans hc
                  have HF : Hid (fr = decide (pv < x)) := hf
                  clear hc hf
                  have hm1 : decide (m = 0) = false := decide_eq_false (by omega)
                  subst hmn
                  have g1 : ((n : Int) + 1 == 0) = false := beq_eq_false_iff_ne.2 (by omega)
                  have g2 : (((n + 1 : Nat) : Int) == 0) = false := beq_eq_false_iff_ne.2 (by omega)
                  have g3 : decide ((n : Int) + 1 = 0) = false := decide_eq_false (by omega)
                  have g4 : ((n : Int) + 1 = 0) = False := eq_false (by omega)
                  have g5 : (n : Int) < (n : Int) + 1 := by omega
                  have g6 : (0 : Int) ≤ (n : Int) := by omega
                  have g7 : (n : Int) + 1 - 1 = (n : Int) := by omega
                  go_big_quiet (fail)
                  go_wp2
                  go_meet
                  exact ⟨by rw [HF.out], below_drewN (Below.refl _ _) _⟩
              case rest =>
                obtain ⟨rfl, hby⟩ := hcut
                rename World => wy
                have hq := hbq.size
                have y5 : wy.cell? ⟨b5, i, none⟩ = some (.int .i64 x) := (hby.cell (p := ⟨b5, i, none⟩) (by show b5 < _; omega)).trans e5
                have y6 : wy.cell? ⟨b6, i, none⟩ = some (.int .i64 y) := (hby.cell (p := ⟨b6, i, none⟩) (by show b6 < _; omega)).trans e6
                have hbY : Below wo.heap.size wo wy := hbq.trans (hby.mono hq)
                clear e5 e6 hby hbq hfr HC10
                cases fr with
                | false =>
                  cases fd with
                  | false =>
                    have HX : Hid (InSt P M (i + 1) false le wt) := HPASS.out (fun _ => rfl) (fun h => by cases h)
                    go_wp2_with fail
                    go_roundw
                    case rel => exact ⟨_, _, _, i + 1, rfl, rfl, by go_num, by go_num, by omega, HX.out, by repeat (first | exact hbY | refine below_drewN ?_ _)⟩
                    case measure => simp [intOf]; omega
                  | true =>
                    by_cases hx : x = le
                    · have HX : Hid (InSt P M (i + 1) true le (wt + y)) := HSAME.out rfl hx
                      have b1 : (x == le) = true := beq_iff_eq.2 hx
                      go_wp2_with fail
                      go_roundw
                      case rel => exact ⟨_, _, _, i + 1, rfl, rfl, by go_num, by go_num, by omega, HX.out, by repeat (first | exact hbY | refine below_drewN ?_ _)⟩
                      case measure => simp [intOf]; omega
                    · have HX : Hid (InSt P M (i + 1) true le wt) := HPASS.out (fun h => by cases h) (fun _ => ⟨hx, fun h => by cases h⟩)
                      have b1 : (x == le) = false := beq_eq_false_iff_ne.2 hx
                      go_wp2_with fail
                      go_roundw
                      case rel => exact ⟨_, _, _, i + 1, rfl, rfl, by go_num, by go_num, by omega, HX.out, by repeat (first | exact hbY | refine below_drewN ?_ _)⟩
                      case measure => simp [intOf]; omega
                | true =>
                  cases fd with
                  | false =>
                    have HX : Hid (InSt P M (i + 1) true x y) := HNEW.out rfl (.inl rfl)
                    have b1 : (x == x) = true := beq_self_eq_true _
                    go_wp2_with fail
                    go_roundw
                    case rel => exact ⟨_, _, _, i + 1, rfl, rfl, by go_num, by go_num, by omega, HX.out, by repeat (first | exact hbY | refine below_drewN ?_ _)⟩
                    case measure => simp [intOf]; omega
                  | true =>
                    rcases Int.lt_trichotomy x le with hx | hx | hx
                    · have HX : Hid (InSt P M (i + 1) true x y) := HNEW.out rfl (.inr hx)
                      have b0 : decide (x < le) = true := decide_eq_true hx
                      have b1 : (x == x) = true := beq_self_eq_true _
                      go_wp2_with fail
                      go_roundw
                      case rel => exact ⟨_, _, _, i + 1, rfl, rfl, by go_num, by go_num, by omega, HX.out, by repeat (first | exact hbY | refine below_drewN ?_ _)⟩
                      case measure => simp [intOf]; omega
                    · have HX : Hid (InSt P M (i + 1) true le (wt + y)) := HSAME.out rfl hx
                      have b0 : decide (x < le) = false := decide_eq_false (by omega)
                      have b1 : (x == le) = true := beq_iff_eq.2 hx
                      go_wp2_with fail
                      go_roundw
                      case rel => exact ⟨_, _, _, i + 1, rfl, rfl, by go_num, by go_num, by omega, HX.out, by repeat (first | exact hbY | refine below_drewN ?_ _)⟩
                      case measure => simp [intOf]; omega
                    · have HX : Hid (InSt P M (i + 1) true le wt) := HPASS.out (fun h => by cases h) (fun _ => ⟨by omega, fun _ => by omega⟩)
                      have b0 : decide (x < le) = false := decide_eq_false (by omega)
                      have b1 : (x == le) = false := beq_eq_false_iff_ne.2 (by omega)
                      go_wp2_with fail
                      go_roundw
                      case rel => exact ⟨_, _, _, i + 1, rfl, rfl, by go_num, by go_num, by omega, HX.out, by repeat (first | exact hbY | refine below_drewN ?_ _)⟩
                      case measure => simp [intOf]; omega
            · have hiP : i = P.length := by omega
              subst hiP
              have hbw : Below w.heap.size w wr := hbel.trans (hbq.mono hsz)
              have HOw : Hid (OwnE wr w.heap.size (.slice a10 m c10) (rankL 0 M)) := HO.out.below hbq
              have bi2 : ¬ ((P.length : Int) < (P.length : Int)) := by omega
              cases fd with
              | false =>
                have HD : Hid (IsSum P M) := HPRE.out.done HI.out
                clear HC5 HC6 HC10
                go_wp2
                go_ret
                exact ⟨_, rfl, M, by rw [← HPE.out]; exact HD.out, HOw.out, hbw⟩
              | true =>
                have HD : Hid (PreSum P (M ++ [(le, wt)])) := HPRE.out.more HI.out
                clear HC5 HC6 HC10
                have HOW : Hid (wr.ownsRow w.heap.size 98 4 (.slice a10 m c10) m (flat (rankL 0 M))) := by have := HOw.out; unfold OwnE at this; rw [rankL_len, ← HM.out] at this; exact this
                have H5 : Hid (OwnI wr w.heap.size (.slice a5 P.length c5) (P.map Prod.fst)) := HI5.out.below hbq
                have H6 : Hid (OwnI wr w.heap.size (.slice a6 P.length c6) (P.map Prod.snd)) := HI6.out.below hbq
                have hszr : w.heap.size ≤ wr.heap.size := hbw.size
                go_wp2_with (at_builtin; refine wpList_append_keep rfl (.tmp 113) (.tmp 121) 29 rfl w.heap.size 98 i0 (.agg #[.int .i64 0, .int .i64 0, .int .i64 0, .int .i64 0]) 4 32 Tryz.underlying29 hinf hz0 hz1 hz2 rfl (by decide) (.slice a10 m c10) m (flat (rankL 0 M)) rfl (World.ownsRow.alloc HOW.out _) ⟨wr.heap.size, 0, none⟩ 1 1 [.int .i64 le, .int .i64 (sumW M), .int .i64 (sumW M + wt), .int .i64 wt] rfl rfl (one_new wr #[.int .i64 le, .int .i64 (sumW M), .int .i64 (sumW M + wt), .int .i64 wt] 98) (by intro u hu; simp at hu; rcases hu with rfl | rfl | rfl | rfl <;> rfl) (by decide) (by unfold maxLen; omega) (by omega) (by simp; omega) ?_)
                intro v1 w1 hX
                obtain ⟨hn1, hg1, hm1, _, gg1, cc1, hf1⟩ := hX.out
                have hA5 : OwnI (wr.alloc (.cells #[.int .i64 le, .int .i64 (sumW M), .int .i64 (sumW M + wt), .int .i64 wt] 98)) w.heap.size (.slice a5 P.length c5) (P.map Prod.fst) := World.ownsRow.alloc H5.out _
                have hA6 : OwnI (wr.alloc (.cells #[.int .i64 le, .int .i64 (sumW M), .int .i64 (sumW M + wt), .int .i64 wt] 98)) w.heap.size (.slice a6 P.length c6) (P.map Prod.snd) := World.ownsRow.alloc H6.out _
                have hAO : OwnE (wr.alloc (.cells #[.int .i64 le, .int .i64 (sumW M), .int .i64 (sumW M + wt), .int .i64 wt] 98)) w.heap.size (.slice a10 m c10) (rankL 0 M) := World.ownsRow.alloc HOw.out _
                have H51 : Hid (OwnI w1 w.heap.size (.slice a5 P.length c5) (P.map Prod.fst)) := hA5.kept hg1 (apart_types hAO hA5)
                have H61 : Hid (OwnI w1 w.heap.size (.slice a6 P.length c6) (P.map Prod.snd)) := hA6.kept hg1 (apart_types hAO hA6)
                have HN : Hid (OwnE w1 w.heap.size v1 (rankL 0 (M ++ [(le, wt)]))) := by
                  show OwnE _ _ _ _
                  rw [rankL_snoc]
                  refine OwnE.more ?_
                  rw [rankL_len, ← HM.out]
                  exact hn1
                have HS : Hid (sumW (M ++ [(le, wt)]) = sumW M + wt) := show _ = _ by rw [sumW_append]; simp [sumW]
                have hb1w : Below w.heap.size w w1 := (hbw.alloc hszr _).grown hg1 (by simp; omega) (fun q hq => (World.ownsRow.lt HOW.out q hq).1)
                have hfin : lenOf v1 = m + 1 := by rw [hf1]; rfl
                have hml2 : m + 1 ≤ P.length := by have := HD.out.len; rw [List.length_append, ← HM.out] at this; exact this
                clear hX hn1 hg1 hm1 hA5 hA6 hAO hf1
                go_wp2
                go_roundw
                case rel => exact ⟨M ++ [(le, wt)], by rw [HS.out] <;> go_num, ⟨HD.out, HN.out, H51.out, H61.out⟩, hb1w⟩
                case measure =>
                  have e1 : lenOf (Value.slice a10 m c10) = m := rfl
                  simp only [hfin, e1]
                  omega
end Go.Proofs.YtfcgnpchbcmdeaaGreat
