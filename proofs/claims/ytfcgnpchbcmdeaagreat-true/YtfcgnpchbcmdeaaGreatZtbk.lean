/-
  The contract of granarykeep's bounded: of a summary that is true it says so.
-/
import Derived.Test.YtfcgnpchbcmdeaaGreatZtaf
import Derived.Test.YtfcgnpchbcmdeaaGreatZtam
import Derived.Test.YtfcgnpchbcmdeaaGreatZtab
namespace Go.Proofs.YtfcgnpchbcmdeaaGreat
open Go.RowKit

theorem zip_take_succ {vz wz : List Int} {k : Nat} (h1 : k < vz.length) (h2 : k < wz.length) : (vz.zip wz).take (k + 1) = (vz.zip wz).take k ++ [(vz.getD k 0, wz.getD k 0)] := by
  rw [List.take_succ_eq_append_getElem (by rw [List.length_zip]; omega)]
  congr 2
  rw [List.getElem_zip]
  rw [List.getD_eq_getElem?_getD, List.getD_eq_getElem?_getD, List.getElem?_eq_getElem h1, List.getElem?_eq_getElem h2]
  rfl

theorem Pos.take {ps : List (Int × Int)} (h : Pos ps) (k : Nat) : Pos (ps.take k) := fun q hq => h q (List.mem_of_mem_take hq)
theorem sumW_nonneg {ps : List (Int × Int)} (h : Pos ps) : 0 ≤ sumW ps := by
  have := low_all h 0
  omega
theorem sumW_take {ps : List (Int × Int)} (h : Pos ps) (k : Nat) : sumW (ps.take k) ≤ sumW ps := by
  have e : sumW ps = sumW (ps.take k) + sumW (ps.drop k) := by rw [← sumW_append, List.take_append_drop]
  have : 0 ≤ sumW (ps.drop k) := sumW_nonneg fun q hq => h q (List.mem_of_mem_drop hq)
  omega

def noLess (ps : List (Int × Int)) (x : Int) : Bool := ps.all fun p => !decide (p.1 < x)
def noMore (ps : List (Int × Int)) (x : Int) : Bool := ps.all fun p => decide (p.1 ≤ x)
theorem noLess_snoc (ps : List (Int × Int)) (a b x : Int) : noLess (ps ++ [(a, b)]) x = (noLess ps x && !decide (a < x)) := by simp [noLess]
theorem noMore_snoc (ps : List (Int × Int)) (a b x : Int) : noMore (ps ++ [(a, b)]) x = (noMore ps x && decide (a ≤ x)) := by simp [noMore]

theorem Good.first {L : List Ent} (g : Good L) {e : Ent} (h : e ∈ L) : (L.getD 0 e0).v ≤ e.v := by
  obtain ⟨k, hk, rfl⟩ := mem_getD h
  by_cases h0 : k = 0
  · rw [h0]; exact Int.le_refl _
  · have := (g.lt (i := 0) (j := k) (by omega) hk).1; omega
theorem Good.last {L : List Ent} (g : Good L) {e : Ent} (h : e ∈ L) : e.v ≤ (L.getD (L.length - 1) e0).v := by
  obtain ⟨k, hk, rfl⟩ := mem_getD h
  by_cases h0 : k = L.length - 1
  · rw [← h0]; exact Int.le_refl _
  · have := (g.lt (i := k) (j := L.length - 1) (by omega) (by omega)).1; omega
theorem SumTrue.noLess {ps : List (Int × Int)} {L : List Ent} (h : SumTrue ps L) (g : Good L) : noLess ps (L.getD 0 e0).v = true := by
  unfold Proofs.YtfcgnpchbcmdeaaGreat.noLess
  rw [List.all_eq_true]
  intro q hq
  obtain ⟨e, he, hle⟩ := h.least q hq
  have := g.first he
  rw [Bool.not_eq_true', decide_eq_false_iff_not]
  omega
theorem SumTrue.noMore {ps : List (Int × Int)} {L : List Ent} (h : SumTrue ps L) (g : Good L) : noMore ps (L.getD (L.length - 1) e0).v = true := by
  unfold Proofs.YtfcgnpchbcmdeaaGreat.noMore
  rw [List.all_eq_true]
  intro q hq
  obtain ⟨e, he, hle⟩ := h.most q hq
  have := g.last he
  rw [decide_eq_true_eq]
  omega

theorem wrapI2 {z : Int} (h1 : -9000000000000000000 ≤ z) (h2 : z ≤ 9000000000000000000) : IntKind.i64.wrap z = z := by simp [IntKind.wrap, IntKind.bits, IntKind.signed]; omega

set_option maxRecDepth 100000 in
set_option maxHeartbeats 4000000 in
theorem keepBounded_any (la va wa : Option Addr) (L : List Ent) (lc n vc wc : Nat) (vz wz : List Int) (tot : Int) (w : World) (hL : EntsV w la L) (hv : IntsV w va n vz) (hw : IntsV w wa n wz) (g : Good L) (hp : Pos (vz.zip wz)) (ht : SumTrue (vz.zip wz) L) (hne : L ≠ []) (htot : tot = sumW (vz.zip wz)) (hsum : tot ≤ 1000000000000) (hn : n ≤ 1000000) :
    Calls Tryz.prog 22 #[.slice la L.length lc, .slice va n vc, .slice wa n wc, .int .i64 tot] w fun e w' => e = .returned (.bool true) ∧ Below w.heap.size w w' := by
  obtain ⟨ps, hps⟩ : ∃ ps, ps = vz.zip wz := ⟨_, rfl⟩
  rw [← hps] at hp ht htot
  have HPS : Hid (ps = vz.zip wz) := hps
  have HPL : Hid (ps.length = n) := by show _ = _; rw [hps, List.length_zip, hv.1, hw.1]; omega
  have hl0 : 0 < L.length := List.length_pos_iff.2 hne
  have HL : Hid (EntsV w la L) := hL
  have HV : Hid (IntsV w va n vz) := hv
  have HW : Hid (IntsV w wa n wz) := hw
  have HP : Hid (Pos ps) := hp
  have HS : Hid (SumTrue ps L) := ht
  have HT : Hid (tot = sumW ps) := htot
  have HG : Hid (Good L) := g
  have hlm : L.length ≤ 4194304 := hL.1
  have q0 : ((L.length : Int) == 0) = false := by rw [beq_eq_false_iff_ne]; omega
  clear hL hv hw hp ht htot g hps hne
  go_enter Tryz.func22, Tryz.ntmps22
  go_wp2_with fail
  go_loopw [9] (fun ti wr => ∃ i : Nat, i ≤ L.length ∧ ti = .int .i64 i ∧ Hid (Below w.heap.size w wr)) (fun ti _ => L.length - (intOf ti).toNat)
  case atStart => exact ⟨0, Nat.zero_le _, rfl, Below.refl _ _⟩
  case round =>
    obtain ⟨i, hi, rfl, HB⟩ := hrel
    by_cases hil : i < L.length
    · have bi1 : (0 : Int) ≤ (i : Int) := by omega
      have bi2 : (i : Int) < (L.length : Int) := by omega
      obtain ⟨lb, lo, rfl, HE⟩ : ∃ lb lo, la = some ⟨lb, lo, none⟩ ∧ Hid (EntsAt w lb lo L) := by
        rcases HL.out with ⟨_, h0 | ⟨b1, o1, e, hA⟩⟩
        · omega
        · exact ⟨b1, o1, e, hA⟩
      obtain ⟨x, hx⟩ : ∃ x, x = L.getD i e0 := ⟨_, rfl⟩
      have HX : Hid (x = L.getD i e0) := hx
      have c0 : wr.cell? ⟨lb, lo + i * 4, none⟩ = some (.int .i64 x.v) := by rw [hx]; exact (HE.out.below HB.out).v i hil
      clear hx
      go_wp2_with fail
      generalize wr = wo at *
      clear c0
      go_loopw [10, 11, 12, 13, 14] (fun tb tow tl tg tk wr => ∃ k : Nat, k ≤ n ∧ tk = .int .i64 k ∧ tb = .int .i64 (lowW (ps.take k) x.v) ∧ tow = .int .i64 (wOf (ps.take k) x.v) ∧ tl = .bool (noLess (ps.take k) x.v) ∧ tg = .bool (noMore (ps.take k) x.v) ∧ Hid (Below w.heap.size w wr)) (fun _ _ _ _ tk _ => n - (intOf tk).toNat)
      case atStart => exact ⟨0, Nat.zero_le _, rfl, rfl, rfl, rfl, rfl, HB.out⟩
      case round =>
        clear HB
        obtain ⟨k, hk, rfl, rfl, rfl, rfl, rfl, HB⟩ := hrel
        have hxi : x = L.getD i e0 := HX.out
        have e0c : wr.cell? ⟨lb, lo + i * 4, none⟩ = some (.int .i64 x.v) := by rw [hxi]; exact (HE.out.below HB.out).v i hil
        have e1c : wr.cell? ⟨lb, lo + i * 4 + 1, none⟩ = some (.int .i64 x.lo) := by rw [hxi]; exact (HE.out.below HB.out).lo i hil
        have e2c : wr.cell? ⟨lb, lo + i * 4 + 2, none⟩ = some (.int .i64 x.hi) := by rw [hxi]; exact (HE.out.below HB.out).hi i hil
        have e3c : wr.cell? ⟨lb, lo + i * 4 + 3, none⟩ = some (.int .i64 x.wt) := by rw [hxi]; exact (HE.out.below HB.out).wt i hil
        by_cases hkn : k < n
        · have bk1 : (0 : Int) ≤ (k : Int) := by omega
          have bk2 : (k : Int) < (n : Int) := by omega
          obtain ⟨vb, vo, rfl, hvb, hvc⟩ : ∃ b off, va = some ⟨b, off, none⟩ ∧ b < w.heap.size ∧ ∀ i, i < n → w.cell? ⟨b, off + i, none⟩ = some (.int .i64 (vz.getD i 0)) := by
            rcases HV.out.2.2 with e | e
            · omega
            · exact e
          obtain ⟨wb, wo2, rfl, hwb, hwc⟩ : ∃ b off, wa = some ⟨b, off, none⟩ ∧ b < w.heap.size ∧ ∀ i, i < n → w.cell? ⟨b, off + i, none⟩ = some (.int .i64 (wz.getD i 0)) := by
            rcases HW.out.2.2 with e | e
            · omega
            · exact e
          have v0 : wr.cell? ⟨vb, vo + k, none⟩ = some (.int .i64 (vz.getD k 0)) := (HB.out.cell (p := ⟨vb, vo + k, none⟩) hvb).trans (hvc k hkn)
          have w0 : wr.cell? ⟨wb, wo2 + k, none⟩ = some (.int .i64 (wz.getD k 0)) := (HB.out.cell (p := ⟨wb, wo2 + k, none⟩) hwb).trans (hwc k hkn)
          have hsn : ps.take (k + 1) = ps.take k ++ [(vz.getD k 0, wz.getD k 0)] := by
            rw [HPS.out]; exact zip_take_succ (by rw [HV.out.1]; exact hkn) (by rw [HW.out.1]; exact hkn)
          have hlo := low_all (HP.out.take k) x.v
          have hsm := sumW_take HP.out k
          have hlo2 := low_all (HP.out.take (k + 1)) x.v
          have hsm2 := sumW_take HP.out (k + 1)
          rw [← HT.out] at hsm hsm2
          have HN : Hid (lowW (ps.take (k + 1)) x.v = lowW (ps.take k) x.v + (if vz.getD k 0 < x.v then wz.getD k 0 else 0) ∧ wOf (ps.take (k + 1)) x.v = wOf (ps.take k) x.v + (if vz.getD k 0 = x.v then wz.getD k 0 else 0) ∧ noLess (ps.take (k + 1)) x.v = (noLess (ps.take k) x.v && !decide (vz.getD k 0 < x.v)) ∧ noMore (ps.take (k + 1)) x.v = (noMore (ps.take k) x.v && decide (vz.getD k 0 ≤ x.v))) := by
            refine ⟨?_, ?_, ?_, ?_⟩
            · rw [hsn, lowW_append]; simp only [lowW]; omega
            · rw [hsn, wOf_app]; simp only [wOf]; omega
            · rw [hsn, noLess_snoc]
            · rw [hsn, noMore_snoc]
          have hwk : 1 ≤ wz.getD k 0 := by
            have := HP.out.take (k + 1) (vz.getD k 0, wz.getD k 0) (by rw [hsn]; simp)
            exact this
          obtain ⟨n1, n2, n3, n4⟩ := HN.out
          clear hvc hwc hsn hlm e1c e2c e3c
          generalize lowW (ps.take k) x.v = B at *
          generalize wOf (ps.take k) x.v = O at *
          generalize noLess (ps.take k) x.v = l at *
          generalize noMore (ps.take k) x.v = g at *
          generalize vz.getD k 0 = vk at *
          generalize wz.getD k 0 = wk at *
          generalize hxv : x.v = xv at *
          have HXV : Hid (x.v = xv) := hxv
          clear hxv
          rcases Int.lt_trichotomy vk xv with hc | hc | hc
          · have q1 : ¬ vk = xv := by omega
            have q2 : vk ≤ xv := by omega
            rw [if_pos hc] at n1
            rw [if_neg q1] at n2
            have q3 : IntKind.i64.wrap (B + wk) = B + wk := wrapI2 (by omega) (by omega)
            have q4 : (vk == xv) = false := by rw [beq_eq_false_iff_ne]; exact q1
            simp only [hc, q2, decide_true, Bool.not_true, Bool.and_false, Bool.and_true] at n3 n4
            have HQ : Hid (lowW (ps.take (k + 1)) xv = B + wk ∧ wOf (ps.take (k + 1)) xv = O ∧ noLess (ps.take (k + 1)) xv = false ∧ noMore (ps.take (k + 1)) xv = g) := by
              refine ⟨?_, ?_, ?_, ?_⟩
              · rw [n1]; try omega
              · rw [n2]; try omega
              · rw [n3]; try simp
              · rw [n4]; try simp
            clear n1 n2 n3 n4 HN hlo2 hsm2
            cases g
            · go_wp2_with fail
              go_big_quiet (fail)
              go_wp2_with fail
              go_big_quiet (fail)
              go_wp2_with fail
              go_big_quiet (fail)
              go_wp2
              go_roundw
              case rel => exact ⟨k + 1, by omega, by go_num, by rw [HQ.out.1], by rw [HQ.out.2.1], by rw [HQ.out.2.2.1], by rw [HQ.out.2.2.2]; try simp [q2], by repeat (first | exact HB.out | refine below_drewN ?_ _)⟩
              case measure => simp [intOf]; omega
            · go_wp2_with fail
              go_big_quiet (fail)
              go_wp2_with fail
              go_big_quiet (fail)
              go_wp2_with fail
              go_big_quiet (fail)
              go_wp2
              go_roundw
              case rel => exact ⟨k + 1, by omega, by go_num, by rw [HQ.out.1], by rw [HQ.out.2.1], by rw [HQ.out.2.2.1], by rw [HQ.out.2.2.2]; try simp [q2], by repeat (first | exact HB.out | refine below_drewN ?_ _)⟩
              case measure => simp [intOf]; omega
          · subst hc
            have q1 : ¬ vk < vk := by omega
            have q2 : vk ≤ vk := by omega
            rw [if_neg q1] at n1
            rw [if_pos rfl] at n2
            have q3 : IntKind.i64.wrap (O + wk) = O + wk := wrapI2 (by omega) (by omega)
            simp only [q1, q2, decide_true, decide_false, Bool.not_false, Bool.and_true] at n3 n4
            have HQ : Hid (lowW (ps.take (k + 1)) vk = B ∧ wOf (ps.take (k + 1)) vk = O + wk ∧ noLess (ps.take (k + 1)) vk = l ∧ noMore (ps.take (k + 1)) vk = g) := by
              refine ⟨?_, ?_, ?_, ?_⟩
              · rw [n1]; try omega
              · rw [n2]; try omega
              · rw [n3]; try simp
              · rw [n4]; try simp
            clear n1 n2 n3 n4 HN hlo2 hsm2
            cases g
            · go_wp2_with fail
              go_big_quiet (fail)
              go_wp2_with fail
              go_big_quiet (fail)
              go_wp2_with fail
              go_big_quiet (fail)
              go_wp2
              go_roundw
              case rel => exact ⟨k + 1, by omega, by go_num, by rw [HQ.out.1], by rw [HQ.out.2.1], by rw [HQ.out.2.2.1], by rw [HQ.out.2.2.2]; try simp [q2], by repeat (first | exact HB.out | refine below_drewN ?_ _)⟩
              case measure => simp [intOf]; omega
            · go_wp2_with fail
              go_big_quiet (fail)
              go_wp2_with fail
              go_big_quiet (fail)
              go_wp2_with fail
              go_big_quiet (fail)
              go_wp2
              go_roundw
              case rel => exact ⟨k + 1, by omega, by go_num, by rw [HQ.out.1], by rw [HQ.out.2.1], by rw [HQ.out.2.2.1], by rw [HQ.out.2.2.2]; try simp [q2], by repeat (first | exact HB.out | refine below_drewN ?_ _)⟩
              case measure => simp [intOf]; omega
          · have q1 : ¬ vk < xv := by omega
            have q2 : ¬ vk ≤ xv := by omega
            have q5 : ¬ vk = xv := by omega
            rw [if_neg q1] at n1
            rw [if_neg q5] at n2
            have q4 : (vk == xv) = false := by rw [beq_eq_false_iff_ne]; exact q5
            simp only [q1, q2, decide_false, Bool.not_false, Bool.and_true, Bool.and_false] at n3 n4
            have HQ : Hid (lowW (ps.take (k + 1)) xv = B ∧ wOf (ps.take (k + 1)) xv = O ∧ noLess (ps.take (k + 1)) xv = l ∧ noMore (ps.take (k + 1)) xv = false) := by
              refine ⟨?_, ?_, ?_, ?_⟩
              · rw [n1]; try omega
              · rw [n2]; try omega
              · rw [n3]; try simp
              · rw [n4]; try simp
            clear n1 n2 n3 n4 HN hlo2 hsm2
            cases g
            · go_wp2_with fail
              go_big_quiet (fail)
              go_wp2_with fail
              go_big_quiet (fail)
              go_wp2_with fail
              go_big_quiet (fail)
              go_wp2
              go_roundw
              case rel => exact ⟨k + 1, by omega, by go_num, by rw [HQ.out.1], by rw [HQ.out.2.1], by rw [HQ.out.2.2.1], by rw [HQ.out.2.2.2]; try simp [q2], by repeat (first | exact HB.out | refine below_drewN ?_ _)⟩
              case measure => simp [intOf]; omega
            · go_wp2_with fail
              go_big_quiet (fail)
              go_wp2_with fail
              go_big_quiet (fail)
              go_wp2_with fail
              go_big_quiet (fail)
              go_wp2
              go_roundw
              case rel => exact ⟨k + 1, by omega, by go_num, by rw [HQ.out.1], by rw [HQ.out.2.1], by rw [HQ.out.2.2.1], by rw [HQ.out.2.2.2]; try simp [q2], by repeat (first | exact HB.out | refine below_drewN ?_ _)⟩
              case measure => simp [intOf]; omega
        · have hkk : k = n := by omega
          subst hkk
          have bk2 : ¬ (k : Int) < (k : Int) := by omega
          have hta : ps.take k = ps := List.take_of_length_le (by rw [HPL.out]; exact Nat.le_refl _)
          rw [hta]
          have hxm : x ∈ L := by rw [hxi]; exact getD_mem hil
          have g1 := HS.out.each x hxm
          have g2 := HG.out.at hil
          rw [← hxi] at g2
          have g3 := total_at HG.out hil
          rw [← hxi, HS.out.total, ← HT.out] at g3
          have g4 := low_all HP.out x.v
          rw [← HT.out] at g4
          have f1 : ¬ lowW ps x.v < x.lo := by omega
          have f2 : ¬ x.hi < lowW ps x.v + wOf ps x.v := by omega
          have f3 : ¬ wOf ps x.v < x.wt := by omega
          have f4 : ¬ x.wt < 1 := by omega
          have f5 : ¬ x.lo < 0 := by omega
          have f6 : ¬ tot < x.hi := by omega
          have f7 : IntKind.i64.wrap (lowW ps x.v + wOf ps x.v) = lowW ps x.v + wOf ps x.v := wrapI2 (by omega) (by omega)
          have HLE : Hid (i = 0 → noLess ps x.v = true) := fun h0 => by
            have := HS.out.noLess HG.out
            rw [hxi, h0]; exact this
          have HGR : Hid (i = L.length - 1 → noMore ps x.v = true) := fun h0 => by
            have := HS.out.noMore HG.out
            rw [hxi, h0]; exact this
          have HPV : Hid (∀ j, i = j + 1 → wr.cell? ⟨lb, lo + j * 4, none⟩ = some (.int .i64 (L.getD j e0).v) ∧ ¬ x.v ≤ (L.getD j e0).v) := fun j hj => by
            refine ⟨(HE.out.below HB.out).v j (by omega), ?_⟩
            have := (HG.out.lt (i := j) (j := i) (by omega) hil).1
            rw [hxi]; omega
          clear g1 g2 g3 g4 hta hxm
          have hxc : Hid (x = L.getD i e0) := hxi
          clear hxi
          generalize lowW ps x.v = B at *
          generalize wOf ps x.v = O at *
          generalize noLess ps x.v = l at *
          generalize noMore ps x.v = g at *
          generalize x.v = xv at *
          generalize x.lo = xl at *
          generalize x.hi = xh at *
          generalize x.wt = xw at *
          have hrel' : Hid (Below w.heap.size w wr) := HB
          go_upto_region 21 with fail
          have q1 : IntKind.i64.wrap ((L.length : Int) - 1) = (L.length : Int) - 1 := wrapI2 (by omega) (by omega)
          rcases Nat.eq_zero_or_pos i with h0 | h0
          · subst h0
            have hl := HLE.out rfl
            subst hl
            have q10 : (((0 : Nat) : Int) == 0) = true := rfl
            have q11 : (0 == ((0 : Nat) : Int)) = true := rfl
            by_cases hlast : 0 = L.length - 1
            · have hg := HGR.out hlast
              subst hg
              have q2 : (0 : Int) = (L.length : Int) - 1 := by omega
              have q3 : ((0 : Int) == (L.length : Int) - 1) = true := by rw [beq_iff_eq]; omega
              have q4 : (((0 : Nat) : Int) == (L.length : Int) - 1) = true := by rw [beq_iff_eq]; omega
              clear q2
              have hlast' : Hid (0 = L.length - 1) := hlast
              clear hlast
              go_big_quiet (fail)
              go_wp2
              go_roundw
              case rel => exact ⟨0 + 1, by omega, by go_num, by repeat (first | exact hrel'.out | refine below_drewN ?_ _)⟩
              case measure => simp [intOf]; omega
            · have q2 : ¬ (0 : Int) = (L.length : Int) - 1 := by omega
              have q3 : ((0 : Int) == (L.length : Int) - 1) = false := by rw [beq_eq_false_iff_ne]; omega
              have q4 : (((0 : Nat) : Int) == (L.length : Int) - 1) = false := by rw [beq_eq_false_iff_ne]; omega
              go_big_quiet (fail)
              go_wp2
              go_roundw
              case rel => exact ⟨0 + 1, by omega, by go_num, by repeat (first | exact hrel'.out | refine below_drewN ?_ _)⟩
              case measure => simp [intOf]; omega
          · obtain ⟨j, hj⟩ : ∃ j, i = j + 1 := ⟨i - 1, by omega⟩
            obtain ⟨p1, p2⟩ := HPV.out j hj
            have q5 : (0 : Int) < (i : Int) := by omega
            have q6 : IntKind.i64.wrap ((i : Int) - 1) = (j : Int) := by rw [wrapI2 (by omega) (by omega)]; omega
            have q7 : (0 : Int) ≤ (j : Int) := by omega
            have q8 : (j : Int) < (L.length : Int) := by omega
            have q9 : ((i : Int) == 0) = false := by rw [beq_eq_false_iff_ne]; omega
            have hj' : Hid (i = j + 1) := hj
            clear hj
            generalize (L.getD j e0).v = pv at *
            by_cases hlast : i = L.length - 1
            · have hg := HGR.out hlast
              subst hg
              have q3 : ((i : Int) == (L.length : Int) - 1) = true := by rw [beq_iff_eq]; omega
              have hlast' : Hid (i = L.length - 1) := hlast
              clear hlast
              go_big_quiet (fail)
              go_wp2
              go_roundw
              case rel => exact ⟨i + 1, by omega, by go_num, by repeat (first | exact hrel'.out | refine below_drewN ?_ _)⟩
              case measure => simp [intOf]; omega
            · have q2 : ¬ (i : Int) = (L.length : Int) - 1 := by omega
              have q3 : ((i : Int) == (L.length : Int) - 1) = false := by rw [beq_eq_false_iff_ne]; omega
              go_big_quiet (fail)
              go_wp2
              go_roundw
              case rel => exact ⟨i + 1, by omega, by go_num, by repeat (first | exact hrel'.out | refine below_drewN ?_ _)⟩
              case measure => simp [intOf]; omega
    · have hiL : i = L.length := by omega
      subst hiL
      obtain ⟨lb, lo, rfl, HE⟩ : ∃ lb lo, la = some ⟨lb, lo, none⟩ ∧ Hid (EntsAt w lb lo L) := by
        rcases HL.out with ⟨_, h0 | ⟨b1, o1, e, hA⟩⟩
        · omega
        · exact ⟨b1, o1, e, hA⟩
      obtain ⟨p, hp⟩ : ∃ p, p = L.length - 1 := ⟨_, rfl⟩
      have c2 : wr.cell? ⟨lb, lo + p * 4 + 2, none⟩ = some (.int .i64 (L.getD p e0).hi) := (HE.out.below HB.out).hi p (by omega)
      have ht : (L.getD p e0).hi = tot := by
        rw [HT.out, ← HS.out.total, hp]
        unfold totalL
        rw [if_neg (by omega)]
      rw [ht] at c2
      have q6 : IntKind.i64.wrap ((L.length : Int) - 1) = (p : Int) := by rw [wrapI2 (by omega) (by omega)]; omega
      have q7 : (0 : Int) ≤ (p : Int) := by omega
      have q8 : (p : Int) < (L.length : Int) := by omega
      have q9 : ¬ (L.length : Int) < (L.length : Int) := by omega
      clear ht hp
      go_wp2
      go_ret
      exact ⟨rfl, HB.out⟩
end Go.Proofs.YtfcgnpchbcmdeaaGreat
