/-
  The contract of InBlocks: the summary of a feature.
  The library's sort at entries: the program's own text of it, laid beside the text for which the library's contract is proved; and what the comparison of two entries answers.
-/
import Derived.Test.YtfcgnpchbcmdeaaGreatZtah
import Derived.Test.YtfcgnpchbcmdeaaGreatZtai
import Derived.Deep.RegionHeld3
import Derived.Test.YtfcgnpchbcmdeaaGreatZtab
import Derived.Shelf.SlSortCmp.WholeK
import Derived.Shelf.SlSortCmp.NoneTotal
namespace Go.Proofs.YtfcgnpchbcmdeaaGreat
open Go.RowKit

/-- What is known of Of. -/
def OfSaid : Prop := ∀ (va wa : Option Addr) (vl vc wl wc : Nat) (vz wz : List Int) (w : World), IntsV w va vl vz → IntsV w wa wl wz → vl ≤ 2097152 → wl ≤ 2097152 →
    Calls Tryz.prog 45 #[.slice va vl vc, .slice wa wl wc] w fun e w' => ∃ v M, e = .returned v ∧ IsSum (pairsOf vz wz) M ∧ OwnE w' w.heap.size v (rankL 0 M) ∧ Below w.heap.size w w'

theorem sumE_ok {vs ws : List Int} (h : vs.length ≤ 2097152) : Good (sumE vs ws) ∧ (sumE vs ws).length ≤ vs.length ∧ totalL (sumE vs ws) ≤ 1000 * (vs.length : Int) := by
  have hs := sumOf_is (pairsOf vs ws)
  have hg : Good (sumE vs ws) := hs.good h
  have hl := pairsOf_len vs ws
  refine ⟨hg, ?_, ?_⟩
  · have := hg.len (U := (pairsOf vs ws).map fun p => p.1) (fun e he => by
      obtain ⟨p, hp, h1, _⟩ := (rank_vals (sumOf (pairsOf vs ws)) 0).1 e he
      obtain ⟨q, hq, e2⟩ := hs.sub p hp
      rw [List.mem_map]
      exact ⟨q, hq, by omega⟩)
    simp at this
    omega
  · have h1 := (SumTrue.of_sum hs).total
    have h2 := sumW_le (ps := pairsOf vs ws) (fun p hp => (pairs_in hp).1.2)
    unfold sumE
    rw [h1]
    have : ((pairsOf vs ws).length : Int) ≤ (vs.length : Int) := by omega
    omega

theorem IntsV.part {w : World} {b off n fr m : Nat} {zs : List Int} (h : IntsV w (some ⟨b, off, none⟩) n zs) (hm : fr + m ≤ n) : IntsV w (some ⟨b, off + fr, none⟩) m ((zs.drop fr).take m) := by
  obtain ⟨h1, h2, h3⟩ := h
  refine ⟨by simp; omega, fun z hz => h2 z (List.mem_of_mem_drop (List.mem_of_mem_take hz)), ?_⟩
  by_cases h0 : m = 0
  · exact .inl h0
  · rcases h3 with h3 | ⟨b', o', e, hlt, hc⟩
    · omega
    · injection e with e
      injection e with e1 e2
      subst e1 e2
      refine .inr ⟨b, off + fr, rfl, hlt, fun i hi => ?_⟩
      rw [show off + fr + i = off + (fr + i) by omega, hc (fr + i) (by omega)]
      congr 2
      simp [List.getD, List.getElem?_drop, hi]

theorem ints_keep {w w' : World} {b off n B : Nat} {zs : List Int} (h : IntsV w (some ⟨b, off, none⟩) n zs) (hb : Below B w w') (hlt : b < B) : IntsV w' (some ⟨b, off, none⟩) n zs := by
  obtain ⟨h1, h2, h3⟩ := h
  refine ⟨h1, h2, ?_⟩
  rcases h3 with h3 | ⟨b', o', e, hlt', hc⟩
  · exact .inl h3
  · injection e with e
    injection e with e1 e2
    subst e1 e2
    exact .inr ⟨b, off, rfl, Nat.lt_of_lt_of_le hlt' hb.size, fun i hi => (hb.cell (p := ⟨b, off + i, none⟩) hlt).trans (hc i hi)⟩

set_option maxRecDepth 100000 in
set_option maxHeartbeats 4000000 in
theorem inBlocks_any (hOf : OfSaid) (va wa : Option Addr) (n vcap wcap size : Nat) (vz wz : List Int) (w : World) (hv : IntsV w va n vz) (hw : IntsV w wa n wz) (hn : n ≤ 1000) (hc1 : n ≤ vcap) (hc2 : n ≤ wcap) (hs : 2 ≤ size) (hs2 : size ≤ 32) :
    Calls Tryz.prog 274 #[.slice va n vcap, .slice wa n wcap, .int .i64 size] w fun e w' => ∃ v, e = .returned v ∧ OwnE w' w.heap.size v (inBlocksL size vz wz) ∧ Below w.heap.size w w' := by
  have HV : Hid (IntsV w va n vz) := hv
  have HW : Hid (IntsV w wa n wz) := hw
  have HOF : Hid OfSaid := hOf
  have HLV : Hid (vz.length = n ∧ wz.length = n) := ⟨hv.1, hw.1⟩
  clear hv hw hOf
  go_enter Tryz.func274, Tryz.ntmps274
  go_wp2_with fail
  go_loopw [7, 8] (fun tl tf wr => ∃ (fr fu : Nat) (Ls : List (List Ent)), tf = .int .i64 fr ∧ fr ≤ n + size ∧ Hid (LevM wr w.heap.size tl Ls ∧ LevOk Ls ∧ totals Ls ≤ 1000 * (fr : Int) ∧ Ls.length ≤ fr ∧ n - fr ≤ fu ∧ blocksF size fu Ls (vz.drop fr) (wz.drop fr) = blocksF size n [] vz wz) ∧ Below w.heap.size w wr) (fun _ tf _ => n + size - (intOf tf).toNat)
  case atStart => exact ⟨0, n, [], rfl, Nat.zero_le _, ⟨⟨[], World.ownsRow_nil _ _ _ _, fun i hi => by simp at hi⟩, LevOk.nil, by simp [totals], by simp, by omega, rfl⟩, Below.refl _ _⟩
  case round =>
    obtain ⟨fr, fu, Ls, rfl, hfr, HR, hbel⟩ := hrel
    have hsz := hbel.size
    by_cases hkn : fr < n
    · rcases HV.out with ⟨_, _, h0 | ⟨b1, o1, rfl, hb1, _⟩⟩
      · omega
      rcases HW.out with ⟨_, _, h0 | ⟨b2, o2, rfl, hb2, _⟩⟩
      · omega
      obtain ⟨te, hto⟩ : ∃ te, te = min (fr + size) n := ⟨_, rfl⟩
      have hlt1 : (fr : Int) < (n : Int) := by omega
      have hle1 : (fr : Int) ≤ (te : Int) := by omega
      have hle2 : (te : Int) ≤ (vcap : Int) := by omega
      have hle3 : (te : Int) ≤ (wcap : Int) := by omega
      have hne1 : ¬ vcap = fr := by omega
      have hne2 : ¬ wcap = fr := by omega
      have HTO : Hid (te = min (fr + size) n) := hto
      clear hto
      have hmm : te - fr ≤ size := by have := HTO.out; omega
      go_upto_region 5 with fail
      go_cut [9] (fun v wx => v = .int .i64 te ∧ wx = wr)
      case first =>
        by_cases hc : (fr : Int) + (size : Int) ≤ (n : Int)
        · have e1 : (te : Int) = (fr : Int) + (size : Int) := by have := HTO.out; omega
          have E1 : Hid ((te : Int) = (fr : Int) + (size : Int)) := e1
          clear e1 hle1 hle2 hle3
          go_wp2
          go_meet
          exact ⟨by rw [E1.out], rfl⟩
        · have e1 : (te : Int) = (n : Int) := by have := HTO.out; omega
          have E1 : Hid ((te : Int) = (n : Int)) := e1
          clear e1 hle1 hle2 hle3
          go_wp2
          go_meet
          exact ⟨by rw [E1.out], rfl⟩
      case rest =>
        obtain ⟨rfl, hwc⟩ := hcut
        obtain rfl := hwc.symm
        clear hwc
        have h25 : Hid (∀ W : World, Below w.heap.size w W → Calls Tryz.prog 45 #[.slice (some ⟨b1, o1 + fr, none⟩) (te - fr) (vcap - fr), .slice (some ⟨b2, o2 + fr, none⟩) (te - fr) (wcap - fr)] W fun e w' => ∃ v, e = .returned v ∧ OwnE w' W.heap.size v (sumE ((vz.drop fr).take size) ((wz.drop fr).take size)) ∧ Below W.heap.size W w') := by
          intro W hW
          have hp1 := (ints_keep HV.out hW hb1)
          have hp2 := (ints_keep HW.out hW hb2)
          have q1 := hp1.part (fr := fr) (m := te - fr) (by have := HTO.out; omega)
          have q2 := hp2.part (fr := fr) (m := te - fr) (by have := HTO.out; omega)
          have el : ∀ z : List Int, z.length = n → (z.drop fr).take (te - fr) = (z.drop fr).take size := fun z hz => by
            by_cases hc : fr + size ≤ n
            · rw [show te - fr = size by have := HTO.out; omega]
            · rw [List.take_of_length_le (by simp; have := HTO.out; omega), List.take_of_length_le (by simp; omega)]
          rw [el _ HLV.out.1] at q1
          rw [el _ HLV.out.2] at q2
          refine (HOF.out _ _ _ (vcap - fr) _ (wcap - fr) _ _ W q1 q2 (by omega) (by omega)).mono ?_
          rintro e w' ⟨v, M, rfl, hM, ho, hb⟩
          refine ⟨v, rfl, ?_, hb⟩
          unfold sumE
          rw [sumOf_eq hM]
          exact ho
        obtain ⟨hL, hok, htot, hll, hfu, heq⟩ := HR.out
        have hsum := sumE_ok (vs := (vz.drop fr).take size) (ws := (wz.drop fr).take size) (by simp; have := HLV.out; omega)
        have hclen : ((vz.drop fr).take size).length ≤ size := by simp; omega
        have htk := takeIn_ok (size := (size : Int)) (by omega) (by omega) hok hsum.1 (by omega) (by omega)
        obtain ⟨f', hf'⟩ : ∃ f', fu = f' + 1 := ⟨fu - 1, by omega⟩
        have heq2 : blocksF size f' (takeInL size Ls (sumE ((vz.drop fr).take size) ((wz.drop fr).take size))) (vz.drop (fr + size)) (wz.drop (fr + size)) = blocksF size n [] vz wz := by
          rw [← heq, hf']
          simp only [blocksF]
          rw [if_neg (by simp; have := HLV.out; omega), List.drop_drop, List.drop_drop]
        have HNX : Hid (LevOk (takeInL size Ls (sumE ((vz.drop fr).take size) ((wz.drop fr).take size))) ∧ totals (takeInL size Ls (sumE ((vz.drop fr).take size) ((wz.drop fr).take size))) ≤ 1000 * ((fr + size : Nat) : Int) ∧ (takeInL size Ls (sumE ((vz.drop fr).take size) ((wz.drop fr).take size))).length ≤ fr + size ∧ n - (fr + size) ≤ f' ∧ blocksF size f' (takeInL size Ls (sumE ((vz.drop fr).take size) ((wz.drop fr).take size))) (vz.drop (fr + size)) (wz.drop (fr + size)) = blocksF size n [] vz wz) := by
          refine ⟨htk.1, ?_, ?_, by omega, heq2⟩
          · rw [htk.2]; omega
          · have := takeIn_len (size : Int) Ls (sumE ((vz.drop fr).take size) ((wz.drop fr).take size)); omega
        have HTK : Hid (∀ (W : World) (u : Value), Below wr.heap.size wr W → OwnE W w.heap.size u (sumE ((vz.drop fr).take size) ((wz.drop fr).take size)) → Calls Tryz.prog 318 #[u7, u, .int .i64 size] W fun e w' => ∃ v', e = .returned v' ∧ LevM w' w.heap.size v' (takeInL size Ls (sumE ((vz.drop fr).take size) ((wz.drop fr).take size))) ∧ Below w.heap.size W w') := by
          intro W u hW hu
          obtain ⟨vs, hX⟩ := hL
          exact takeIn_any w.heap.size u7 u Ls _ size W ⟨vs, hX.below hW⟩ hu hok hsum.1 (by omega) (by omega) (by omega) (by omega) (by omega) (by have := hW.size; omega)
        clear hL hok htot hll hfu heq hsum hclen htk heq2 HR
        generalize sumE ((vz.drop fr).take size) ((wz.drop fr).take size) = sE at *
        go_wp2_with fail
        go_region_held3 (fun _ => True) (trivial) (first | (go_at_call 45; refine (h25.out wr.drew hbel.drew).mono ?_; rintro e w1 ⟨vv, rfl, ho1, hb1'⟩) | (go_at_call 318; refine (HTK.out w1 vv ((Below.refl _ _).drew.trans hb1') (ho1.mono (by have := hb1'.size; simp at this ⊢; omega))).mono ?_; rintro e w2 ⟨v2, rfl, hL2, hb2'⟩))
        have HF : Hid (LevM w2 w.heap.size v2 (takeInL size Ls sE)) := hL2
        have hb4 : Below w.heap.size w w2 := (hbel.drew.trans (hb1'.mono hsz)).trans hb2'
        clear hL2 hb2' hb1' ho1 h25 HTK hf'
        go_wp2
        go_roundw
        case rel => exact ⟨fr + size, f', _, by go_num, by omega, ⟨HF.out, HNX.out⟩, hb4⟩
        case measure => simp [intOf]; omega
    · have hnk : ¬ (fr : Int) < (n : Int) := by omega
      have HR2 : Hid (LevM wr w.heap.size u7 Ls ∧ LevOk Ls ∧ totals Ls ≤ 2000000 ∧ Ls.length ≤ 2000 ∧ inBlocksL size vz wz = foldLev size [] Ls) := by
        obtain ⟨h1, h2, h3, h4, h5, h6⟩ := HR.out
        refine ⟨h1, h2, by omega, by omega, ?_⟩
        unfold inBlocksL
        rw [HLV.out.1, ← h6]
        cases fu with
        | zero => rfl
        | succ f =>
          simp only [blocksF]
          rw [if_pos (by simp; have := HLV.out; omega)]
      obtain ⟨vs, hX⟩ := HR2.out.1
      have hvf : ∃ a c, u7 = .slice a Ls.length c := by
        rcases hX.row.2 with ⟨rfl, h1⟩ | ⟨g, cap, cur, rfl, _⟩
        · exact ⟨none, 0, by rw [h1]⟩
        · exact ⟨_, _, rfl⟩
      obtain ⟨la, lc, rfl⟩ := hvf
      have HX : Hid (LevX wr w.heap.size (.slice la Ls.length lc) vs Ls) := hX
      have HRR : Hid (LevOk Ls ∧ totals Ls ≤ 2000000 ∧ inBlocksL size vz wz = foldLev size [] Ls) := ⟨HR2.out.2.1, HR2.out.2.2.1, HR2.out.2.2.2.2⟩
      have hln := HR2.out.2.2.2.1
      obtain ⟨m, hm⟩ : ∃ m, m = Ls.length := ⟨_, rfl⟩
      have HM : Hid (m = Ls.length) := hm
      rw [← hm] at hln ⊢
      clear hX hm HR HR2 HOF
      obtain ⟨wl, hwl⟩ : ∃ wl, wl = wr := ⟨wr, rfl⟩
      subst hwl
      go_wp2_with fail
      go_loopw [40, 10] (fun ti tal wr => ∃ (k : Nat) (al : List Ent), ti = .int .i64 k ∧ k ≤ m ∧ Hid (OwnE wr w.heap.size tal al ∧ Good al ∧ al.length ≤ 32 ∧ totalL al + totals (Ls.drop k) ≤ 2000000 ∧ foldLev size al (Ls.drop k) = foldLev size [] Ls) ∧ Below wl.heap.size wl wr) (fun ti _ _ => m - (intOf ti).toNat)
      case atStart => exact ⟨0, [], rfl, Nat.zero_le _, ⟨OwnE.nil _ _, Good.nil, by simp, by have := HRR.out.2.1; simpa [totalL] using this, rfl⟩, Below.refl _ _⟩
      case round =>
        obtain ⟨k, al, rfl, hk, HR, hbq⟩ := hrel
        have hsq := hbq.size
        by_cases hkm : k < m
        · have hkl : k < Ls.length := by rw [← HM.out]; exact hkm
          obtain ⟨hal, gal, lal, tal, heq⟩ := HR.out
          have hXq := HX.out.below hbq
          obtain ⟨g, cap, hv, hgb, hgl, hcell, _⟩ := hXq.view (by omega)
          injection hv with hv1 hv2 hv3
          subst hv1 hv3
          clear hv2
          have hck := hcell k hkl
          have hE := hXq.each k hkl
          have gO := HRR.out.1.good _ (getD_memL hkl)
          have lO := HRR.out.1.len _ (getD_memL hkl)
          have tO := totals_drop hkl
          have tP := totals_pos (Ls := Ls.drop (k + 1)) (fun x hx => HRR.out.1.good x (List.mem_of_mem_drop hx))
          obtain ⟨ao, co, hvo, hEo, hno, _⟩ := hE.seen (by omega)
          rw [hvo] at hck
          obtain ⟨aa, ca, hva, hEa, hna, _⟩ := hal.seen (by omega)
          subst hva
          have hd : Ls.drop k = Ls.getD k [] :: Ls.drop (k + 1) := by
            rw [List.drop_eq_getElem_cons hkl]; simp [List.getD, hkl]
          rw [hd] at heq
          simp only [foldLev] at heq
          have gj : Good (joinL al (Ls.getD k [])) := joinL_good gal gO (by omega)
          have gc : Good (cutL (joinL al (Ls.getD k [])) size) := gj.sub (cutL_sub gj size)
          have lcu := cutL_len (joinL al (Ls.getD k [])) (size := (size : Int)) (by omega)
          have lj := joinL_len al (Ls.getD k [])
          have tc : totalL (cutL (joinL al (Ls.getD k [])) size) = totalL al + totalL (Ls.getD k []) := by rw [total_cut, total_join]
          have HJ : Hid (Calls Tryz.prog 46 #[.slice aa al.length ca, .slice ao (Ls.getD k []).length co] wr fun e w' => ∃ v, e = .returned v ∧ OwnE w' wr.heap.size v (joinL al (Ls.getD k [])) ∧ Below wr.heap.size wr w') := join_any aa ao al _ ca co wr hEa hEo gal gO
          have HREST : Hid (Good (joinL al (Ls.getD k [])) ∧ (joinL al (Ls.getD k [])).length ≤ 64 ∧ Good (cutL (joinL al (Ls.getD k [])) size) ∧ (cutL (joinL al (Ls.getD k [])) size).length ≤ 32 ∧ totalL (cutL (joinL al (Ls.getD k [])) size) + totals (Ls.drop (k + 1)) ≤ 2000000 ∧ foldLev size (cutL (joinL al (Ls.getD k [])) size) (Ls.drop (k + 1)) = foldLev size [] Ls) := ⟨gj, by omega, gc, by omega, by omega, heq⟩
          have bk1 : (0 : Int) ≤ (k : Int) := by omega
          have bk2 : (k : Int) < (m : Int) := by omega
          clear hal gal tal heq hXq hcell hE gO lO tO tP hvo hEo hno hEa hna hd gj gc lcu lj tc HR
          generalize (Ls.getD k []).length = no at *
          go_wp2_with fail
          refine HJ.out.mono ?_
          rintro e w1 ⟨vj, rfl, hoj, hbj⟩
          have hs1 := hbj.size
          obtain ⟨aj, cj, rfl, hEj, hnj, _⟩ := hoj.seen (by have := HREST.out.2.1; omega)
          have HCJ : Hid (Calls Tryz.prog 47 #[.slice aj (joinL al (Ls.getD k [])).length cj, .int .i64 size] w1 fun e w' => ∃ v, e = .returned v ∧ OwnE w' w1.heap.size v (cutL (joinL al (Ls.getD k [])) size) ∧ Below w1.heap.size w1 w') := cut_any aj _ cj size w1 hEj HREST.out.1 hnj
          clear hoj hEj hnj HJ
          generalize (joinL al (Ls.getD k [])).length = nj at *
          go_wp2_with fail
          refine HCJ.out.mono ?_
          rintro e w2 ⟨vc, rfl, hoc, hbc⟩
          have hs2 := hbc.size
          have hb4 : Below wl.heap.size wl w2 := hbq.trans ((hbj.trans (hbc.mono hs1)).mono hsq)
          have HF : Hid (OwnE w2 w.heap.size vc (cutL (joinL al (Ls.getD k [])) size)) := hoc.mono (by omega)
          clear hoc hbc hbj HCJ hck
          go_wp2
          go_roundw
          case rel => exact ⟨k + 1, _, by go_num, by omega, ⟨HF.out, HREST.out.2.2⟩, hb4⟩
          case measure => simp [intOf]; omega
        · have hnk2 : ¬ (k : Int) < (m : Int) := by omega
          have HF : Hid (OwnE wr w.heap.size u10 (inBlocksL size vz wz) ∧ Below w.heap.size w wr) := by
            obtain ⟨h1, _, _, _, h5⟩ := HR.out
            rw [List.drop_eq_nil_of_le (by have := HM.out; omega)] at h5
            simp only [foldLev] at h5
            rw [HRR.out.2.2, ← h5]
            exact ⟨h1, hbel.trans (hbq.mono hsz)⟩
          clear HR
          go_wp2
          go_ret
          exact ⟨_, rfl, HF.out.1, HF.out.2⟩
end Go.Proofs.YtfcgnpchbcmdeaaGreat

namespace Go.Proofs.YtfcgnpchbcmdeaaGreat
open Go.Shelf Go.RowKit Go.Lib Go.Sort

def sortE_ren : Go.Shelf.Ren := ⟨fun | 6 => 81 | 15 => 150 | 14 => 149 | 28 => 201 | 29 => 202 | 20 => 193 | 21 => 194 | 22 => 195 | 23 => 196 | 24 => 197 | 25 => 198 | 26 => 199 | 27 => 200 | 46 => 247 | 47 => 248 | 48 => 249 | 49 => 250 | 50 => 251 | 57 => 293 | n => n, fun | 22 => 29 | 24 => 98 | 25 => 146 | 3 => 3 | 39 => 243 | 0 => 0 | 53 => 185 | 55 => 306 | 4 => 4 | 46 => 299 | 45 => 298 | 50 => 238 | 5 => 5 | 9 => 9 | 66 => 342 | 70 => 346 | 76 => 374 | 77 => 294 | n => n, fun n => n⟩

theorem sortE : SlLaysF0.n6 Tryz.prog sortE_ren := {
  mixed := by kernel_rfl,
  f6 := ⟨Tryz.f81.name, by decide, Tryz.func81.trans (congrArg some (by kernel_rfl))⟩,
  f14 := ⟨Tryz.f149.name, by decide, Tryz.func149.trans (congrArg some (by kernel_rfl))⟩,
  f15 := Tryz.func150.trans (congrArg some (by kernel_rfl)),
  f20 := ⟨Tryz.f193.name, by decide, Tryz.func193.trans (congrArg some (by kernel_rfl))⟩,
  f21 := ⟨Tryz.f194.name, by decide, Tryz.func194.trans (congrArg some (by kernel_rfl))⟩,
  f22 := ⟨Tryz.f195.name, by decide, Tryz.func195.trans (congrArg some (by kernel_rfl))⟩,
  f23 := ⟨Tryz.f196.name, by decide, Tryz.func196.trans (congrArg some (by kernel_rfl))⟩,
  f24 := ⟨Tryz.f197.name, by decide, Tryz.func197.trans (congrArg some (by kernel_rfl))⟩,
  f25 := ⟨Tryz.f198.name, by decide, Tryz.func198.trans (congrArg some (by kernel_rfl))⟩,
  f26 := ⟨Tryz.f199.name, by decide, Tryz.func199.trans (congrArg some (by kernel_rfl))⟩,
  f27 := ⟨Tryz.f200.name, by decide, Tryz.func200.trans (congrArg some (by kernel_rfl))⟩,
  f28 := Tryz.func201.trans (congrArg some (by kernel_rfl)),
  f29 := Tryz.func202.trans (congrArg some (by kernel_rfl)),
  f46 := ⟨Tryz.f247.name, by decide, Tryz.func247.trans (congrArg some (by kernel_rfl))⟩,
  f47 := Tryz.func248.trans (congrArg some (by kernel_rfl)),
  f48 := Tryz.func249.trans (congrArg some (by kernel_rfl)),
  f49 := ⟨Tryz.f250.name, by decide, Tryz.func250.trans (congrArg some (by kernel_rfl))⟩,
  f50 := ⟨Tryz.f251.name, by decide, Tryz.func251.trans (congrArg some (by kernel_rfl))⟩,
  f57 := ⟨Tryz.f293.name, by decide, Tryz.func293.trans (congrArg some (by kernel_rfl))⟩,
  t0 := Tryz.underlying0,
  a0 := Tryz.isAgg0,
  z0 := Tryz.sizeOf0,
  v0 := Tryz.zeroValue0,
  t3 := Tryz.underlying3,
  a3 := Tryz.isAgg3,
  z3 := Tryz.sizeOf3,
  v3 := Tryz.zeroValue3,
  t4 := Tryz.underlying4,
  a4 := Tryz.isAgg4,
  z4 := Tryz.sizeOf4,
  v4 := Tryz.zeroValue4,
  t5 := Tryz.underlying5,
  a5 := Tryz.isAgg5,
  z5 := Tryz.sizeOf5,
  v5 := Tryz.zeroValue5,
  t9 := Tryz.underlying9,
  a9 := Tryz.isAgg9,
  z9 := Tryz.sizeOf9,
  v9 := Tryz.zeroValue9,
  t22 := Tryz.underlying29,
  a22 := Tryz.isAgg29,
  z22 := Tryz.sizeOf29,
  v22 := Tryz.zeroValue29,
  t25 := Tryz.underlying146,
  a25 := Tryz.isAgg146,
  z25 := Tryz.sizeOf146,
  v25 := Tryz.zeroValue146,
  t39 := Tryz.underlying243,
  a39 := Tryz.isAgg243,
  z39 := Tryz.sizeOf243,
  v39 := Tryz.zeroValue243,
  t45 := Tryz.underlying298,
  a45 := Tryz.isAgg298,
  z45 := Tryz.sizeOf298,
  v45 := Tryz.zeroValue298,
  t46 := Tryz.underlying299,
  a46 := Tryz.isAgg299,
  z46 := Tryz.sizeOf299,
  v46 := Tryz.zeroValue299,
  t50 := Tryz.underlying238,
  a50 := Tryz.isAgg238,
  z50 := Tryz.sizeOf238,
  v50 := Tryz.zeroValue238,
  t53 := Tryz.underlying185,
  a53 := Tryz.isAgg185,
  z53 := Tryz.sizeOf185,
  v53 := Tryz.zeroValue185,
  t55 := Tryz.underlying306,
  a55 := Tryz.isAgg306,
  z55 := Tryz.sizeOf306,
  v55 := Tryz.zeroValue306,
  t66 := Tryz.underlying342,
  a66 := Tryz.isAgg342,
  z66 := Tryz.sizeOf342,
  v66 := Tryz.zeroValue342,
  t70 := Tryz.underlying346,
  a70 := Tryz.isAgg346,
  z70 := Tryz.sizeOf346,
  v70 := Tryz.zeroValue346,
  t76 := Tryz.underlying374,
  a76 := Tryz.isAgg374,
  z76 := Tryz.sizeOf374,
  v76 := Tryz.zeroValue374,
  t77 := Tryz.underlying294,
  a77 := Tryz.isAgg294,
  z77 := Tryz.sizeOf294,
  v77 := Tryz.zeroValue294 }

/-- A VALUE AND ITS WEIGHT AS AN ENTRY's CELLS. -/
def encP (x : Int × Int) : List Value := [.int .i64 x.1, .int .i64 0, .int .i64 0, .int .i64 x.2]

set_option maxHeartbeats 400000 in
theorem compare_any (x y : Int) (w : World) : Calls Tryz.prog 151 #[.int .i64 x, .int .i64 y] w fun e w' => e = .returned (.int .i64 (Lib.compareInt x y)) ∧ w' = w := by
  unfold Lib.compareInt
  rcases Int.lt_trichotomy x y with h | h | h
  · rw [if_pos h]
    go_enter Tryz.func151, Tryz.ntmps151
    go_wp2
    all_goals go_ret
    all_goals exact ⟨rfl, rfl⟩
  · subst h
    rw [if_neg (Int.lt_irrefl _), if_neg (Int.lt_irrefl _)]
    go_enter Tryz.func151, Tryz.ntmps151
    go_wp2
    all_goals go_ret
    all_goals exact ⟨rfl, rfl⟩
  · have h2 : ¬ x < y := by omega
    rw [if_neg h2, if_pos h]
    go_enter Tryz.func151, Tryz.ntmps151
    go_wp2
    all_goals go_ret
    all_goals exact ⟨rfl, rfl⟩

set_option maxHeartbeats 1000000 in
theorem byValue_any (x y : Int × Int) (W : World) : Calls Tryz.prog 82 #[.agg #[.int .i64 x.1, .int .i64 0, .int .i64 0, .int .i64 x.2], .agg #[.int .i64 y.1, .int .i64 0, .int .i64 0, .int .i64 y.2]] W fun e w' => e = .returned (.int .i64 (Lib.compareInt x.1 y.1)) ∧ ∃ q os', w' = grow (W.drewN q) os' := by
  have hcon := fun W' => compare_any x.1 y.1 W'
  generalize Lib.compareInt x.1 y.1 = r at hcon ⊢
  have HC : Hid (∀ W', Calls Tryz.prog 151 #[.int .i64 x.1, .int .i64 y.1] W' fun e w' => e = .returned (.int .i64 r) ∧ w' = W') := hcon
  clear hcon
  go_enter Tryz.func82, Tryz.ntmps82
  go_wp2_with (go_at_call 151; refine (HC.out _).mono ?_; rintro e w' ⟨rfl, rfl⟩)
  go_ret
  exact ⟨rfl, 0, _, by rw [alloc_eq_grow, alloc_eq_grow, grow_grow]; rfl⟩

theorem cmpLaysE (blk off size : Nat) (w : World) : CmpLays Tryz.prog 82 #[] encP 4 (fun x y => Lib.compareInt x.1 y.1) blk off size w :=
  fun _ _ _ _ x y => byValue_any x y _

theorem ltLo (x y : Int × Int) : ltOf (fun x y : Int × Int => Lib.compareInt x.1 y.1) x y = decide (x.1 < y.1) := by
  unfold ltOf Lib.compareInt
  by_cases h1 : x.1 < y.1
  · simp [h1]
  · by_cases h2 : y.1 < x.1 <;> simp [h1, h2]

theorem swoLo : SWO (ltOf fun x y : Int × Int => Lib.compareInt x.1 y.1) where
  irrefl x := by rw [ltLo]; simp
  trans x y z h1 h2 := by rw [ltLo] at *; simp at *; omega
  ntrans x y z h1 h2 := by rw [ltLo] at *; simp at *; omega

theorem sort_any (blk cap : Nat) (d : Array (Int × Int)) (w : World) (hH : HoldsK encP 4 w blk 0 d) (hblk : blk < w.heap.size) (hsz : d.size < 4611686018427387904) :
    Calls Tryz.prog 81 #[.slice (some ⟨blk, 0, none⟩) d.size cap, .func (.func 82) #[] #[]] w fun e w' => e = .returned (.tuple #[]) ∧ ∃ (d' : Array (Int × Int)) (n : Nat) (os : Array Obj), PermIn 0 d.size d d' ∧ SortedIn (ltOf fun x y : Int × Int => Lib.compareInt x.1 y.1) 0 d.size d' ∧ w' = sortWorldK encP 4 w blk 0 n d' os := by
  have eg : ∀ args w, (callFunc 82 args).run Tryz.prog w = .ok (.enter 82 args) w := enters_of Tryz.func82 (by kernel_rfl) rfl
  exact AnyQ.slices_SortFunc sortE 4 Tryz.isAgg98 Tryz.sizeOf98 encP (fun _ => rfl) (fun x v hv => by simp [encP] at hv; rcases hv with rfl | rfl | rfl | rfl <;> rfl) (fun x y => Lib.compareInt x.1 y.1) swoLo 82 #[] blk 0 cap d w eg (cmpLaysE blk 0 d.size w) hH hblk hsz

theorem sort_none (p : Option Addr) (cap : Nat) (w : World) :
    Calls Tryz.prog 81 #[.slice p 0 cap, .func (.func 82) #[] #[]] w fun e w' => e = .returned (.tuple #[]) ∧ w' = w := AnyF.slices_SortFunc_none { sortE with } p cap _ w
end Go.Proofs.YtfcgnpchbcmdeaaGreat
