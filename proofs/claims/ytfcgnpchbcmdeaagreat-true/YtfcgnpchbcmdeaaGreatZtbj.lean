/-
  The contract of seat: the bundle that a feature is in, and its offset there.
  The contract of Lookup where a dense column's number is within the feature's bins.
  The contract of a handed-out dataset's Lookup, on the same way.
  The contract of granarykeep's fed: a text read in pieces, however it is cut.
  The contract of granarykeep's head: the document's example.
  The contract of granarykeep's head.
-/
import Derived.Test.YtfcgnpchbcmdeaaGreatZtbi
import Derived.Test.YtfcgnpchbcmdeaaGreatZtaq
import Derived.Test.YtfcgnpchbcmdeaaGreatZtbl
import Derived.Test.YtfcgnpchbcmdeaaGreatZtao
namespace Go.Proofs.YtfcgnpchbcmdeaaGreat
open Go.RowKit

/-- Where a feature sits: in bundle bi, at place p, and nowhere ahead of that. -/
structure SeatOk (D : DSS) (f bi p : Nat) : Prop where
  hb : bi < D.bs.length
  hp : p < (D.bs.getD bi b0S).fs.length
  at_ : (D.bs.getD bi b0S).fs.getD p 0 = f
  no : ∀ i j, i ≤ bi → j < (D.bs.getD i b0S).fs.length → (i < bi ∨ j < p) → (D.bs.getD i b0S).fs.getD j 0 ≠ f
  fl : ∀ i, i ≤ bi → (D.bs.getD i b0S).fs.length ≤ 100
  fk : ∀ i j, i ≤ bi → j < (D.bs.getD i b0S).fs.length → (D.bs.getD i b0S).fs.getD j 0 < D.ks.length
  mn : ∀ i, i < D.ks.length → (D.ks.getD i k0S).many ≤ 100

def offK (D : DSS) (i j : Nat) : Nat := 1 + sumM D.ks ((D.bs.getD i b0S).fs.take j)
theorem sumM_le (Ks : List KS) : ∀ fs : List Nat, (∀ f ∈ fs, (Ks.getD f k0S).many ≤ 100) → sumM Ks fs ≤ 100 * fs.length
  | [], _ => by simp [sumM]
  | f :: fs, h => by
    have h1 := sumM_le Ks fs (fun x hx => h x (by simp [hx]))
    have h2 := h f (by simp)
    unfold sumM at h1 ⊢
    simp only [List.map_cons, List.sum_cons, List.length_cons]
    omega

set_option maxRecDepth 100000 in
set_option maxHeartbeats 8000000 in
theorem seat_any (db f bi p : Nat) (vK vB vX : Value) (kvs bvs : List (Value × Value)) (X : List XS) (D : DSS) (w : World) (h : MadeX w db vK vB vX kvs bvs X D) (hs : SeatOk D f bi p) (hbl : D.bs.length ≤ 1000) :
    Calls Tryz.prog 145 #[.pointer (some ⟨db, 0, none⟩), .int .i64 (f : Nat)] w fun e w' => e = .returned (.tuple #[.agg #[(bvs.getD bi vv0).1, (bvs.getD bi vv0).2], .int .i64 (offK D bi p : Nat)]) ∧ Below w.heap.size w w' := by
  have HM : Hid (MadeX w db vK vB vX kvs bvs X D) := h
  have HS : Hid (SeatOk D f bi p) := hs
  obtain ⟨qb, cB, hvB, hqbl, _, _⟩ := h.ds.bn.at (i := 0) (by have := hs.hb; omega)
  subst hvB
  have hkpos : 0 < D.ks.length := by have := hs.fk bi p (Nat.le_refl _) hs.hp; omega
  obtain ⟨qk, cK, _, _, _, _, hvK, hqkl, _⟩ := h.kn.at (i := 0) hkpos
  subst hvK
  have d1 : w.cell? ⟨db, 1, none⟩ = some (.slice (some ⟨qb, 0, none⟩) D.bs.length cB) := cell_of_row _ _ 1 _ 168 (0, 0) h.ds.blk
  have d0 : w.cell? ⟨db, 0, none⟩ = some (.slice (some ⟨qk, 0, none⟩) D.ks.length cK) := cell_of_row _ _ 0 _ 168 (0, 0) h.ds.blk
  have hdl : db < w.heap.size := (Array.getElem?_eq_some_iff.1 h.ds.blk).1
  clear h hs
  generalize hnb : D.bs.length = nb at *
  generalize hnk : D.ks.length = nk at *
  have HN : Hid (D.bs.length = nb ∧ D.ks.length = nk) := ⟨hnb, hnk⟩
  clear hnb hnk
  go_enter Tryz.func145, Tryz.ntmps145
  go_wp2_with fail
  go_loopw [13] (fun ti wr => ∃ (i : Nat) (u0 u1 : Value), ti = .int .i64 i ∧ i ≤ bi ∧ Hid (wr.heap[w.heap.size]? = some (.cells #[u0, u1] 163 (0, 0)) ∧ Below w.heap.size w wr)) (fun ti _ => nb - (intOf ti).toNat)
  case atStart => exact ⟨0, .slice none 0 0, .nilIface, rfl, Nat.zero_le _, heap_alloc_new _ _, (Below.refl _ _).alloc (Nat.le_refl _) _⟩
  case round =>
    obtain ⟨i, u0, u1, rfl, hib, HR⟩ := hrel
    have hin : i < nb := by have := HS.out.hb; have := HN.out.1; omega
    have hiL : i < D.bs.length := by rw [HN.out.1]; exact hin
    obtain ⟨q', c', hv', hql, k0, k1⟩ := HM.out.ds.bn.at hiL
    have hqq : q' = qb := by injection hv' with h1; injection h1 with h1; injection h1 with h1 _; exact h1.symm
    subst hqq
    obtain ⟨hI, hcol⟩ := HM.out.ds.bn.each i hiL
    obtain ⟨fa, fcc, hvf⟩ := hI.shape
    obtain ⟨ct, cp, hvc⟩ := hcol.iface
    rw [natI_len] at hvf
    rw [hvf] at k0 hI
    rw [hvc] at k1
    have HVF : Hid ((bvs.getD i vv0).1 = .slice fa (D.bs.getD i b0S).fs.length fcc ∧ (bvs.getD i vv0).2 = .iface ct (.pointer (some ⟨cp, 0, none⟩))) := ⟨hvf, hvc⟩
    have e0 := (HR.out.2.cell (p := ⟨q', i * 2, none⟩) hql).trans k0
    have e1 := (HR.out.2.cell (p := ⟨q', i * 2 + 1, none⟩) hql).trans k1
    have r0 : wr.cell? ⟨w.heap.size, 0, none⟩ = some u0 := cell_of_row _ _ 0 _ 163 (0, 0) HR.out.1
    have r1 : wr.cell? ⟨w.heap.size, 1, none⟩ = some u1 := cell_of_row _ _ 1 _ 163 (0, 0) HR.out.1
    have f0 : wr.frozen? ⟨w.heap.size, 0, none⟩ = false := frozen_of_row _ _ 0 _ 163 HR.out.1
    have f1 : wr.frozen? ⟨w.heap.size, 1, none⟩ = false := frozen_of_row _ _ 1 _ 163 HR.out.1
    have HI : Hid (OwnI w 0 (.slice fa (D.bs.getD i b0S).fs.length fcc) (natI (D.bs.getD i b0S).fs)) := hI
    have HFL := HS.out.fl i hib
    have bi1 : (0 : Int) ≤ (i : Int) := by omega
    have bi2 : (i : Int) < (nb : Int) := by omega
    clear hvf hvc hI hcol k0 k1 hv'
    generalize hnf : (D.bs.getD i b0S).fs.length = nf at *
    have HNF : Hid ((D.bs.getD i b0S).fs.length = nf) := hnf
    clear hnf
    have HW2 : Hid (((wr.setCell ⟨w.heap.size, 0, none⟩ (.slice fa nf fcc)).setCell ⟨w.heap.size, 1, none⟩ (.iface ct (.pointer (some ⟨cp, 0, none⟩)))).heap[w.heap.size]? = some (.cells #[.slice fa nf fcc, .iface ct (.pointer (some ⟨cp, 0, none⟩))] 163 (0, 0)) ∧ Below w.heap.size w ((wr.setCell ⟨w.heap.size, 0, none⟩ (.slice fa nf fcc)).setCell ⟨w.heap.size, 1, none⟩ (.iface ct (.pointer (some ⟨cp, 0, none⟩))))) :=
      ⟨heap_setCell_same _ _ 1 _ 163 _ (heap_setCell_same _ _ 0 _ 163 _ HR.out.1), (HR.out.2.setCell (Nat.le_refl w.heap.size) _).setCell (Nat.le_refl w.heap.size) _⟩
    go_upto_region 4 with fail
    generalize (wr.setCell ⟨w.heap.size, 0, none⟩ (.slice fa nf fcc)).setCell ⟨w.heap.size, 1, none⟩ (.iface ct (.pointer (some ⟨cp, 0, none⟩))) = w2 at *
    clear r0 r1 f0 f1 e0 e1 HR
    have s0 : w2.cell? ⟨w.heap.size, 0, none⟩ = some (.slice fa nf fcc) := cell_of_row _ _ 0 _ 163 (0, 0) HW2.out.1
    go_wp2_with fail
    obtain ⟨wl, hwl⟩ : ∃ wl, wl = wr := ⟨wr, rfl⟩
    subst hwl
    go_loopw [5, 20] (fun tof tj wr => ∃ (j : Nat), tof = .int .i64 (offK D i j : Nat) ∧ tj = .int .i64 j ∧ j ≤ nf ∧ (i = bi → j ≤ p) ∧ Hid (wr.heap[w.heap.size]? = some (.cells #[.slice fa nf fcc, .iface ct (.pointer (some ⟨cp, 0, none⟩))] 163 (0, 0)) ∧ Below w.heap.size w wr)) (fun _ tj _ => nf - (intOf tj).toNat)
    case atStart => exact ⟨0, rfl, rfl, Nat.zero_le _, fun _ => Nat.zero_le _, HW2.out⟩
    case round =>
      clear HW2 s0
      obtain ⟨j, rfl, rfl, hj, hjp, HR⟩ := hrel
      have r0 : wr.cell? ⟨w.heap.size, 0, none⟩ = some (.slice fa nf fcc) := cell_of_row _ _ 0 _ 163 (0, 0) HR.out.1
      have r1 : wr.cell? ⟨w.heap.size, 1, none⟩ = some (.iface ct (.pointer (some ⟨cp, 0, none⟩))) := cell_of_row _ _ 1 _ 163 (0, 0) HR.out.1
      have f0 : wr.frozen? ⟨w.heap.size, 0, none⟩ = false := frozen_of_row _ _ 0 _ 163 HR.out.1
      have f1 : wr.frozen? ⟨w.heap.size, 1, none⟩ = false := frozen_of_row _ _ 1 _ 163 HR.out.1
      have hsz := HR.out.2.size
      have hoff : offK D i j ≤ 10001 := by
        have h1 := sumM_le D.ks ((D.bs.getD i b0S).fs.take j) (fun x hx => by
          obtain ⟨y, hy, rfl⟩ := List.getElem_of_mem hx
          have hy2 : y < (D.bs.getD i b0S).fs.length := by rw [List.length_take] at hy; omega
          have h2 := HS.out.fk i y hib hy2
          have h3 : (D.bs.getD i b0S).fs.getD y 0 = ((D.bs.getD i b0S).fs.take j)[y] := by rw [List.getD, List.getElem?_eq_getElem hy2, List.getElem_take]; rfl
          rw [h3] at h2
          exact HS.out.mn _ h2)
        have h4 : ((D.bs.getD i b0S).fs.take j).length ≤ 100 := by
          rw [List.length_take]
          have := HNF.out
          omega
        unfold offK
        omega
      by_cases hjn : j < nf
      · have hjL : j < (D.bs.getD i b0S).fs.length := by rw [HNF.out]; exact hjn
        have hIw : OwnI wr 0 (.slice fa nf fcc) (natI (D.bs.getD i b0S).fs) := HI.out.below HR.out.2
        obtain ⟨qf, hqf, hqfl, _, y0, _⟩ := hIw.atK (by rw [natI_len]; exact HNF.out) hjn
        rw [natI_getD] at y0
        subst hqf
        have hfk := HS.out.fk i j hib hjL
        rw [HN.out.2] at hfk
        have HNX : Hid (offK D i (j + 1) = offK D i j + (D.ks.getD ((D.bs.getD i b0S).fs.getD j 0) k0S).many) := by
          show 1 + sumM D.ks ((D.bs.getD i b0S).fs.take (j + 1)) = 1 + sumM D.ks ((D.bs.getD i b0S).fs.take j) + _
          have key : ∀ (B : List Nat), j < B.length → B.take (j + 1) = B.take j ++ [B.getD j 0] := fun B hB => by
            rw [List.take_succ_eq_append_getElem hB]; simp [List.getD, hB]
          have this := key _ hjL
          rw [this, sumM_snoc]
          omega
        have bj1 : (0 : Int) ≤ (j : Int) := by omega
        have bj2 : (j : Int) < (nf : Int) := by omega
        by_cases hgf : (D.bs.getD i b0S).fs.getD j 0 = f
        · have hibi : i = bi := by
            by_cases e : i = bi
            · exact e
            · exact absurd hgf (HS.out.no i j hib hjL (.inl (by omega)))
          have hjp2 : j = p := by
            have h1 := hjp hibi
            by_cases e : j = p
            · exact e
            · exact absurd hgf (HS.out.no i j hib hjL (.inr (by omega)))
          have hgI : (((D.bs.getD i b0S).fs.getD j 0 : Nat) : Int) = (f : Int) := by rw [hgf]
          rw [hgI] at y0
          have HFIN : Hid ((.agg #[(bvs.getD bi vv0).1, (bvs.getD bi vv0).2] : Value) = .agg #[.slice (some ⟨qf, 0, none⟩) nf fcc, .iface ct (.pointer (some ⟨cp, 0, none⟩))] ∧ offK D bi p = offK D i j) := by
            rw [← hibi, ← hjp2]
            exact ⟨by rw [HVF.out.1, HVF.out.2], rfl⟩
          have HB : Hid (Below w.heap.size w ((wr.setCell ⟨w.heap.size, 0, none⟩ (.slice (some ⟨qf, 0, none⟩) nf fcc)).setCell ⟨w.heap.size, 1, none⟩ (.iface ct (.pointer (some ⟨cp, 0, none⟩))))) := (HR.out.2.setCell (Nat.le_refl w.heap.size) _).setCell (Nat.le_refl w.heap.size) _
          clear hgf hgI hibi hjp2 hjp hfk HNX hIw
          generalize offK D i j = oo at *
          go_wp2
          refine bodyPost_ret (v := .tuple #[.agg #[.slice (some ⟨qf, 0, none⟩) nf fcc, .iface ct (.pointer (some ⟨cp, 0, none⟩))], .int .i64 (oo : Nat)]) (by simp [results, Tryz.results145, go_sem, *]) rfl ?_
          rw [HFIN.out.1, HFIN.out.2]
          exact ⟨rfl, HB.out⟩
        · have hne : ((((D.bs.getD i b0S).fs.getD j 0 : Nat) : Int) == (f : Int)) = false := beq_eq_false_iff_ne.2 (fun e => hgf (by omega))
          have hgL : (D.bs.getD i b0S).fs.getD j 0 < D.ks.length := by rw [HN.out.2]; exact hfk
          have hmn := HS.out.mn _ hgL
          obtain ⟨ab, cb, aw, cw, _, k0, k1, k2, _, _, _⟩ := HM.out.kn.at2 (i := (D.bs.getD i b0S).fs.getD j 0) hgL
          have hjp3 : i = bi → j + 1 ≤ p := fun e => by
            have h1 := hjp e
            by_cases e2 : j = p
            · subst e2
              subst e
              exact absurd HS.out.at_ hgf
            · omega
          generalize (D.bs.getD i b0S).fs.getD j 0 = g at *
          have e0 := (HR.out.2.cell (p := ⟨qk, g * 4, none⟩) hqkl).trans k0
          have e1 := (HR.out.2.cell (p := ⟨qk, g * 4 + 1, none⟩) hqkl).trans k1
          have e2 := (HR.out.2.cell (p := ⟨qk, g * 4 + 2, none⟩) hqkl).trans k2
          have d0w := (HR.out.2.cell (p := ⟨db, 0, none⟩) hdl).trans d0
          have HMN := KS.many_eq (D.ks.getD g k0S)
          have HHM : Hid (∀ W : World, Calls Tryz.prog 146 #[.agg #[.bool (D.ks.getD g k0S).e.wd, .slice ab (D.ks.getD g k0S).e.bs.length cb, .slice aw (D.ks.getD g k0S).e.ww.length cw]] W fun e w' => e = .returned (.int .i64 (((D.ks.getD g k0S).many : Nat) : Int)) ∧ Below W.heap.size W w') := fun W => by
            rw [← HMN]
            exact howMany_any _ ab aw _ cb _ cw W (by unfold KS.many ES.cnt at hmn; omega)
          clear HMN k0 k1 k2 hIw hgf hjp
          generalize D.ks.getD g k0S = Kg at *
          generalize Kg.e.wd = kwd at *
          generalize Kg.e.bs.length = knb at *
          generalize Kg.e.ww.length = knw at *
          generalize Kg.many = km at *
          generalize offK D i j = oo at *
          have bg1 : (0 : Int) ≤ (g : Int) := by omega
          have bg2 : (g : Int) < (nk : Int) := by omega
          go_wp2_with fail
          refine (HHM.out _).mono ?_
          rintro e w5 ⟨rfl, hb5⟩
          have hb5' := hb5
          have HN5 : Hid (w5.heap[w.heap.size]? = some (.cells #[.slice (some ⟨qf, 0, none⟩) nf fcc, .iface ct (.pointer (some ⟨cp, 0, none⟩))] 163 (0, 0)) ∧ Below w.heap.size w w5) := ⟨(hb5.block _ (Array.getElem?_eq_some_iff.1 HR.out.1).1).trans HR.out.1, HR.out.2.trans (hb5.mono hsz)⟩
          clear hb5 hb5' HR r0 r1 f0 f1 e0 e1 e2 d0w HHM y0
          go_wp2
          go_roundw
          case rel => exact ⟨j + 1, by rw [HNX.out]; go_num, by go_num, by omega, hjp3, HN5⟩
          case measure => simp [intOf]; omega
      · have hnj : ¬ (j : Int) < (nf : Int) := by omega
        have hibi : i < bi := by
          by_cases e : i = bi
          · have h1 := hjp e
            have h2 := HS.out.hp
            rw [← e, HNF.out] at h2
            omega
          · omega
        have HB' : Hid _ := HR
        clear r0 r1 f0 f1
        go_wp2
        go_roundw
        case rel => exact ⟨i + 1, _, _, by go_num, by omega, HB'⟩
        case measure => simp [intOf]; omega
end Go.Proofs.YtfcgnpchbcmdeaaGreat

namespace Go.Proofs.YtfcgnpchbcmdeaaGreat
open Go.RowKit

set_option maxRecDepth 100000 in
set_option maxHeartbeats 8000000 in
theorem lookup_in (db f bi p row : Nat) (vK vB vX : Value) (kvs bvs : List (Value × Value)) (X : List XS) (D : DSS) (w : World) (h : MadeX w db vK vB vX kvs bvs X D) (hs : SeatOk D f bi p) (hbl : D.bs.length ≤ 1000)
    (hden : ¬ 4 * nzN (D.bs.getD bi b0S).N < (D.bs.getD bi b0S).N.length) (hrow : row < (D.bs.getD bi b0S).N.length) (hnl : (D.bs.getD bi b0S).N.length ≤ 200) (hd : Lib.bitLen (D.bs.getD bi b0S).g ≤ 6) (hN : (D.bs.getD bi b0S).N.getD row 0 < 2 ^ Lib.bitLen (D.bs.getD bi b0S).g)
    (hin1 : offK D bi p ≤ (D.bs.getD bi b0S).N.getD row 0) (hin2 : (D.bs.getD bi b0S).N.getD row 0 < offK D bi p + (D.ks.getD f k0S).many) :
    Calls Tryz.prog 78 #[.pointer (some ⟨db, 0, none⟩), .int .i64 (row : Nat), .int .i64 (f : Nat)] w fun e w' => e = .returned (.int .i64 ((D.bs.getD bi b0S).N.getD row 0 - offK D bi p : Nat)) ∧ Below w.heap.size w w' := by
  have HM : Hid (MadeX w db vK vB vX kvs bvs X D) := h
  have HSE := seat_any db f bi p vK vB vX kvs bvs X D w h hs hbl
  obtain ⟨hI, hcol⟩ := h.ds.bn.each bi hs.hb
  obtain ⟨fa, fcc, hvf⟩ := hI.shape
  have hfk := hs.fk bi p (Nat.le_refl _) hs.hp
  rw [hs.at_] at hfk
  have hmn := hs.mn f hfk
  obtain ⟨qk, cK, ab, cb, aw, cw, hvK, hqkl, k0, k1, k2, _⟩ := h.kn.at hfk
  subst hvK
  have d0 : w.cell? ⟨db, 0, none⟩ = some (.slice (some ⟨qk, 0, none⟩) D.ks.length cK) := cell_of_row _ _ 0 _ 168 (0, 0) h.ds.blk
  have hdl : db < w.heap.size := (Array.getElem?_eq_some_iff.1 h.ds.blk).1
  rcases hcol with ⟨h1, _⟩ | ⟨_, pp, e, dd, q, e2, _, hX⟩
  · exact absurd h1 hden
  · rw [hvf, e, e2] at HSE
    have hmul : row * Lib.bitLen (D.bs.getD bi b0S).g + Lib.bitLen (D.bs.getD bi b0S).g ≤ (D.bs.getD bi b0S).N.length * Lib.bitLen (D.bs.getD bi b0S).g := by
      rw [← Nat.succ_mul]
      exact Nat.mul_le_mul_right _ hrow
    have hmul2 : (D.bs.getD bi b0S).N.length * Lib.bitLen (D.bs.getD bi b0S).g ≤ 200 * 6 := Nat.mul_le_mul hnl hd
    have HAT : Hid (∀ W : World, Below w.heap.size w W → Calls Tryz.prog 323 #[.pointer (some ⟨dd, 0, none⟩), .int .i64 (row : Nat)] W fun e w' => e = .returned (.int .i64 ((D.bs.getD bi b0S).N.getD row 0 : Nat)) ∧ Below W.heap.size W w') := fun W hW => by
      have hX' : DenX W 0 dd q (D.bs.getD bi b0S).N.length (Lib.bitLen (D.bs.getD bi b0S).g) (packF (bitsN (D.bs.getD bi b0S).N (Lib.bitLen (D.bs.getD bi b0S).g)) (((D.bs.getD bi b0S).N.length * Lib.bitLen (D.bs.getD bi b0S).g + 7) / 8) ((D.bs.getD bi b0S).N.length * Lib.bitLen (D.bs.getD bi b0S).g)) := ⟨(hW.block _ (Array.getElem?_eq_some_iff.1 hX.blk).1).trans hX.blk, (Touch.of_below (S := fun _ => False) hW).row hX.row (fun _ _ => id)⟩
      have h1 := denseAt_any dd q _ _ _ _ row _ W hX' (fun t => bitsN_le _ _ t) hd hmul (by omega) (by omega)
      rw [bitsN_row _ hN] at h1
      exact h1
    have HMN := KS.many_eq (D.ks.getD f k0S)
    have HHM : Hid (∀ W : World, Calls Tryz.prog 146 #[.agg #[.bool (D.ks.getD f k0S).e.wd, .slice ab (D.ks.getD f k0S).e.bs.length cb, .slice aw (D.ks.getD f k0S).e.ww.length cw]] W fun e w' => e = .returned (.int .i64 (((D.ks.getD f k0S).many : Nat) : Int)) ∧ Below W.heap.size W w') := fun W => by
      rw [← HMN]
      exact howMany_any _ ab aw _ cb _ cw W (by unfold KS.many ES.cnt at hmn; omega)
    have hx64 : (D.bs.getD bi b0S).N.getD row 0 < 64 := Nat.lt_of_lt_of_le hN (Nat.pow_le_pow_right (by decide) hd)
    clear HMN hmul hmul2 hX e e2 hvf hI hden hN hd hnl hrow hs h
    generalize (D.bs.getD bi b0S).N.getD row 0 = x at *
    generalize offK D bi p = off at *
    generalize (natI (D.bs.getD bi b0S).fs).length = nf at *
    generalize D.ks.getD f k0S = Kf at *
    generalize Kf.e.wd = kwd at *
    generalize Kf.e.bs.length = knb at *
    generalize Kf.e.ww.length = knw at *
    generalize Kf.many = km at *
    generalize hnk : D.ks.length = nk at *
    clear hnk
    have hme : ∀ W : World, (method 535 382 (.pointer (some ⟨dd, 0, none⟩)) "At").run Tryz.prog W = .ok (323, .pointer (some ⟨dd, 0, none⟩)) W := fun W => by kernel_rfl
    go_enter Tryz.func78, Tryz.ntmps78
    go_wp2_with fail
    refine HSE.mono ?_
    rintro e w2 ⟨rfl, hb2⟩
    have HB2 : Hid (Below w.heap.size w w2) := hb2
    clear hb2 HSE
    go_wp2_with fail
    refine (HAT.out _ (HB2.out.alloc HB2.out.size _)).mono ?_
    rintro e w3 ⟨rfl, hb3⟩
    have HB3 : Hid (Below w.heap.size w w3) := (HB2.out.alloc HB2.out.size _).trans (hb3.mono (by have := HB2.out.size; simp; omega))
    have d0w := (HB3.out.cell (p := ⟨db, 0, none⟩) hdl).trans d0
    have e0 := (HB3.out.cell (p := ⟨qk, f * 4, none⟩) hqkl).trans k0
    have e1 := (HB3.out.cell (p := ⟨qk, f * 4 + 1, none⟩) hqkl).trans k1
    have e2 := (HB3.out.cell (p := ⟨qk, f * 4 + 2, none⟩) hqkl).trans k2
    obtain ⟨bn, hbn⟩ : ∃ bn, bn = x - off := ⟨_, rfl⟩
    have q1 : (x : Int) - (off : Int) = (bn : Int) := by omega
    have q2 : IntKind.i64.wrap (bn : Int) = (bn : Int) := wrapI (by omega) (by omega)
    have q3 : (0 : Int) ≤ (bn : Int) := by omega
    have q4 : (bn : Int) < (km : Int) := by omega
    have bf1 : (0 : Int) ≤ (f : Int) := by omega
    have bf2 : (f : Int) < (nk : Int) := by omega
    have HBN : Hid (bn = x - off) := hbn
    clear hb3 hbn HB2
    go_wp2_with fail
    refine (HHM.out _).mono ?_
    rintro e w4 ⟨rfl, hb4⟩
    have HB4 : Hid (Below w.heap.size w w4) := HB3.out.trans (hb4.mono HB3.out.size)
    clear hb4
    go_wp2
    go_ret
    rw [← HBN.out]
    exact ⟨rfl, HB4.out⟩
end Go.Proofs.YtfcgnpchbcmdeaaGreat

namespace Go.Proofs.YtfcgnpchbcmdeaaGreat
open Go.RowKit

theorem OutD.below {w w' : World} {gb db : Nat} {D : DSS} (h : OutD w gb db D) (hb : Below w.heap.size w w') : OutD w' gb db D := by
  obtain ⟨vK, vB, vX, kvs, bvs, X, hX⟩ := h.md
  exact ⟨(hb.block gb (Array.getElem?_eq_some_iff.1 h.gp).1).trans h.gp, vK, vB, vX, kvs, bvs, X, hX.ds.below hb, hX.kn.below hb, hX.perm, hX.sorted⟩

set_option maxRecDepth 100000 in
set_option maxHeartbeats 4000000 in
theorem gLookup_yes (gb db f row : Nat) (D : DSS) (x : Nat) (w : World) (h : OutD w gb db D) (h0 : 0 < D.bs.length) (hk : D.ks.length ≤ 1000) (hr : row < (D.bs.getD 0 b0S).N.length) (hrl : (D.bs.getD 0 b0S).N.length ≤ 1000) (hf : f < D.ks.length)
    (HL : ∀ W : World, OutD W gb db D → Calls Tryz.prog 78 #[.pointer (some ⟨db, 0, none⟩), .int .i64 (row : Nat), .int .i64 (f : Nat)] W fun e w' => e = .returned (.int .i64 (x : Nat)) ∧ Below W.heap.size W w') :
    Calls Tryz.prog 44 #[.pointer (some ⟨gb, 0, none⟩), .int .i64 (row : Nat), .int .i64 (f : Nat)] w fun e w' => e = .returned (.tuple #[.int .i64 (x : Nat), .int .i64 0]) ∧ Below w.heap.size w w' := by
  have g0 : w.cell? ⟨gb, 0, none⟩ = some (.pointer (some ⟨db, 0, none⟩)) := cell_of_row _ _ 0 _ 110 (0, 0) h.gp
  have hgl : gb < w.heap.size := (Array.getElem?_eq_some_iff.1 h.gp).1
  have HO : Hid (OutD w gb db D) := h
  have HLK : Hid (∀ W : World, OutD W gb db D → Calls Tryz.prog 78 #[.pointer (some ⟨db, 0, none⟩), .int .i64 (row : Nat), .int .i64 (f : Nat)] W fun e w' => e = .returned (.int .i64 (x : Nat)) ∧ Below W.heap.size W w') := HL
  have HHF : Hid (∀ W : World, OutD W gb db D → Calls Tryz.prog 52 #[.pointer (some ⟨gb, 0, none⟩), .int .i64 (f : Nat)] W fun e w' => e = .returned (.bool true) ∧ w' = W) := fun W hW => by
    have h1 := hasFeature_any gb db D (f : Int) W hW hk
    have h2 : decide (0 ≤ (f : Int) ∧ (f : Int) ≤ (D.ks.length : Int) - 1) = true := by simp; omega
    rw [h2] at h1
    exact h1
  obtain ⟨vK, vB, vX, kvs, bvs, X, hX⟩ := h.md
  have HR := dsRows_any db vK vB vX bvs D.bs X w hX.ds h0
  clear h hX HL hk hf
  generalize (D.bs.getD 0 b0S).N.length = nr at *
  have br1 : (0 : Int) ≤ (row : Int) := by omega
  have br2 : (row : Int) ≤ (nr : Int) - 1 := by omega
  go_enter Tryz.func44, Tryz.ntmps44
  go_wp2_with fail
  refine HR.mono ?_
  rintro e w2 ⟨rfl, hb2⟩
  have HB2 : Hid (Below w.heap.size w w2) := hb2
  have c0 := (hb2.cell (p := ⟨gb, 0, none⟩) hgl).trans g0
  clear hb2 HR
  go_wp2_with fail
  refine (within_yes _ _ _ _ ⟨br1, br2⟩).mono ?_
  rintro e w6 ⟨rfl, hw6⟩
  obtain rfl := hw6.symm
  go_wp2_with fail
  refine (HHF.out _ (HO.out.below HB2.out)).mono ?_
  rintro e w3 ⟨rfl, hw3⟩
  obtain rfl := hw3.symm
  go_wp2_with fail
  refine (HLK.out _ (HO.out.below HB2.out)).mono ?_
  rintro e w4 ⟨rfl, hb4⟩
  have HB4 : Hid (Below w.heap.size w w4) := HB2.out.trans (hb4.mono HB2.out.size)
  clear hb4
  go_wp2
  go_ret2
  exact ⟨rfl, HB4.out⟩
end Go.Proofs.YtfcgnpchbcmdeaaGreat

namespace Go.Proofs.YtfcgnpchbcmdeaaGreat
open Go.RowKit

/-- A reader as it is made is one that reads. -/
theorem IntakeM.start {w : World} {base ib tb fb rb cb n : Nat} {wd : Nat → Bool} {sc ct : Nat → Int} {bins size budget : Int} (h : IntakeM w base ib tb fb rb cb n wd sc ct bins size budget) :
    ∃ K M, InX w K M ib tb rb fb cb n wd sc ct bins size budget RS.start 0 ∧ (∀ k, M k → base ≤ k) ∧ base ≤ ib ∧ base ≤ tb := by
  have hrb := h.tx.rd
  unfold RB at hrb
  refine ⟨fun k => base ≤ k ∧ ∃ cur ty, w.heap[k]? = some (.cells cur ty (0, 0)) ∧ (ty = 3 ∨ ty = 261 ∨ ty = 263), fun k => k = rb ∨ k = cb, ⟨h.ik, h.tx.tx, ⟨.slice none 0 0, .slice none 0 0, .slice none 0 0, fun _ => .slice none 0 0, ?_⟩, ?_, ?_⟩, ?_, h.lo, h.tx.lo.1⟩
  · refine ⟨h.tx.rd, World.ownsRow_nil _ _ _ _, World.ownsRow_nil _ _ _ _, World.ownsRow_nil _ _ _ _, ⟨_, h.tx.cl, ?_, fun i hi => ?_⟩, fun _ _ => World.ownsRow_nil _ _ _ _, FeatsF.of_made _ h.tx.fs ⟨h.tx.lo.2.1, ?_⟩ (fun k cur ty hk hc ht => ⟨hk, cur, ty, hc, by rcases ht with e | e; exact .inl e; exact .inr (.inl e)⟩), fun _ _ _ _ _ => .inl rfl, fun _ _ => .inl rfl, .inl rfl, .inr rfl, ?_, ?_, ?_, ?_, ?_, ?_⟩
    · simp [madeCells]
    · rw [← Array.getElem?_toList, made_one]
      exact List.getElem?_replicate_of_lt hi
    · obtain ⟨cur, h1, _⟩ := h.tx.fs
      exact ⟨cur, 263, h1, .inr (.inr rfl)⟩
    · intro k hk; simp [Value.ownBlock] at hk
    · intro k hk; simp [Value.ownBlock] at hk
    · intro k hk; simp [Value.ownBlock] at hk
    · intro i k _ hk; simp [Value.ownBlock] at hk
    · rintro k ⟨_, cur, ty, hc, ht⟩
      refine ⟨(Array.getElem?_eq_some_iff.1 hc).1, ?_⟩
      rintro (e | e)
      · rw [e, hrb] at hc; rcases ht with e2 | e2 | e2 <;> (subst e2; simp at hc)
      · rw [e, h.tx.cl] at hc; rcases ht with e2 | e2 | e2 <;> (subst e2; simp at hc)
    · rintro k (e | e)
      · rw [e]; exact (Array.getElem?_eq_some_iff.1 hrb).1
      · rw [e]; exact (Array.getElem?_eq_some_iff.1 h.tx.cl).1
  · refine ⟨?_, ?_⟩
    · rintro ⟨_, cur, ty, hc, ht⟩
      rw [h.ik] at hc; rcases ht with e2 | e2 | e2 <;> (subst e2; simp at hc)
    · rintro (e | e)
      · have := h.ik; rw [e, hrb] at this; simp at this
      · have := h.ik; rw [e, h.tx.cl] at this; simp at this
  · refine ⟨?_, ?_⟩
    · rintro ⟨_, cur, ty, hc, ht⟩
      rw [h.tx.tx] at hc; rcases ht with e2 | e2 | e2 <;> (subst e2; simp at hc)
    · rintro (e | e)
      · have := h.tx.tx; rw [e, hrb] at this; simp at this
      · have := h.tx.tx; rw [e, h.tx.cl] at this; simp at this
  · rintro k (e | e)
    · rw [e]; exact h.tx.lo.2.2.1
    · rw [e]; exact h.tx.lo.2.2.2

theorem rtakes_err {n : Nat} {wd : Nat → Bool} {sc : Nat → Int} : ∀ (l : List Int) (s : RS) (k : Nat) {z : Int} {p : Nat}, rtakes n wd sc s l k = .error (z, p) → z = 2 ∨ z = 3
  | [], s, k, z, p, h => by cases h
  | c :: r, s, k, z, p, h => by
    unfold rtakes at h
    cases ht : rtake n wd sc s c with
    | error y => rw [ht] at h; injection h with h; injection h with h1 h2; rw [← h1]; exact rtake_err ht
    | ok s1 => rw [ht] at h; exact rtakes_err r s1 (k + 1) h

theorem bytesL_len (b : ByteArray) : (bytesL b).length = b.size := by unfold bytesL; rw [List.length_map]; rfl
theorem bytesL_extract (b : ByteArray) (i j : Nat) : bytesL (b.extract i j) = ((bytesL b).take j).drop i := by
  unfold bytesL
  rw [ByteArray.data_extract, Array.toList_extract, ← List.map_take, ← List.map_drop]
  congr 1
  rw [List.extract_eq_take_drop, List.drop_take]

/-- What Close wants of a reader's state. -/
structure CloseOk (lw : List VS → List Int → Int → Int → ES) (m : Nat) (wd : Nat → Bool) (ct : Nat → Int) (bins : Int) (size : Nat) (s : RS) : Prop where
  wok : (∃ i, i < m + 1 ∧ wd i = true) → LwOk lw
  ok : ∀ i, i < m + 1 → EdgOk (learnE lw (wd i) (ct i) bins size (s.cols i) s.ws) ∧ (learnE lw (wd i) (ct i) bins size (s.cols i) s.ws).wd = wd i ∧ (learnE lw (wd i) (ct i) bins size (s.cols i) s.ws).cnt ≤ 16
  num : ∀ i, i < m + 1 → ∀ v ∈ s.cols i, -1000000000 ≤ v.num ∧ v.num ≤ 1000000000
  ws : ∀ z ∈ s.ws, 0 ≤ z ∧ z ≤ 99

/-- What fed answers. -/
def FedR (lw : List VS → List Int → Int → Int → ES) (m : Nat) (wd : Nat → Bool) (ct : Nat → Int) (bins : Int) (size budget len : Nat) (o : Except (Int × Nat) RS) (e : Ending) (w' : World) : Prop :=
  match o with
  | .error (z, p) => e = .returned (.tuple #[.pointer none, .int .i64 z, .int .i64 (p : Nat)])
  | .ok s => (s.wt ≠ 0 ∧ e = .returned (.tuple #[.pointer none, .int .i64 2, .int .i64 (len : Nat)])) ∨
      (s.wt = 0 ∧ ∃ gb db, e = .returned (.tuple #[.pointer (some ⟨gb, 0, none⟩), .int .i64 0, .int .i64 0]) ∧ OutD w' gb db (makeF m s.ws.length budget ((List.range (m + 1)).map (fun i => learnE lw (wd i) (ct i) bins size (s.cols i) s.ws)) ((List.range (m + 1)).map (fun i => (s.cols i).map (binS (learnE lw (wd i) (ct i) bins size (s.cols i) s.ws))))))

/-- The reader between two pieces. -/
def FedI (base : Nat) (K : Nat → Prop) (ib tb rb fb cb n : Nat) (wd : Nat → Bool) (sc ct : Nat → Int) (bins size budget : Int) (len : Nat) (o : Except (Int × Nat) RS) (w : World) : Prop :=
  match o with
  | .error (z, p) => DeadX w ib false z (p : Nat) ∧ (z = 2 ∨ z = 3)
  | .ok s => ∃ M, InX w K M ib tb rb fb cb n wd sc ct bins size budget s len ∧ ∀ q, M q → base ≤ q

def sizeS : Value → Nat
  | .string b => b.size
  | _ => 0

section
variable {w wr : World} {K : Nat → Prop} {ib tb rb fb cb m : Nat} {wd : Nat → Bool} {sc ct : Nat → Int} {bins : Int} {size budget : Nat}

/-- One piece more. -/
theorem feed_more (b r : ByteArray) (k n base : Nat) (hr : bytesL r = (bytesL b).drop k) (hrs : r.size = b.size - k) (hk : k ≤ b.size) (hn : n ≤ r.size) (hb : b.size ≤ 1000000) (hm : m + 1 ≤ 4) (hsc : ∀ i, i < m + 1 → wd i = false → 0 ≤ sc i ∧ sc i ≤ 3) (hbs : base ≤ wr.heap.size) (hib : base ≤ ib ∧ base ≤ tb)
    (hF : FedI base K ib tb rb fb cb (m + 1) wd sc ct bins size budget k (rtakes (m + 1) wd sc RS.start ((bytesL b).take k) 0) wr) :
    Calls Tryz.prog 32 #[.pointer (some ⟨ib, 0, none⟩), .string (r.extract 0 n)] wr fun e w' => e = .returned (.tuple #[.int .i64 (fedAns (rtakes (m + 1) wd sc RS.start ((bytesL b).take (k + n)) 0)).1, .int .i64 (fedAns (rtakes (m + 1) wd sc RS.start ((bytesL b).take (k + n)) 0)).2]) ∧
      FedI base K ib tb rb fb cb (m + 1) wd sc ct bins size budget (k + n) (rtakes (m + 1) wd sc RS.start ((bytesL b).take (k + n)) 0) w' ∧ Below base wr w' := by
  have hp : bytesL (r.extract 0 n) = ((bytesL b).drop k).take n := by rw [bytesL_extract, List.drop_zero, hr]
  have ht : (bytesL b).take (k + n) = (bytesL b).take k ++ bytesL (r.extract 0 n) := by rw [hp, List.take_add]
  have hl : ((bytesL b).take k).length = k := by rw [List.length_take, bytesL_len]; omega
  have hes : (r.extract 0 n).size = n := by rw [← bytesL_len, hp, List.length_take, List.length_drop, bytesL_len]; omega
  have ha := rtakes_append (m + 1) wd sc ((bytesL b).take k) (bytesL (r.extract 0 n)) RS.start 0
  rw [← ht, hl] at ha
  cases ho : rtakes (m + 1) wd sc RS.start ((bytesL b).take k) 0 with
  | error q =>
    obtain ⟨z, p⟩ := q
    rw [ho] at ha hF
    rw [ha]
    refine (feed_fault (r.extract 0 n) ib z p wr hF.1 hF.2).mono ?_
    rintro e w' ⟨rfl, x, rfl⟩
    exact ⟨rfl, ⟨hF.1, hF.2⟩, below_drewN (Below.refl _ _) _⟩
  | ok s =>
    rw [ho] at ha hF
    simp only at ha
    obtain ⟨M, hX, hM⟩ := hF
    rw [ha, Nat.zero_add]
    refine (feed_any (r.extract 0 n) hX (RInv.takes (by omega) hsc _ (RInv.start (by omega)) ho) (by omega) hm hsc (by rw [hes]; omega)).mono ?_
    rintro e w' ⟨rfl, h1, h2⟩
    refine ⟨rfl, ?_, h2.to_below hbs (fun q hq => ?_)⟩
    · cases hq : rtakes (m + 1) wd sc s (bytesL (r.extract 0 n)) k with
      | error q =>
        obtain ⟨z, p⟩ := q
        rw [hq] at h1
        exact ⟨h1, rtakes_err _ _ _ hq⟩
      | ok s' =>
        rw [hq, hes] at h1
        obtain ⟨M', hX', hM'⟩ := h1
        exact ⟨M', hX', fun q hq => by rcases hM' q hq with h | h; exact hM q h; omega⟩
    · rcases hq with h | h | h
      · exact hM q h
      · rw [h]; exact hib.1
      · rw [h]; exact hib.2

/-- The end of a text. -/
theorem close_end (lw : List VS → List Int → Int → Int → ES) (b : ByteArray) (base : Nat) (hm : m + 1 ≤ 4) (hsc : ∀ i, i < m + 1 → wd i = false → 0 ≤ sc i ∧ sc i ≤ 3) (hc : 2 ≤ bins ∧ bins ≤ 16 ∧ bins ≤ size ∧ size ≤ 32 ∧ budget ≤ 20) (hbs : base ≤ wr.heap.size) (hib : base ≤ ib)
    (hcl : ∀ s, rtakes (m + 1) wd sc RS.start (bytesL b) 0 = .ok s → s.wt = 0 → CloseOk lw m wd ct bins size s)
    (hF : FedI base K ib tb rb fb cb (m + 1) wd sc ct bins size budget b.size (rtakes (m + 1) wd sc RS.start (bytesL b) 0) wr) :
    Calls Tryz.prog 50 #[.pointer (some ⟨ib, 0, none⟩)] wr fun e w' => ∃ (d : Option Addr) (z p : Int), e = .returned (.tuple #[.pointer d, .int .i64 z, .int .i64 p]) ∧
      FedR lw m wd ct bins size budget b.size (rtakes (m + 1) wd sc RS.start (bytesL b) 0) e w' ∧ Below base wr w' ∧ ((fedAns (rtakes (m + 1) wd sc RS.start (bytesL b) 0)).1 = 0 ∨ (fedAns (rtakes (m + 1) wd sc RS.start (bytesL b) 0)).1 ≠ 0 ∧ d = none ∧ z = (fedAns (rtakes (m + 1) wd sc RS.start (bytesL b) 0)).1 ∧ p = (fedAns (rtakes (m + 1) wd sc RS.start (bytesL b) 0)).2) := by
  cases ho : rtakes (m + 1) wd sc RS.start (bytesL b) 0 with
  | error q =>
    obtain ⟨z, p⟩ := q
    rw [ho] at hF
    refine (close_fault ib z p wr hF.1 hF.2).mono ?_
    rintro e w' ⟨rfl, x, rfl⟩
    exact ⟨none, z, p, rfl, rfl, below_drewN (Below.refl _ _) _, .inr ⟨by show z ≠ 0; rcases hF.2 with e | e <;> omega, rfl, rfl, rfl⟩⟩
  | ok s =>
    rw [ho] at hF
    obtain ⟨M, hX, hM⟩ := hF
    have hI : RInv (m + 1) s := RInv.takes (by omega) hsc _ (RInv.start (by omega)) ho
    by_cases hwt : s.wt = 0
    · have hK := hcl s ho hwt
      refine (close_whole lw (fun i => learnE lw (wd i) (ct i) bins size (s.cols i) s.ws) hX hwt hI hm hc.2.2.2.2 hK.wok (fun _ => rfl) hK.ok hK.num hK.ws (by omega) hc.2.2.2.1 hc.1 hc.2.1).mono ?_
      rintro e w' ⟨gb, db, rfl, h1, h2, h3, h4⟩
      exact ⟨_, 0, 0, rfl, .inr ⟨hwt, gb, db, rfl, h3⟩, h4.2.to_below hbs (fun q hq => by rw [hq]; exact hib), .inl rfl⟩
    · refine (close_torn hX hwt).mono ?_
      rintro e w' ⟨rfl, h4⟩
      exact ⟨none, 2, _, rfl, .inl ⟨hwt, rfl⟩, h4.2.to_below hbs (fun q hq => by rw [hq]; exact hib), .inl rfl⟩
end

set_option maxRecDepth 100000 in
set_option maxHeartbeats 4000000 in
theorem keepFed_any (lw : List VS → List Int → Int → Int → ES) (b : ByteArray) (fk off m fc cn cc : Nat) (ca : Option Addr) (cz : List Int) (bins : Int) (size budget : Nat) (wd : Nat → Bool) (sc ct : Nat → Int) (w : World) (hF : Feats w fk off (m + 1) wd sc ct) (hc : confB (m + 1) bins size budget wd sc ct = true) (hcut : IntsV w ca cn cz) (hcn : cn ≤ 9223372036854775807) (hb : b.size ≤ 1000000)
    (hcl : ∀ s, rtakes (m + 1) wd sc RS.start (bytesL b) 0 = .ok s → s.wt = 0 → CloseOk lw m wd ct bins size s) :
    Calls Tryz.prog 25 #[.agg #[.slice (some ⟨fk, off, none⟩) (m + 1) fc, .int .i64 bins, .int .i64 (size : Nat), .int .i64 (budget : Nat)], .string b, .slice ca cn cc] w fun e w' => FedR lw m wd ct bins size budget b.size (rtakes (m + 1) wd sc RS.start (bytesL b) 0) e w' ∧ Below w.heap.size w w' := by
  obtain ⟨h1, h4, c1, c2, c3, c4, c5, c6, hfe⟩ := conf_parts hc
  have HSC : Hid (∀ i, i < m + 1 → wd i = false → 0 ≤ sc i ∧ sc i ≤ 3) := fun i hi hw => by
    have := hfe i hi
    unfold featB at this
    rw [hw] at this
    simp at this
    omega
  have hbl := hF.lt (by omega)
  obtain ⟨w0, hw0⟩ : ∃ w0, w0 = w.alloc (.cells #[.slice (some ⟨fk, off, none⟩) (m + 1) fc, .int .i64 bins, .int .i64 (size : Nat), .int .i64 (budget : Nat)] 37) := ⟨_, rfl⟩
  have hb0 : Below w.heap.size w w0 := by rw [hw0]; exact (Below.refl _ _).alloc (Nat.le_refl _) _
  have hrow : w0.heap[w.heap.size]? = some (.cells #[.slice (some ⟨fk, off, none⟩) (m + 1) fc, .int .i64 bins, .int .i64 (size : Nat), .int .i64 (budget : Nat)] 37 (0, 0)) := by rw [hw0]; exact heap_alloc_new w _
  have k : ∀ o, w0.cell? ⟨fk, o, none⟩ = w.cell? ⟨fk, o, none⟩ := fun o => hb0.cell (p := ⟨fk, o, none⟩) hbl
  have HR := reader_yes fk off (m + 1) fc bins size budget wd sc ct w0 ⟨hF.le, fun _ => by have := hb0.size; omega, fun i hi => (k _).trans (hF.c0 i hi), fun i hi => (k _).trans (hF.c1 i hi), fun i hi => (k _).trans (hF.c2 i hi)⟩ hc
  have d0 := cell_of_row _ _ 0 _ 37 (0, 0) hrow
  have d1 := cell_of_row _ _ 1 _ 37 (0, 0) hrow
  have d2 := cell_of_row _ _ 2 _ 37 (0, 0) hrow
  have d3 := cell_of_row _ _ 3 _ 37 (0, 0) hrow
  have HB0 : Hid (Below w.heap.size w w0) := hb0
  have HCUT : Hid (IntsV w ca cn cz) := hcut
  have HCL : Hid (∀ s, rtakes (m + 1) wd sc RS.start (bytesL b) 0 = .ok s → s.wt = 0 → CloseOk lw m wd ct bins size s) := hcl
  clear hF hc hfe hb0 k hrow hcut hcl
  have HN : Hid (m + 1 ≤ 4 ∧ 2 ≤ bins ∧ bins ≤ 16 ∧ bins ≤ size ∧ size ≤ 32 ∧ budget ≤ 20) := ⟨h4, c1, c2, c3, by omega, by omega⟩
  clear h1 h4 c1 c2 c3 c4 c5 c6
  go_enter Tryz.func25, Tryz.ntmps25
  go_upto_region 1 with fail
  rw [← hw0]
  clear hw0
  go_wp2_with fail
  refine HR.mono ?_
  rintro e w1 ⟨ib, tb, fb, rb, cb, rfl, hI, hb1⟩
  have hs0 := HB0.out.size
  obtain ⟨K, M0, hX0, hM0, hib, htb⟩ := hI.start
  have HX0 : Hid (InX w1 K M0 ib tb rb fb cb (m + 1) wd sc ct bins size budget RS.start 0 ∧ (∀ q, M0 q → w.heap.size ≤ q)) := ⟨hX0, fun q hq => by have := hM0 q hq; omega⟩
  have HB1 : Hid (Below w.heap.size w w1) := HB0.out.trans (hb1.mono hs0)
  have HIB : Hid (w.heap.size ≤ ib ∧ w.heap.size ≤ tb) := ⟨by omega, by omega⟩
  clear hI hb1 hX0 hM0 hib htb d0 d1 d2 d3 HR
  go_wp2_with fail
  go_loopw [1, 10, 11, 12] (fun ts te tp ti wr => ∃ (k i : Nat) (r : ByteArray), ts = .string r ∧ te = .int .i64 (fedAns (rtakes (m + 1) wd sc RS.start ((bytesL b).take k) 0)).1 ∧ tp = .int .i64 (fedAns (rtakes (m + 1) wd sc RS.start ((bytesL b).take k) 0)).2 ∧ ti = .int .i64 i ∧ i ≤ k ∧ k ≤ b.size ∧ r.size = b.size - k ∧ Hid (bytesL r = (bytesL b).drop k) ∧ Hid (FedI w.heap.size K ib tb rb fb cb (m + 1) wd sc ct bins size budget k (rtakes (m + 1) wd sc RS.start ((bytesL b).take k) 0) wr) ∧ Hid (Below w.heap.size w wr)) (fun ts _ _ _ _ => sizeS ts)
  case atStart => exact ⟨0, 0, b, rfl, rfl, rfl, rfl, Nat.le_refl _, Nat.zero_le _, by omega, rfl, ⟨M0, HX0.out⟩, HB1.out⟩
  case round =>
    obtain ⟨k, i, r, rfl, rfl, rfl, rfl, hik, hk, hrs, HR, HF, HB⟩ := hrel
    by_cases hr0 : 0 < r.size
    · have br : (0 : Int) < (r.size : Int) := by omega
      obtain ⟨n, hn⟩ : ∃ n : Nat, n = 1 + pickK (rawK cz i) r.size := ⟨_, rfl⟩
      have hp := pickK_lt (rawK cz i) hr0
      have hn1 : 1 ≤ n := by omega
      have hn2 : n ≤ r.size := by omega
      have q1 : IntKind.i64.wrap (1 + ((pickK (rawK cz i) r.size : Nat) : Int)) = (n : Int) := by rw [wrapI (by omega) (by omega)]; omega
      have b1 : (0 : Int) ≤ (n : Int) := by omega
      have b2 : (n : Int) ≤ (r.size : Int) := by omega
      have HFD := feed_more (size := size) (budget := budget) (bins := bins) (ct := ct) (rb := rb) (fb := fb) (cb := cb) (K := K) b r k n w.heap.size HR.out hrs hk hn2 hb HN.out.1 HSC.out HB.out.size HIB.out HF.out
      have HRW := keepRaw_any ca cn cc i cz wr (HCUT.out.below HB.out) (by omega) hcn
      have HRF : Hid ((Lit.int .i64 (rawK cz i)).wf = true) := by
        show _ = _
        unfold rawK
        split
        · decide
        · rename_i h0
          have hl : i % cz.length < cz.length := Nat.mod_lt _ (by omega)
          rw [List.getD_eq_getElem?_getD, List.getElem?_eq_getElem hl]
          exact HCUT.out.2.1 _ (List.getElem_mem _)
      clear hn hp
      have HA : Hid ((fedAns (rtakes (m + 1) wd sc RS.start ((bytesL b).take k) 0)).1 = 0 ∨ (fedAns (rtakes (m + 1) wd sc RS.start ((bytesL b).take k) 0)).1 ≠ 0 ∧ (fedAns (rtakes (m + 1) wd sc RS.start ((bytesL b).take (k + n)) 0)).1 = (fedAns (rtakes (m + 1) wd sc RS.start ((bytesL b).take k) 0)).1 ∧ (fedAns (rtakes (m + 1) wd sc RS.start ((bytesL b).take (k + n)) 0)).2 = (fedAns (rtakes (m + 1) wd sc RS.start ((bytesL b).take k) 0)).2) := by
        cases ho : rtakes (m + 1) wd sc RS.start ((bytesL b).take k) 0 with
        | error q =>
          have ha := rtakes_append (m + 1) wd sc ((bytesL b).take k) (((bytesL b).drop k).take n) RS.start 0
          rw [← List.take_add, ho] at ha
          rw [ha]
          obtain ⟨z, p⟩ := q
          refine .inr ⟨?_, rfl, rfl⟩
          show z ≠ 0
          rcases rtakes_err _ _ _ ho with e | e <;> omega
        | ok s => exact .inl rfl
      have HR2 : Hid (bytesL (r.extract n r.size) = (bytesL b).drop (k + n) ∧ (r.extract n r.size).size = b.size - (k + n)) := by
        have e : bytesL (r.extract n r.size) = (bytesL b).drop (k + n) := by
          rw [bytesL_extract, List.take_of_length_le (by rw [bytesL_len]; exact Nat.le_refl _), HR.out, List.drop_drop]
        refine ⟨e, ?_⟩
        rw [← bytesL_len, e, List.length_drop, bytesL_len]
      obtain ⟨o2, ho2⟩ : ∃ o2, o2 = rtakes (m + 1) wd sc RS.start ((bytesL b).take (k + n)) 0 := ⟨_, rfl⟩
      have HO2 : Hid (o2 = rtakes (m + 1) wd sc RS.start ((bytesL b).take (k + n)) 0) := ho2
      rw [← ho2] at HFD HA
      clear ho2
      obtain ⟨A1, hA1⟩ : ∃ A1, A1 = (fedAns (rtakes (m + 1) wd sc RS.start ((bytesL b).take k) 0)).1 := ⟨_, rfl⟩
      obtain ⟨A2, hA2⟩ : ∃ A2, A2 = (fedAns (rtakes (m + 1) wd sc RS.start ((bytesL b).take k) 0)).2 := ⟨_, rfl⟩
      rw [← hA1, ← hA2] at HA ⊢
      clear hA1 hA2 HF
      obtain ⟨B1, hB1⟩ : ∃ B1, B1 = (fedAns o2).1 := ⟨_, rfl⟩
      obtain ⟨B2, hB2⟩ : ∃ B2, B2 = (fedAns o2).2 := ⟨_, rfl⟩
      rw [← hB1, ← hB2] at HFD HA
      have HBB : Hid (B1 = (fedAns o2).1 ∧ B2 = (fedAns o2).2) := ⟨hB1, hB2⟩
      clear hB1 hB2
      generalize rawK cz i = y at *
      have HPK := keepPick_any y r.size wr HRF.out (by omega) (by omega)
      generalize pickK y r.size = px at *
      have HRS : Hid (r.size = b.size - k) := hrs
      clear hrs
      go_wp2_with fail
      refine HRW.mono ?_
      rintro e w2 ⟨rfl, hw2⟩
      obtain rfl := hw2.symm
      go_wp2_with fail
      refine HPK.mono ?_
      rintro e w3 ⟨rfl, hw3⟩
      obtain rfl := hw3.symm
      go_wp2_with fail
      refine HFD.mono ?_
      rintro e w4 ⟨rfl, hF4, hb4⟩
      have HF4 : Hid (FedI w.heap.size K ib tb rb fb cb (m + 1) wd sc ct bins size budget (k + n) o2 w4) := hF4
      have HB4 : Hid (Below w.heap.size w w4) := HB.out.trans hb4
      clear hF4 hb4 HFD HRW HB
      go_upto_region 11 with fail
      go_cut [61] (fun v wx => v = .bool false ∧ wx = w4)
      case first =>
        rcases HA.out with h0 | ⟨h0, h1, h2⟩
        · subst h0
          go_wp2
          go_meet
          exact ⟨rfl, rfl⟩
        · subst h1 h2
          have q2 : (B1 == 0) = false := by rw [beq_eq_false_iff_ne]; exact h0
          go_wp2
          go_meet
          exact ⟨rfl, rfl⟩
      case rest =>
        obtain ⟨rfl, hwx⟩ := hcut
        obtain rfl := hwx.symm
        clear hwx
        go_wp2
        go_roundw
        case rel => exact ⟨k + n, i + 1, r.extract n r.size, rfl, by rw [← HO2.out, ← HBB.out.1], by rw [← HO2.out, ← HBB.out.2], by go_num, by omega, by have := HRS.out; omega, HR2.out.2, HR2.out.1, by rw [← HO2.out]; exact HF4.out, HB4.out⟩
        case measure =>
          show (r.extract n r.size).size < r.size
          have := HRS.out
          rw [HR2.out.2]; omega
    · have hk2 : k = b.size := by omega
      subst hk2
      have et : (bytesL b).take b.size = bytesL b := List.take_of_length_le (by rw [bytesL_len]; exact Nat.le_refl _)
      have hF := HF.out
      rw [et] at hF ⊢
      have HCE := close_end lw b w.heap.size HN.out.1 HSC.out HN.out.2 HB.out.size HIB.out.1 HCL.out hF
      have r0 : ¬ (0 : Int) < (r.size : Int) := by omega
      obtain ⟨o, ho⟩ : ∃ o, o = rtakes (m + 1) wd sc RS.start (bytesL b) 0 := ⟨_, rfl⟩
      rw [← ho] at HCE ⊢
      have HO : Hid (o = rtakes (m + 1) wd sc RS.start (bytesL b) 0) := ho
      clear ho hF et HF HCL hrs hr0
      obtain ⟨A1, hA1⟩ : ∃ A1, A1 = (fedAns o).1 := ⟨_, rfl⟩
      obtain ⟨A2, hA2⟩ : ∃ A2, A2 = (fedAns o).2 := ⟨_, rfl⟩
      rw [← hA1, ← hA2] at HCE ⊢
      clear hA1 hA2
      go_wp2_with fail
      refine HCE.mono ?_
      rintro e w4 ⟨d, z, p, rfl, hR4, hb4, hz⟩
      have HR4 : Hid (FedR lw m wd ct bins size budget b.size o (.returned (.tuple #[.pointer d, .int .i64 z, .int .i64 p])) w4) := hR4
      have HB4 : Hid (Below w.heap.size w w4) := HB.out.trans hb4
      have HZ : Hid (A1 = 0 ∨ A1 ≠ 0 ∧ d = none ∧ z = A1 ∧ p = A2) := hz
      clear hR4 hb4 hz HCE HB
      go_upto_region 17 with fail
      go_cut [88] (fun v wx => v = .bool false ∧ wx = w4)
      case first =>
        rcases HZ.out with h0 | ⟨h0, h1, h2, h3⟩
        · subst h0
          go_wp2
          go_meet
          exact ⟨rfl, rfl⟩
        · subst h1 h2 h3
          have q2 : (z == 0) = false := by rw [beq_eq_false_iff_ne]; exact h0
          go_wp2
          go_meet
          exact ⟨rfl, rfl⟩
      case rest =>
        obtain ⟨rfl, hwx⟩ := hcut
        obtain rfl := hwx.symm
        clear hwx
        go_wp2
        refine bodyPost_ret (v := .tuple #[.pointer d, .int .i64 z, .int .i64 p]) (by simp [results, Tryz.results25, go_sem]) rfl ?_
        rw [← HO.out]
        exact ⟨HR4.out, HB4.out⟩
end Go.Proofs.YtfcgnpchbcmdeaaGreat

namespace Go.Proofs.YtfcgnpchbcmdeaaGreat
open Go.RowKit

def bH : ByteArray := ⟨#[49, 44, 49, 10, 49, 44, 50, 10]⟩
def noW : Nat → Bool := fun _ => false
def no0 : Nat → Int := fun _ => 0
def lwH : List VS → List Int → Int → Int → ES := fun _ _ _ _ => ⟨false, [], []⟩
def sH : RS := match rtakes 1 noW no0 RS.start (bytesL bH) 0 with
  | .ok s => s
  | .error _ => RS.start
def eH : ES := ⟨false, [1], []⟩
def dH : DSS := ⟨[⟨eH, 0⟩], [⟨[0], [0, 2], 3⟩], []⟩
def outH : List Int := [71, 82, 2, 1, 110, 0, 1, 1, 0, 0, 0, 1, 1, 0, 100, 8, 0, 0]

theorem readH : rtakes 1 noW no0 RS.start (bytesL bH) 0 = .ok sH := by kernel_rfl
theorem sH_wt : sH.wt = 0 := by kernel_rfl
theorem sH_ws : sH.ws = [1, 1] := by kernel_rfl
theorem sH_num : (sH.cols 0).map VS.num = [1, 2] := by kernel_rfl
theorem learnH : learnE lwH false 0 2 2 (sH.cols 0) sH.ws = eH := by kernel_rfl
theorem binH : (sH.cols 0).map (binS eH) = [0, 1] := by kernel_rfl
theorem madeH : makeF 0 2 0 [eH] [[0, 1]] = dH := by kernel_rfl
theorem outH_eq : outF dH [] = outH := by kernel_rfl
theorem bytesH : bytesF dH [] = outH ++ [119, 135, 217, 86] := by kernel_rfl
theorem strH : (strOfNums (bytesF dH [])).size = 22 ∧ (strOfNums (bytesF dH [])).extract 0 18 = ⟨#[71, 82, 2, 1, 110, 0, 1, 1, 0, 0, 0, 1, 1, 0, 100, 8, 0, 0]⟩ := by
  rw [bytesH]
  exact ⟨by kernel_rfl, by kernel_rfl⟩
theorem summ1 : rankL 0 (sumOf (pairsOf [5, 3, 5] [1, 2, 4])) = [⟨3, 0, 2, 2⟩, ⟨5, 2, 7, 5⟩] := by kernel_rfl
theorem summ2 : rankL 0 (sumOf (pairsOf [4] [1])) = [⟨4, 0, 1, 1⟩] := by kernel_rfl
theorem joinH : joinL [⟨3, 0, 2, 2⟩, ⟨5, 2, 7, 5⟩] [⟨4, 0, 1, 1⟩] = [⟨3, 0, 2, 2⟩, ⟨4, 2, 3, 1⟩, ⟨5, 3, 8, 5⟩] := by kernel_rfl

theorem closeH : CloseOk lwH 0 noW no0 2 2 sH := by
  refine ⟨(fun ⟨i, _, h⟩ => absurd h (by simp [noW])), fun i hi => ?_, fun i hi v hv => ?_, fun z hz => ?_⟩
  · obtain rfl : i = 0 := by omega
    rw [show learnE lwH (noW 0) (no0 0) 2 2 (sH.cols 0) sH.ws = eH from learnH]
    exact ⟨⟨by decide, by decide, by decide⟩, rfl, by decide⟩
  · obtain rfl : i = 0 := by omega
    have hm : v.num ∈ (sH.cols 0).map VS.num := List.mem_map.2 ⟨v, hv, rfl⟩
    rw [sH_num] at hm
    simp at hm
    omega
  · rw [sH_ws] at hz
    simp at hz
    omega
theorem knH : ∀ K ∈ dH.ks, KnOk K := by
  intro K hK
  simp [dH] at hK
  subst hK
  exact ⟨rfl, rfl, by decide, by decide⟩
theorem bunH : ∀ b ∈ dH.bs, BunOk b := by
  intro b hb
  simp [dH] at hb
  subst hb
  refine ⟨by decide, by decide, ⟨by decide, by decide⟩, ⟨by decide, by decide⟩, by decide⟩
theorem byH : ∀ b ∈ outF dH [], 0 ≤ b ∧ b < 256 := by rw [outH_eq]; decide
theorem seatH : SeatOk dH 0 0 0 := by
  refine ⟨by decide, by decide, by decide, fun i j hi hj h => ?_, fun i hi => ?_, fun i j hi hj => ?_, fun i hi => ?_⟩
  · omega
  · obtain rfl : i = 0 := by omega
    decide
  · obtain rfl : i = 0 := by omega
    obtain rfl : j = 0 := by have : (dH.bs.getD 0 b0S).fs.length = 1 := rfl; omega
    decide
  · obtain rfl : i = 0 := by have : dH.ks.length = 1 := rfl; omega
    decide

theorem fedH (w : World) (fk fc : Nat) (hF : Feats w fk 0 1 noW no0 no0) : Calls Tryz.prog 25 #[.agg #[.slice (some ⟨fk, 0, none⟩) 1 fc, .int .i64 2, .int .i64 2, .int .i64 0], .string bH, .slice none 0 0] w fun e w' => ∃ gb db, e = .returned (.tuple #[.pointer (some ⟨gb, 0, none⟩), .int .i64 0, .int .i64 0]) ∧ OutD w' gb db dH ∧ Below w.heap.size w w' := by
  refine (keepFed_any lwH bH fk 0 0 fc 0 0 none [] 2 2 0 noW no0 no0 w hF (by decide) ⟨rfl, by simp, .inl rfl⟩ (by omega) (by decide) (fun s hs _ => ?_)).mono ?_
  · rw [readH] at hs
    injection hs with hs
    rw [← hs]; exact closeH
  · rintro e w' ⟨hR, hb⟩
    rw [readH] at hR
    rcases hR with ⟨h, _⟩ | ⟨_, gb, db, rfl, hO⟩
    · exact absurd sH_wt h
    · refine ⟨gb, db, rfl, ?_, hb⟩
      have e1 : (List.range (0 + 1)).map (fun i => learnE lwH (noW i) (no0 i) 2 2 (sH.cols i) sH.ws) = [eH] := by
        show [learnE lwH false 0 2 2 (sH.cols 0) sH.ws] = _
        rw [learnH]
      have e2 : (List.range (0 + 1)).map (fun i => (sH.cols i).map (binS (learnE lwH (noW i) (no0 i) 2 2 (sH.cols i) sH.ws))) = [[0, 1]] := by
        show [(sH.cols 0).map (binS (learnE lwH false 0 2 2 (sH.cols 0) sH.ws))] = _
        rw [learnH, binH]
      have e3 : sH.ws.length = 2 := by rw [sH_ws]; rfl
      rw [e1, e2, e3, madeH] at hO
      exact hO

theorem bytesD (w : World) (gb db : Nat) (h : OutD w gb db dH) : Calls Tryz.prog 34 #[.pointer (some ⟨gb, 0, none⟩)] w fun e w' => e = .returned (.string (strOfNums (bytesF dH []))) ∧ Below w.heap.size w w' := by
  obtain ⟨vK, vB, vX, kvs, bvs, X, hX⟩ := h.md
  have hp := hX.perm
  have hX0 : X = [] := List.Perm.eq_nil (by exact hp)
  subst hX0
  exact gBytes_any gb db vK vB vX kvs bvs [] dH w h.gp hX (by decide) knH (by decide) bunH (by decide) (by decide) byH

theorem lookD (w : World) (gb db : Nat) (h : OutD w gb db dH) : Calls Tryz.prog 44 #[.pointer (some ⟨gb, 0, none⟩), .int .i64 1, .int .i64 0] w fun e w' => e = .returned (.tuple #[.int .i64 1, .int .i64 0]) ∧ Below w.heap.size w w' := by
  refine gLookup_yes gb db 0 1 dH 1 w h (by decide) (by decide) (by decide) (by decide) (by decide) (fun W hW => ?_)
  obtain ⟨vK, vB, vX, kvs, bvs, X, hX⟩ := hW.md
  exact lookup_in db 0 0 0 1 vK vB vX kvs bvs X dH W hX seatH (by decide) (by decide) (by decide) (by decide) (by decide) (by decide) (by decide) (by decide)
end Go.Proofs.YtfcgnpchbcmdeaaGreat

namespace Go.Proofs.YtfcgnpchbcmdeaaGreat
open Go.RowKit

theorem three_ints (W : World) (b : Nat) (x y z : Int) (hx : (Lit.int .i64 x).wf = true ∧ (Lit.int .i64 y).wf = true ∧ (Lit.int .i64 z).wf = true) (h : W.heap[b]? = some (.cells #[.int .i64 x, .int .i64 y, .int .i64 z] 3 (0, 0))) : IntsV W (some ⟨b, 0, none⟩) 3 [x, y, z] := by
  refine ⟨rfl, fun q hq => ?_, .inr ⟨b, 0, rfl, (Array.getElem?_eq_some_iff.1 h).1, fun i hi => ?_⟩⟩
  · simp at hq
    rcases hq with e | e | e
    · rw [e]; exact hx.1
    · rw [e]; exact hx.2.1
    · rw [e]; exact hx.2.2
  · rw [Nat.zero_add, cell_of_row _ _ i _ 3 (0, 0) h]
    match i, hi with
    | 0, _ => rfl
    | 1, _ => rfl
    | 2, _ => rfl
theorem one_ints (W : World) (b : Nat) (x : Int) (hx : (Lit.int .i64 x).wf = true) (h : W.heap[b]? = some (.cells #[.int .i64 x] 3 (0, 0))) : IntsV W (some ⟨b, 0, none⟩) 1 [x] := by
  refine ⟨rfl, fun q hq => ?_, .inr ⟨b, 0, rfl, (Array.getElem?_eq_some_iff.1 h).1, fun i hi => ?_⟩⟩
  · simp at hq
    rw [hq]; exact hx
  · rw [Nat.zero_add, cell_of_row _ _ i _ 3 (0, 0) h]
    match i, hi with
    | 0, _ => rfl

theorem sumH1 (W : World) (b1 b2 c1 c2 : Nat) (h1 : W.heap[b1]? = some (.cells #[.int .i64 5, .int .i64 3, .int .i64 5] 3 (0, 0))) (h2 : W.heap[b2]? = some (.cells #[.int .i64 1, .int .i64 2, .int .i64 4] 3 (0, 0))) :
    Calls Tryz.prog 19 #[.slice (some ⟨b1, 0, none⟩) 3 c1, .slice (some ⟨b2, 0, none⟩) 3 c2] W fun e w' => ∃ v, e = .returned v ∧ OwnE w' W.heap.size v [⟨3, 0, 2, 2⟩, ⟨5, 2, 7, 5⟩] ∧ Below W.heap.size W w' := by
  refine (summary_any _ _ 3 c1 3 c2 [5, 3, 5] [1, 2, 4] W (three_ints W b1 5 3 5 (by decide) h1) (three_ints W b2 1 2 4 (by decide) h2) (by decide) (by decide)).mono ?_
  rintro e w' ⟨v, M, rfl, hM, ho, hb⟩
  refine ⟨v, rfl, ?_, hb⟩
  rw [← sumOf_eq hM, summ1] at ho
  exact ho
theorem sumH2 (W : World) (b1 b2 c1 c2 : Nat) (h1 : W.heap[b1]? = some (.cells #[.int .i64 4] 3 (0, 0))) (h2 : W.heap[b2]? = some (.cells #[.int .i64 1] 3 (0, 0))) :
    Calls Tryz.prog 19 #[.slice (some ⟨b1, 0, none⟩) 1 c1, .slice (some ⟨b2, 0, none⟩) 1 c2] W fun e w' => ∃ v, e = .returned v ∧ OwnE w' W.heap.size v [⟨4, 0, 1, 1⟩] ∧ Below W.heap.size W w' := by
  refine (summary_any _ _ 1 c1 1 c2 [4] [1] W (one_ints W b1 4 (by decide) h1) (one_ints W b2 1 (by decide) h2) (by decide) (by decide)).mono ?_
  rintro e w' ⟨v, M, rfl, hM, ho, hb⟩
  refine ⟨v, rfl, ?_, hb⟩
  rw [← sumOf_eq hM, summ2] at ho
  exact ho

theorem goodH1 : Good [⟨3, 0, 2, 2⟩, ⟨5, 2, 7, 5⟩] := ⟨by decide, by decide⟩
theorem goodH2 : Good [⟨4, 0, 1, 1⟩] := ⟨by decide, by decide⟩

set_option maxRecDepth 100000 in
set_option maxHeartbeats 4000000 in
theorem head_any : HeadSaid := by
  intro w
  obtain ⟨w1, hw1⟩ : ∃ w1, w1 = (w.alloc (.cells #[.int .i64 5, .int .i64 3, .int .i64 5] 3)).alloc (.cells #[.int .i64 1, .int .i64 2, .int .i64 4] 3) := ⟨_, rfl⟩
  have hb1 : Below w.heap.size w w1 := by rw [hw1]; exact ((Below.refl _ _).alloc (Nat.le_refl _) _).alloc (by simp) _
  have h1a : w1.heap[w.heap.size]? = some (.cells #[.int .i64 5, .int .i64 3, .int .i64 5] 3 (0, 0)) := by rw [hw1]; exact (Below.heap_alloc _ _ _ (by simp)).trans (heap_alloc_new w _)
  have h1b : w1.heap[w.heap.size + 1]? = some (.cells #[.int .i64 1, .int .i64 2, .int .i64 4] 3 (0, 0)) := by
    have := heap_alloc_new (w.alloc (.cells #[.int .i64 5, .int .i64 3, .int .i64 5] 3)) (.cells #[.int .i64 1, .int .i64 2, .int .i64 4] 3)
    rw [show (w.alloc (.cells #[.int .i64 5, .int .i64 3, .int .i64 5] 3)).heap.size = w.heap.size + 1 by simp] at this
    rw [hw1]; exact this
  have HS1 := sumH1 w1 _ _ 3 3 h1a h1b
  have HB1 : Hid (Below w.heap.size w w1) := hb1
  clear hb1 h1a h1b
  go_enter Tryz.func16, Tryz.ntmps16
  go_wp2_with fail
  rw [← hw1]
  clear hw1
  refine HS1.mono ?_
  rintro e w2 ⟨v1, rfl, ho1, hb2⟩
  obtain ⟨a1, c1, e1, hE1, _, _⟩ := ho1.seen (by decide)
  obtain rfl : v1 = .slice a1 2 c1 := e1
  obtain ⟨b1, o1, rfl, hA1⟩ : ∃ b off, a1 = some ⟨b, off, none⟩ ∧ EntsAt w2 b off [⟨3, 0, 2, 2⟩, ⟨5, 2, 7, 5⟩] := by
    rcases hE1.2 with h0 | h
    · cases h0
    · exact h
  have HB2 : Hid (Below w.heap.size w w2) := HB1.out.trans (hb2.mono HB1.out.size)
  have HA1 : Hid (EntsAt w2 b1 o1 [⟨3, 0, 2, 2⟩, ⟨5, 2, 7, 5⟩]) := hA1
  clear ho1 hb2 hE1 hA1 HS1 HB1
  obtain ⟨w3, hw3⟩ : ∃ w3, w3 = (w2.alloc (.cells #[.int .i64 4] 3)).alloc (.cells #[.int .i64 1] 3) := ⟨_, rfl⟩
  have hb3 : Below w2.heap.size w2 w3 := by rw [hw3]; exact ((Below.refl _ _).alloc (Nat.le_refl _) _).alloc (by simp) _
  have h3a : w3.heap[w2.heap.size]? = some (.cells #[.int .i64 4] 3 (0, 0)) := by rw [hw3]; exact (Below.heap_alloc _ _ _ (by simp)).trans (heap_alloc_new w2 _)
  have h3b : w3.heap[w2.heap.size + 1]? = some (.cells #[.int .i64 1] 3 (0, 0)) := by
    have := heap_alloc_new (w2.alloc (.cells #[.int .i64 4] 3)) (.cells #[.int .i64 1] 3)
    rw [show (w2.alloc (.cells #[.int .i64 4] 3)).heap.size = w2.heap.size + 1 by simp] at this
    rw [hw3]; exact this
  have HS2 := sumH2 w3 _ _ 1 1 h3a h3b
  have HB3 : Hid (Below w2.heap.size w2 w3) := hb3
  clear hb3 h3a h3b
  go_wp2_with fail
  rw [← hw3]
  clear hw3
  refine HS2.mono ?_
  rintro e w4 ⟨v2, rfl, ho2, hb4⟩
  obtain ⟨a2, c2, e2, hE2, _, _⟩ := ho2.seen (by decide)
  obtain rfl : v2 = .slice a2 1 c2 := e2
  have HB4 : Hid (Below w2.heap.size w2 w4) := HB3.out.trans (hb4.mono HB3.out.size)
  have HJ := granJoin_any (some ⟨b1, o1, none⟩) a2 [⟨3, 0, 2, 2⟩, ⟨5, 2, 7, 5⟩] [⟨4, 0, 1, 1⟩] c1 c2 w4 ⟨by decide, .inr ⟨b1, o1, rfl, HA1.out.below HB4.out⟩⟩ hE2 goodH1 goodH2
  rw [joinH] at HJ
  clear ho2 hb4 hE2 HS2 HB3
  go_wp2_with fail
  refine HJ.mono ?_
  rintro e w5 ⟨v3, rfl, ho3, hb5⟩
  obtain ⟨a3, c3, e3, hE3, _, _⟩ := ho3.seen (by decide)
  obtain rfl : v3 = .slice a3 3 c3 := e3
  obtain ⟨b3, o3, rfl, hA3⟩ : ∃ b off, a3 = some ⟨b, off, none⟩ ∧ EntsAt w5 b off [⟨3, 0, 2, 2⟩, ⟨4, 2, 3, 1⟩, ⟨5, 3, 8, 5⟩] := by
    rcases hE3.2 with h0 | h
    · cases h0
    · exact h
  have HB5 : Hid (Below w2.heap.size w2 w5) := HB4.out.trans (hb5.mono HB4.out.size)
  have hA1 := HA1.out.below HB5.out
  have x0 : w5.cell? ⟨b1, o1 + 4, none⟩ = some (.int .i64 5) := hA1.v 1 (by decide)
  have x1 : w5.cell? ⟨b1, o1 + 4 + 1, none⟩ = some (.int .i64 2) := hA1.lo 1 (by decide)
  have x2 : w5.cell? ⟨b1, o1 + 4 + 2, none⟩ = some (.int .i64 7) := hA1.hi 1 (by decide)
  have x3 : w5.cell? ⟨b1, o1 + 4 + 3, none⟩ = some (.int .i64 5) := hA1.wt 1 (by decide)
  have y0 : w5.cell? ⟨b3, o3 + 4, none⟩ = some (.int .i64 4) := hA3.v 1 (by decide)
  have y1 : w5.cell? ⟨b3, o3 + 4 + 1, none⟩ = some (.int .i64 2) := hA3.lo 1 (by decide)
  have y2 : w5.cell? ⟨b3, o3 + 4 + 2, none⟩ = some (.int .i64 3) := hA3.hi 1 (by decide)
  have y3 : w5.cell? ⟨b3, o3 + 4 + 3, none⟩ = some (.int .i64 1) := hA3.wt 1 (by decide)
  have HB5w : Hid (Below w.heap.size w w5) := HB2.out.trans (HB5.out.mono HB2.out.size)
  clear ho3 hb5 hE3 HJ HB4 hA1 hA3 HA1 HB2 HB5
  go_upto_region 5 with fail
  clear x0 x1 x2 x3 y0 y1 y2 y3
  obtain ⟨w6, hw6⟩ : ∃ w6, w6 = w5.alloc (.cells #[.bool false, .int .i64 0, .int .i64 0] 51) := ⟨_, rfl⟩
  have hb6 : Below w5.heap.size w5 w6 := by rw [hw6]; exact (Below.refl _ _).alloc (Nat.le_refl _) _
  have h6 : w6.heap[w5.heap.size]? = some (.cells #[.bool false, .int .i64 0, .int .i64 0] 51 (0, 0)) := by rw [hw6]; exact heap_alloc_new w5 _
  have hft : Feats w6 w5.heap.size 0 1 noW no0 no0 := by
    refine ⟨by decide, fun _ => (Array.getElem?_eq_some_iff.1 h6).1, fun i hi => ?_, fun i hi => ?_, fun i hi => ?_⟩
    · obtain rfl : i = 0 := by omega
      exact cell_of_row _ _ 0 _ 51 (0, 0) h6
    · obtain rfl : i = 0 := by omega
      exact cell_of_row _ _ 1 _ 51 (0, 0) h6
    · obtain rfl : i = 0 := by omega
      exact cell_of_row _ _ 2 _ 51 (0, 0) h6
  have HFD := fedH w6 w5.heap.size 1 hft
  unfold bH at HFD
  have HB6 : Hid (Below w.heap.size w w6) := HB5w.out.trans (hb6.mono HB5w.out.size)
  clear hft h6 hb6 HB5w
  go_wp2_with fail
  rw [← hw6]
  clear hw6
  refine HFD.mono ?_
  rintro e w7 ⟨gb, db, rfl, hO7, hb7⟩
  have HO7 : Hid (OutD w7 gb db dH) := hO7
  have HB7 : Hid (Below w.heap.size w w7) := HB6.out.trans (hb7.mono HB6.out.size)
  clear hO7 hb7 HFD HB6
  have HBY := bytesD w7 gb db HO7.out
  obtain ⟨hs1, hs2⟩ := strH
  generalize strOfNums (bytesF dH []) = S at *
  have HS2 : Hid (S.extract 0 18 = ⟨#[71, 82, 2, 1, 110, 0, 1, 1, 0, 0, 0, 1, 1, 0, 100, 8, 0, 0]⟩) := hs2
  clear hs2
  go_wp2_with fail
  refine HBY.mono ?_
  rintro e w8 ⟨rfl, hb8⟩
  have HLK := lookD w8 gb db (HO7.out.below hb8)
  have HB8 : Hid (Below w.heap.size w w8) := HB7.out.trans (hb8.mono HB7.out.size)
  clear hb8 HBY HB7 HO7
  go_wp2_with fail
  refine HLK.mono ?_
  rintro e w9 ⟨rfl, hb9⟩
  have HB9 : Hid (Below w.heap.size w w9) := HB8.out.trans (hb9.mono HB8.out.size)
  clear hb9 HLK HB8
  have hs2 := HS2.out
  have l1 : (S.size : Int) = 22 := by rw [hs1]; rfl
  have l2 : (18 : Int) ≤ (S.size : Int) := by omega
  clear hs1
  go_wp2
  go_ret
  exact ⟨rfl, HB9.out⟩
end Go.Proofs.YtfcgnpchbcmdeaaGreat
