import Derived.Test.YtfcgnpchbcmdeaaGreatZpbh
namespace Go.Proofs.YtfcgnpchbcmdeaaGreat
open Go.RowKit
structure SeatOk (D : DSS) (f bi p : Nat) : Prop where
  hb : bi < D.bs.length
  hp : p < (D.bs.getD bi b0S).fs.length
  at_ : (D.bs.getD bi b0S).fs.getD p 0 = f
  no : ∀ i j, i <= bi -> j < (D.bs.getD i b0S).fs.length -> (i < bi ∨ j < p) -> (D.bs.getD i b0S).fs.getD j 0 ≠ f
  fl : ∀ i, i <= bi -> (D.bs.getD i b0S).fs.length <= 100
  fk : ∀ i j, i <= bi -> j < (D.bs.getD i b0S).fs.length -> (D.bs.getD i b0S).fs.getD j 0 < D.ks.length
  mn : ∀ i, i < D.ks.length -> (D.ks.getD i k0S).many <= 100
def offK (D : DSS) (i j : Nat) : Nat := 1 + sumM D.ks ((D.bs.getD i b0S).fs.take j)
theorem sumM_le (Ks : List KS) : ∀ fs : List Nat, (∀ f ∈ fs, (Ks.getD f k0S).many <= 100) -> sumM Ks fs <= 100 * fs.length
  | [], _ => by simp [sumM]
  | f :: fs, h => by have h1 := sumM_le Ks fs (fun x hx => h x (by simp [hx]));have h2 := h f (by simp);unfold sumM at h1 ⊢;simp only [List.map_cons, List.sum_cons, List.length_cons];omega
set_option maxRecDepth 100000 in
set_option maxHeartbeats 8000000 in
theorem seat_any (db f bi p : Nat) (vK vB vX : Value) (kvs bvs : List (Value × Value)) (X : List XS) (D : DSS) (w : World) (h : MadeX w db vK vB vX kvs bvs X D) (hs : SeatOk D f bi p) (hbl : D.bs.length <= 1000) : Calls Tryz.prog 145 #[.pointer (some ⟨db, 0, none⟩), .int .i64 (f : Nat)] w fun e w' => e = .returned (.tuple #[.agg #[(bvs.getD bi vv0).1, (bvs.getD bi vv0).2], .int .i64 (offK D bi p : Nat)]) /\ Below w.heap.size w w' := by
  have HM : Hid (MadeX w db vK vB vX kvs bvs X D) := h;have HS : Hid (SeatOk D f bi p) := hs;obtain ⟨qb, cB, hvB, hqbl, _, _⟩ := h.ds.bn.at (i := 0) (by have := hs.hb; omega);subst hvB;have hkpos : 0 < D.ks.length := (by have := hs.fk bi p (Nat.le_refl _) hs.hp; omega);obtain ⟨qk, cK, _, _, _, _, hvK, hqkl, _⟩ := h.kn.at (i := 0) hkpos;subst hvK;have d1 : w.cell? ⟨db, 1, none⟩ = some (.slice (some ⟨qb, 0, none⟩) D.bs.length cB) := cell_of_row _ _ 1 _ 168 (0, 0) h.ds.blk;have d0 : w.cell? ⟨db, 0, none⟩ = some (.slice (some ⟨qk, 0, none⟩) D.ks.length cK) := cell_of_row _ _ 0 _ 168 (0, 0) h.ds.blk;have hdl : db < w.heap.size := (Array.getElem?_eq_some_iff.1 h.ds.blk).1;clear h hs;generalize hnb : D.bs.length = nb at *;generalize hnk : D.ks.length = nk at *;have HN : Hid (D.bs.length = nb /\ D.ks.length = nk) := ⟨hnb, hnk⟩;clear hnb hnk;go_enter Tryz.func145, Tryz.ntmps145;go_wp2_with fail
  go_loopw [13] (fun ti wr => ∃ (i : Nat) (u0 u1 : Value), ti = .int .i64 i /\ i <= bi /\ Hid (wr.heap[w.heap.size]? = some (.cells #[u0, u1] 163 (0, 0)) /\ Below w.heap.size w wr)) (fun ti _ => nb - (intOf ti).toNat)
  case atStart => exact ⟨0, .slice none 0 0, .nilIface, rfl, Nat.zero_le _, heap_alloc_new _ _, (Below.refl _ _).alloc (Nat.le_refl _) _⟩
  case round =>
    obtain ⟨i, u0, u1, rfl, hib, HR⟩ := hrel;have hin : i < nb := (by have := HS.out.hb; have := HN.out.1; omega);have hiL : i < D.bs.length := (by rw [HN.out.1]; exact hin);obtain ⟨q', c', hv', hql, k0, k1⟩ := HM.out.ds.bn.at hiL;have hqq : q' = qb := (by injection hv' with h1; injection h1 with h1; injection h1 with h1 _; exact h1.symm);subst hqq;obtain ⟨hI, hcol⟩ := HM.out.ds.bn.each i hiL;obtain ⟨fa, fcc, hvf⟩ := hI.shape;obtain ⟨ct, cp, hvc⟩ := hcol.iface;rw [natI_len] at hvf;rw [hvf] at k0 hI;rw [hvc] at k1;have HVF : Hid ((bvs.getD i vv0).1 = .slice fa (D.bs.getD i b0S).fs.length fcc /\ (bvs.getD i vv0).2 = .iface ct (.pointer (some ⟨cp, 0, none⟩))) := ⟨hvf, hvc⟩;have e0 := (HR.out.2.cell (p := ⟨q', i * 2, none⟩) hql).trans k0;have e1 := (HR.out.2.cell (p := ⟨q', i * 2 + 1, none⟩) hql).trans k1
    have r0 : wr.cell? ⟨w.heap.size, 0, none⟩ = some u0 := cell_of_row _ _ 0 _ 163 (0, 0) HR.out.1;have r1 : wr.cell? ⟨w.heap.size, 1, none⟩ = some u1 := cell_of_row _ _ 1 _ 163 (0, 0) HR.out.1;have f0 : wr.frozen? ⟨w.heap.size, 0, none⟩ = false := frozen_of_row _ _ 0 _ 163 HR.out.1;have f1 : wr.frozen? ⟨w.heap.size, 1, none⟩ = false := frozen_of_row _ _ 1 _ 163 HR.out.1;have HI : Hid (OwnI w 0 (.slice fa (D.bs.getD i b0S).fs.length fcc) (natI (D.bs.getD i b0S).fs)) := hI;have HFL := HS.out.fl i hib;have bi1 : (0 : Int) <= (i : Int) := (by omega);have bi2 : (i : Int) < (nb : Int) := (by omega);clear hvf hvc hI hcol k0 k1 hv';generalize hnf : (D.bs.getD i b0S).fs.length = nf at *;have HNF : Hid ((D.bs.getD i b0S).fs.length = nf) := hnf;clear hnf
    have HW2 : Hid (((wr.setCell ⟨w.heap.size, 0, none⟩ (.slice fa nf fcc)).setCell ⟨w.heap.size, 1, none⟩ (.iface ct (.pointer (some ⟨cp, 0, none⟩)))).heap[w.heap.size]? = some (.cells #[.slice fa nf fcc, .iface ct (.pointer (some ⟨cp, 0, none⟩))] 163 (0, 0)) /\ Below w.heap.size w ((wr.setCell ⟨w.heap.size, 0, none⟩ (.slice fa nf fcc)).setCell ⟨w.heap.size, 1, none⟩ (.iface ct (.pointer (some ⟨cp, 0, none⟩))))) :=
      ⟨heap_setCell_same _ _ 1 _ 163 _ (heap_setCell_same _ _ 0 _ 163 _ HR.out.1), (HR.out.2.setCell (Nat.le_refl w.heap.size) _).setCell (Nat.le_refl w.heap.size) _⟩
    go_upto_region 4 with fail;generalize (wr.setCell ⟨w.heap.size, 0, none⟩ (.slice fa nf fcc)).setCell ⟨w.heap.size, 1, none⟩ (.iface ct (.pointer (some ⟨cp, 0, none⟩))) = w2 at *;clear r0 r1 f0 f1 e0 e1 HR;have s0 : w2.cell? ⟨w.heap.size, 0, none⟩ = some (.slice fa nf fcc) := cell_of_row _ _ 0 _ 163 (0, 0) HW2.out.1;go_wp2_with fail
    obtain ⟨wl, hwl⟩ : ∃ wl, wl = wr := ⟨wr, rfl⟩;subst hwl;go_loopw [5, 20] (fun tof tj wr => ∃ (j : Nat), tof = .int .i64 (offK D i j : Nat) /\ tj = .int .i64 j /\ j <= nf /\ (i = bi -> j <= p) /\ Hid (wr.heap[w.heap.size]? = some (.cells #[.slice fa nf fcc, .iface ct (.pointer (some ⟨cp, 0, none⟩))] 163 (0, 0)) /\ Below w.heap.size w wr)) (fun _ tj _ => nf - (intOf tj).toNat)
    case atStart => exact ⟨0, rfl, rfl, Nat.zero_le _, fun _ => Nat.zero_le _, HW2.out⟩
    case round =>
      clear HW2 s0;obtain ⟨j, rfl, rfl, hj, hjp, HR⟩ := hrel;have r0 : wr.cell? ⟨w.heap.size, 0, none⟩ = some (.slice fa nf fcc) := cell_of_row _ _ 0 _ 163 (0, 0) HR.out.1;have r1 : wr.cell? ⟨w.heap.size, 1, none⟩ = some (.iface ct (.pointer (some ⟨cp, 0, none⟩))) := cell_of_row _ _ 1 _ 163 (0, 0) HR.out.1;have f0 : wr.frozen? ⟨w.heap.size, 0, none⟩ = false := frozen_of_row _ _ 0 _ 163 HR.out.1;have f1 : wr.frozen? ⟨w.heap.size, 1, none⟩ = false := frozen_of_row _ _ 1 _ 163 HR.out.1;have hsz := HR.out.2.size
      have hoff : offK D i j <= 10001 := by
        have h1 := sumM_le D.ks ((D.bs.getD i b0S).fs.take j) (fun x hx => by
          obtain ⟨y, hy, rfl⟩ := List.getElem_of_mem hx;have hy2 : y < (D.bs.getD i b0S).fs.length := (by rw [List.length_take] at hy; omega);have h2 := HS.out.fk i y hib hy2;have h3 : (D.bs.getD i b0S).fs.getD y 0 = ((D.bs.getD i b0S).fs.take j)[y] := (by rw [List.getD, List.getElem?_eq_getElem hy2, List.getElem_take]; rfl);rw [h3] at h2
          exact HS.out.mn _ h2)
        have h4 : ((D.bs.getD i b0S).fs.take j).length <= 100 := (by rw [List.length_take];have := HNF.out;omega);unfold offK;omega
      by_cases hjn : j < nf
      · have hjL : j < (D.bs.getD i b0S).fs.length := (by rw [HNF.out]; exact hjn);have hIw : OwnI wr 0 (.slice fa nf fcc) (natI (D.bs.getD i b0S).fs) := HI.out.below HR.out.2;obtain ⟨qf, hqf, hqfl, _, y0, _⟩ := hIw.atK (by rw [natI_len]; exact HNF.out) hjn;rw [natI_getD] at y0;subst hqf;have hfk := HS.out.fk i j hib hjL;rw [HN.out.2] at hfk
        have HNX : Hid (offK D i (j + 1) = offK D i j + (D.ks.getD ((D.bs.getD i b0S).fs.getD j 0) k0S).many) := by
          show 1 + sumM D.ks ((D.bs.getD i b0S).fs.take (j + 1)) = 1 + sumM D.ks ((D.bs.getD i b0S).fs.take j) + _
          have key : ∀ (B : List Nat), j < B.length -> B.take (j + 1) = B.take j ++ [B.getD j 0] := fun B hB => by rw [List.take_succ_eq_append_getElem hB]; simp [List.getD, hB]
          have this := key _ hjL;rw [this, sumM_snoc];omega
        have bj1 : (0 : Int) <= (j : Int) := (by omega);have bj2 : (j : Int) < (nf : Int) := by omega
        by_cases hgf : (D.bs.getD i b0S).fs.getD j 0 = f
        · have hibi : i = bi := by
            by_cases e : i = bi
            exact e;exact absurd hgf (HS.out.no i j hib hjL (.inl (by omega)))
          have hjp2 : j = p := by
            have h1 := hjp hibi
            by_cases e : j = p
            exact e;exact absurd hgf (HS.out.no i j hib hjL (.inr (by omega)))
          have hgI : (((D.bs.getD i b0S).fs.getD j 0 : Nat) : Int) = (f : Int) := (by rw [hgf]);rw [hgI] at y0;have HFIN : Hid ((.agg #[(bvs.getD bi vv0).1, (bvs.getD bi vv0).2] : Value) = .agg #[.slice (some ⟨qf, 0, none⟩) nf fcc, .iface ct (.pointer (some ⟨cp, 0, none⟩))] /\ offK D bi p = offK D i j) := by rw [<- hibi, <- hjp2];exact ⟨by rw [HVF.out.1, HVF.out.2], rfl⟩
          have HB : Hid (Below w.heap.size w ((wr.setCell ⟨w.heap.size, 0, none⟩ (.slice (some ⟨qf, 0, none⟩) nf fcc)).setCell ⟨w.heap.size, 1, none⟩ (.iface ct (.pointer (some ⟨cp, 0, none⟩))))) := (HR.out.2.setCell (Nat.le_refl w.heap.size) _).setCell (Nat.le_refl w.heap.size) _;clear hgf hgI hibi hjp2 hjp hfk HNX hIw;generalize offK D i j = oo at *;go_wp2;refine bodyPost_ret (v := .tuple #[.agg #[.slice (some ⟨qf, 0, none⟩) nf fcc, .iface ct (.pointer (some ⟨cp, 0, none⟩))], .int .i64 (oo : Nat)]) (by simp [results, Tryz.results145, go_sem, *]) rfl ?_;rw [HFIN.out.1, HFIN.out.2];exact ⟨rfl, HB.out⟩
        have hne : ((((D.bs.getD i b0S).fs.getD j 0 : Nat) : Int) == (f : Int)) = false := beq_eq_false_iff_ne.2 (fun e => hgf (by omega));have hgL : (D.bs.getD i b0S).fs.getD j 0 < D.ks.length := (by rw [HN.out.2]; exact hfk);have hmn := HS.out.mn _ hgL;obtain ⟨ab, cb, aw, cw, _, k0, k1, k2, _, _, _⟩ := HM.out.kn.at2 (i := (D.bs.getD i b0S).fs.getD j 0) hgL
        have hjp3 : i = bi -> j + 1 <= p := fun e => by
          have h1 := hjp e
          by_cases e2 : j = p
          subst e2;subst e;exact absurd HS.out.at_ hgf;omega
        generalize (D.bs.getD i b0S).fs.getD j 0 = g at *;have e0 := (HR.out.2.cell (p := ⟨qk, g * 4, none⟩) hqkl).trans k0;have e1 := (HR.out.2.cell (p := ⟨qk, g * 4 + 1, none⟩) hqkl).trans k1;have e2 := (HR.out.2.cell (p := ⟨qk, g * 4 + 2, none⟩) hqkl).trans k2;have d0w := (HR.out.2.cell (p := ⟨db, 0, none⟩) hdl).trans d0;have HMN := KS.many_eq (D.ks.getD g k0S)
        have HHM : Hid (∀ W : World, Calls Tryz.prog 146 #[.agg #[.bool (D.ks.getD g k0S).e.wd, .slice ab (D.ks.getD g k0S).e.bs.length cb, .slice aw (D.ks.getD g k0S).e.ww.length cw]] W fun e w' => e = .returned (.int .i64 (((D.ks.getD g k0S).many : Nat) : Int)) /\ Below W.heap.size W w') := fun W => by rw [<- HMN];exact howMany_any _ ab aw _ cb _ cw W (by unfold KS.many ES.cnt at hmn; omega)
        clear HMN k0 k1 k2 hIw hgf hjp;generalize D.ks.getD g k0S = Kg at *;generalize Kg.e.wd = kwd at *;generalize Kg.e.bs.length = knb at *;generalize Kg.e.ww.length = knw at *;generalize Kg.many = km at *;generalize offK D i j = oo at *;have bg1 : (0 : Int) <= (g : Int) := (by omega);have bg2 : (g : Int) < (nk : Int) := (by omega);go_wp2_with fail
        refine (HHM.out _).mono ?_;rintro e w5 ⟨rfl, hb5⟩;have hb5' := hb5;have HN5 : Hid (w5.heap[w.heap.size]? = some (.cells #[.slice (some ⟨qf, 0, none⟩) nf fcc, .iface ct (.pointer (some ⟨cp, 0, none⟩))] 163 (0, 0)) /\ Below w.heap.size w w5) := ⟨(hb5.block _ (Array.getElem?_eq_some_iff.1 HR.out.1).1).trans HR.out.1, HR.out.2.trans (hb5.mono hsz)⟩;clear hb5 hb5' HR r0 r1 f0 f1 e0 e1 e2 d0w HHM y0;go_wp2;go_roundw;case rel => exact ⟨j + 1, by rw [HNX.out]; go_num, by go_num, by omega, hjp3, HN5⟩
        case measure => simp [intOf]; omega
      have hnj : ¬ (j : Int) < (nf : Int) := by omega
      have hibi : i < bi := by
        by_cases e : i = bi
        have h1 := hjp e;have h2 := HS.out.hp;rw [<- e, HNF.out] at h2;omega;omega
      have HB' : Hid _ := HR;clear r0 r1 f0 f1;go_wp2;go_roundw;case rel => exact ⟨i + 1, _, _, by go_num, by omega, HB'⟩
      case measure => simp [intOf]; omega
end Go.Proofs.YtfcgnpchbcmdeaaGreat

namespace Go.Proofs.YtfcgnpchbcmdeaaGreat
open Go.RowKit
set_option maxRecDepth 100000 in
set_option maxHeartbeats 8000000 in
theorem lookup_in (db f bi p row : Nat) (vK vB vX : Value) (kvs bvs : List (Value × Value)) (X : List XS) (D : DSS) (w : World) (h : MadeX w db vK vB vX kvs bvs X D) (hs : SeatOk D f bi p) (hbl : D.bs.length <= 1000) (hden : ¬ 4 * nzN (D.bs.getD bi b0S).N < (D.bs.getD bi b0S).N.length) (hrow : row < (D.bs.getD bi b0S).N.length) (hnl : (D.bs.getD bi b0S).N.length <= 200) (hd : Lib.bitLen (D.bs.getD bi b0S).g <= 6) (hN : (D.bs.getD bi b0S).N.getD row 0 < 2 ^ Lib.bitLen (D.bs.getD bi b0S).g) (hin1 : offK D bi p <= (D.bs.getD bi b0S).N.getD row 0) (hin2 : (D.bs.getD bi b0S).N.getD row 0 < offK D bi p + (D.ks.getD f k0S).many) : Calls Tryz.prog 78 #[.pointer (some ⟨db, 0, none⟩), .int .i64 (row : Nat), .int .i64 (f : Nat)] w fun e w' => e = .returned (.int .i64 ((D.bs.getD bi b0S).N.getD row 0 - offK D bi p : Nat)) /\ Below w.heap.size w w' := by
  have HM : Hid (MadeX w db vK vB vX kvs bvs X D) := h;have HSE := seat_any db f bi p vK vB vX kvs bvs X D w h hs hbl;obtain ⟨hI, hcol⟩ := h.ds.bn.each bi hs.hb;obtain ⟨fa, fcc, hvf⟩ := hI.shape;have hfk := hs.fk bi p (Nat.le_refl _) hs.hp;rw [hs.at_] at hfk;have hmn := hs.mn f hfk;obtain ⟨qk, cK, ab, cb, aw, cw, hvK, hqkl, k0, k1, k2, _⟩ := h.kn.at hfk;subst hvK;have d0 : w.cell? ⟨db, 0, none⟩ = some (.slice (some ⟨qk, 0, none⟩) D.ks.length cK) := cell_of_row _ _ 0 _ 168 (0, 0) h.ds.blk;have hdl : db < w.heap.size := (Array.getElem?_eq_some_iff.1 h.ds.blk).1
  rcases hcol with ⟨h1, _⟩ | ⟨_, pp, e, dd, q, e2, _, hX⟩
  exact absurd h1 hden;rw [hvf, e, e2] at HSE;have hmul : row * Lib.bitLen (D.bs.getD bi b0S).g + Lib.bitLen (D.bs.getD bi b0S).g <= (D.bs.getD bi b0S).N.length * Lib.bitLen (D.bs.getD bi b0S).g := (by rw [<- Nat.succ_mul];exact Nat.mul_le_mul_right _ hrow);have hmul2 : (D.bs.getD bi b0S).N.length * Lib.bitLen (D.bs.getD bi b0S).g <= 200 * 6 := Nat.mul_le_mul hnl hd
  have HAT : Hid (∀ W : World, Below w.heap.size w W -> Calls Tryz.prog 323 #[.pointer (some ⟨dd, 0, none⟩), .int .i64 (row : Nat)] W fun e w' => e = .returned (.int .i64 ((D.bs.getD bi b0S).N.getD row 0 : Nat)) /\ Below W.heap.size W w') := fun W hW => by have hX' : DenX W 0 dd q (D.bs.getD bi b0S).N.length (Lib.bitLen (D.bs.getD bi b0S).g) (packF (bitsN (D.bs.getD bi b0S).N (Lib.bitLen (D.bs.getD bi b0S).g)) (((D.bs.getD bi b0S).N.length * Lib.bitLen (D.bs.getD bi b0S).g + 7) / 8) ((D.bs.getD bi b0S).N.length * Lib.bitLen (D.bs.getD bi b0S).g)) := ⟨(hW.block _ (Array.getElem?_eq_some_iff.1 hX.blk).1).trans hX.blk, (Touch.of_below (S := fun _ => False) hW).row hX.row (fun _ _ => id)⟩;have h1 := denseAt_any dd q _ _ _ _ row _ W hX' (fun t => bitsN_le _ _ t) hd hmul (by omega) (by omega);rw [bitsN_row _ hN] at h1;exact h1
  have HMN := KS.many_eq (D.ks.getD f k0S)
  have HHM : Hid (∀ W : World, Calls Tryz.prog 146 #[.agg #[.bool (D.ks.getD f k0S).e.wd, .slice ab (D.ks.getD f k0S).e.bs.length cb, .slice aw (D.ks.getD f k0S).e.ww.length cw]] W fun e w' => e = .returned (.int .i64 (((D.ks.getD f k0S).many : Nat) : Int)) /\ Below W.heap.size W w') := fun W => by rw [<- HMN];exact howMany_any _ ab aw _ cb _ cw W (by unfold KS.many ES.cnt at hmn; omega)
  have hx64 : (D.bs.getD bi b0S).N.getD row 0 < 64 := Nat.lt_of_lt_of_le hN (Nat.pow_le_pow_right (by decide) hd);clear HMN hmul hmul2 hX e e2 hvf hI hden hN hd hnl hrow hs h;generalize (D.bs.getD bi b0S).N.getD row 0 = x at *;generalize offK D bi p = off at *;generalize (natI (D.bs.getD bi b0S).fs).length = nf at *;generalize D.ks.getD f k0S = Kf at *;generalize Kf.e.wd = kwd at *;generalize Kf.e.bs.length = knb at *;generalize Kf.e.ww.length = knw at *;generalize Kf.many = km at *;generalize hnk : D.ks.length = nk at *;clear hnk
  have hme : ∀ W : World, (method 535 382 (.pointer (some ⟨dd, 0, none⟩)) "At").run Tryz.prog W = .ok (323, .pointer (some ⟨dd, 0, none⟩)) W := fun W => by kernel_rfl
  go_enter Tryz.func78, Tryz.ntmps78;go_wp2_with fail
  refine HSE.mono ?_;rintro e w2 ⟨rfl, hb2⟩;have HB2 : Hid (Below w.heap.size w w2) := hb2;clear hb2 HSE;go_wp2_with fail
  refine (HAT.out _ (HB2.out.alloc HB2.out.size _)).mono ?_;rintro e w3 ⟨rfl, hb3⟩;have HB3 : Hid (Below w.heap.size w w3) := (HB2.out.alloc HB2.out.size _).trans (hb3.mono (by have := HB2.out.size; simp; omega));have d0w := (HB3.out.cell (p := ⟨db, 0, none⟩) hdl).trans d0;have e0 := (HB3.out.cell (p := ⟨qk, f * 4, none⟩) hqkl).trans k0;have e1 := (HB3.out.cell (p := ⟨qk, f * 4 + 1, none⟩) hqkl).trans k1;have e2 := (HB3.out.cell (p := ⟨qk, f * 4 + 2, none⟩) hqkl).trans k2;obtain ⟨bn, hbn⟩ : ∃ bn, bn = x - off := ⟨_, rfl⟩;have q1 : (x : Int) - (off : Int) = (bn : Int) := (by omega);have q2 : IntKind.i64.wrap (bn : Int) = (bn : Int) := wrapI (by omega) (by omega);have q3 : (0 : Int) <= (bn : Int) := (by omega);have q4 : (bn : Int) < (km : Int) := (by omega);have bf1 : (0 : Int) <= (f : Int) := (by omega);have bf2 : (f : Int) < (nk : Int) := (by omega);have HBN : Hid (bn = x - off) := hbn
  clear hb3 hbn HB2;go_wp2_with fail
  refine (HHM.out _).mono ?_;rintro e w4 ⟨rfl, hb4⟩;have HB4 : Hid (Below w.heap.size w w4) := HB3.out.trans (hb4.mono HB3.out.size);clear hb4;go_wp2;go_ret;rw [<- HBN.out];exact ⟨rfl, HB4.out⟩
end Go.Proofs.YtfcgnpchbcmdeaaGreat

namespace Go.Proofs.YtfcgnpchbcmdeaaGreat
open Go.RowKit
theorem OutD.below {w w' : World} {gb db : Nat} {D : DSS} (h : OutD w gb db D) (hb : Below w.heap.size w w') : OutD w' gb db D := by obtain ⟨vK, vB, vX, kvs, bvs, X, hX⟩ := h.md;exact ⟨(hb.block gb (Array.getElem?_eq_some_iff.1 h.gp).1).trans h.gp, vK, vB, vX, kvs, bvs, X, hX.ds.below hb, hX.kn.below hb, hX.perm, hX.sorted⟩
set_option maxRecDepth 100000 in
set_option maxHeartbeats 4000000 in
theorem gLookup_yes (gb db f row : Nat) (D : DSS) (x : Nat) (w : World) (h : OutD w gb db D) (h0 : 0 < D.bs.length) (hk : D.ks.length <= 1000) (hr : row < (D.bs.getD 0 b0S).N.length) (hrl : (D.bs.getD 0 b0S).N.length <= 1000) (hf : f < D.ks.length) (HL : ∀ W : World, OutD W gb db D -> Calls Tryz.prog 78 #[.pointer (some ⟨db, 0, none⟩), .int .i64 (row : Nat), .int .i64 (f : Nat)] W fun e w' => e = .returned (.int .i64 (x : Nat)) /\ Below W.heap.size W w') : Calls Tryz.prog 44 #[.pointer (some ⟨gb, 0, none⟩), .int .i64 (row : Nat), .int .i64 (f : Nat)] w fun e w' => e = .returned (.tuple #[.int .i64 (x : Nat), .int .i64 0]) /\ Below w.heap.size w w' := by
  have g0 : w.cell? ⟨gb, 0, none⟩ = some (.pointer (some ⟨db, 0, none⟩)) := cell_of_row _ _ 0 _ 110 (0, 0) h.gp;have hgl : gb < w.heap.size := (Array.getElem?_eq_some_iff.1 h.gp).1;have HO : Hid (OutD w gb db D) := h;have HLK : Hid (∀ W : World, OutD W gb db D -> Calls Tryz.prog 78 #[.pointer (some ⟨db, 0, none⟩), .int .i64 (row : Nat), .int .i64 (f : Nat)] W fun e w' => e = .returned (.int .i64 (x : Nat)) /\ Below W.heap.size W w') := HL
  have HHF : Hid (∀ W : World, OutD W gb db D -> Calls Tryz.prog 52 #[.pointer (some ⟨gb, 0, none⟩), .int .i64 (f : Nat)] W fun e w' => e = .returned (.bool true) /\ w' = W) := fun W hW => by have h1 := hasFeature_any gb db D (f : Int) W hW hk;have h2 : decide (0 <= (f : Int) /\ (f : Int) <= (D.ks.length : Int) - 1) = true := (by simp; omega);rw [h2] at h1;exact h1
  obtain ⟨vK, vB, vX, kvs, bvs, X, hX⟩ := h.md;have HR := dsRows_any db vK vB vX bvs D.bs X w hX.ds h0;clear h hX HL hk hf;generalize (D.bs.getD 0 b0S).N.length = nr at *;have br1 : (0 : Int) <= (row : Int) := (by omega);have br2 : (row : Int) <= (nr : Int) - 1 := (by omega);go_enter Tryz.func44, Tryz.ntmps44;go_wp2_with fail
  refine HR.mono ?_;rintro e w2 ⟨rfl, hb2⟩;have HB2 : Hid (Below w.heap.size w w2) := hb2;have c0 := (hb2.cell (p := ⟨gb, 0, none⟩) hgl).trans g0;clear hb2 HR;go_wp2_with fail
  refine (within_yes _ _ _ _ ⟨br1, br2⟩).mono ?_;rintro e w6 ⟨rfl, hw6⟩;obtain rfl := hw6.symm;go_wp2_with fail
  refine (HHF.out _ (HO.out.below HB2.out)).mono ?_;rintro e w3 ⟨rfl, hw3⟩;obtain rfl := hw3.symm;go_wp2_with fail
  refine (HLK.out _ (HO.out.below HB2.out)).mono ?_;rintro e w4 ⟨rfl, hb4⟩;have HB4 : Hid (Below w.heap.size w w4) := HB2.out.trans (hb4.mono HB2.out.size);clear hb4;go_wp2;go_ret2
  exact ⟨rfl, HB4.out⟩
end Go.Proofs.YtfcgnpchbcmdeaaGreat

namespace Go.Proofs.YtfcgnpchbcmdeaaGreat
set_option maxRecDepth 100000
set_option maxHeartbeats 8000000
open Go.RowKit
theorem cellCmp_any (x y r : Nat) (W : World) : Calls Tryz.prog 373 #[.agg #[.int .i64 (x : Nat), .int .i64 (y : Nat)], .int .i64 (r : Nat)] W fun e w' => e = .returned (.int .i64 (Lib.compareInt (x : Nat) (r : Nat))) /\ Below W.heap.size W w' := by
  have H1 : Hid (∀ w : World, Calls Tryz.prog 151 #[.int .i64 (x : Nat), .int .i64 (r : Nat)] w fun e w' => e = .returned (.int .i64 (Lib.compareInt (x : Nat) (r : Nat))) /\ w' = w) := fun w => Tryz.cmp_Compare_int _ _ w;generalize Lib.compareInt (x : Nat) (r : Nat) = c1 at *;go_enter Tryz.func373, Tryz.ntmps373;go_wp2_with fail
  refine (H1.out _).mono ?_;rintro e w3 ⟨rfl, hw3⟩;obtain rfl := hw3.symm;go_wp2;go_ret;exact ⟨rfl, (Below.refl _ _).alloc (Nat.le_refl _) _⟩
theorem cmpI_lt (x r : Nat) : Lib.compareInt (x : Nat) (r : Nat) < 0 ↔ x < r := by unfold Lib.compareInt; split <;> (try split) <;> omega
theorem cmpI_eq (x r : Nat) : Lib.compareInt (x : Nat) (r : Nat) = 0 ↔ x = r := by unfold Lib.compareInt; split <;> (try split) <;> omega
structure FindC (L : List (Nat × Nat)) (r i : Nat) : Prop where
  le : i <= L.length
  lo : ∀ k, k < i -> (L.getD k (0, 0)).1 < r
  hi : ∀ k, i <= k -> k < L.length -> r <= (L.getD k (0, 0)).1
def foundC (L : List (Nat × Nat)) (r i : Nat) : Bool := decide (i < L.length /\ (L.getD i (0, 0)).1 = r)
def FindE (W : World) (L : List (Nat × Nat)) (r : Nat) (e : Ending) (w' : World) : Prop := ∃ i, e = .returned (.tuple #[.int .i64 (i : Nat), .bool (foundC L r i)]) /\ FindC L r i /\ Below W.heap.size W w'
theorem findC_any (a : Option Addr) (c r : Nat) (L : List (Nat × Nat)) (w : World) (h : OwnC w 0 (.slice a L.length c) L) (hs : L.Pairwise (fun x y => x.1 < y.1)) (hl : L.length <= 1000000) : Calls Tryz.prog 372 #[.slice a L.length c, .int .i64 (r : Nat), .func (.func 373) #[] #[]] w fun e w' => FindE w L r e w' := by
  have H0 : Hid (OwnC w 0 (.slice a L.length c) L) := h
  have HS : Hid (∀ i j, i < j -> j < L.length -> (L.getD i (0, 0)).1 < (L.getD j (0, 0)).1) := fun i j hij hj => by
    have := List.pairwise_iff_getElem.1 hs i j (by omega) hj hij
    simpa [List.getD_eq_getElem?_getD, List.getElem?_eq_getElem hj, List.getElem?_eq_getElem (show i < L.length by omega)] using this
  have HC : Hid (∀ (x y : Nat) (W : World), Calls Tryz.prog 373 #[.agg #[.int .i64 (x : Nat), .int .i64 (y : Nat)], .int .i64 (r : Nat)] W fun e w' => e = .returned (.int .i64 (Lib.compareInt (x : Nat) (r : Nat))) /\ Below W.heap.size W w') := fun x y W => cellCmp_any x y r W;clear h hs;generalize hnl : L.length = n at *;have HN : Hid (L.length = n) := hnl;clear hnl;go_enter Tryz.func372, Tryz.ntmps372;go_wp2_with fail
  go_loopw [9, 10] (fun ti tj wr => ∃ (i j : Nat), ti = .int .i64 i /\ tj = .int .i64 j /\ i <= j /\ j <= n /\ Hid ((∀ k, k < i -> (L.getD k (0, 0)).1 < r) /\ (∀ k, j <= k -> k < n -> r <= (L.getD k (0, 0)).1) /\ Below w.heap.size w wr)) (fun ti tj _ => (intOf tj).toNat - (intOf ti).toNat)
  case atStart => exact ⟨0, n, rfl, rfl, Nat.zero_le _, Nat.le_refl _, fun k hk => by omega, fun k h1 h2 => by omega, Below.refl _ _⟩
  case round =>
    obtain ⟨i, j, rfl, rfl, hij, hjn, HR⟩ := hrel
    by_cases hlt : i < j
    · have b1 : (i : Int) < (j : Int) := (by omega);have hm : (i + j) / 2 < n := (by omega);obtain ⟨q, hq, hql, y0, y1⟩ := (show OwnC w 0 (.slice a L.length c) L by rw [HN.out]; exact H0.out).atK (k := (i + j) / 2) (by rw [HN.out]; exact hm);have e0 := (HR.out.2.2.cell (p := ⟨q, (i + j) / 2 * 2, none⟩) hql).trans y0;have e1 := (HR.out.2.2.cell (p := ⟨q, (i + j) / 2 * 2 + 1, none⟩) hql).trans y1;clear y0 y1;subst hq;generalize hmm : (i + j) / 2 = m at *;have hmi : ((i : Int) + (j : Int)) / 2 = (m : Int) := (by omega);have bm1 : (0 : Int) <= (m : Int) := (by omega);have bm2 : (m : Int) < (n : Int) := (by omega);have HM : Hid ((i + j) / 2 = m) := hmm;clear hmm
      have HX : Hid ((∀ k, k <= m -> (L.getD k (0, 0)).1 <= (L.getD m (0, 0)).1) /\ (∀ k, m <= k -> k < n -> (L.getD m (0, 0)).1 <= (L.getD k (0, 0)).1)) := ⟨fun k hk => by
        rcases Nat.lt_or_ge k m with h1 | h1
        exact Nat.le_of_lt (HS.out k m h1 hm)
        · rw [show k = m by omega]; exact Nat.le_refl _, fun k hk hkn => by
        rcases Nat.lt_or_ge m k with h1 | h1
        exact Nat.le_of_lt (HS.out m k h1 hkn)
        rw [show k = m by omega]; exact Nat.le_refl _⟩
      generalize (L.getD m (0, 0)).1 = xr at *;generalize (L.getD m (0, 0)).2 = xn at *;go_wp2_with fail
      refine (HC.out _ _ _).mono ?_;rintro e w3 ⟨rfl, hb3⟩;have HB3 : Hid (Below w.heap.size w w3) := HR.out.2.2.trans (hb3.mono HR.out.2.2.size);clear hb3 e0 e1
      by_cases hx : xr < r
      · have hc := (cmpI_lt xr r).2 hx;generalize Lib.compareInt (xr : Nat) (r : Nat) = c1 at *;go_wp2;go_roundw;case rel => exact ⟨m + 1, j, by go_num, rfl, by omega, hjn, fun k hk => by have := HX.out.1 k (by omega); omega, HR.out.2.1, HB3.out⟩
        case measure => simp [intOf]; omega
      have hc : ¬ Lib.compareInt (xr : Nat) (r : Nat) < 0 := fun h => hx ((cmpI_lt xr r).1 h);generalize Lib.compareInt (xr : Nat) (r : Nat) = c1 at *;go_wp2;go_roundw;case rel => exact ⟨i, m, rfl, rfl, by omega, by omega, HR.out.1, fun k h1 h2 => by have := HX.out.2 k h1 h2; omega, HB3.out⟩
      case measure => simp [intOf]; omega
    have hni : ¬ (i : Int) < (j : Int) := (by omega);have hie : i = j := (by omega);subst hie
    by_cases hin : i < n
    · have b2 : (i : Int) < (n : Int) := (by omega);have b3 : (0 : Int) <= (i : Int) := (by omega);obtain ⟨q, hq, hql, y0, y1⟩ := (show OwnC w 0 (.slice a L.length c) L by rw [HN.out]; exact H0.out).atK (k := i) (by rw [HN.out]; exact hin);have e0 := (HR.out.2.2.cell (p := ⟨q, i * 2, none⟩) hql).trans y0;have e1 := (HR.out.2.2.cell (p := ⟨q, i * 2 + 1, none⟩) hql).trans y1;clear y0 y1;subst hq;have HFO : Hid (foundC L r i = decide ((L.getD i (0, 0)).1 = r)) := (by show _ = _; unfold foundC; rw [HN.out]; simp [hin]);generalize (L.getD i (0, 0)).1 = xr at *;generalize (L.getD i (0, 0)).2 = xn at *;go_wp2_with fail
      refine (HC.out _ _ _).mono ?_;rintro e w3 ⟨rfl, hb3⟩;have HB3 : Hid (Below w.heap.size w w3) := HR.out.2.2.trans (hb3.mono HR.out.2.2.size);clear hb3 e0 e1
      by_cases hx : xr = r
      · have hc := (cmpI_eq xr r).2 hx;rw [hc];go_wp2;go_ret2
        exact ⟨i, by rw [HFO.out]; simp [hx], ⟨by rw [HN.out]; exact hjn, HR.out.1, by rw [HN.out]; exact HR.out.2.1⟩, HB3.out⟩
      have hc : ¬ Lib.compareInt (xr : Nat) (r : Nat) = 0 := fun h => hx ((cmpI_eq xr r).1 h);generalize Lib.compareInt (xr : Nat) (r : Nat) = c1 at *;go_wp2;go_ret2
      exact ⟨i, by rw [HFO.out]; simp [hx, hc], ⟨by rw [HN.out]; exact hjn, HR.out.1, by rw [HN.out]; exact HR.out.2.1⟩, HB3.out⟩
    have b2 : ¬ (i : Int) < (n : Int) := (by omega);have HFO : Hid (foundC L r i = false) := (by show _ = _; unfold foundC; rw [HN.out]; simp [hin]);go_wp2;go_ret2
    exact ⟨i, by rw [HFO.out]; rfl, ⟨by rw [HN.out]; exact hjn, HR.out.1, by rw [HN.out]; exact HR.out.2.1⟩, HR.out.2.2⟩
theorem mem_spF (N : List Nat) : ∀ (k : Nat) (x : Nat × Nat), x ∈ spF N k ↔ x.1 < k /\ x.2 = N.getD x.1 0 /\ x.2 ≠ 0
  | 0, x => by simp [spF]
  | k + 1, x => by
    obtain ⟨x1, x2⟩ := x;rw [spF, List.mem_append, mem_spF N k]
    by_cases h0 : N.getD k 0 = 0
    · rw [if_pos h0];simp only [List.not_mem_nil, or_false];constructor;rintro ⟨h1, h2, h3⟩; exact ⟨by omega, h2, h3⟩;rintro ⟨h1, h2, h3⟩;refine ⟨?_, h2, h3⟩
      rcases Nat.lt_or_ge x1 k with h4 | h4
      exact h4;have e : x1 = k := (by omega);subst e;exact absurd (h2.trans h0) h3
    rw [if_neg h0];simp only [List.mem_singleton, Prod.mk.injEq];constructor;rintro (⟨h1, h2, h3⟩ | ⟨h1, h2⟩);exact ⟨by omega, h2, h3⟩;subst h1; exact ⟨by omega, h2, by rw [h2]; exact h0⟩;rintro ⟨h1, h2, h3⟩
    rcases Nat.lt_or_ge x1 k with h4 | h4
    exact .inl ⟨h4, h2, h3⟩;have e : x1 = k := (by omega);subst e;exact .inr ⟨rfl, h2⟩
theorem spF_rise (N : List Nat) : ∀ k, (spF N k).Pairwise (fun x y => x.1 < y.1)
  | 0 => by simp [spF]
  | k + 1 => by rw [spF, List.pairwise_append];refine ⟨spF_rise N k, by split <;> simp, fun x hx y hy => ?_⟩;have h1 := ((mem_spF N k x).1 hx).1;split at hy;simp at hy;rw [List.mem_singleton] at hy;subst hy;exact h1
theorem find_spF {N : List Nat} {k r i : Nat} (hr : r < k) (h : FindC (spF N k) r i) : (if foundC (spF N k) r i = true then ((spF N k).getD i (0, 0)).2 else 0) = N.getD r 0 := by
  have hp := spF_rise N k;have hm := mem_spF N k;generalize spF N k = L at *
  by_cases h0 : N.getD r 0 = 0
  rw [h0, if_neg];intro hf;simp only [foundC, decide_eq_true_eq] at hf;have hin : L.getD i (0, 0) ∈ L := (by rw [List.getD_eq_getElem?_getD, List.getElem?_eq_getElem hf.1]; exact List.getElem_mem _);have := (hm _).1 hin;rw [hf.2, h0] at this;exact this.2.2 this.2.1
  have hin : (r, N.getD r 0) ∈ L := (hm _).2 ⟨hr, rfl, h0⟩;obtain ⟨p, hpl, hpe⟩ := List.getElem_of_mem hin;have hpg : L.getD p (0, 0) = (r, N.getD r 0) := by rw [List.getD_eq_getElem?_getD, List.getElem?_eq_getElem hpl]; exact hpe
  have hpi : p = i := by
    rcases Nat.lt_trichotomy p i with h1 | h1 | h1
    have := h.lo p h1;rw [hpg] at this;simp at this;exact h1;have h2 := h.hi i (Nat.le_refl _) (by omega);have h3 := List.pairwise_iff_getElem.1 hp i p (by omega) hpl h1;rw [hpe] at h3;rw [List.getD_eq_getElem?_getD, List.getElem?_eq_getElem (show i < L.length by omega)] at h2;simp only [Option.getD_some] at h2;omega
  subst hpi;rw [if_pos, hpg];simp only [foundC, decide_eq_true_eq];exact ⟨hpl, by rw [hpg]⟩
theorem sparseAt_any (sb n d row : Nat) (vc : Value) (N : List Nat) (w : World) (h : SpaX w 0 sb n d vc (spF N N.length)) (hr : row < N.length) (hl : N.length <= 1000000) : Calls Tryz.prog 371 #[.pointer (some ⟨sb, 0, none⟩), .int .i64 (row : Nat)] w fun e w' => e = .returned (.int .i64 (N.getD row 0 : Nat)) /\ Below w.heap.size w w' := by
  obtain ⟨a, c, rfl⟩ := h.row.shape;have s2 : w.cell? ⟨sb, 2, none⟩ = some (.slice a (spF N N.length).length c) := cell_of_row _ _ 2 _ 403 (0, 0) h.blk;have hsl : sb < w.heap.size := (Array.getElem?_eq_some_iff.1 h.blk).1;have HO : Hid (OwnC w 0 (.slice a (spF N N.length).length c) (spF N N.length)) := h.row;have HF := findC_any a c row (spF N N.length) w h.row (spF_rise N _) (by have := spF_len N N.length; omega);have HX : Hid (∀ i, FindC (spF N N.length) row i -> (if foundC (spF N N.length) row i = true then ((spF N N.length).getD i (0, 0)).2 else 0) = N.getD row 0) := fun i hi => find_spF hr hi;clear h hr hl;generalize spF N N.length = L at *;generalize N.getD row 0 = res at *;go_enter Tryz.func371, Tryz.ntmps371;go_wp2_with fail
  refine HF.mono ?_;rintro e w2 ⟨i, rfl, hi, hb⟩;have hx := HX.out i hi;have HB : Hid (Below w.heap.size w w2) := hb;have z2 := (hb.cell (p := ⟨sb, 2, none⟩) hsl).trans s2;have HI : Hid (FindC L row i) := hi;clear hb hi s2
  cases hf : foundC L row i
  · have HE : Hid (res = 0) := (by rw [hf] at hx; exact hx.symm);clear hx hf;generalize L.length = ll at *;go_wp2;go_ret;exact ⟨by rw [HE.out]; rfl, HB.out⟩
  have HE : Hid (res = (L.getD i (0, 0)).2) := (by rw [hf] at hx; exact hx.symm);have hil : i < L.length := (by simp only [foundC, decide_eq_true_eq] at hf; exact hf.1);obtain ⟨q, rfl, hql, y0, y1⟩ := HO.out.atK hil;have e1 := (HB.out.cell (p := ⟨q, i * 2 + 1, none⟩) hql).trans y1;clear hx hf y0 y1;have b1 : (0 : Int) <= (i : Int) := (by omega);have b2 : (i : Int) < (L.length : Int) := (by omega);generalize (L.getD i (0, 0)).2 = x at *;generalize L.length = ll at *;go_wp2;go_ret;exact ⟨by rw [HE.out]; rfl, HB.out⟩
end Go.Proofs.YtfcgnpchbcmdeaaGreat

namespace Go.Proofs.YtfcgnpchbcmdeaaGreat
open Go.RowKit
def befX (r f : Nat) (x : XS) : Prop := x.row < r ∨ x.row = r /\ x.f < f
def atX (r f : Nat) (x : XS) : Prop := x.row = r /\ x.f = f
instance (r f : Nat) (x : XS) : Decidable (atX r f x) := by unfold atX; infer_instance
instance (r f : Nat) (x : XS) : Decidable (befX r f x) := by unfold befX; infer_instance
theorem cmpX_lt (x : XS) (r f : Nat) : cmpX x ⟨r, f, 0⟩ < 0 ↔ befX r f x := by
  unfold cmpX orI befX Lib.compareInt;simp only
  repeat' split
  all_goals omega
theorem cmpX_eq (x : XS) (r f : Nat) : cmpX x ⟨r, f, 0⟩ = 0 ↔ atX r f x := by
  unfold cmpX orI atX Lib.compareInt;simp only
  repeat' split
  all_goals omega
structure FindX (L : List XS) (r f i : Nat) : Prop where
  le : i <= L.length
  lo : ∀ k, k < i -> befX r f (L.getD k x0S)
  hi : ∀ k, i <= k -> k < L.length -> ¬ befX r f (L.getD k x0S)
def foundX (L : List XS) (r f i : Nat) : Bool := decide (i < L.length /\ atX r f (L.getD i x0S))
def FindY (W : World) (L : List XS) (r f : Nat) (e : Ending) (w' : World) : Prop := ∃ i, e = .returned (.tuple #[.int .i64 (i : Nat), .bool (foundX L r f i)]) /\ FindX L r f i /\ Below W.heap.size W w'
set_option maxRecDepth 100000 in
set_option maxHeartbeats 8000000 in
theorem findX_any (a : Option Addr) (c r f : Nat) (L : List XS) (w : World) (h : OwnX w 0 (.slice a L.length c) L) (hs : SortedX L) (hl : L.length <= 1000000) : Calls Tryz.prog 147 #[.slice a L.length c, .agg #[.int .i64 (r : Nat), .int .i64 (f : Nat), .int .i64 0], .func (.func 148) #[] #[]] w fun e w' => FindY w L r f e w' := by
  have H0 : Hid (OwnX w 0 (.slice a L.length c) L) := h
  have HS : Hid (∀ i j, i < j -> j < L.length -> (L.getD i x0S).row < (L.getD j x0S).row ∨ (L.getD i x0S).row = (L.getD j x0S).row /\ (L.getD i x0S).f <= (L.getD j x0S).f) := fun i j hij hj => by
    have := List.pairwise_iff_getElem.1 hs i j (by omega) hj hij
    simpa [List.getD_eq_getElem?_getD, List.getElem?_eq_getElem hj, List.getElem?_eq_getElem (show i < L.length by omega)] using this
  have HC : Hid (∀ (x : XS) (W : World), Calls Tryz.prog 148 #[.agg #[.int .i64 (x.row : Nat), .int .i64 (x.f : Nat), .int .i64 (x.bin : Nat)], .agg #[.int .i64 (r : Nat), .int .i64 (f : Nat), .int .i64 0]] W fun e w' => e = .returned (.int .i64 (cmpX x ⟨r, f, 0⟩)) /\ Below W.heap.size W w') := fun x W => (byRowAndFeature_any x ⟨r, f, 0⟩ W).mono (fun _ _ h => ⟨h.1, h.2.below⟩);clear h hs;generalize hnl : L.length = n at *;have HN : Hid (L.length = n) := hnl;clear hnl;go_enter Tryz.func147, Tryz.ntmps147;go_upto_region 1 with fail;generalize hW1 : w.alloc (.cells #[.int .i64 (r : Nat), .int .i64 (f : Nat), .int .i64 0] 184) = w1;have hB1 : Below w.heap.size w w1 := (by rw [<- hW1]; exact (Below.refl _ _).alloc (Nat.le_refl _) _);have hX1 : w1.heap[w.heap.size]? = some (.cells #[.int .i64 (r : Nat), .int .i64 (f : Nat), .int .i64 0] 184 (0, 0)) := by rw [<- hW1]; exact heap_alloc_new _ _
  have hwl : w.heap.size < w1.heap.size := (Array.getElem?_eq_some_iff.1 hX1).1;have x0 : w1.cell? ⟨w.heap.size, 0, none⟩ = some (.int .i64 (r : Nat)) := cell_of_row _ _ 0 _ 184 (0, 0) hX1;have x1 : w1.cell? ⟨w.heap.size, 1, none⟩ = some (.int .i64 (f : Nat)) := cell_of_row _ _ 1 _ 184 (0, 0) hX1;have x2 : w1.cell? ⟨w.heap.size, 2, none⟩ = some (.int .i64 0) := cell_of_row _ _ 2 _ 184 (0, 0) hX1;have HB1 : Hid (Below w.heap.size w w1 /\ w1.cell? ⟨w.heap.size, 0, none⟩ = some (.int .i64 (r : Nat)) /\ w1.cell? ⟨w.heap.size, 1, none⟩ = some (.int .i64 (f : Nat)) /\ w1.cell? ⟨w.heap.size, 2, none⟩ = some (.int .i64 0)) := ⟨hB1, x0, x1, x2⟩;clear hW1 hB1 hX1 x0 x1 x2;go_wp2_with fail
  go_loopw [9, 10] (fun ti tj wr => ∃ (i j : Nat), ti = .int .i64 i /\ tj = .int .i64 j /\ i <= j /\ j <= n /\ Hid ((∀ k, k < i -> befX r f (L.getD k x0S)) /\ (∀ k, j <= k -> k < n -> ¬ befX r f (L.getD k x0S)) /\ Below w1.heap.size w1 wr)) (fun ti tj _ => (intOf tj).toNat - (intOf ti).toNat)
  case atStart => exact ⟨0, n, rfl, rfl, Nat.zero_le _, Nat.le_refl _, fun k hk => by omega, fun k h1 h2 => by omega, Below.refl _ _⟩
  case round =>
    obtain ⟨i, j, rfl, rfl, hij, hjn, HR⟩ := hrel;have t0 := (HR.out.2.2.cell (p := ⟨w.heap.size, 0, none⟩) hwl).trans HB1.out.2.1;have t1 := (HR.out.2.2.cell (p := ⟨w.heap.size, 1, none⟩) hwl).trans HB1.out.2.2.1;have t2 := (HR.out.2.2.cell (p := ⟨w.heap.size, 2, none⟩) hwl).trans HB1.out.2.2.2;have hwr := HR.out.2.2.size;have HBW : Hid (Below w.heap.size w wr) := HB1.out.1.trans (HR.out.2.2.mono HB1.out.1.size)
    by_cases hlt : i < j
    · have b1 : (i : Int) < (j : Int) := (by omega);have hm : (i + j) / 2 < n := (by omega);obtain ⟨q, hq, hql, y0, y1, y2⟩ := H0.out.atK HN.out (k := (i + j) / 2) hm;have e0 := (HBW.out.cell (p := ⟨q, (i + j) / 2 * 3, none⟩) hql).trans y0;have e1 := (HBW.out.cell (p := ⟨q, (i + j) / 2 * 3 + 1, none⟩) hql).trans y1;have e2 := (HBW.out.cell (p := ⟨q, (i + j) / 2 * 3 + 2, none⟩) hql).trans y2;clear y0 y1 y2;subst hq;have hqr : q < wr.heap.size := Nat.lt_of_lt_of_le hql HBW.out.size;have htr : w.heap.size < wr.heap.size := Nat.lt_of_lt_of_le hwl hwr;generalize hmm : (i + j) / 2 = m at *;have hmi : ((i : Int) + (j : Int)) / 2 = (m : Int) := (by omega);have bm1 : (0 : Int) <= (m : Int) := (by omega);have bm2 : (m : Int) < (n : Int) := (by omega);have HM : Hid ((i + j) / 2 = m) := hmm;clear hmm
      have HX : Hid ((∀ k, k <= m -> befX r f (L.getD m x0S) -> befX r f (L.getD k x0S)) /\ (∀ k, m <= k -> k < n -> ¬ befX r f (L.getD m x0S) -> ¬ befX r f (L.getD k x0S))) := ⟨fun k hk hb => by
        rcases Nat.lt_or_ge k m with h1 | h1
        have := HS.out k m h1 hm;unfold befX at hb ⊢;omega
        · rw [show k = m by omega]; exact hb, fun k hk hkn hb => by
        rcases Nat.lt_or_ge m k with h1 | h1
        have := HS.out m k h1 hkn;unfold befX at hb ⊢;omega
        rw [show k = m by omega]; exact hb⟩
      have HCx := HC.out (L.getD m x0S);have hlt2 := cmpX_lt (L.getD m x0S) r f;generalize hx : befX r f (L.getD m x0S) = P at *;generalize cmpX (L.getD m x0S) ⟨r, f, 0⟩ = c1 at *;generalize (L.getD m x0S).row = xr at *;generalize (L.getD m x0S).f = xf at *;generalize (L.getD m x0S).bin = xb at *;have HCY : Hid (∀ W : World, Below wr.heap.size wr W -> Calls Tryz.prog 148 #[.agg #[.int .i64 (xr : Nat), .int .i64 (xf : Nat), .int .i64 (xb : Nat)], .agg #[.int .i64 (r : Nat), .int .i64 (f : Nat), .int .i64 0]] W fun e w' => e = .returned (.int .i64 c1) /\ Below wr.heap.size wr w') := fun W hW => (HCx W).mono (fun _ _ h => ⟨h.1, hW.trans (h.2.mono hW.size)⟩);clear HCx hx;go_upto_region 5 with fail
      go_region_held3 (fun w' => w'.cell? ⟨q, m * 3, none⟩ = some (.int .i64 (xr : Nat)) /\ w'.cell? ⟨q, m * 3 + 1, none⟩ = some (.int .i64 (xf : Nat)) /\ w'.cell? ⟨q, m * 3 + 2, none⟩ = some (.int .i64 (xb : Nat)) /\ w'.cell? ⟨w.heap.size, 0, none⟩ = some (.int .i64 (r : Nat)) /\ w'.cell? ⟨w.heap.size, 1, none⟩ = some (.int .i64 (f : Nat)) /\ w'.cell? ⟨w.heap.size, 2, none⟩ = some (.int .i64 0)) (first | exact ⟨e0, e1, e2, t0, t1, t2⟩ | exact ⟨(Below.cell (B := wr.heap.size) (w := wr) (p := ⟨q, m * 3, none⟩) hb3 hqr).trans e0, (Below.cell (B := wr.heap.size) (w := wr) (p := ⟨q, m * 3 + 1, none⟩) hb3 hqr).trans e1, (Below.cell (B := wr.heap.size) (w := wr) (p := ⟨q, m * 3 + 2, none⟩) hb3 hqr).trans e2, (Below.cell (B := wr.heap.size) (w := wr) (p := ⟨w.heap.size, 0, none⟩) hb3 htr).trans t0, (Below.cell (B := wr.heap.size) (w := wr) (p := ⟨w.heap.size, 1, none⟩) hb3 htr).trans t1, (Below.cell (B := wr.heap.size) (w := wr) (p := ⟨w.heap.size, 2, none⟩) hb3 htr).trans t2⟩) (first | (go_at_call 148; refine (HCY.out _ (Below.refl _ _).drew).mono ?_; rintro e w3 ⟨rfl, hb3⟩))
      have HB3 : Hid (Below w1.heap.size w1 w3) := HR.out.2.2.trans (hb3.mono HR.out.2.2.size);clear hb3 e0 e1 e2 t0 t1 t2
      by_cases hc : c1 < 0
      · have hP := hlt2.1 hc;have hd : decide (c1 < 0) = true := decide_eq_true hc;go_wp2;go_roundw;case rel => exact ⟨m + 1, j, by go_num, rfl, by omega, hjn, fun k hk => HX.out.1 k (by omega) hP, HR.out.2.1, HB3.out⟩
        case measure => simp [intOf]; omega
      have hP : ¬ P := fun h => hc (hlt2.2 h);have hd : decide (c1 < 0) = false := decide_eq_false hc;go_wp2;go_roundw;case rel => exact ⟨i, m, rfl, rfl, by omega, by omega, HR.out.1, fun k h1 h2 => HX.out.2 k h1 h2 hP, HB3.out⟩
      case measure => simp [intOf]; omega
    have hni : ¬ (i : Int) < (j : Int) := (by omega);have hie : i = j := (by omega);subst hie
    by_cases hin : i < n
    · have b2 : (i : Int) < (n : Int) := (by omega);have hd : decide ((i : Int) < (n : Int)) = true := decide_eq_true b2;have b3 : (0 : Int) <= (i : Int) := (by omega);obtain ⟨q, hq, hql, y0, y1, y2⟩ := H0.out.atK HN.out (k := i) hin;have e0 := (HBW.out.cell (p := ⟨q, i * 3, none⟩) hql).trans y0;have e1 := (HBW.out.cell (p := ⟨q, i * 3 + 1, none⟩) hql).trans y1;have e2 := (HBW.out.cell (p := ⟨q, i * 3 + 2, none⟩) hql).trans y2;clear y0 y1 y2;subst hq;have hqr : q < wr.heap.size := Nat.lt_of_lt_of_le hql HBW.out.size;have htr : w.heap.size < wr.heap.size := Nat.lt_of_lt_of_le hwl hwr;have HFO : Hid (foundX L r f i = decide (cmpX (L.getD i x0S) ⟨r, f, 0⟩ = 0)) := by show _ = _;unfold foundX;rw [HN.out];simp only [hin, true_and, cmpX_eq]
      have HCx := HC.out (L.getD i x0S);generalize cmpX (L.getD i x0S) ⟨r, f, 0⟩ = c1 at *;generalize (L.getD i x0S).row = xr at *;generalize (L.getD i x0S).f = xf at *;generalize (L.getD i x0S).bin = xb at *;have HCY : Hid (∀ W : World, Below wr.heap.size wr W -> Calls Tryz.prog 148 #[.agg #[.int .i64 (xr : Nat), .int .i64 (xf : Nat), .int .i64 (xb : Nat)], .agg #[.int .i64 (r : Nat), .int .i64 (f : Nat), .int .i64 0]] W fun e w' => e = .returned (.int .i64 c1) /\ Below wr.heap.size wr w') := fun W hW => (HCx W).mono (fun _ _ h => ⟨h.1, hW.trans (h.2.mono hW.size)⟩);clear HCx;go_upto_region 8 with fail
      go_region_held3 (fun w' => w'.cell? ⟨q, i * 3, none⟩ = some (.int .i64 (xr : Nat)) /\ w'.cell? ⟨q, i * 3 + 1, none⟩ = some (.int .i64 (xf : Nat)) /\ w'.cell? ⟨q, i * 3 + 2, none⟩ = some (.int .i64 (xb : Nat)) /\ w'.cell? ⟨w.heap.size, 0, none⟩ = some (.int .i64 (r : Nat)) /\ w'.cell? ⟨w.heap.size, 1, none⟩ = some (.int .i64 (f : Nat)) /\ w'.cell? ⟨w.heap.size, 2, none⟩ = some (.int .i64 0)) (first | exact ⟨e0, e1, e2, t0, t1, t2⟩ | exact ⟨(Below.cell (B := wr.heap.size) (w := wr) (p := ⟨q, i * 3, none⟩) hb3 hqr).trans e0, (Below.cell (B := wr.heap.size) (w := wr) (p := ⟨q, i * 3 + 1, none⟩) hb3 hqr).trans e1, (Below.cell (B := wr.heap.size) (w := wr) (p := ⟨q, i * 3 + 2, none⟩) hb3 hqr).trans e2, (Below.cell (B := wr.heap.size) (w := wr) (p := ⟨w.heap.size, 0, none⟩) hb3 htr).trans t0, (Below.cell (B := wr.heap.size) (w := wr) (p := ⟨w.heap.size, 1, none⟩) hb3 htr).trans t1, (Below.cell (B := wr.heap.size) (w := wr) (p := ⟨w.heap.size, 2, none⟩) hb3 htr).trans t2⟩) (first | (go_at_call 148; refine (HCY.out _ (Below.refl _ _).drew).mono ?_; rintro e w3 ⟨rfl, hb3⟩))
      have HB3 : Hid (Below w.heap.size w w3) := HBW.out.trans (hb3.mono HBW.out.size);clear hb3 e0 e1 e2 t0 t1 t2;go_wp2;go_ret2
      exact ⟨i, by rw [HFO.out]; rfl, ⟨by rw [HN.out]; exact hjn, HR.out.1, by rw [HN.out]; exact HR.out.2.1⟩, HB3.out⟩
    have b2 : ¬ (i : Int) < (n : Int) := (by omega);have hd : decide ((i : Int) < (n : Int)) = false := decide_eq_false b2;have HFO : Hid (foundX L r f i = false) := (by show _ = _; unfold foundX; rw [HN.out]; simp [hin]);clear t0 t1 t2;go_upto_region 8 with fail;go_quiet (fail);go_wp2;go_ret2
    exact ⟨i, by rw [HFO.out]; rfl, ⟨by rw [HN.out]; exact hjn, HR.out.1, by rw [HN.out]; exact HR.out.2.1⟩, below_drewN HBW.out _⟩
end Go.Proofs.YtfcgnpchbcmdeaaGreat

namespace Go.Proofs.YtfcgnpchbcmdeaaGreat
set_option maxRecDepth 100000
set_option maxHeartbeats 8000000
open Go.RowKit
def xbF (X : List XS) (f row d : Nat) : Nat :=
  match X.find? (fun y => decide (atX row f y)) with
  | some y => y.bin
  | none => d
def lookF (D : DSS) (X : List XS) (f bi p row : Nat) : Nat :=
  if offK D bi p <= (D.bs.getD bi b0S).N.getD row 0 /\ (D.bs.getD bi b0S).N.getD row 0 < offK D bi p + (D.ks.getD f k0S).many then (D.bs.getD bi b0S).N.getD row 0 - offK D bi p
  else xbF X f row (D.ks.getD f k0S).d
theorem xbF_find {X : List XS} {r f i d : Nat} (hs : SortedX X) (h : FindX X r f i) : xbF X f r d = if foundX X r f i = true then (X.getD i x0S).bin else d := by
  unfold xbF
  have hg : ∀ k (hk : k < X.length), X.getD k x0S = X[k] := fun k hk => by rw [List.getD_eq_getElem?_getD, List.getElem?_eq_getElem hk]; rfl
  by_cases hf : foundX X r f i = true
  rw [if_pos hf];simp only [foundX, decide_eq_true_eq] at hf;have : X.find? (fun y => decide (atX r f y)) = some X[i] := (by rw [List.find?_eq_some_iff_getElem];refine ⟨by rw [<- hg i hf.1]; exact decide_eq_true hf.2, i, hf.1, rfl, fun j hj => ?_⟩;have := h.lo j hj;rw [hg j (by omega)] at this;unfold befX at this;rw [Bool.not_eq_true', decide_eq_false_iff_not];unfold atX;omega);rw [this, hg i hf.1];rw [if_neg hf]
  have : X.find? (fun y => decide (atX r f y)) = none := by
    rw [List.find?_eq_none];intro y hy;obtain ⟨k, hk, rfl⟩ := List.getElem_of_mem hy;simp only [decide_eq_true_eq];intro ha
    rcases Nat.lt_or_ge k i with h1 | h1
    have := h.lo k h1;rw [hg k hk] at this;unfold befX at this;unfold atX at ha;omega;apply hf;simp only [foundX, decide_eq_true_eq];have hi : i < X.length := (by omega);refine ⟨hi, ?_⟩;have h2 := h.hi i (Nat.le_refl _) hi;rw [hg i hi] at h2 ⊢
    rcases Nat.lt_or_ge i k with h3 | h3
    have := List.pairwise_iff_getElem.1 hs i k hi hk h3;unfold befX at h2;unfold atX at ha ⊢;omega;have e : k = i := (by omega);subst e;exact ha
  rw [this]
theorem lookup_dense (db f bi p row cp : Nat) (vK vB vX : Value) (kvs bvs : List (Value × Value)) (X : List XS) (D : DSS) (w : World) (h : MadeX w db vK vB vX kvs bvs X D) (hs : SeatOk D f bi p) (hbl : D.bs.length <= 1000) (hxl : X.length <= 1000000) (hN : (D.bs.getD bi b0S).N.getD row 0 < 64) (hoff : offK D bi p <= 100000) (hvc : (bvs.getD bi vv0).2 = .iface 382 (.pointer (some ⟨cp, 0, none⟩))) (hat : ∀ W : World, Below w.heap.size w W -> Calls Tryz.prog 323 #[.pointer (some ⟨cp, 0, none⟩), .int .i64 (row : Nat)] W fun e w' => e = .returned (.int .i64 ((D.bs.getD bi b0S).N.getD row 0 : Nat)) /\ Below W.heap.size W w') : Calls Tryz.prog 78 #[.pointer (some ⟨db, 0, none⟩), .int .i64 (row : Nat), .int .i64 (f : Nat)] w fun e w' => e = .returned (.int .i64 (lookF D X f bi p row : Nat)) /\ Below w.heap.size w w' := by
  have HSE := seat_any db f bi p vK vB vX kvs bvs X D w h hs hbl;obtain ⟨hI, _⟩ := h.ds.bn.each bi hs.hb;obtain ⟨fa, fcc, hvf⟩ := hI.shape;have hfk := hs.fk bi p (Nat.le_refl _) hs.hp;rw [hs.at_] at hfk;have hmn := hs.mn f hfk;obtain ⟨qk, cK, ab, cb, aw, cw, hvK, hqkl, k0, k1, k2, k3, _⟩ := h.kn.at hfk;subst hvK;obtain ⟨xa, xc, hvX⟩ := h.ds.xn.shape;subst hvX;have d0 : w.cell? ⟨db, 0, none⟩ = some (.slice (some ⟨qk, 0, none⟩) D.ks.length cK) := cell_of_row _ _ 0 _ 168 (0, 0) h.ds.blk;have d2 : w.cell? ⟨db, 2, none⟩ = some (.slice xa X.length xc) := cell_of_row _ _ 2 _ 168 (0, 0) h.ds.blk;have hdl : db < w.heap.size := (Array.getElem?_eq_some_iff.1 h.ds.blk).1;rw [hvf, hvc] at HSE
  have HAT : Hid (∀ W : World, Below w.heap.size w W -> Calls Tryz.prog 323 #[.pointer (some ⟨cp, 0, none⟩), .int .i64 (row : Nat)] W fun e w' => e = .returned (.int .i64 ((D.bs.getD bi b0S).N.getD row 0 : Nat)) /\ Below W.heap.size W w') := hat;have HMN := KS.many_eq (D.ks.getD f k0S)
  have HHM : Hid (∀ W : World, Calls Tryz.prog 146 #[.agg #[.bool (D.ks.getD f k0S).e.wd, .slice ab (D.ks.getD f k0S).e.bs.length cb, .slice aw (D.ks.getD f k0S).e.ww.length cw]] W fun e w' => e = .returned (.int .i64 (((D.ks.getD f k0S).many : Nat) : Int)) /\ Below W.heap.size W w') := fun W => by rw [<- HMN];exact howMany_any _ ab aw _ cb _ cw W (by unfold KS.many ES.cnt at hmn; omega)
  have HXW : Hid (∀ W : World, Below w.heap.size w W -> OwnX W 0 (.slice xa X.length xc) X) := fun W hW => (Touch.of_below (S := fun _ => False) hW).row h.ds.xn (fun _ _ => id);have HFX : Hid (∀ W : World, Below w.heap.size w W -> Calls Tryz.prog 147 #[.slice xa X.length xc, .agg #[.int .i64 (row : Nat), .int .i64 (f : Nat), .int .i64 0], .func (.func 148) #[] #[]] W fun e w' => FindY W X row f e w') := fun W hW => findX_any xa xc row f X W (HXW.out W hW) h.sorted hxl;have HLF : Hid (lookF D X f bi p row = if offK D bi p <= (D.bs.getD bi b0S).N.getD row 0 /\ (D.bs.getD bi b0S).N.getD row 0 < offK D bi p + (D.ks.getD f k0S).many then (D.bs.getD bi b0S).N.getD row 0 - offK D bi p else xbF X f row (D.ks.getD f k0S).d) := rfl
  have HXB : Hid (∀ i, FindX X row f i -> xbF X f row (D.ks.getD f k0S).d = if foundX X row f i = true then (X.getD i x0S).bin else (D.ks.getD f k0S).d) := fun i hi => xbF_find h.sorted hi;clear HMN hvf hvc hI hs h hat hbl;generalize lookF D X f bi p row = res at *;generalize (D.bs.getD bi b0S).N.getD row 0 = x at *;generalize offK D bi p = off at *;generalize (natI (D.bs.getD bi b0S).fs).length = nf at *;generalize D.ks.getD f k0S = Kf at *;generalize xbF X f row Kf.d = xres at *;generalize Kf.e.wd = kwd at *;generalize Kf.e.bs.length = knb at *;generalize Kf.e.ww.length = knw at *;generalize Kf.many = km at *;generalize Kf.d = kd at *;generalize hnk : D.ks.length = nk at *;clear hnk;generalize hnx : X.length = nx at *;have HNX : Hid (X.length = nx) := hnx;clear hnx;have bf1 : (0 : Int) <= (f : Int) := (by omega);have bf2 : (f : Int) < (nk : Int) := by omega
  have hme : ∀ W : World, (method 535 382 (.pointer (some ⟨cp, 0, none⟩)) "At").run Tryz.prog W = .ok (323, .pointer (some ⟨cp, 0, none⟩)) W := fun W => by kernel_rfl
  go_enter Tryz.func78, Tryz.ntmps78;go_wp2_with fail
  refine HSE.mono ?_;rintro e w2 ⟨rfl, hb2⟩;have HB2 : Hid (Below w.heap.size w w2) := hb2;clear hb2 HSE;go_wp2_with fail
  refine (HAT.out _ (HB2.out.alloc HB2.out.size _)).mono ?_;rintro e w3 ⟨rfl, hb3⟩;have HB3 : Hid (Below w.heap.size w w3) := (HB2.out.alloc HB2.out.size _).trans (hb3.mono (by have := HB2.out.size; simp; omega));have d0w := (HB3.out.cell (p := ⟨db, 0, none⟩) hdl).trans d0;have d2w := (HB3.out.cell (p := ⟨db, 2, none⟩) hdl).trans d2;have e0 := (HB3.out.cell (p := ⟨qk, f * 4, none⟩) hqkl).trans k0;have e1 := (HB3.out.cell (p := ⟨qk, f * 4 + 1, none⟩) hqkl).trans k1;have e2 := (HB3.out.cell (p := ⟨qk, f * 4 + 2, none⟩) hqkl).trans k2;clear hb3 HB2
  by_cases hlo : off <= x
  · obtain ⟨bn, hbn⟩ : ∃ bn, bn = x - off := ⟨_, rfl⟩;have q1 : (x : Int) - (off : Int) = (bn : Int) := (by omega);have q2 : IntKind.i64.wrap (bn : Int) = (bn : Int) := wrapI (by omega) (by omega);have q3 : (0 : Int) <= (bn : Int) := (by omega);have HBN : Hid (bn = x - off) := hbn;clear hbn;go_wp2_with fail
    refine (HHM.out _).mono ?_;rintro e w4 ⟨rfl, hb4⟩;have HB4 : Hid (Below w.heap.size w w4) := HB3.out.trans (hb4.mono HB3.out.size);clear hb4
    by_cases hhi : x < off + km
    · have q4 : (bn : Int) < (km : Int) := (by have := HBN.out; omega);have HE : Hid (res = bn) := (by have := HLF.out; rw [if_pos ⟨hlo, hhi⟩] at this; exact this.trans HBN.out.symm);go_wp2;go_ret;exact ⟨by rw [HE.out]; rfl, HB4.out⟩
    have q4 : ¬ (bn : Int) < (km : Int) := (by have := HBN.out; omega);have HE : Hid (res = xres) := (by have := HLF.out; rw [if_neg (fun h => hhi h.2)] at this; exact this);have d2x := (HB4.out.cell (p := ⟨db, 2, none⟩) hdl).trans d2;clear d0w d2w e0 e1 e2;go_wp2_with fail
    refine (HFX.out _ HB4.out).mono ?_;rintro e w5 ⟨i, rfl, hi, hb5⟩;have HB5 : Hid (Below w.heap.size w w5) := HB4.out.trans (hb5.mono HB4.out.size);have hxb := HXB.out i hi;have d0y := (HB5.out.cell (p := ⟨db, 0, none⟩) hdl).trans d0;have d2y := (HB5.out.cell (p := ⟨db, 2, none⟩) hdl).trans d2;have e3 := (HB5.out.cell (p := ⟨qk, f * 4 + 3, none⟩) hqkl).trans k3;clear hb5
    cases hf : foundX X row f i
    · have HR : Hid (res = kd) := (by rw [hf] at hxb; exact HE.out.trans hxb);clear hxb hf hi;go_wp2;go_ret;exact ⟨by rw [HR.out]; rfl, HB5.out⟩
    have HR : Hid (res = (X.getD i x0S).bin) := (by rw [hf] at hxb; exact HE.out.trans hxb);have hil : i < nx := (by simp only [foundX, decide_eq_true_eq] at hf; have := hf.1; rw [HNX.out] at this; exact this);obtain ⟨q, hq, hql, _, _, y2⟩ := (HXW.out _ HB5.out).atK HNX.out hil;subst hq;have b1 : (0 : Int) <= (i : Int) := (by omega);have b2 : (i : Int) < (nx : Int) := (by omega);clear hxb hf hi;generalize (X.getD i x0S).bin = xb at *;go_wp2;go_ret;exact ⟨by rw [HR.out]; rfl, HB5.out⟩
  have q1 : IntKind.i64.wrap ((x : Int) - (off : Int)) = (x : Int) - (off : Int) := wrapI (by omega) (by omega);have q3 : ¬ (0 : Int) <= (x : Int) - (off : Int) := (by omega);have HE : Hid (res = xres) := (by have := HLF.out; rw [if_neg (fun h => hlo h.1)] at this; exact this);have HB4 : Hid (Below w.heap.size w w3) := HB3.out;go_wp2_with fail
  refine (HFX.out _ HB4.out).mono ?_;rintro e w5 ⟨i, rfl, hi, hb5⟩;have HB5 : Hid (Below w.heap.size w w5) := HB4.out.trans (hb5.mono HB4.out.size);have hxb := HXB.out i hi;have d0y := (HB5.out.cell (p := ⟨db, 0, none⟩) hdl).trans d0;have d2y := (HB5.out.cell (p := ⟨db, 2, none⟩) hdl).trans d2;have e3 := (HB5.out.cell (p := ⟨qk, f * 4 + 3, none⟩) hqkl).trans k3;clear hb5
  cases hf : foundX X row f i
  · have HR : Hid (res = kd) := (by rw [hf] at hxb; exact HE.out.trans hxb);clear hxb hf hi;go_wp2;go_ret;exact ⟨by rw [HR.out]; rfl, HB5.out⟩
  have HR : Hid (res = (X.getD i x0S).bin) := (by rw [hf] at hxb; exact HE.out.trans hxb);have hil : i < nx := (by simp only [foundX, decide_eq_true_eq] at hf; have := hf.1; rw [HNX.out] at this; exact this);obtain ⟨q, hq, hql, _, _, y2⟩ := (HXW.out _ HB5.out).atK HNX.out hil;subst hq;have b1 : (0 : Int) <= (i : Int) := (by omega);have b2 : (i : Int) < (nx : Int) := (by omega);clear hxb hf hi;generalize (X.getD i x0S).bin = xb at *;go_wp2;go_ret;exact ⟨by rw [HR.out]; rfl, HB5.out⟩
theorem lookup_sparse (db f bi p row cp : Nat) (vK vB vX : Value) (kvs bvs : List (Value × Value)) (X : List XS) (D : DSS) (w : World) (h : MadeX w db vK vB vX kvs bvs X D) (hs : SeatOk D f bi p) (hbl : D.bs.length <= 1000) (hxl : X.length <= 1000000) (hN : (D.bs.getD bi b0S).N.getD row 0 < 64) (hoff : offK D bi p <= 100000) (hvc : (bvs.getD bi vv0).2 = .iface 380 (.pointer (some ⟨cp, 0, none⟩))) (hat : ∀ W : World, Below w.heap.size w W -> Calls Tryz.prog 371 #[.pointer (some ⟨cp, 0, none⟩), .int .i64 (row : Nat)] W fun e w' => e = .returned (.int .i64 ((D.bs.getD bi b0S).N.getD row 0 : Nat)) /\ Below W.heap.size W w') : Calls Tryz.prog 78 #[.pointer (some ⟨db, 0, none⟩), .int .i64 (row : Nat), .int .i64 (f : Nat)] w fun e w' => e = .returned (.int .i64 (lookF D X f bi p row : Nat)) /\ Below w.heap.size w w' := by
  have HSE := seat_any db f bi p vK vB vX kvs bvs X D w h hs hbl;obtain ⟨hI, _⟩ := h.ds.bn.each bi hs.hb;obtain ⟨fa, fcc, hvf⟩ := hI.shape;have hfk := hs.fk bi p (Nat.le_refl _) hs.hp;rw [hs.at_] at hfk;have hmn := hs.mn f hfk;obtain ⟨qk, cK, ab, cb, aw, cw, hvK, hqkl, k0, k1, k2, k3, _⟩ := h.kn.at hfk;subst hvK;obtain ⟨xa, xc, hvX⟩ := h.ds.xn.shape;subst hvX;have d0 : w.cell? ⟨db, 0, none⟩ = some (.slice (some ⟨qk, 0, none⟩) D.ks.length cK) := cell_of_row _ _ 0 _ 168 (0, 0) h.ds.blk;have d2 : w.cell? ⟨db, 2, none⟩ = some (.slice xa X.length xc) := cell_of_row _ _ 2 _ 168 (0, 0) h.ds.blk;have hdl : db < w.heap.size := (Array.getElem?_eq_some_iff.1 h.ds.blk).1;rw [hvf, hvc] at HSE
  have HAT : Hid (∀ W : World, Below w.heap.size w W -> Calls Tryz.prog 371 #[.pointer (some ⟨cp, 0, none⟩), .int .i64 (row : Nat)] W fun e w' => e = .returned (.int .i64 ((D.bs.getD bi b0S).N.getD row 0 : Nat)) /\ Below W.heap.size W w') := hat;have HMN := KS.many_eq (D.ks.getD f k0S)
  have HHM : Hid (∀ W : World, Calls Tryz.prog 146 #[.agg #[.bool (D.ks.getD f k0S).e.wd, .slice ab (D.ks.getD f k0S).e.bs.length cb, .slice aw (D.ks.getD f k0S).e.ww.length cw]] W fun e w' => e = .returned (.int .i64 (((D.ks.getD f k0S).many : Nat) : Int)) /\ Below W.heap.size W w') := fun W => by rw [<- HMN];exact howMany_any _ ab aw _ cb _ cw W (by unfold KS.many ES.cnt at hmn; omega)
  have HXW : Hid (∀ W : World, Below w.heap.size w W -> OwnX W 0 (.slice xa X.length xc) X) := fun W hW => (Touch.of_below (S := fun _ => False) hW).row h.ds.xn (fun _ _ => id);have HFX : Hid (∀ W : World, Below w.heap.size w W -> Calls Tryz.prog 147 #[.slice xa X.length xc, .agg #[.int .i64 (row : Nat), .int .i64 (f : Nat), .int .i64 0], .func (.func 148) #[] #[]] W fun e w' => FindY W X row f e w') := fun W hW => findX_any xa xc row f X W (HXW.out W hW) h.sorted hxl;have HLF : Hid (lookF D X f bi p row = if offK D bi p <= (D.bs.getD bi b0S).N.getD row 0 /\ (D.bs.getD bi b0S).N.getD row 0 < offK D bi p + (D.ks.getD f k0S).many then (D.bs.getD bi b0S).N.getD row 0 - offK D bi p else xbF X f row (D.ks.getD f k0S).d) := rfl
  have HXB : Hid (∀ i, FindX X row f i -> xbF X f row (D.ks.getD f k0S).d = if foundX X row f i = true then (X.getD i x0S).bin else (D.ks.getD f k0S).d) := fun i hi => xbF_find h.sorted hi;clear HMN hvf hvc hI hs h hat hbl;generalize lookF D X f bi p row = res at *;generalize (D.bs.getD bi b0S).N.getD row 0 = x at *;generalize offK D bi p = off at *;generalize (natI (D.bs.getD bi b0S).fs).length = nf at *;generalize D.ks.getD f k0S = Kf at *;generalize xbF X f row Kf.d = xres at *;generalize Kf.e.wd = kwd at *;generalize Kf.e.bs.length = knb at *;generalize Kf.e.ww.length = knw at *;generalize Kf.many = km at *;generalize Kf.d = kd at *;generalize hnk : D.ks.length = nk at *;clear hnk;generalize hnx : X.length = nx at *;have HNX : Hid (X.length = nx) := hnx;clear hnx;have bf1 : (0 : Int) <= (f : Int) := (by omega);have bf2 : (f : Int) < (nk : Int) := by omega
  have hme : ∀ W : World, (method 535 380 (.pointer (some ⟨cp, 0, none⟩)) "At").run Tryz.prog W = .ok (371, .pointer (some ⟨cp, 0, none⟩)) W := fun W => by kernel_rfl
  go_enter Tryz.func78, Tryz.ntmps78;go_wp2_with fail
  refine HSE.mono ?_;rintro e w2 ⟨rfl, hb2⟩;have HB2 : Hid (Below w.heap.size w w2) := hb2;clear hb2 HSE;go_wp2_with fail
  refine (HAT.out _ (HB2.out.alloc HB2.out.size _)).mono ?_;rintro e w3 ⟨rfl, hb3⟩;have HB3 : Hid (Below w.heap.size w w3) := (HB2.out.alloc HB2.out.size _).trans (hb3.mono (by have := HB2.out.size; simp; omega));have d0w := (HB3.out.cell (p := ⟨db, 0, none⟩) hdl).trans d0;have d2w := (HB3.out.cell (p := ⟨db, 2, none⟩) hdl).trans d2;have e0 := (HB3.out.cell (p := ⟨qk, f * 4, none⟩) hqkl).trans k0;have e1 := (HB3.out.cell (p := ⟨qk, f * 4 + 1, none⟩) hqkl).trans k1;have e2 := (HB3.out.cell (p := ⟨qk, f * 4 + 2, none⟩) hqkl).trans k2;clear hb3 HB2
  by_cases hlo : off <= x
  · obtain ⟨bn, hbn⟩ : ∃ bn, bn = x - off := ⟨_, rfl⟩;have q1 : (x : Int) - (off : Int) = (bn : Int) := (by omega);have q2 : IntKind.i64.wrap (bn : Int) = (bn : Int) := wrapI (by omega) (by omega);have q3 : (0 : Int) <= (bn : Int) := (by omega);have HBN : Hid (bn = x - off) := hbn;clear hbn;go_wp2_with fail
    refine (HHM.out _).mono ?_;rintro e w4 ⟨rfl, hb4⟩;have HB4 : Hid (Below w.heap.size w w4) := HB3.out.trans (hb4.mono HB3.out.size);clear hb4
    by_cases hhi : x < off + km
    · have q4 : (bn : Int) < (km : Int) := (by have := HBN.out; omega);have HE : Hid (res = bn) := (by have := HLF.out; rw [if_pos ⟨hlo, hhi⟩] at this; exact this.trans HBN.out.symm);go_wp2;go_ret;exact ⟨by rw [HE.out]; rfl, HB4.out⟩
    have q4 : ¬ (bn : Int) < (km : Int) := (by have := HBN.out; omega);have HE : Hid (res = xres) := (by have := HLF.out; rw [if_neg (fun h => hhi h.2)] at this; exact this);have d2x := (HB4.out.cell (p := ⟨db, 2, none⟩) hdl).trans d2;clear d0w d2w e0 e1 e2;go_wp2_with fail
    refine (HFX.out _ HB4.out).mono ?_;rintro e w5 ⟨i, rfl, hi, hb5⟩;have HB5 : Hid (Below w.heap.size w w5) := HB4.out.trans (hb5.mono HB4.out.size);have hxb := HXB.out i hi;have d0y := (HB5.out.cell (p := ⟨db, 0, none⟩) hdl).trans d0;have d2y := (HB5.out.cell (p := ⟨db, 2, none⟩) hdl).trans d2;have e3 := (HB5.out.cell (p := ⟨qk, f * 4 + 3, none⟩) hqkl).trans k3;clear hb5
    cases hf : foundX X row f i
    · have HR : Hid (res = kd) := (by rw [hf] at hxb; exact HE.out.trans hxb);clear hxb hf hi;go_wp2;go_ret;exact ⟨by rw [HR.out]; rfl, HB5.out⟩
    have HR : Hid (res = (X.getD i x0S).bin) := (by rw [hf] at hxb; exact HE.out.trans hxb);have hil : i < nx := (by simp only [foundX, decide_eq_true_eq] at hf; have := hf.1; rw [HNX.out] at this; exact this);obtain ⟨q, hq, hql, _, _, y2⟩ := (HXW.out _ HB5.out).atK HNX.out hil;subst hq;have b1 : (0 : Int) <= (i : Int) := (by omega);have b2 : (i : Int) < (nx : Int) := (by omega);clear hxb hf hi;generalize (X.getD i x0S).bin = xb at *;go_wp2;go_ret;exact ⟨by rw [HR.out]; rfl, HB5.out⟩
  have q1 : IntKind.i64.wrap ((x : Int) - (off : Int)) = (x : Int) - (off : Int) := wrapI (by omega) (by omega);have q3 : ¬ (0 : Int) <= (x : Int) - (off : Int) := (by omega);have HE : Hid (res = xres) := (by have := HLF.out; rw [if_neg (fun h => hlo h.1)] at this; exact this);have HB4 : Hid (Below w.heap.size w w3) := HB3.out;go_wp2_with fail
  refine (HFX.out _ HB4.out).mono ?_;rintro e w5 ⟨i, rfl, hi, hb5⟩;have HB5 : Hid (Below w.heap.size w w5) := HB4.out.trans (hb5.mono HB4.out.size);have hxb := HXB.out i hi;have d0y := (HB5.out.cell (p := ⟨db, 0, none⟩) hdl).trans d0;have d2y := (HB5.out.cell (p := ⟨db, 2, none⟩) hdl).trans d2;have e3 := (HB5.out.cell (p := ⟨qk, f * 4 + 3, none⟩) hqkl).trans k3;clear hb5
  cases hf : foundX X row f i
  · have HR : Hid (res = kd) := (by rw [hf] at hxb; exact HE.out.trans hxb);clear hxb hf hi;go_wp2;go_ret;exact ⟨by rw [HR.out]; rfl, HB5.out⟩
  have HR : Hid (res = (X.getD i x0S).bin) := (by rw [hf] at hxb; exact HE.out.trans hxb);have hil : i < nx := (by simp only [foundX, decide_eq_true_eq] at hf; have := hf.1; rw [HNX.out] at this; exact this);obtain ⟨q, hq, hql, _, _, y2⟩ := (HXW.out _ HB5.out).atK HNX.out hil;subst hq;have b1 : (0 : Int) <= (i : Int) := (by omega);have b2 : (i : Int) < (nx : Int) := (by omega);clear hxb hf hi;generalize (X.getD i x0S).bin = xb at *;go_wp2;go_ret;exact ⟨by rw [HR.out]; rfl, HB5.out⟩
end Go.Proofs.YtfcgnpchbcmdeaaGreat
