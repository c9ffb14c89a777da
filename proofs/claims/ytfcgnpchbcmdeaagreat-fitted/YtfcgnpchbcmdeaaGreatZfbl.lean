import Derived.Test.YtfcgnpchbcmdeaaGreatZfbi
import Derived.Test.YtfcgnpchbcmdeaaGreatZfbk
import Derived.Test.YtfcgnpchbcmdeaaGreatZfbj
import Derived.Test.YtfcgnpchbcmdeaaGreatZfbh
import Derived.Test.YtfcgnpchbcmdeaaGreatZfbm
namespace Go.Proofs.YtfcgnpchbcmdeaaGreat
open Go.RowKit
def bdI (e : ES) : List Int := if e.wd = true then [] else e.bs
def bdS (e : ES) : List ByteArray := if e.wd = true then e.ww else []
structure BdsX (w w' : World) (vb vw : Value) (e : ES) : Prop where
  nb : OwnI w' w.heap.size vb (bdI e)
  nw : OwnS w' w.heap.size vw (bdS e)
  low : Below w.heap.size w w'
def BdsE (w : World) (e : ES) (x : Ending) (w' : World) : Prop := ∃ vb vw, x = .returned (.tuple #[vb, vw]) /\ BdsX w w' vb vw e
set_option maxRecDepth 100000 in
set_option maxHeartbeats 8000000 in
theorem dsBounds_any (db f : Nat) (vK vB vX : Value) (kvs bvs : List (Value × Value)) (X : List XS) (D : DSS) (w : World) (h : MadeX w db vK vB vX kvs bvs X D) (hf : f < D.ks.length) (hb1 : (D.ks.getD f k0S).e.bs.length <= 1000) (hw1 : (D.ks.getD f k0S).e.ww.length <= 1000) : Calls Tryz.prog 53 #[.pointer (some ⟨db, 0, none⟩), .int .i64 (f : Nat)] w fun e w' => BdsE w (D.ks.getD f k0S).e e w' := by
  obtain ⟨qk, cK, ab, cb, aw, cw, hvK, hqkl, k0, k1, k2, k3, hI, hS⟩ := h.kn.at hf;subst hvK;have d0 : w.cell? ⟨db, 0, none⟩ = some (.slice (some ⟨qk, 0, none⟩) D.ks.length cK) := cell_of_row _ _ 0 _ 168 (0, 0) h.ds.blk;have hdl : db < w.heap.size := (Array.getElem?_eq_some_iff.1 h.ds.blk).1;have HI : Hid (OwnI w 0 (.slice ab (D.ks.getD f k0S).e.bs.length cb) (D.ks.getD f k0S).e.bs) := hI;have HS : Hid (OwnS w 0 (.slice aw (D.ks.getD f k0S).e.ww.length cw) (D.ks.getD f k0S).e.ww) := hS;have bf1 : (0 : Int) <= (f : Int) := (by omega);have bf2 : (f : Int) < (D.ks.length : Int) := (by omega);clear h hI hS;generalize D.ks.length = nk at *;generalize (D.ks.getD f k0S).d = dd at *;generalize (D.ks.getD f k0S).e = es at *;generalize hnb : es.bs.length = nb at *;generalize hnw : es.ww.length = nw at *;have HN : Hid (es.bs.length = nb /\ es.ww.length = nw) := ⟨hnb, hnw⟩;clear hnb hnw
  cases hwd : es.wd
  · rw [hwd] at k0;have HB : Hid (bdI es = es.bs /\ bdS es = []) := (by show _ /\ _; unfold bdI bdS; rw [hwd]; exact ⟨rfl, rfl⟩);clear hwd;go_enter Tryz.func53, Tryz.ntmps53;go_upto_region 4 with fail;generalize hW1 : w.alloc (.cells #[.bool false, .slice ab nb cb, .slice aw nw cw, .int .i64 (dd : Nat)] 172) = w1;have hB1 : Below w.heap.size w w1 := (by rw [<- hW1]; exact (Below.refl _ _).alloc (Nat.le_refl _) _);have hX1 : w1.heap[w.heap.size]? = some (.cells #[.bool false, .slice ab nb cb, .slice aw nw cw, .int .i64 (dd : Nat)] 172 (0, 0)) := (by rw [<- hW1]; exact heap_alloc_new _ _);have hwl : w.heap.size < w1.heap.size := (Array.getElem?_eq_some_iff.1 hX1).1;have x1 : w1.cell? ⟨w.heap.size, 1, none⟩ = some (.slice ab nb cb) := cell_of_row _ _ 1 _ 172 (0, 0) hX1;have HB1 : Hid (Below w.heap.size w w1) := hB1;clear hW1 hX1 k0 k1 k2 k3 d0
    have hrow : w1.ownsRow 0 3 1 (.slice ab nb cb) nb (es.bs.map (Value.int .i64)) := (by have h1 := (Touch.of_below (S := fun _ => False) hB1).row HI.out (fun _ _ => id);rw [HN.out.1] at h1;exact h1);have HROW : Hid (w1.ownsRow 0 3 1 (.slice ab nb cb) nb (es.bs.map (Value.int .i64))) := hrow;clear hB1 hrow
    by_cases h0 : nb = 0
    · subst h0
      rcases ab with _ | ad
      · go_wp2;go_ret2
        have eL : es.bs = [] := List.length_eq_zero_iff.1 HN.out.1;have hnew : (w1.alloc (.cells #[] 3)).heap[w1.heap.size]? = some (.cells #[] 3 (0, 0)) := heap_alloc_new _ _;have hrw : (w1.alloc (.cells #[] 3)).ownsRow w.heap.size 3 1 (.slice (some ⟨w1.heap.size, 0, none⟩) 0 0) 0 [] := ⟨rfl, .inr ⟨w1.heap.size, 0, #[], rfl, by omega, hnew, Nat.le_refl _, by decide, rfl, rfl⟩⟩;refine ⟨_, _, rfl, ?_, ?_, HB1.out.alloc (by omega) _⟩;rw [HB.out.1, eL]; exact hrw;rw [HB.out.2]; exact OwnS.nil _ _
      go_wp2;go_ret2
      have eL : es.bs = [] := List.length_eq_zero_iff.1 HN.out.1;have hnew : (w1.alloc (.cells #[] 3)).heap[w1.heap.size]? = some (.cells #[] 3 (0, 0)) := heap_alloc_new _ _;have hrw : (w1.alloc (.cells #[] 3)).ownsRow w.heap.size 3 1 (.slice (some ⟨w1.heap.size, 0, none⟩) 0 0) 0 [] := ⟨rfl, .inr ⟨w1.heap.size, 0, #[], rfl, by omega, hnew, Nat.le_refl _, by decide, rfl, rfl⟩⟩;refine ⟨_, _, rfl, ?_, ?_, HB1.out.alloc (by omega) _⟩;rw [HB.out.1, eL]; exact hrw;rw [HB.out.2]; exact OwnS.nil _ _
    have hq : ∃ q, ab = some ⟨q, 0, none⟩ := by
      rcases HROW.out.2 with ⟨e, h1⟩ | ⟨g, cap, cur, e, _⟩
      exact absurd h1 h0;injection e with e1; exact ⟨g, e1⟩
    obtain ⟨q, rfl⟩ := hq;obtain ⟨i0, hinf, hz0, hz1, hz2⟩ := info_parts info3'
    have hql : q < w1.heap.size := by
      rcases HROW.out.2 with ⟨e, _⟩ | ⟨g, cap, cur, e, _, hh, _⟩
      · cases e
      injection e with e1; injection e1 with e1; injection e1 with e1 _; rw [e1]; exact (Array.getElem?_eq_some_iff.1 hh).1
    have HNEW : Hid ((w1.alloc (.cells #[] 3)).ownsRow w.heap.size 3 1 (.slice (some ⟨w1.heap.size, 0, none⟩) 0 0) 0 []) := ⟨rfl, .inr ⟨w1.heap.size, 0, #[], rfl, by omega, heap_alloc_new _ _, Nat.le_refl _, by decide, rfl, rfl⟩⟩;have HLEN : Hid ((es.bs.map (Value.int .i64)).length = nb * 1) := by show _ = _; rw [List.length_map, HN.out.1, Nat.mul_one]
    have HCEL : Hid (∀ j u, (es.bs.map (Value.int .i64))[j]? = some u -> (w1.alloc (.cells #[] 3)).cell? ((⟨q, 0, none⟩ : Addr).add j) = some u) := fun j u hu => by have hj : j < nb * 1 := (by rw [<- HLEN.out]; exact (List.getElem?_eq_some_iff.1 hu).1);have hadd : (⟨q, 0, none⟩ : Addr).add j = ⟨q, j, none⟩ := (by unfold Addr.add; split <;> simp_all);rw [hadd];rw [((Below.refl w1.heap.size w1).alloc (Nat.le_refl _) (.cells #[] 3)).cell (p := ⟨q, j, none⟩) hql];rw [World.ownsRow.cellAt HROW.out j hj];exact hu
    have H1C : Hid (∀ u ∈ es.bs.map (Value.int .i64), u.oneCell' = true) := fun u hu => by obtain ⟨y, _, rfl⟩ := List.mem_map.1 hu;rfl
    go_wp2_with (at_builtin; refine wpList_append_mark rfl (.tmp 22) (.tmp 25) 25 rfl w.heap.size 3 i0 (.int .i64 0) 1 8 Tryz.underlying25 hinf hz0 hz1 hz2 rfl (by decide) _ 0 [] rfl HNEW.out ⟨q, 0, none⟩ nb cb (es.bs.map (Value.int .i64)) rfl HLEN.out HCEL.out H1C.out (by omega) (by unfold maxLen; omega) (by omega) (by simp; omega) ?_)
    intro v4 w4 H4;obtain ⟨r4, g4, d4, _, q4, p4, hv4⟩ := H4.out;have HFIN : Hid (w4.ownsRow w.heap.size 3 1 v4 nb (es.bs.map (Value.int .i64)) /\ Below w.heap.size w w4) := (by refine ⟨r4, ?_⟩;exact (HB1.out.alloc (by omega) _).grown g4 (by simp; omega) (by intro b hb; simp [Value.ownBlock] at hb; omega));subst hv4;clear H4 r4 g4 d4 HROW HNEW HCEL;go_wp2;go_ret2
    have hr := HFIN.out.1;refine ⟨_, _, rfl, ?_, ?_, HFIN.out.2⟩;rw [HB.out.1]; unfold OwnI; rw [HN.out.1]; exact (by simpa using hr);rw [HB.out.2]; exact OwnS.nil _ _
  rw [hwd] at k0;have HB : Hid (bdI es = [] /\ bdS es = es.ww) := (by show _ /\ _; unfold bdI bdS; rw [hwd]; exact ⟨rfl, rfl⟩);clear hwd;go_enter Tryz.func53, Tryz.ntmps53;go_upto_region 3 with fail;generalize hW1 : w.alloc (.cells #[.bool true, .slice ab nb cb, .slice aw nw cw, .int .i64 (dd : Nat)] 172) = w1;have hB1 : Below w.heap.size w w1 := (by rw [<- hW1]; exact (Below.refl _ _).alloc (Nat.le_refl _) _);have hX1 : w1.heap[w.heap.size]? = some (.cells #[.bool true, .slice ab nb cb, .slice aw nw cw, .int .i64 (dd : Nat)] 172 (0, 0)) := (by rw [<- hW1]; exact heap_alloc_new _ _);have hwl : w.heap.size < w1.heap.size := (Array.getElem?_eq_some_iff.1 hX1).1;have x1 : w1.cell? ⟨w.heap.size, 2, none⟩ = some (.slice aw nw cw) := cell_of_row _ _ 2 _ 172 (0, 0) hX1;have HB1 : Hid (Below w.heap.size w w1) := hB1;clear hW1 hX1 k0 k1 k2 k3 d0
  have hrow : w1.ownsRow 0 9 1 (.slice aw nw cw) nw (es.ww.map Value.string) := (by have h1 := (Touch.of_below (S := fun _ => False) hB1).row HS.out (fun _ _ => id);rw [HN.out.2] at h1;exact h1);have HROW : Hid (w1.ownsRow 0 9 1 (.slice aw nw cw) nw (es.ww.map Value.string)) := hrow;clear hB1 hrow
  by_cases h0 : nw = 0
  · subst h0
    rcases aw with _ | ad
    · go_wp2;go_ret2
      have eL : es.ww = [] := List.length_eq_zero_iff.1 HN.out.2;have hnew : (w1.alloc (.cells #[] 9)).heap[w1.heap.size]? = some (.cells #[] 9 (0, 0)) := heap_alloc_new _ _;have hrw : (w1.alloc (.cells #[] 9)).ownsRow w.heap.size 9 1 (.slice (some ⟨w1.heap.size, 0, none⟩) 0 0) 0 [] := ⟨rfl, .inr ⟨w1.heap.size, 0, #[], rfl, by omega, hnew, Nat.le_refl _, by decide, rfl, rfl⟩⟩;refine ⟨_, _, rfl, ?_, ?_, HB1.out.alloc (by omega) _⟩;rw [HB.out.1]; exact World.ownsRow_nil _ _ 3 1;rw [HB.out.2, eL]; exact hrw
    go_wp2;go_ret2
    have eL : es.ww = [] := List.length_eq_zero_iff.1 HN.out.2;have hnew : (w1.alloc (.cells #[] 9)).heap[w1.heap.size]? = some (.cells #[] 9 (0, 0)) := heap_alloc_new _ _;have hrw : (w1.alloc (.cells #[] 9)).ownsRow w.heap.size 9 1 (.slice (some ⟨w1.heap.size, 0, none⟩) 0 0) 0 [] := ⟨rfl, .inr ⟨w1.heap.size, 0, #[], rfl, by omega, hnew, Nat.le_refl _, by decide, rfl, rfl⟩⟩;refine ⟨_, _, rfl, ?_, ?_, HB1.out.alloc (by omega) _⟩;rw [HB.out.1]; exact World.ownsRow_nil _ _ 3 1;rw [HB.out.2, eL]; exact hrw
  have hq : ∃ q, aw = some ⟨q, 0, none⟩ := by
    rcases HROW.out.2 with ⟨e, h1⟩ | ⟨g, cap, cur, e, _⟩
    exact absurd h1 h0;injection e with e1; exact ⟨g, e1⟩
  obtain ⟨q, rfl⟩ := hq;obtain ⟨i0, hinf, hz0, hz1, hz2⟩ := info_parts info9w
  have hql : q < w1.heap.size := by
    rcases HROW.out.2 with ⟨e, _⟩ | ⟨g, cap, cur, e, _, hh, _⟩
    · cases e
    injection e with e1; injection e1 with e1; injection e1 with e1 _; rw [e1]; exact (Array.getElem?_eq_some_iff.1 hh).1
  have HNEW : Hid ((w1.alloc (.cells #[] 9)).ownsRow w.heap.size 9 1 (.slice (some ⟨w1.heap.size, 0, none⟩) 0 0) 0 []) := ⟨rfl, .inr ⟨w1.heap.size, 0, #[], rfl, by omega, heap_alloc_new _ _, Nat.le_refl _, by decide, rfl, rfl⟩⟩;have HLEN : Hid ((es.ww.map Value.string).length = nw * 1) := by show _ = _; rw [List.length_map, HN.out.2, Nat.mul_one]
  have HCEL : Hid (∀ j u, (es.ww.map Value.string)[j]? = some u -> (w1.alloc (.cells #[] 9)).cell? ((⟨q, 0, none⟩ : Addr).add j) = some u) := fun j u hu => by have hj : j < nw * 1 := (by rw [<- HLEN.out]; exact (List.getElem?_eq_some_iff.1 hu).1);have hadd : (⟨q, 0, none⟩ : Addr).add j = ⟨q, j, none⟩ := (by unfold Addr.add; split <;> simp_all);rw [hadd];rw [((Below.refl w1.heap.size w1).alloc (Nat.le_refl _) (.cells #[] 9)).cell (p := ⟨q, j, none⟩) hql];rw [World.ownsRow.cellAt HROW.out j hj];exact hu
  have H1C : Hid (∀ u ∈ es.ww.map Value.string, u.oneCell' = true) := fun u hu => by obtain ⟨y, _, rfl⟩ := List.mem_map.1 hu;rfl
  go_wp2_with (at_builtin; refine wpList_append_mark rfl (.tmp 17) (.tmp 20) 47 rfl w.heap.size 9 i0 (.string ⟨#[]⟩) 1 16 Tryz.underlying47 hinf hz0 hz1 hz2 rfl (by decide) _ 0 [] rfl HNEW.out ⟨q, 0, none⟩ nw cw (es.ww.map Value.string) rfl HLEN.out HCEL.out H1C.out (by omega) (by unfold maxLen; omega) (by omega) (by simp; omega) ?_)
  intro v4 w4 H4;obtain ⟨r4, g4, d4, _, q4, p4, hv4⟩ := H4.out;have HFIN : Hid (w4.ownsRow w.heap.size 9 1 v4 nw (es.ww.map Value.string) /\ Below w.heap.size w w4) := (by refine ⟨r4, ?_⟩;exact (HB1.out.alloc (by omega) _).grown g4 (by simp; omega) (by intro b hb; simp [Value.ownBlock] at hb; omega));subst hv4;clear H4 r4 g4 d4 HROW HNEW HCEL;go_wp2;go_ret2
  have hr := HFIN.out.1;refine ⟨_, _, rfl, ?_, ?_, HFIN.out.2⟩;rw [HB.out.1]; exact World.ownsRow_nil _ _ 3 1;rw [HB.out.2]; unfold OwnS; rw [HN.out.2]; exact (by simpa using hr)
def BdsG (w : World) (e : ES) (x : Ending) (w' : World) : Prop := ∃ vb vw, x = .returned (.tuple #[vb, vw, .int .i64 0]) /\ BdsX w w' vb vw e
theorem gBounds_yes (gb db f : Nat) (D : DSS) (w : World) (h : OutD w gb db D) (hk : D.ks.length <= 1000) (hf : f < D.ks.length) (hb1 : (D.ks.getD f k0S).e.bs.length <= 1000) (hw1 : (D.ks.getD f k0S).e.ww.length <= 1000) : Calls Tryz.prog 27 #[.pointer (some ⟨gb, 0, none⟩), .int .i64 (f : Nat)] w fun e w' => BdsG w (D.ks.getD f k0S).e e w' := by
  have g0 : w.cell? ⟨gb, 0, none⟩ = some (.pointer (some ⟨db, 0, none⟩)) := cell_of_row _ _ 0 _ 110 (0, 0) h.gp;have HHF : Calls Tryz.prog 52 #[.pointer (some ⟨gb, 0, none⟩), .int .i64 (f : Nat)] w fun e w' => e = .returned (.bool true) /\ w' = w := (by have h1 := hasFeature_any gb db D (f : Int) w h hk;have h2 : decide (0 <= (f : Int) /\ (f : Int) <= (D.ks.length : Int) - 1) = true := (by simp; omega);rw [h2] at h1;exact h1);obtain ⟨vK, vB, vX, kvs, bvs, X, hX⟩ := h.md;have HB := dsBounds_any db f vK vB vX kvs bvs X D w hX hf hb1 hw1;clear h hX hk hf hb1 hw1;generalize (D.ks.getD f k0S).e = es at *;go_enter Tryz.func27, Tryz.ntmps27;go_wp2_with fail
  refine HHF.mono ?_;rintro e w3 ⟨rfl, hw3⟩;obtain rfl := hw3.symm;go_wp2_with fail
  refine HB.mono ?_;rintro e w4 ⟨vb, vw, rfl, h4⟩;have H4 : Hid (BdsX w w4 vb vw es) := h4;clear h4;go_wp2;go_ret3
  exact ⟨_, _, rfl, H4.out⟩
end Go.Proofs.YtfcgnpchbcmdeaaGreat

namespace Go.Proofs.YtfcgnpchbcmdeaaGreat
open Go.RowKit
theorem DatOk.mem {n : Nat} {D : DSS} (_ : DatOk n D) {i : Nat} (hi : i < D.bs.length) : D.bs.getD i b0S ∈ D.bs := by rw [List.getD_eq_getElem?_getD, List.getElem?_eq_getElem hi]; exact List.getElem_mem _
theorem dsLookup_any (db f row n : Nat) (vK vB vX : Value) (kvs bvs : List (Value × Value)) (X : List XS) (D : DSS) (w : World) (h : MadeX w db vK vB vX kvs bvs X D) (hd : DatOk n D) (hf : f < D.ks.length) (hr : row < n) : Calls Tryz.prog 78 #[.pointer (some ⟨db, 0, none⟩), .int .i64 (row : Nat), .int .i64 (f : Nat)] w fun e w' => e = .returned (.int .i64 (lookF D X f (seatB D f) (seatP D f) row : Nat)) /\ Below w.heap.size w w' := by
  have hs := hd.seat hf;have hbm := hd.mem hs.hb;have hbo := hd.bok _ hbm;have hg := hd.g40 _ hbm;have hrl : row < (D.bs.getD (seatB D f) b0S).N.length := by rw [hbo.len]; exact hr
  have hNg : (D.bs.getD (seatB D f) b0S).N.getD row 0 <= (D.bs.getD (seatB D f) b0S).g := (by rw [List.getD_eq_getElem?_getD, List.getElem?_eq_getElem hrl]; exact hbo.le _ (List.getElem_mem _));have hxl : X.length <= 1000000 := (by rw [h.perm.length_eq]; have := hd.xl; omega);have hoff : offK D (seatB D f) (seatP D f) <= 100000 := (by have h1 := sumM_le D.ks ((D.bs.getD (seatB D f) b0S).fs.take (seatP D f)) (fun x hx => Nat.le_trans (hd.mn x (hd.fk _ hbm x (List.mem_of_mem_take hx))) (by decide));have h2 := hd.f4 _ hbm;have h3 : ((D.bs.getD (seatB D f) b0S).fs.take (seatP D f)).length <= (D.bs.getD (seatB D f) b0S).fs.length := (by rw [List.length_take]; omega);unfold offK;omega);have hn2 := hd.n2;have hbl : D.bs.length <= 1000 := (by have := hd.b4; omega);obtain ⟨_, hcol⟩ := h.ds.bn.each (seatB D f) hs.hb
  rcases hcol with ⟨_, p, e, sb, vc, e2, _, hX⟩ | ⟨_, p, e, dd, q, e2, _, hX⟩
  subst e2;refine lookup_sparse db f _ _ row sb vK vB vX kvs bvs X D w h hs hbl hxl (by omega) hoff e (fun W hW => ?_);have hX' : SpaX W 0 sb (D.bs.getD (seatB D f) b0S).N.length (Lib.bitLen (D.bs.getD (seatB D f) b0S).g) vc (spF (D.bs.getD (seatB D f) b0S).N (D.bs.getD (seatB D f) b0S).N.length) := ⟨(hW.block _ (Array.getElem?_eq_some_iff.1 hX.blk).1).trans hX.blk, (Touch.of_below (S := fun _ => False) hW).row hX.row (fun _ _ => id)⟩;exact sparseAt_any sb _ _ row vc _ W hX' hrl (by rw [hbo.len]; omega);subst e2;have hb6 : Lib.bitLen (D.bs.getD (seatB D f) b0S).g <= 6 := bitLen_le (by omega);have hN2 : (D.bs.getD (seatB D f) b0S).N.getD row 0 < 2 ^ Lib.bitLen (D.bs.getD (seatB D f) b0S).g := Nat.lt_of_le_of_lt hNg (bitLen_lt (by omega));refine lookup_dense db f _ _ row dd vK vB vX kvs bvs X D w h hs hbl hxl (by omega) hoff e (fun W hW => ?_)
  have hmul : row * Lib.bitLen (D.bs.getD (seatB D f) b0S).g + Lib.bitLen (D.bs.getD (seatB D f) b0S).g <= (D.bs.getD (seatB D f) b0S).N.length * Lib.bitLen (D.bs.getD (seatB D f) b0S).g := by rw [<- Nat.succ_mul];exact Nat.mul_le_mul_right _ hrl
  have hmul2 : (D.bs.getD (seatB D f) b0S).N.length * Lib.bitLen (D.bs.getD (seatB D f) b0S).g <= 200 * 6 := Nat.mul_le_mul (by rw [hbo.len]; exact hn2) hb6;have hX' : DenX W 0 dd q (D.bs.getD (seatB D f) b0S).N.length (Lib.bitLen (D.bs.getD (seatB D f) b0S).g) (packF (bitsN (D.bs.getD (seatB D f) b0S).N (Lib.bitLen (D.bs.getD (seatB D f) b0S).g)) (((D.bs.getD (seatB D f) b0S).N.length * Lib.bitLen (D.bs.getD (seatB D f) b0S).g + 7) / 8) ((D.bs.getD (seatB D f) b0S).N.length * Lib.bitLen (D.bs.getD (seatB D f) b0S).g)) := ⟨(hW.block _ (Array.getElem?_eq_some_iff.1 hX.blk).1).trans hX.blk, (Touch.of_below (S := fun _ => False) hW).row hX.row (fun _ _ => id)⟩;have h1 := denseAt_any dd q _ _ _ _ row _ W hX' (fun t => bitsN_le _ _ t) hb6 hmul (by omega) (by omega);rw [bitsN_row _ hN2] at h1;exact h1
theorem gLookup_bin (gb db f row m n budget : Nat) (es : List ES) (Bb : List (List Nat)) (w : World) (h : OutD w gb db (makeF m n budget es Bb)) (hm : m + 1 <= 4) (hn : n <= 200) (hk : BinOk m n es Bb) (hf : f < m + 1) (hr : row < n) : Calls Tryz.prog 44 #[.pointer (some ⟨gb, 0, none⟩), .int .i64 (row : Nat), .int .i64 (f : Nat)] w fun e w' => e = .returned (.tuple #[.int .i64 ((Bb.getD f []).getD row 0 : Nat), .int .i64 0]) /\ Below w.heap.size w w' := by
  have hd := makeF_ok (budget := budget) hm hn hk;have hkl : (makeF m n budget es Bb).ks.length = m + 1 := (by rw [show (makeF m n budget es Bb).ks = _ from addsF_ks _ _ _ _ _]; exact ksF_len es Bb (m + 1));have hN0 : ((makeF m n budget es Bb).bs.getD 0 b0S).N.length = n := (hd.bok _ (hd.mem hd.b0)).len;refine gLookup_yes gb db f row _ _ w h hd.b0 (by rw [hkl]; omega) (by rw [hN0]; exact hr) (by rw [hN0]; omega) (by rw [hkl]; exact hf) (fun W hW => ?_);obtain ⟨vK, vB, vX, kvs, bvs, X, hX⟩ := hW.md;have h1 := dsLookup_any db f row n vK vB vX kvs bvs X _ W hX hd (by rw [hkl]; exact hf) hr;rw [look_bin hm hn hk hX.perm hf hr] at h1;exact h1
theorem gRows_made (gb db n : Nat) (D : DSS) (w : World) (h : OutD w gb db D) (hd : DatOk n D) : Calls Tryz.prog 26 #[.pointer (some ⟨gb, 0, none⟩)] w fun e w' => e = .returned (.int .i64 (n : Nat)) /\ Below w.heap.size w w' := by have h1 := gRows_any gb db D w h hd.b0;rw [(hd.bok _ (hd.mem hd.b0)).len] at h1;exact h1
theorem gBounds_made (gb db f n : Nat) (D : DSS) (w : World) (h : OutD w gb db D) (hd : DatOk n D) (hf : f < D.ks.length) : Calls Tryz.prog 27 #[.pointer (some ⟨gb, 0, none⟩), .int .i64 (f : Nat)] w fun e w' => BdsG w (D.ks.getD f k0S).e e w' :=
  gBounds_yes gb db f D w h (by have := hd.k4; omega) hf (hd.edg f hf).lb (hd.edg f hf).lw
end Go.Proofs.YtfcgnpchbcmdeaaGreat

namespace Go.Proofs.YtfcgnpchbcmdeaaGreat
open Go.RowKit
end Go.Proofs.YtfcgnpchbcmdeaaGreat

namespace Go.Proofs.YtfcgnpchbcmdeaaGreat
open Go.RowKit
set_option maxRecDepth 100000 in
set_option maxHeartbeats 4000000 in
theorem lwF_ok : LwOk lwF := by
  intro va wa n vcap wcap k1 k2 ct bins L ws w hv hw hL hn hz hwd c1 c2 l1 l2 hb1 hb2;have HC : Hid (∀ W : World, Below w.heap.size w W -> Calls Tryz.prog 211 #[.slice va n vcap, .slice wa n wcap, .int .i64 ct, .int .i64 bins] W fun e w' => ∃ v, e = .returned v /\ EdgM w' W.heap.size v (lwF L ws ct bins) /\ Below W.heap.size W w') := fun W hW => learnWords_any va wa n vcap wcap ct bins L ws W ((Touch.of_below (S := fun _ => False) hW).row hv (fun _ _ => id)) (hw.below hW) hL hn hz hwd hb1 hb2;have e1 : (w.alloc (.cells #[.bool false, .slice none 0 0, .slice none 0 0] 170)).cell? ⟨k1, 0, none⟩ = some (.int .i64 ct) := (((Below.refl _ _).alloc (Nat.le_refl _) _).cell (p := ⟨k1, 0, none⟩) l1).trans c1
  have e2 : (w.alloc (.cells #[.bool false, .slice none 0 0, .slice none 0 0] 170)).cell? ⟨k2, 0, none⟩ = some (.int .i64 bins) := (((Below.refl _ _).alloc (Nat.le_refl _) _).cell (p := ⟨k2, 0, none⟩) l2).trans c2;have HWD : Hid ((lwF L ws ct bins).wd = true /\ (lwF L ws ct bins).bs = []) := ⟨rfl, rfl⟩;clear hv hw hL hn hz hwd hb1 hb2;go_enter Tryz.func210, Tryz.ntmps210;go_wp2_with fail
  refine (HC.out _ ((Below.refl _ _).alloc (Nat.le_refl _) _)).mono ?_;rintro e w2 ⟨v, rfl, ⟨vb, vw, hv, hEb, hE⟩, hb⟩;rw [HWD.out.1] at hv;rw [HWD.out.2] at hEb;obtain ⟨ab, cb, rfl⟩ := hEb.shape;obtain ⟨av, cv, hav⟩ := hE.shapeW;subst hav;subst hv;have hblk : w2.heap[w.heap.size]? = some (.cells #[.bool false, .slice none 0 0, .slice none 0 0] 170 (0, 0)) := (hb.block _ (by simp)).trans (heap_alloc_new _ _);have d0 : w2.cell? ⟨w.heap.size, 0, none⟩ = some (.bool false) := cell_of_row _ _ 0 _ 170 (0, 0) hblk;have d1 : w2.cell? ⟨w.heap.size, 1, none⟩ = some (.slice none 0 0) := cell_of_row _ _ 1 _ 170 (0, 0) hblk;have d2 : w2.cell? ⟨w.heap.size, 2, none⟩ = some (.slice none 0 0) := cell_of_row _ _ 2 _ 170 (0, 0) hblk;have f0 : w2.frozen? ⟨w.heap.size, 0, none⟩ = false := frozen_of_row _ _ 0 _ 170 hblk;have f1 : w2.frozen? ⟨w.heap.size, 1, none⟩ = false := frozen_of_row _ _ 1 _ 170 hblk
  have f2 : w2.frozen? ⟨w.heap.size, 2, none⟩ = false := frozen_of_row _ _ 2 _ 170 hblk;have HB : Hid (Below w.heap.size w w2) := ((Below.refl _ _).alloc (Nat.le_refl _) _).trans (hb.mono (by simp));have HE : Hid (OwnS w2 w.heap.size (.slice av (lwF L ws ct bins).ww.length cv) (lwF L ws ct bins).ww /\ OwnI w2 w.heap.size (.slice ab ([] : List Int).length cb) []) := ⟨hE.monoW (by simp), hEb.mono (by simp)⟩;have HK : Hid (w2.heap[w.heap.size]? = some (.cells #[.bool false, .slice none 0 0, .slice none 0 0] 170 (0, 0))) := hblk;clear hb hE hEb hblk HC c1 c2 l1 l2 e1 e2;generalize hnw : (lwF L ws ct bins).ww.length = nw at *;have HNW : Hid ((lwF L ws ct bins).ww.length = nw) := hnw;clear hnw;go_wp2;refine bodyPost_ret (v := .agg #[.bool true, .slice ab 0 cb, .slice av nw cv]) (by simp [results, Tryz.results210, go_sem, *]) rfl ?_
  refine ⟨_, rfl, ⟨.slice ab 0 cb, .slice av nw cv, rfl, ?_, ?_⟩, ((HB.out.setCell (Nat.le_refl _) _).setCell (Nat.le_refl _) _).setCell (Nat.le_refl _) _⟩;exact own_put' (own_put' (own_put' HE.out.2 HK.out (by decide)) (by exact heap_setCell_same _ _ _ _ _ _ HK.out) (by decide)) (by exact heap_setCell_same _ _ _ _ _ _ (heap_setCell_same _ _ _ _ _ _ HK.out)) (by decide);exact own_put' (own_put' (own_put' HE.out.1 HK.out (by decide)) (by exact heap_setCell_same _ _ _ _ _ _ HK.out) (by decide)) (by exact heap_setCell_same _ _ _ _ _ _ (heap_setCell_same _ _ _ _ _ _ HK.out)) (by decide)
theorem lwF_fine : LwFine lwF := by refine ⟨lwF_ok, fun L ws ct bins hL hb1 hb2 => ?_⟩;have hl : (lwF L ws ct bins).ww.length <= 16 := (by show ((((heavyW (L.zip ws) ct).mergeSort fun x y => decide (leW x y)).take bins.toNat).map WS.wd).length <= 16;rw [List.length_map, List.length_take];omega);refine ⟨⟨List.Pairwise.nil, by simp [lwF], by omega⟩, rfl, ?_⟩;show cntE true 0 (lwF L ws ct bins).ww.length <= 16;simp only [cntE, if_true];exact hl
theorem closeOk_any {m : Nat} {wd : Nat -> Bool} {sc ct : Nat -> Int} {bins : Int} {size : Nat} {l : List Int} {s : RS} (hsc : ∀ i, i < m + 1 -> wd i = false -> 0 <= sc i /\ sc i <= 3) (hb : 2 <= bins) (hb2 : bins <= 16) (hs : 2 <= size) (hs2 : size <= 32) (h : rtakes (m + 1) wd sc RS.start l 0 = .ok s) : CloseOk lwF m wd ct bins size s := closeOk_all (fun _ => lwF_fine) hsc hb hb2 hs hs2 h
end Go.Proofs.YtfcgnpchbcmdeaaGreat

namespace Go.Proofs.YtfcgnpchbcmdeaaGreat
open Go.RowKit
theorem takeIn_vals {S : Int -> Prop} {size : Int} (hs : 2 <= size) (hs2 : size <= 32) : ∀ {Ls : List (List Ent)} {l : List Ent}, LevOk Ls -> Good l -> l.length <= 32 -> totals Ls + totalL l <= 1000000000000 -> (∀ L ∈ Ls, ∀ e ∈ L, S e.v) -> (∀ e ∈ l, S e.v) -> ∀ L ∈ takeInL size Ls l, ∀ e ∈ L, S e.v
  | [], l, _, _, _, _, _, hv => by simpa [takeInL] using hv
  | o :: r, l, h, g, hl, ht, hL, hv => by
    have go := h.good o (by simp);have hr : LevOk r := ⟨fun x hx => h.good x (by simp [hx]), fun x hx => h.len x (by simp [hx])⟩;have p1 := totals_pos hr.good;have p2 := (total_pos go).1;have p3 := (total_pos g).1;simp only [totals] at ht;simp only [takeInL];split
    · intro L hx
      rcases List.mem_cons.1 hx with rfl | hx
      exact hv;exact hL L (by simp [hx])
    have gj := joinL_good go g (by omega);have gc : Good (cutL (joinL o l) size) := gj.sub (cutL_sub gj size);have tc : totalL (cutL (joinL o l) size) = totalL o + totalL l := (by rw [total_cut, total_join]);have lc := cutL_len (joinL o l) hs
    have ih := takeIn_vals (S := S) hs hs2 hr gc (by omega) (by omega) (fun L hx => hL L (by simp [hx])) (fun e he => by
      rcases joinL_from go g e ((cutL_sub gj size).subset he) with ⟨x, hx, e1⟩ | ⟨x, hx, e1⟩
      rw [<- e1]; exact hL o (by simp) x hx
      rw [<- e1]; exact hv x hx)
    intro L hx
    rcases List.mem_cons.1 hx with rfl | hx
    simp;exact ih L hx
theorem sumE_vals {S : Int -> Prop} {vs ws : List Int} (h : ∀ v ∈ vs, S v /\ -1000000000 <= v /\ v <= 1000000000) : ∀ e ∈ sumE vs ws, S e.v := fun e he => by have hs := sumOf_is (pairsOf vs ws);obtain ⟨p, hp, h1, _⟩ := (rank_vals (sumOf (pairsOf vs ws)) 0).1 e he;obtain ⟨q, hq, e2⟩ := hs.sub p hp;unfold pairsOf at hq;obtain ⟨z, hz, rfl⟩ := List.mem_map.1 hq;have hz1 : z.1 ∈ vs := (List.of_mem_zip (a := z.1) (b := z.2) hz).1;obtain ⟨a, b, c⟩ := h z.1 hz1;rw [<- h1, <- e2];show S (clampV z.1);unfold clampV;rw [if_neg (by omega), if_neg (by omega)];exact a
theorem blocksF_vals {S : Int -> Prop} {size : Nat} (hs : 2 <= size) (hs2 : size <= 32) : ∀ (f : Nat) (Ls : List (List Ent)) (vs ws : List Int), LevOk Ls -> totals Ls + 1000 * (vs.length : Int) <= 1000000000000 -> vs.length <= 2097152 -> (∀ L ∈ Ls, ∀ e ∈ L, S e.v) -> (∀ v ∈ vs, S v /\ -1000000000 <= v /\ v <= 1000000000) -> ∀ L ∈ blocksF size f Ls vs ws, ∀ e ∈ L, S e.v
  | 0, Ls, vs, ws, _, _, _, hL, _ => by simp only [blocksF]; exact hL
  | f + 1, Ls, vs, ws, h, ht, hl, hL, hv => by simp only [blocksF];split;exact hL;have h1 := sumE_ok (vs := vs.take size) (ws := ws.take size) (by simp; omega);have hp := totals_pos h.good;have hlen : (vs.take size).length + (vs.drop size).length = vs.length := (by simp; omega);have hlt : (vs.take size).length <= size := (by simp; omega);obtain ⟨t1, t2⟩ := takeIn_ok (size := (size : Int)) (by omega) (by omega) h h1.1 (by omega) (by omega);refine blocksF_vals hs hs2 f _ (vs.drop size) (ws.drop size) t1 (by omega) (by omega) ?_ (fun v hv2 => hv v (List.mem_of_mem_drop hv2));exact takeIn_vals (by omega) (by omega) h h1.1 (by omega) (by omega) hL (sumE_vals (fun v hv2 => hv v (List.mem_of_mem_take hv2)))
theorem foldLev_vals {S : Int -> Prop} {size : Int} (hs : 2 <= size) (hs2 : size <= 32) : ∀ (Ls : List (List Ent)) (al : List Ent), LevOk Ls -> Good al -> al.length <= 32 -> totalL al + totals Ls <= 1000000000000 -> (∀ L ∈ Ls, ∀ e ∈ L, S e.v) -> (∀ e ∈ al, S e.v) -> ∀ e ∈ foldLev size al Ls, S e.v
  | [], al, _, _, _, _, _, hv => hv
  | l :: r, al, h, g, hl, ht, hL, hv => by
    have gl := h.good l (by simp);have hr : LevOk r := ⟨fun x hx => h.good x (by simp [hx]), fun x hx => h.len x (by simp [hx])⟩;have p1 := totals_pos hr.good;simp only [totals] at ht;have gj := joinL_good g gl (by omega);have lc := cutL_len (joinL al l) hs;have tc : totalL (cutL (joinL al l) size) = totalL al + totalL l := (by rw [total_cut, total_join]);simp only [foldLev]
    exact foldLev_vals hs hs2 r _ hr (gj.sub (cutL_sub gj size)) (by omega) (by omega) (fun L hx => hL L (by simp [hx])) (fun e he => by
      rcases joinL_from g gl e ((cutL_sub gj size).subset he) with ⟨x, hx, e1⟩ | ⟨x, hx, e1⟩
      rw [<- e1]; exact hv x hx
      rw [<- e1]; exact hL l (by simp) x hx)
theorem inBlocks_vals {S : Int -> Prop} {size : Nat} (hs : 2 <= size) (hs2 : size <= 32) (vs ws : List Int) (hl : vs.length <= 2097152) (hv : ∀ v ∈ vs, S v /\ -1000000000 <= v /\ v <= 1000000000) : ∀ e ∈ inBlocksL size vs ws, S e.v := by obtain ⟨h1, h2⟩ := blocksF_ok hs hs2 vs.length [] vs ws LevOk.nil (by simp [totals]; omega) hl;exact foldLev_vals (by omega) (by omega) _ [] h1 Good.nil (by simp) (by simp [totalL, totals] at h2 ⊢; omega) (blocksF_vals hs hs2 _ _ _ _ LevOk.nil (by simp [totals]; omega) hl (by simp) hv) (by simp)
theorem mem_keepN : ∀ (L : List VS) (ws : List Int) (x : Int × Int), x ∈ keepN L ws -> ∃ v ∈ L, v.miss = false /\ v.num = x.1
  | [], _, x, h => by simp [keepN] at h
  | _ :: _, [], x, h => by simp [keepN] at h
  | v :: L, z :: ws, x, h => by
    simp only [keepN] at h;split at h;obtain ⟨u, hu, h1⟩ := mem_keepN L ws x h;exact ⟨u, by simp [hu], h1⟩;rename_i hm
    rcases List.mem_cons.1 h with rfl | h
    exact ⟨v, by simp, by simpa using hm, rfl⟩;obtain ⟨u, hu, h1⟩ := mem_keepN L ws x h;exact ⟨u, by simp [hu], h1⟩
theorem learnB_from {L : List VS} {ws : List Int} {bins : Int} {size : Nat} (hL : L.length <= 200) (hs : 2 <= size) (hs2 : size <= 32) (hr : ∀ v ∈ L, -1000000000 <= v.num /\ v.num <= 1000000000) : ∀ x ∈ learnB L ws bins size, ∃ v ∈ L, v.miss = false /\ v.num = x := fun x hx => by have hl : ((keepN L ws).map Prod.fst).length <= 2097152 := (by have := keepN_len L ws; simp; omega);unfold learnB at hx;have h1 := (boundsL_sub _ bins).subset hx;obtain ⟨e, he, rfl⟩ := List.mem_map.1 h1;refine inBlocks_vals (S := fun y => ∃ v ∈ L, v.miss = false /\ v.num = y) hs hs2 _ _ hl (fun v hv => ?_) e (List.mem_of_mem_take he);obtain ⟨p, hp, rfl⟩ := List.mem_map.1 hv;obtain ⟨u, hu, h2, h3⟩ := mem_keepN L ws p hp;have := hr u hu;exact ⟨⟨u, hu, h2, h3⟩, by omega, by omega⟩
end Go.Proofs.YtfcgnpchbcmdeaaGreat

namespace Go.Proofs.YtfcgnpchbcmdeaaGreat
open Go.RowKit
theorem nodup_le {α : Type} [BEq α] [LawfulBEq α] : ∀ {l V : List α}, l.Nodup -> (∀ x ∈ l, x ∈ V) -> l.length <= V.length
  | [], V, _, _ => Nat.zero_le _
  | a :: l, V, h, hs => by
    rw [List.nodup_cons] at h;have ha := hs a (by simp)
    have h1 := nodup_le (l := l) (V := V.erase a) h.2 (fun x hx => by
      have hne : x ≠ a := fun e => h.1 (by rw [<- e]; exact hx)
      exact (List.mem_erase_of_ne hne).2 (hs x (by simp [hx])))
    rw [List.length_erase_of_mem ha] at h1;have := List.length_pos_of_mem ha;simp only [List.length_cons]; omega
theorem nodup_len {α : Type} [BEq α] [LawfulBEq α] {l V : List α} (h1 : l.Nodup) (h2 : V.Nodup) (h : ∀ x, x ∈ l ↔ x ∈ V) : l.length = V.length :=
  Nat.le_antisymm (nodup_le h1 (fun x hx => (h x).1 hx)) (nodup_le h2 (fun x hx => (h x).2 hx))
theorem Good.nodup {L : List Ent} (g : Good L) : (L.map fun e => e.v).Nodup := by refine List.Pairwise.map _ (R := fun e f : Ent => e.v < f.v) (fun a b h => ?_) (g.step.imp (fun h => h.1));exact Int.ne_of_lt h
theorem Good.few {L : List Ent} (g : Good L) {V : List Int} (h : ∀ e ∈ L, e.v ∈ V) : L.length <= V.length := by
  have := nodup_le g.nodup (V := V) (fun x hx => by
    obtain ⟨e, he, rfl⟩ := List.mem_map.1 hx
    exact h e he)
  simpa using this
theorem cut_few {L : List Ent} {size : Int} (h : (L.length : Int) <= size) : cutL L size = L := by unfold cutL; rw [if_pos (by omega)]
theorem joinL_has (a b : List Ent) (x : Int) (h : (∃ e ∈ a, e.v = x) ∨ ∃ e ∈ b, e.v = x) : ∃ e ∈ joinL a b, e.v = x := by
  obtain ⟨h1, h2⟩ := joinF_has a b (a.length + b.length) 0 0 (by omega)
  rcases h with ⟨e, he, rfl⟩ | ⟨e, he, rfl⟩
  obtain ⟨k, hk, rfl⟩ := mem_getD he;exact h1 k (Nat.zero_le _) hk;obtain ⟨k, hk, rfl⟩ := mem_getD he;exact h2 k (Nat.zero_le _) hk
section
variable {V : List Int}
theorem takeIn_has {size : Int} (hV : (V.length : Int) <= size) : ∀ {Ls : List (List Ent)} {l : List Ent}, LevOk Ls -> Good l -> totals Ls + totalL l <= 1000000000000 -> (∀ L ∈ Ls, ∀ e ∈ L, e.v ∈ V) -> (∀ e ∈ l, e.v ∈ V) -> ∀ x, ((∃ L ∈ Ls, ∃ e ∈ L, e.v = x) ∨ ∃ e ∈ l, e.v = x) -> ∃ L ∈ takeInL size Ls l, ∃ e ∈ L, e.v = x
  | [], l, _, _, _, _, _, x, hx => by
    rcases hx with ⟨L, h, _⟩ | h
    simp at h;exact ⟨l, by simp [takeInL], h⟩
  | o :: r, l, h, g, ht, hL, hv, x, hx => by
    have go := h.good o (by simp);have hr : LevOk r := ⟨fun x hx => h.good x (by simp [hx]), fun x hx => h.len x (by simp [hx])⟩;have p1 := totals_pos hr.good;have p2 := (total_pos go).1;have p3 := (total_pos g).1;simp only [totals] at ht;simp only [takeInL];split
    · rename_i h0
      rcases hx with ⟨L, hL2, he⟩ | he
      · rcases List.mem_cons.1 hL2 with rfl | hL2
        obtain ⟨e, he, _⟩ := he;rw [List.eq_nil_of_length_eq_zero h0] at he;simp at he;exact ⟨L, by simp [hL2], he⟩
      exact ⟨l, by simp, he⟩
    have gj := joinL_good go g (by omega)
    have hjv : ∀ e ∈ joinL o l, e.v ∈ V := fun e he => by
      rcases joinL_from go g e he with ⟨y, hy, e1⟩ | ⟨y, hy, e1⟩
      rw [<- e1]; exact hL o (by simp) y hy;rw [<- e1]; exact hv y hy
    have hc : cutL (joinL o l) size = joinL o l := cut_few (by have := gj.few hjv; omega);rw [hc];have tc : totalL (joinL o l) = totalL o + totalL l := total_join o l
    have ih := takeIn_has hV hr gj (by omega) (fun L hx => hL L (by simp [hx])) hjv x (by
      rcases hx with ⟨L, hL2, he⟩ | he
      · rcases List.mem_cons.1 hL2 with rfl | hL2
        exact .inr (joinL_has _ _ x (.inl he));exact .inl ⟨L, hL2, he⟩
      exact .inr (joinL_has _ _ x (.inr he)))
    obtain ⟨L, h1, h2⟩ := ih;exact ⟨L, by simp [h1], h2⟩
theorem sumE_has {vs ws : List Int} (hl : vs.length <= ws.length) (h : ∀ v ∈ vs, -1000000000 <= v /\ v <= 1000000000) : ∀ x ∈ vs, ∃ e ∈ sumE vs ws, e.v = x := fun x hx => by have hs := sumOf_is (pairsOf vs ws);obtain ⟨k, hk, rfl⟩ := List.getElem_of_mem hx;have hz : (vs[k], ws[k]'(by omega)) ∈ List.zip vs ws := (by refine List.mem_of_getElem? (i := k) ?_;rw [List.getElem?_zip_eq_some];simp [hk, show k < ws.length by omega]);have hp : (vs[k], clampW (ws[k]'(by omega))) ∈ pairsOf vs ws := (by unfold pairsOf;refine List.mem_map.2 ⟨_, hz, ?_⟩;have := h _ hx;show (clampV vs[k], _) = _;unfold clampV;rw [if_neg (by omega), if_neg (by omega)]);obtain ⟨q, hq, e1⟩ := hs.all _ hp;obtain ⟨e, he, e2⟩ := (rank_vals (sumOf (pairsOf vs ws)) 0).2.1 q hq;exact ⟨e, he, by rw [e2, e1]⟩
theorem blocksF_has {size : Nat} (hs : 2 <= size) (hs2 : size <= 32) (hV : V.length <= size) : ∀ (f : Nat) (Ls : List (List Ent)) (vs ws : List Int), vs.length <= f -> vs.length <= ws.length -> LevOk Ls -> totals Ls + 1000 * (vs.length : Int) <= 1000000000000 -> vs.length <= 2097152 -> (∀ L ∈ Ls, ∀ e ∈ L, e.v ∈ V) -> (∀ v ∈ vs, v ∈ V /\ -1000000000 <= v /\ v <= 1000000000) -> ∀ x, ((∃ L ∈ Ls, ∃ e ∈ L, e.v = x) ∨ x ∈ vs) -> ∃ L ∈ blocksF size f Ls vs ws, ∃ e ∈ L, e.v = x
  | 0, Ls, vs, ws, hf, _, _, _, _, _, _, x, hx => by
    have : vs = [] := List.eq_nil_of_length_eq_zero (by omega);subst this;simp only [blocksF]
    rcases hx with h | h
    exact h;simp at h
  | f + 1, Ls, vs, ws, hf, hlw, h, ht, hl, hL, hv, x, hx => by
    simp only [blocksF];split
    · rename_i h0;have : vs = [] := List.eq_nil_of_length_eq_zero h0;subst this
      rcases hx with h | h
      exact h;simp at h
    have h1 := sumE_ok (vs := vs.take size) (ws := ws.take size) (by simp; omega);have hp := totals_pos h.good;have hlen : (vs.take size).length + (vs.drop size).length = vs.length := (by simp; omega);have hlt : (vs.take size).length <= size := (by simp; omega);have hdl : (vs.drop size).length <= f := (by simp; omega);obtain ⟨t1, t2⟩ := takeIn_ok (size := (size : Int)) (by omega) (by omega) h h1.1 (by omega) (by omega);have hsv := sumE_vals (S := fun y => y ∈ V) (vs := vs.take size) (ws := ws.take size) (fun v hv2 => hv v (List.mem_of_mem_take hv2));refine blocksF_has hs hs2 hV f _ (vs.drop size) (ws.drop size) hdl (by simp; omega) t1 (by omega) (by omega) ?_ (fun v hv2 => hv v (List.mem_of_mem_drop hv2)) x ?_;exact takeIn_vals (by omega) (by omega) h h1.1 (by omega) (by omega) hL hsv
    rcases hx with hx | hx
    exact .inl (takeIn_has (by omega) h h1.1 (by omega) hL hsv x (.inl hx));rw [<- List.take_append_drop size vs] at hx
    rcases List.mem_append.1 hx with hx | hx
    exact .inl (takeIn_has (by omega) h h1.1 (by omega) hL hsv x (.inr (sumE_has (by simp; omega) (fun v hv2 => (hv v (List.mem_of_mem_take hv2)).2) x hx)));exact .inr hx
theorem foldLev_has {size : Int} (hs : 2 <= size) (hs2 : size <= 32) (hV : (V.length : Int) <= size) : ∀ (Ls : List (List Ent)) (al : List Ent), LevOk Ls -> Good al -> al.length <= 32 -> totalL al + totals Ls <= 1000000000000 -> (∀ L ∈ Ls, ∀ e ∈ L, e.v ∈ V) -> (∀ e ∈ al, e.v ∈ V) -> ∀ x, ((∃ L ∈ Ls, ∃ e ∈ L, e.v = x) ∨ ∃ e ∈ al, e.v = x) -> ∃ e ∈ foldLev size al Ls, e.v = x
  | [], al, _, _, _, _, _, _, x, hx => by
    rcases hx with ⟨L, h, _⟩ | h
    simp at h;exact h
  | l :: r, al, h, g, hl, ht, hL, hv, x, hx => by
    have gl := h.good l (by simp);have hr : LevOk r := ⟨fun x hx => h.good x (by simp [hx]), fun x hx => h.len x (by simp [hx])⟩;have p1 := totals_pos hr.good;simp only [totals] at ht;have gj := joinL_good g gl (by omega)
    have hjv : ∀ e ∈ joinL al l, e.v ∈ V := fun e he => by
      rcases joinL_from g gl e he with ⟨y, hy, e1⟩ | ⟨y, hy, e1⟩
      rw [<- e1]; exact hv y hy;rw [<- e1]; exact hL l (by simp) y hy
    have hf := gj.few hjv;have tc : totalL (joinL al l) = totalL al + totalL l := total_join al l;simp only [foldLev];rw [cut_few (by omega)];refine foldLev_has hs hs2 hV r _ hr gj (by omega) (by omega) (fun L hx => hL L (by simp [hx])) hjv x ?_
    rcases hx with ⟨L, hL2, he⟩ | he
    · rcases List.mem_cons.1 hL2 with rfl | hL2
      exact .inr (joinL_has _ _ x (.inr he));exact .inl ⟨L, hL2, he⟩
    exact .inr (joinL_has _ _ x (.inl he))
end
theorem keepN_has : ∀ (L : List VS) (ws : List Int), L.length = ws.length -> ∀ v ∈ L, v.miss = false -> v.num ∈ (keepN L ws).map Prod.fst
  | [], _, _, v, h, _ => by simp at h
  | u :: L, [], hl, v, h, hm => by simp at hl
  | u :: L, z :: ws, hl, v, h, hm => by
    simp only [keepN]
    rcases List.mem_cons.1 h with rfl | h
    rw [if_neg (by simp [hm])]; simp;have ih := keepN_has L ws (by simpa using hl) v h hm;split;exact ih;simp only [List.map_cons, List.mem_cons]; exact .inr ih
theorem learnB_few {L : List VS} {ws : List Int} {bins : Int} {size : Nat} (hL : L.length <= 200) (hw : L.length = ws.length) (hs : 2 <= size) (hs2 : size <= 32) (hbs : bins <= size) (hr : ∀ v ∈ L, -1000000000 <= v.num /\ v.num <= 1000000000) {V : List Int} (hn : V.Nodup) (hV : ∀ x, x ∈ V ↔ ∃ v ∈ L, v.miss = false /\ v.num = x) (h0 : 0 < V.length) (hb : (V.length : Int) <= bins) : (learnB L ws bins size).length = V.length - 1 := by
  have hl : ((keepN L ws).map Prod.fst).length <= 2097152 := by have := keepN_len L ws; simp; omega
  have hv : ∀ v ∈ (keepN L ws).map Prod.fst, v ∈ V /\ -1000000000 <= v /\ v <= 1000000000 := fun v hv => by obtain ⟨p, hp, rfl⟩ := List.mem_map.1 hv;obtain ⟨u, hu, h2, h3⟩ := mem_keepN L ws p hp;exact ⟨(hV _).2 ⟨u, hu, h2, h3⟩, by have := hr u hu; omega⟩
  obtain ⟨g, g2⟩ := inBlocks_ok hs hs2 ((keepN L ws).map Prod.fst) ((keepN L ws).map Prod.snd) hl;have hin : ∀ e ∈ inBlocksL size ((keepN L ws).map Prod.fst) ((keepN L ws).map Prod.snd), e.v ∈ V := inBlocks_vals (S := fun y => y ∈ V) hs hs2 _ _ hl hv
  have hall : ∀ x ∈ V, ∃ e ∈ inBlocksL size ((keepN L ws).map Prod.fst) ((keepN L ws).map Prod.snd), e.v = x := fun x hx => by
    obtain ⟨v, h1, h2, rfl⟩ := (hV x).1 hx;obtain ⟨b1, b2⟩ := blocksF_ok hs hs2 ((keepN L ws).map Prod.fst).length [] ((keepN L ws).map Prod.fst) ((keepN L ws).map Prod.snd) LevOk.nil (by simp [totals] at hl ⊢; omega) hl;have hVs : V.length <= size := by omega
    exact foldLev_has (V := V) (by omega) (by omega) (by omega) _ [] b1 Good.nil (by simp) (by simp [totalL, totals] at b2 hl ⊢; omega) (blocksF_vals (S := fun y => y ∈ V) hs hs2 _ _ _ _ LevOk.nil (by simp [totals] at hl ⊢; omega) hl (by simp) hv) (by simp) _
      (.inl (blocksF_has hs hs2 hVs _ [] _ _ (Nat.le_refl _) (by simp) LevOk.nil (by simp [totals] at hl ⊢; omega) hl (by simp) hv _ (.inr (keepN_has L ws hw v h1 h2))))
  have hlen : (inBlocksL size ((keepN L ws).map Prod.fst) ((keepN L ws).map Prod.snd)).length = V.length := by
    have := nodup_len g.nodup hn (fun x => ⟨fun hx => by
      obtain ⟨e, he, rfl⟩ := List.mem_map.1 hx
      exact hin e he, fun hx => by
      obtain ⟨e, he, rfl⟩ := hall x hx
      exact List.mem_map.2 ⟨e, he, rfl⟩⟩)
    simpa using this
  unfold learnB boundsL;rw [if_neg (by omega), if_pos (by omega), List.length_map, List.length_take];omega
end Go.Proofs.YtfcgnpchbcmdeaaGreat

namespace Go.Proofs.YtfcgnpchbcmdeaaGreat
open Go.RowKit
def dicW (L : List VS) (ws : List Int) (ct : Int) : List WS := (heavyW (L.zip ws) ct).mergeSort fun x y => decide (leW x y)
theorem lwF_ww (L : List VS) (ws : List Int) (ct bins : Int) : (lwF L ws ct bins).ww = ((dicW L ws ct).take bins.toNat).map WS.wd := rfl
theorem dicW_sorted (L : List VS) (ws : List Int) (ct : Int) : (dicW L ws ct).Pairwise leW := by
  have h := List.pairwise_mergeSort (le := fun x y => decide (leW x y)) (fun a b c h1 h2 => decide_eq_true (leW_trans (of_decide_eq_true h1) (of_decide_eq_true h2))) (fun a b => by
    rcases leW_total a b with h | h
    simp [h]
    simp [h]) (heavyW (L.zip ws) ct)
  exact h.imp (fun h => of_decide_eq_true h)
theorem mem_dicW (L : List VS) (ws : List Int) (ct : Int) (x : WS) : x ∈ dicW L ws ct ↔ wdIn (L.zip ws) x.wd.data.toList = true /\ x.wt = wdSum (L.zip ws) x.wd.data.toList /\ ct <= x.wt := by unfold dicW;rw [List.mem_mergeSort];exact mem_heavyW _ _ x
theorem dicW_nodup (L : List VS) (ws : List Int) (ct : Int) : (dicW L ws ct).Nodup := ((List.mergeSort_perm _ _).nodup_iff).2 (heavyW_nodup _ _)
def aheadW (ps : List (VS × Int)) (x y : ByteArray) : Prop := wdSum ps y.data.toList < wdSum ps x.data.toList ∨ wdSum ps y.data.toList = wdSum ps x.data.toList /\ lessS x y
theorem lwF_order (L : List VS) (ws : List Int) (ct bins : Int) : (lwF L ws ct bins).ww.Pairwise (aheadW (L.zip ws)) := by
  rw [lwF_ww];have h : (dicW L ws ct).Pairwise (fun x y => leW x y /\ x ≠ y) := (dicW_sorted L ws ct).and (dicW_nodup L ws ct)
  have h2 : ((dicW L ws ct).take bins.toNat).Pairwise (fun x y => aheadW (L.zip ws) x.wd y.wd) := by
    refine List.Pairwise.imp_of_mem ?_ (h.sublist (List.take_sublist _ _));intro x y hx hy hxy;obtain ⟨_, x2, _⟩ := (mem_dicW L ws ct x).1 (List.mem_of_mem_take hx);obtain ⟨_, y2, _⟩ := (mem_dicW L ws ct y).1 (List.mem_of_mem_take hy);obtain ⟨h1, h2⟩ := hxy;unfold leW at h1;unfold aheadW;rw [<- x2, <- y2]
    by_cases e : y.wt = x.wt
    · refine .inr ⟨e, ?_⟩;apply Classical.byContradiction;intro hn;apply h2;have hwd : x.wd = y.wd := eqS_of hn (fun h3 => h1 (.inr ⟨e, h3⟩))
      cases x; cases y
      simp only at e hwd;rw [e, hwd]
    left;have : ¬ x.wt < y.wt := fun h3 => h1 (.inl h3);omega
  exact List.Pairwise.map _ (fun a b h => h) h2
theorem lwF_heavy (L : List VS) (ws : List Int) (ct bins : Int) : ∀ x ∈ (lwF L ws ct bins).ww, ct <= wdSum (L.zip ws) x.data.toList := fun x hx => by rw [lwF_ww] at hx;obtain ⟨y, hy, rfl⟩ := List.mem_map.1 hx;obtain ⟨_, h2, h3⟩ := (mem_dicW L ws ct y).1 (List.mem_of_mem_take hy);omega
theorem lwF_few (L : List VS) (ws : List Int) (ct bins : Int) (hb : 0 <= bins) : ((lwF L ws ct bins).ww.length : Int) <= bins := by rw [lwF_ww]; simp; omega
theorem lwF_nodup (L : List VS) (ws : List Int) (ct bins : Int) : (lwF L ws ct bins).ww.Nodup := by
  refine (lwF_order L ws ct bins).imp (fun {a b} h => ?_);rintro rfl
  rcases h with h | ⟨_, h⟩
  omega;exact not_less_self _ h
theorem lwF_all (L : List VS) (ws : List Int) (ct bins : Int) (hw : L.length = ws.length) (hr : ((lwF L ws ct bins).ww.length : Int) < bins) : ∀ v ∈ L, v.miss = false -> ct <= wdSum (L.zip ws) v.word.data.toList -> v.word ∈ (lwF L ws ct bins).ww := fun v hv hm hc => by rw [lwF_ww] at hr ⊢;simp only [List.length_map, List.length_take] at hr;rw [List.take_of_length_le (by omega)];refine List.mem_map.2 ⟨⟨v.word, wdSum (L.zip ws) v.word.data.toList⟩, (mem_dicW L ws ct _).2 ⟨?_, rfl, hc⟩, rfl⟩;unfold wdIn;obtain ⟨k, hk, rfl⟩ := List.getElem_of_mem hv;refine List.any_eq_true.2 ⟨(L[k], ws[k]'(by omega)), ?_, ?_⟩;refine List.mem_of_getElem? (i := k) ?_;rw [List.getElem?_zip_eq_some];simp [hk, show k < ws.length by omega];simp [hitV, hm]
end Go.Proofs.YtfcgnpchbcmdeaaGreat

namespace Go.Proofs.YtfcgnpchbcmdeaaGreat
open Go.RowKit
structure RawR where
  wt : Int
  ms : List Bool
  ns : List Int
  ss : List ByteArray
def goneR (x : Int) : Bool := decide (pickK x 3 = 0 /\ pickK (x.tdiv 3) 4 = 0)
def xR (l : List Int) (at_ i : Nat) : Int := l.getD (at_ + 1 + i) 0
def txR (cs l : List Int) (at_ i : Nat) : ByteArray := if goneR (xR l at_ i) = true then ⟨#[]⟩ else fdT (cfW cs i) (cfC cs i) ((xR l at_ i).tdiv 3)
def wtR (l : List Int) (at_ : Nat) : Int := 1 + ((pickK (l.getD at_ 0) 9 : Nat) : Int)
def fieldsT (cs l : List Int) (at_ : Nat) (s : ByteArray) : Nat -> ByteArray
  | 0 => s
  | i + 1 => (fieldsT cs l at_ s i ++ ⟨#[44]⟩) ++ txR cs l at_ i
def rowR (cs l : List Int) (at_ k : Nat) : RawR := ⟨wtR l at_, (List.range k).map fun i => goneR (xR l at_ i), (List.range k).map fun i => fdV (cfW cs i) (cfC cs i) ((xR l at_ i).tdiv 3), (List.range k).map fun i => fdS (cfW cs i) ((xR l at_ i).tdiv 3)⟩
def textR (cs l : List Int) : Nat -> ByteArray
  | 0 => ⟨#[]⟩
  | r + 1 => fieldsT cs l (r * (cfM cs + 2)) (textR cs l r ++ digS (wtR l (r * (cfM cs + 2)))) (cfM cs + 1) ++ ⟨#[10]⟩
def rowsR (cs l : List Int) (r : Nat) : List RawR := (List.range r).map fun j => rowR cs l (j * (cfM cs + 2)) (cfM cs + 1)
theorem rowsR_succ (cs l : List Int) (r : Nat) : rowsR cs l (r + 1) = rowsR cs l r ++ [rowR cs l (r * (cfM cs + 2)) (cfM cs + 1)] := by simp [rowsR, List.range_succ]
theorem rowR_succ (cs l : List Int) (at_ k : Nat) : rowR cs l at_ (k + 1) = ⟨wtR l at_, (rowR cs l at_ k).ms ++ [goneR (xR l at_ k)], (rowR cs l at_ k).ns ++ [fdV (cfW cs k) (cfC cs k) ((xR l at_ k).tdiv 3)], (rowR cs l at_ k).ss ++ [fdS (cfW cs k) ((xR l at_ k).tdiv 3)]⟩ := by simp [rowR, List.range_succ]
def manyR (cs l : List Int) : Nat := min 150 (l.length / (cfM cs + 2))
theorem wordT_size (p : Nat) : (wordT p).size <= 6 := by
  unfold wordT
  by_cases h : p < 6
  · rcases (show p = 0 ∨ p = 1 ∨ p = 2 ∨ p = 3 ∨ p = 4 ∨ p = 5 by omega) with rfl | rfl | rfl | rfl | rfl | rfl <;> decide
  rw [List.getD_eq_getElem?_getD, List.getElem?_eq_none (by simp; omega)]; decide
theorem kN_in (n : Int) : -30 <= kN n /\ kN n <= 30 := by have := pickK_lt n (show 0 < 61 by omega);unfold kN; omega
theorem fdT_size (wd : Bool) (sc n : Int) : (fdT wd sc n).size <= 6 := by have hk := kN_in n;have hd := digS_size (z := kN n) (by omega) (by omega);unfold fdT;split;exact wordT_size _;split;rw [ByteArray.size_append];have e : (⟨#[46, 53]⟩ : ByteArray).size = 2 := rfl;omega;omega
theorem txR_size (cs l : List Int) (at_ i : Nat) : (txR cs l at_ i).size <= 6 := by unfold txR;split;decide;exact fdT_size _ _ _
theorem fieldsT_size (cs l : List Int) (at_ : Nat) (s : ByteArray) : ∀ k, (fieldsT cs l at_ s k).size <= s.size + 7 * k
  | 0 => by simp [fieldsT]
  | k + 1 => by have h1 := fieldsT_size cs l at_ s k;have h2 := txR_size cs l at_ k;have e : (⟨#[44]⟩ : ByteArray).size = 1 := rfl;simp only [fieldsT, ByteArray.size_append];omega
theorem wtR_in (l : List Int) (at_ : Nat) : 1 <= wtR l at_ /\ wtR l at_ <= 9 := by have := pickK_lt (l.getD at_ 0) (show 0 < 9 by omega);unfold wtR; omega
theorem textR_size (cs l : List Int) : ∀ r, (textR cs l r).size <= 40 * r
  | 0 => by simp [textR]; decide
  | r + 1 => by have h1 := textR_size cs l r;have hm := (cf_in cs).2.2.2.2.2;have hw := wtR_in l (r * (cfM cs + 2));have h2 := digS_size (z := wtR l (r * (cfM cs + 2))) (by omega) (by omega);have h3 := fieldsT_size cs l (r * (cfM cs + 2)) (textR cs l r ++ digS (wtR l (r * (cfM cs + 2)))) (cfM cs + 1);have e : (⟨#[10]⟩ : ByteArray).size = 1 := rfl;simp only [textR, ByteArray.size_append] at *;omega
structure RawV where
  r : RawR
  vm : Value
  vn : Value
  vs : Value
def cellsR (p : RawV) : List Value := [.int .i64 p.r.wt, p.vm, p.vn, p.vs]
def flatRw : List RawV -> List Value
  | [] => []
  | p :: L => cellsR p ++ flatRw L
theorem flatRw_append (A B : List RawV) : flatRw (A ++ B) = flatRw A ++ flatRw B := by
  induction A with
  | nil => rfl
  | cons x A ih => simp [flatRw, ih]
structure RowsX (w : World) (base : Nat) (v : Value) (L : List RawV) : Prop where
  row : w.ownsRow base 103 4 v L.length (flatRw L)
  each : ∀ p ∈ L, OwnO w base p.vm p.r.ms /\ OwnI w base p.vn p.r.ns /\ OwnS w base p.vs p.r.ss
theorem RowsX.nil (w : World) (base : Nat) : RowsX w base (.slice none 0 0) [] := ⟨World.ownsRow_nil _ _ _ _, by simp⟩
theorem RowsX.below {w w' : World} {base : Nat} {v : Value} {L : List RawV} (h : RowsX w base v L) (hb : Below w.heap.size w w') : RowsX w' base v L := by have t := Touch.of_below (S := fun _ => False) hb;exact ⟨t.row h.row (fun _ _ => id), fun p hp => ⟨t.row (h.each p hp).1 (fun _ _ => id), t.row (h.each p hp).2.1 (fun _ _ => id), t.row (h.each p hp).2.2 (fun _ _ => id)⟩⟩
theorem RowsX.shape {w : World} {base : Nat} {v : Value} {L : List RawV} (h : RowsX w base v L) : ∃ a c, v = .slice a L.length c := by
  rcases h.row.2 with ⟨rfl, h0⟩ | ⟨g, cap, cur, rfl, _⟩
  exact ⟨none, 0, by rw [h0]⟩;exact ⟨_, cap, rfl⟩
theorem RowsX.more {w w' : World} {base : Nat} {v v' : Value} {L : List RawV} {p : RawV} (h : RowsX w base v L) (hp : OwnO w base p.vm p.r.ms /\ OwnI w base p.vn p.r.ns /\ OwnS w base p.vs p.r.ss) (g : w.grownBy w' v.ownBlock) (r : w'.ownsRow base 103 4 v' (L.length + 1) (flatRw L ++ cellsR p)) : RowsX w' base v' (L ++ [p]) := by
  have t : Touch (fun q => v.ownBlock = some q) w w' := (Touch.refl _ w).grown g (fun k hk _ => hk)
  have nt : ∀ {b2 e size m : Nat} {u : Value} {xs : List Value}, w.ownsRow b2 e size u m xs -> e ≠ 103 -> ∀ q, u.ownBlock = some q -> ¬ v.ownBlock = some q := fun hr hne q hq e => by obtain ⟨cur, hc⟩ := row_type hr hq;exact row_ne h.row e hc (Ne.symm hne) rfl
  refine ⟨?_, fun q hq => ?_⟩
  · rw [flatRw_append, List.length_append]
    simpa [flatRw] using r
  have hq2 : OwnO w base q.vm q.r.ms /\ OwnI w base q.vn q.r.ns /\ OwnS w base q.vs q.r.ss := by
    rcases List.mem_append.1 hq with e | e
    exact h.each q e;simp only [List.mem_singleton] at e;rw [e]; exact hp
  exact ⟨t.row hq2.1 (nt hq2.1 (by decide)), t.row hq2.2.1 (nt hq2.2.1 (by decide)), t.row hq2.2.2 (nt hq2.2.2 (by decide))⟩
def RowsM (w : World) (base : Nat) (v : Value) (Rs : List RawR) : Prop := ∃ L, L.map RawV.r = Rs /\ RowsX w base v L
structure RowU (w : World) (b : Nat) (vm vn vs : Value) (R : RawR) : Prop where
  blk : w.heap[b]? = some (.cells #[.int .i64 R.wt, vm, vn, vs] 103 (0, 0))
  om : OwnO w b vm R.ms
  on : OwnI w b vn R.ns
  os : OwnS w b vs R.ss
theorem info103 : (Tryz.prog.info? 103).map (fun i => (i.zero, i.size, i.bytes)) = some (some (.agg #[.int .i64 0, .slice none 0 0, .slice none 0 0, .slice none 0 0]), 4, 80) := by kernel_rfl
section
variable {w w4 : World} {b : Nat} {vm vn vs v4 : Value} {R : RawR}
theorem RowU.putM {x : Bool} (h : RowU w b vm vn vs R) (g : w.grownBy w4 vm.ownBlock) (r : OwnO w4 b v4 (R.ms ++ [x])) : RowU (w4.setCell ⟨b, 1, none⟩ v4) b v4 vn vs ⟨R.wt, R.ms ++ [x], R.ns, R.ss⟩ /\ w4.heap[b]? = some (.cells #[.int .i64 R.wt, vm, vn, vs] 103 (0, 0)) := by
  have t : Touch (fun q => vm.ownBlock = some q) w w4 := (Touch.refl _ w).grown g (fun k hk _ => hk)
  have nt : ∀ {b2 e size m : Nat} {u : Value} {xs : List Value}, w.ownsRow b2 e size u m xs -> e ≠ 4 -> ∀ q, u.ownBlock = some q -> ¬ vm.ownBlock = some q := fun hr hne q hq e => by obtain ⟨cur, hc⟩ := row_type hr hq;exact row_ne h.om e hc (Ne.symm hne) rfl
  have hb4 := t.at_ h.blk (fun e => row_ne h.om e h.blk (by decide) rfl);exact ⟨⟨heap_setCell_same _ b 1 _ 103 _ hb4, own_put' r hb4 (by decide), own_put' (t.row h.on (nt h.on (by decide))) hb4 (by decide), own_put' (t.row h.os (nt h.os (by decide))) hb4 (by decide)⟩, hb4⟩
theorem RowU.putN {x : Int} (h : RowU w b vm vn vs R) (g : w.grownBy w4 vn.ownBlock) (r : OwnI w4 b v4 (R.ns ++ [x])) : RowU (w4.setCell ⟨b, 2, none⟩ v4) b vm v4 vs ⟨R.wt, R.ms, R.ns ++ [x], R.ss⟩ /\ w4.heap[b]? = some (.cells #[.int .i64 R.wt, vm, vn, vs] 103 (0, 0)) := by
  have t : Touch (fun q => vn.ownBlock = some q) w w4 := (Touch.refl _ w).grown g (fun k hk _ => hk)
  have nt : ∀ {b2 e size m : Nat} {u : Value} {xs : List Value}, w.ownsRow b2 e size u m xs -> e ≠ 3 -> ∀ q, u.ownBlock = some q -> ¬ vn.ownBlock = some q := fun hr hne q hq e => by obtain ⟨cur, hc⟩ := row_type hr hq;exact row_ne h.on e hc (Ne.symm hne) rfl
  have hb4 := t.at_ h.blk (fun e => row_ne h.on e h.blk (by decide) rfl);exact ⟨⟨heap_setCell_same _ b 2 _ 103 _ hb4, own_put' (t.row h.om (nt h.om (by decide))) hb4 (by decide), own_put' r hb4 (by decide), own_put' (t.row h.os (nt h.os (by decide))) hb4 (by decide)⟩, hb4⟩
theorem RowU.putS {x : ByteArray} (h : RowU w b vm vn vs R) (g : w.grownBy w4 vs.ownBlock) (r : OwnS w4 b v4 (R.ss ++ [x])) : RowU (w4.setCell ⟨b, 3, none⟩ v4) b vm vn v4 ⟨R.wt, R.ms, R.ns, R.ss ++ [x]⟩ /\ w4.heap[b]? = some (.cells #[.int .i64 R.wt, vm, vn, vs] 103 (0, 0)) := by
  have t : Touch (fun q => vs.ownBlock = some q) w w4 := (Touch.refl _ w).grown g (fun k hk _ => hk)
  have nt : ∀ {b2 e size m : Nat} {u : Value} {xs : List Value}, w.ownsRow b2 e size u m xs -> e ≠ 9 -> ∀ q, u.ownBlock = some q -> ¬ vs.ownBlock = some q := fun hr hne q hq e => by obtain ⟨cur, hc⟩ := row_type hr hq;exact row_ne h.os e hc (Ne.symm hne) rfl
  have hb4 := t.at_ h.blk (fun e => row_ne h.os e h.blk (by decide) rfl);exact ⟨⟨heap_setCell_same _ b 3 _ 103 _ hb4, own_put' (t.row h.om (nt h.om (by decide))) hb4 (by decide), own_put' (t.row h.on (nt h.on (by decide))) hb4 (by decide), own_put' r hb4 (by decide)⟩, hb4⟩
theorem RowU.below {w' : World} (h : RowU w b vm vn vs R) (hb : Below w.heap.size w w') : RowU w' b vm vn vs R := by have t := Touch.of_below (S := fun _ => False) hb;exact ⟨t.at_ h.blk id, t.row h.om (fun _ _ => id), t.row h.on (fun _ _ => id), t.row h.os (fun _ _ => id)⟩
end
end Go.Proofs.YtfcgnpchbcmdeaaGreat

namespace Go.Proofs.YtfcgnpchbcmdeaaGreat
open Go.RowKit
def r0R : RawR := ⟨0, [], [], []⟩
theorem flatRw_key (L : List RawV) : ∀ (i r : Nat), i < L.length -> r < 4 -> (flatRw L)[i * 4 + r]? = (cellsR (L.getD i ⟨r0R, .bool false, .bool false, .bool false⟩))[r]? := by
  induction L with
  | nil => intro i r hi; simp at hi
  | cons p L ih =>
    intro i r hi hr;have hl : (cellsR p).length = 4 := rfl
    cases i with
    | zero =>
      show (cellsR p ++ flatRw L)[0 * 4 + r]? = _;rw [List.getElem?_append_left (by rw [hl]; omega)];simp
    | succ i =>
      show (cellsR p ++ flatRw L)[(i + 1) * 4 + r]? = _;rw [List.getElem?_append_right (by rw [hl]; omega), hl, show (i + 1) * 4 + r - 4 = i * 4 + r by omega, ih i r (by simpa using hi) hr];simp
structure RowAt (w : World) (g i f : Nat) (R : RawR) (mg ml mc ng nl nc sg sl sc : Nat) : Prop where
  gl : g < w.heap.size
  wt : w.cell? ⟨g, i * 4, none⟩ = some (.int .i64 R.wt)
  m : w.cell? ⟨g, i * 4 + 1, none⟩ = some (.slice (some ⟨mg, 0, none⟩) ml mc)
  n : w.cell? ⟨g, i * 4 + 2, none⟩ = some (.slice (some ⟨ng, 0, none⟩) nl nc)
  s : w.cell? ⟨g, i * 4 + 3, none⟩ = some (.slice (some ⟨sg, 0, none⟩) sl sc)
  lm : f < ml
  ln : f < nl
  ls : f < sl
  mm : w.cell? ⟨mg, f, none⟩ = some (.bool (R.ms.getD f false))
  nn : w.cell? ⟨ng, f, none⟩ = some (.int .i64 (R.ns.getD f 0))
  ss : w.cell? ⟨sg, f, none⟩ = some (.string (R.ss.getD f ⟨#[]⟩))
def HasF (Rs : List RawR) (f : Nat) : Prop := ∀ R ∈ Rs, f < R.ms.length /\ f < R.ns.length /\ f < R.ss.length
theorem RowsM.at_ {w : World} {base n cap f i : Nat} {a : Option Addr} {Rs : List RawR} (h : RowsM w base (.slice a n cap) Rs) (hn : n = Rs.length) (hf : HasF Rs f) (hi : i < n) : ∃ g mg ml mc ng nl nc sg sl sc, a = some ⟨g, 0, none⟩ /\ RowAt w g i f (Rs.getD i r0R) mg ml mc ng nl nc sg sl sc := by
  obtain ⟨L, rfl, hx⟩ := h
  have hl : n = L.length := by simpa using hn
  have hiL : i < L.length := (by omega);have hr := hx.row
  rcases hx.row.2 with ⟨_, h0⟩ | ⟨g, cp, cur, e, _, hh, _⟩
  omega;simp only [Value.slice.injEq] at e;obtain ⟨rfl, e2, rfl⟩ := e;obtain ⟨p, hp⟩ : ∃ p, p = L.getD i ⟨r0R, .bool false, .bool false, .bool false⟩ := ⟨_, rfl⟩;have hpm : p ∈ L := by rw [hp, List.getD_eq_getElem?_getD, List.getElem?_eq_getElem hiL]; exact List.getElem_mem _
  have hR : (L.map RawV.r).getD i r0R = p.r := by rw [hp, List.getD_eq_getElem?_getD, List.getD_eq_getElem?_getD, List.getElem?_map, List.getElem?_eq_getElem hiL]; rfl
  have hc : ∀ r, r < 4 -> w.cell? ⟨g, i * 4 + r, none⟩ = (cellsR p)[r]? := fun r hr4 => by rw [World.ownsRow.cellAt (by rw [hl] at hr; exact hr) (i * 4 + r) (by omega), flatRw_key L i r hiL hr4, hp]
  obtain ⟨f1, f2, f3⟩ := hf p.r (List.mem_map.2 ⟨p, hpm, rfl⟩);obtain ⟨o1, o2, o3⟩ := hx.each p hpm;obtain ⟨a1, c1, e1⟩ := o1.shape;obtain ⟨a2, c2, e2⟩ := o2.shape;obtain ⟨a3, c3, e3⟩ := o3.shapeW;rw [e1] at o1;rw [e2] at o2;rw [e3] at o3;obtain ⟨q1, rfl, _, _, k1⟩ := o1.atK rfl f1;obtain ⟨q2, rfl, _, _, k2⟩ := o2.atK rfl f2;obtain ⟨q3, rfl, _, k3⟩ := o3.atW rfl f3 ⟨#[]⟩;refine ⟨g, q1, p.r.ms.length, c1, q2, p.r.ns.length, c2, q3, p.r.ss.length, c3, rfl, ?_⟩;rw [hR];exact ⟨(Array.getElem?_eq_some_iff.1 hh).1, hc 0 (by omega), (hc 1 (by omega)).trans (by rw [<- e1]; rfl), (hc 2 (by omega)).trans (by rw [<- e2]; rfl), (hc 3 (by omega)).trans (by rw [<- e3]; rfl), f1, f2, f3, k1.1, k2.1, k3⟩
theorem RowsM.below {w w' : World} {base : Nat} {v : Value} {Rs : List RawR} (h : RowsM w base v Rs) (hb : Below w.heap.size w w') : RowsM w' base v Rs := by obtain ⟨L, e, hx⟩ := h;exact ⟨L, e, hx.below hb⟩
theorem RowsM.shape {w : World} {base : Nat} {v : Value} {Rs : List RawR} (h : RowsM w base v Rs) : ∃ a c, v = .slice a Rs.length c := by obtain ⟨L, rfl, hx⟩ := h;obtain ⟨a, c, e⟩ := hx.shape;exact ⟨a, c, by rw [e, List.length_map]⟩
def wtW (Rs : List RawR) (f : Nat) (s : ByteArray) : Int := (Rs.map fun R => if R.ms.getD f false = false /\ R.ss.getD f ⟨#[]⟩ = s then R.wt else 0).sum
theorem wtW_take (Rs : List RawR) (f : Nat) (s : ByteArray) {k : Nat} (h : k < Rs.length) : wtW (Rs.take (k + 1)) f s = wtW (Rs.take k) f s + (if (Rs.getD k r0R).ms.getD f false = false /\ (Rs.getD k r0R).ss.getD f ⟨#[]⟩ = s then (Rs.getD k r0R).wt else 0) := by have e : Rs.take (k + 1) = Rs.take k ++ [Rs.getD k r0R] := (by rw [List.take_succ_eq_append_getElem h]; simp [List.getD, h]);rw [e];simp [wtW]
theorem wtW_in (Rs : List RawR) (f : Nat) (s : ByteArray) (h : ∀ R ∈ Rs, 0 <= R.wt /\ R.wt <= 99) : 0 <= wtW Rs f s /\ wtW Rs f s <= 99 * Rs.length := by
  induction Rs with
  | nil => simp [wtW]
  | cons R Rs ih =>
    have h1 := h R (by simp);have h2 := ih (fun x hx => h x (by simp [hx]));simp only [wtW, List.map_cons, List.sum_cons, List.length_cons] at h2 ⊢;split <;> omega
end Go.Proofs.YtfcgnpchbcmdeaaGreat

namespace Go.Proofs.YtfcgnpchbcmdeaaGreat
open Go.RowKit
theorem wrapF {z : Int} (h1 : -9000000000000000000 <= z) (h2 : z <= 9000000000000000000) : IntKind.i64.wrap z = z := by simp [IntKind.wrap, IntKind.bits, IntKind.signed]; omega
theorem strNe {x s : ByteArray} (h : ¬ x = s) : (x.toList == s.toList) = false := by
  rw [beq_eq_false_iff_ne, Lib.toList_data, Lib.toList_data];intro e;apply h
  cases x; cases s
  simp at e;rw [e]
set_option maxRecDepth 100000 in
set_option maxHeartbeats 4000000 in
theorem weight_any (a : Option Addr) (n cap f base : Nat) (Rs : List RawR) (s : ByteArray) (w : World) (h : RowsM w base (.slice a n cap) Rs) (hn : n = Rs.length) (hn2 : n <= 200) (hf : HasF Rs f) (hw : ∀ R ∈ Rs, 0 <= R.wt /\ R.wt <= 99) (hfl : f <= 1000) : Calls Tryz.prog 54 #[.slice a n cap, .int .i64 (f : Nat), .string s] w fun e w' => e = .returned (.int .i64 (wtW Rs f s)) /\ w' = w := by
  have HR : Hid (RowsM w base (.slice a n cap) Rs) := h;have HN : Hid (n = Rs.length) := hn;have HF : Hid (HasF Rs f) := hf;have HW : Hid (∀ R ∈ Rs, 0 <= R.wt /\ R.wt <= 99) := hw;clear h hn hf hw;go_enter Tryz.func54, Tryz.ntmps54;go_wp2_with fail
  go_loopw [7, 8] (fun tn ti wr => ∃ k : Nat, k <= n /\ ti = .int .i64 k /\ tn = .int .i64 (wtW (Rs.take k) f s) /\ wr = w) (fun _ ti _ => n - (intOf ti).toNat)
  case atStart => exact ⟨0, Nat.zero_le _, rfl, rfl, rfl⟩
  case round =>
    obtain ⟨k, hk, rfl, rfl, hwr⟩ := hrel;subst hwr
    by_cases hkn : k < n
    · have bi1 : (0 : Int) <= (k : Int) := (by omega);have bi2 : (k : Int) < (n : Int) := (by omega);have bf1 : (0 : Int) <= (f : Int) := (by omega);obtain ⟨g, mg, ml, mc, ng, nl, nc, sg, sl, sc, rfl, hA⟩ := HR.out.at_ HN.out HF.out hkn;have HT : Hid (wtW (Rs.take (k + 1)) f s = wtW (Rs.take k) f s + (if (Rs.getD k r0R).ms.getD f false = false /\ (Rs.getD k r0R).ss.getD f ⟨#[]⟩ = s then (Rs.getD k r0R).wt else 0)) := wtW_take Rs f s (by rw [<- HN.out]; exact hkn);have hin := wtW_in (Rs.take k) f s (fun R hR => HW.out R (List.mem_of_mem_take hR));rw [List.length_take, <- HN.out] at hin;have hRw := HW.out (Rs.getD k r0R) (by rw [List.getD_eq_getElem?_getD, List.getElem?_eq_getElem (by rw [<- HN.out]; exact hkn)]; exact List.getElem_mem _);obtain ⟨_, c0, c1, _, c3, l1, _, l3, m1, _, m3⟩ := hA;have bm : (f : Int) < (ml : Int) := (by omega);have bs : (f : Int) < (sl : Int) := by omega
      generalize wtW (Rs.take k) f s = A at *;generalize Rs.getD k r0R = R at *;have q1 : IntKind.i64.wrap (A + R.wt) = A + R.wt := wrapF (by omega) (by omega)
      cases hm : R.ms.getD f false with
      | true =>
        rw [hm] at m1;have HQ : Hid (wtW (Rs.take (k + 1)) f s = A) := (by have := HT.out; rw [hm] at this; simp at this; exact this);clear HT hm;go_wp2;go_roundw;case rel => exact ⟨k + 1, by omega, by go_num, by rw [HQ.out], trivial⟩
        case measure => simp [intOf]; omega
      | false =>
        rw [hm] at m1
        by_cases he : R.ss.getD f ⟨#[]⟩ = s
        · rw [he] at m3;have HQ : Hid (wtW (Rs.take (k + 1)) f s = A + R.wt) := (by have := HT.out; rw [hm, he] at this; simp at this; exact this);clear HT hm he;go_wp2;go_roundw;case rel => exact ⟨k + 1, by omega, by go_num, by rw [HQ.out], trivial⟩
          case measure => simp [intOf]; omega
        have HQ : Hid (wtW (Rs.take (k + 1)) f s = A) := (by have := HT.out; rw [hm, if_neg (fun h => he h.2)] at this; simp at this; exact this);clear HT hm;generalize R.ss.getD f ⟨#[]⟩ = x at *;have he2 := strNe he;go_wp2;go_roundw;case rel => exact ⟨k + 1, by omega, by go_num, by rw [HQ.out], trivial⟩
        case measure => simp [intOf]; omega
    have hnk : ¬ (k : Int) < (n : Int) := (by omega);have HQ : Hid (wtW (Rs.take k) f s = wtW Rs f s) := (by show _ = _; rw [List.take_of_length_le (by rw [<- HN.out]; omega)]);go_wp2;go_ret;exact ⟨by rw [HQ.out]; rfl, rfl⟩
end Go.Proofs.YtfcgnpchbcmdeaaGreat
