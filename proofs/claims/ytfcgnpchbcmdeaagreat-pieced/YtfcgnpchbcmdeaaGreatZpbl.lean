import Derived.Test.YtfcgnpchbcmdeaaGreatZpbi
import Derived.Test.YtfcgnpchbcmdeaaGreatZpbk
import Derived.Test.YtfcgnpchbcmdeaaGreatZpbj
import Derived.Test.YtfcgnpchbcmdeaaGreatZpbh
import Derived.Test.YtfcgnpchbcmdeaaGreatZpbm
namespace Go.Proofs.YtfcgnpchbcmdeaaGreat
open Go.RowKit
def bdI (e : ES) : List Int := if e.wd = true then [] else e.bs
def bdS (e : ES) : List ByteArray := if e.wd = true then e.ww else []
structure BdsX (w w' : World) (vb vw : Value) (e : ES) : Prop where
  nb : OwnI w' w.heap.size vb (bdI e)
  nw : OwnS w' w.heap.size vw (bdS e)
  low : Below w.heap.size w w'
def BdsE (w : World) (e : ES) (x : Ending) (w' : World) : Prop := ∃ vb vw, x = .returned (.tuple #[vb, vw]) /\ BdsX w w' vb vw e
set_option maxRecDepth 100000 in
set_option maxHeartbeats 8000000 in
theorem dsBounds_any (db f : Nat) (vK vB vX : Value) (kvs bvs : List (Value × Value)) (X : List XS) (D : DSS) (w : World) (h : MadeX w db vK vB vX kvs bvs X D) (hf : f < D.ks.length) (hb1 : (D.ks.getD f k0S).e.bs.length <= 1000) (hw1 : (D.ks.getD f k0S).e.ww.length <= 1000) : Calls Tryz.prog 53 #[.pointer (some ⟨db, 0, none⟩), .int .i64 (f : Nat)] w fun e w' => BdsE w (D.ks.getD f k0S).e e w' := by
  obtain ⟨qk, cK, ab, cb, aw, cw, hvK, hqkl, k0, k1, k2, k3, hI, hS⟩ := h.kn.at hf;subst hvK;have d0 : w.cell? ⟨db, 0, none⟩ = some (.slice (some ⟨qk, 0, none⟩) D.ks.length cK) := cell_of_row _ _ 0 _ 168 (0, 0) h.ds.blk;have hdl : db < w.heap.size := (Array.getElem?_eq_some_iff.1 h.ds.blk).1;have HI : Hid (OwnI w 0 (.slice ab (D.ks.getD f k0S).e.bs.length cb) (D.ks.getD f k0S).e.bs) := hI;have HS : Hid (OwnS w 0 (.slice aw (D.ks.getD f k0S).e.ww.length cw) (D.ks.getD f k0S).e.ww) := hS;have bf1 : (0 : Int) <= (f : Int) := (by omega);have bf2 : (f : Int) < (D.ks.length : Int) := (by omega);clear h hI hS;generalize D.ks.length = nk at *;generalize (D.ks.getD f k0S).d = dd at *;generalize (D.ks.getD f k0S).e = es at *;generalize hnb : es.bs.length = nb at *;generalize hnw : es.ww.length = nw at *;have HN : Hid (es.bs.length = nb /\ es.ww.length = nw) := ⟨hnb, hnw⟩;clear hnb hnw
  cases hwd : es.wd
  · rw [hwd] at k0;have HB : Hid (bdI es = es.bs /\ bdS es = []) := (by show _ /\ _; unfold bdI bdS; rw [hwd]; exact ⟨rfl, rfl⟩);clear hwd;go_enter Tryz.func53, Tryz.ntmps53;go_upto_region 4 with fail;generalize hW1 : w.alloc (.cells #[.bool false, .slice ab nb cb, .slice aw nw cw, .int .i64 (dd : Nat)] 172) = w1;have hB1 : Below w.heap.size w w1 := (by rw [<- hW1]; exact (Below.refl _ _).alloc (Nat.le_refl _) _);have hX1 : w1.heap[w.heap.size]? = some (.cells #[.bool false, .slice ab nb cb, .slice aw nw cw, .int .i64 (dd : Nat)] 172 (0, 0)) := (by rw [<- hW1]; exact heap_alloc_new _ _);have hwl : w.heap.size < w1.heap.size := (Array.getElem?_eq_some_iff.1 hX1).1;have x1 : w1.cell? ⟨w.heap.size, 1, none⟩ = some (.slice ab nb cb) := cell_of_row _ _ 1 _ 172 (0, 0) hX1;have HB1 : Hid (Below w.heap.size w w1) := hB1;clear hW1 hX1 k0 k1 k2 k3 d0
    have hrow : w1.ownsRow 0 3 1 (.slice ab nb cb) nb (es.bs.map (Value.int .i64)) := (by have h1 := (Touch.of_below (S := fun _ => False) hB1).row HI.out (fun _ _ => id);rw [HN.out.1] at h1;exact h1);have HROW : Hid (w1.ownsRow 0 3 1 (.slice ab nb cb) nb (es.bs.map (Value.int .i64))) := hrow;clear hB1 hrow
    by_cases h0 : nb = 0
    · subst h0
      rcases ab with _ | ad
      · go_wp2;go_ret2
        have eL : es.bs = [] := List.length_eq_zero_iff.1 HN.out.1;have hnew : (w1.alloc (.cells #[] 3)).heap[w1.heap.size]? = some (.cells #[] 3 (0, 0)) := heap_alloc_new _ _;have hrw : (w1.alloc (.cells #[] 3)).ownsRow w.heap.size 3 1 (.slice (some ⟨w1.heap.size, 0, none⟩) 0 0) 0 [] := ⟨rfl, .inr ⟨w1.heap.size, 0, #[], rfl, by omega, hnew, Nat.le_refl _, by decide, rfl, rfl⟩⟩;refine ⟨_, _, rfl, ?_, ?_, HB1.out.alloc (by omega) _⟩;rw [HB.out.1, eL]; exact hrw;rw [HB.out.2]; exact OwnS.nil _ _
      go_wp2;go_ret2
      have eL : es.bs = [] := List.length_eq_zero_iff.1 HN.out.1;have hnew : (w1.alloc (.cells #[] 3)).heap[w1.heap.size]? = some (.cells #[] 3 (0, 0)) := heap_alloc_new _ _;have hrw : (w1.alloc (.cells #[] 3)).ownsRow w.heap.size 3 1 (.slice (some ⟨w1.heap.size, 0, none⟩) 0 0) 0 [] := ⟨rfl, .inr ⟨w1.heap.size, 0, #[], rfl, by omega, hnew, Nat.le_refl _, by decide, rfl, rfl⟩⟩;refine ⟨_, _, rfl, ?_, ?_, HB1.out.alloc (by omega) _⟩;rw [HB.out.1, eL]; exact hrw;rw [HB.out.2]; exact OwnS.nil _ _
    have hq : ∃ q, ab = some ⟨q, 0, none⟩ := by
      rcases HROW.out.2 with ⟨e, h1⟩ | ⟨g, cap, cur, e, _⟩
      exact absurd h1 h0;injection e with e1; exact ⟨g, e1⟩
    obtain ⟨q, rfl⟩ := hq;obtain ⟨i0, hinf, hz0, hz1, hz2⟩ := info_parts info3'
    have hql : q < w1.heap.size := by
      rcases HROW.out.2 with ⟨e, _⟩ | ⟨g, cap, cur, e, _, hh, _⟩
      · cases e
      injection e with e1; injection e1 with e1; injection e1 with e1 _; rw [e1]; exact (Array.getElem?_eq_some_iff.1 hh).1
    have HNEW : Hid ((w1.alloc (.cells #[] 3)).ownsRow w.heap.size 3 1 (.slice (some ⟨w1.heap.size, 0, none⟩) 0 0) 0 []) := ⟨rfl, .inr ⟨w1.heap.size, 0, #[], rfl, by omega, heap_alloc_new _ _, Nat.le_refl _, by decide, rfl, rfl⟩⟩;have HLEN : Hid ((es.bs.map (Value.int .i64)).length = nb * 1) := by show _ = _; rw [List.length_map, HN.out.1, Nat.mul_one]
    have HCEL : Hid (∀ j u, (es.bs.map (Value.int .i64))[j]? = some u -> (w1.alloc (.cells #[] 3)).cell? ((⟨q, 0, none⟩ : Addr).add j) = some u) := fun j u hu => by have hj : j < nb * 1 := (by rw [<- HLEN.out]; exact (List.getElem?_eq_some_iff.1 hu).1);have hadd : (⟨q, 0, none⟩ : Addr).add j = ⟨q, j, none⟩ := (by unfold Addr.add; split <;> simp_all);rw [hadd];rw [((Below.refl w1.heap.size w1).alloc (Nat.le_refl _) (.cells #[] 3)).cell (p := ⟨q, j, none⟩) hql];rw [World.ownsRow.cellAt HROW.out j hj];exact hu
    have H1C : Hid (∀ u ∈ es.bs.map (Value.int .i64), u.oneCell' = true) := fun u hu => by obtain ⟨y, _, rfl⟩ := List.mem_map.1 hu;rfl
    go_wp2_with (at_builtin; refine wpList_append_mark rfl (.tmp 22) (.tmp 25) 25 rfl w.heap.size 3 i0 (.int .i64 0) 1 8 Tryz.underlying25 hinf hz0 hz1 hz2 rfl (by decide) _ 0 [] rfl HNEW.out ⟨q, 0, none⟩ nb cb (es.bs.map (Value.int .i64)) rfl HLEN.out HCEL.out H1C.out (by omega) (by unfold maxLen; omega) (by omega) (by simp; omega) ?_)
    intro v4 w4 H4;obtain ⟨r4, g4, d4, _, q4, p4, hv4⟩ := H4.out;have HFIN : Hid (w4.ownsRow w.heap.size 3 1 v4 nb (es.bs.map (Value.int .i64)) /\ Below w.heap.size w w4) := (by refine ⟨r4, ?_⟩;exact (HB1.out.alloc (by omega) _).grown g4 (by simp; omega) (by intro b hb; simp [Value.ownBlock] at hb; omega));subst hv4;clear H4 r4 g4 d4 HROW HNEW HCEL;go_wp2;go_ret2
    have hr := HFIN.out.1;refine ⟨_, _, rfl, ?_, ?_, HFIN.out.2⟩;rw [HB.out.1]; unfold OwnI; rw [HN.out.1]; exact (by simpa using hr);rw [HB.out.2]; exact OwnS.nil _ _
  rw [hwd] at k0;have HB : Hid (bdI es = [] /\ bdS es = es.ww) := (by show _ /\ _; unfold bdI bdS; rw [hwd]; exact ⟨rfl, rfl⟩);clear hwd;go_enter Tryz.func53, Tryz.ntmps53;go_upto_region 3 with fail;generalize hW1 : w.alloc (.cells #[.bool true, .slice ab nb cb, .slice aw nw cw, .int .i64 (dd : Nat)] 172) = w1;have hB1 : Below w.heap.size w w1 := (by rw [<- hW1]; exact (Below.refl _ _).alloc (Nat.le_refl _) _);have hX1 : w1.heap[w.heap.size]? = some (.cells #[.bool true, .slice ab nb cb, .slice aw nw cw, .int .i64 (dd : Nat)] 172 (0, 0)) := (by rw [<- hW1]; exact heap_alloc_new _ _);have hwl : w.heap.size < w1.heap.size := (Array.getElem?_eq_some_iff.1 hX1).1;have x1 : w1.cell? ⟨w.heap.size, 2, none⟩ = some (.slice aw nw cw) := cell_of_row _ _ 2 _ 172 (0, 0) hX1;have HB1 : Hid (Below w.heap.size w w1) := hB1;clear hW1 hX1 k0 k1 k2 k3 d0
  have hrow : w1.ownsRow 0 9 1 (.slice aw nw cw) nw (es.ww.map Value.string) := (by have h1 := (Touch.of_below (S := fun _ => False) hB1).row HS.out (fun _ _ => id);rw [HN.out.2] at h1;exact h1);have HROW : Hid (w1.ownsRow 0 9 1 (.slice aw nw cw) nw (es.ww.map Value.string)) := hrow;clear hB1 hrow
  by_cases h0 : nw = 0
  · subst h0
    rcases aw with _ | ad
    · go_wp2;go_ret2
      have eL : es.ww = [] := List.length_eq_zero_iff.1 HN.out.2;have hnew : (w1.alloc (.cells #[] 9)).heap[w1.heap.size]? = some (.cells #[] 9 (0, 0)) := heap_alloc_new _ _;have hrw : (w1.alloc (.cells #[] 9)).ownsRow w.heap.size 9 1 (.slice (some ⟨w1.heap.size, 0, none⟩) 0 0) 0 [] := ⟨rfl, .inr ⟨w1.heap.size, 0, #[], rfl, by omega, hnew, Nat.le_refl _, by decide, rfl, rfl⟩⟩;refine ⟨_, _, rfl, ?_, ?_, HB1.out.alloc (by omega) _⟩;rw [HB.out.1]; exact World.ownsRow_nil _ _ 3 1;rw [HB.out.2, eL]; exact hrw
    go_wp2;go_ret2
    have eL : es.ww = [] := List.length_eq_zero_iff.1 HN.out.2;have hnew : (w1.alloc (.cells #[] 9)).heap[w1.heap.size]? = some (.cells #[] 9 (0, 0)) := heap_alloc_new _ _;have hrw : (w1.alloc (.cells #[] 9)).ownsRow w.heap.size 9 1 (.slice (some ⟨w1.heap.size, 0, none⟩) 0 0) 0 [] := ⟨rfl, .inr ⟨w1.heap.size, 0, #[], rfl, by omega, hnew, Nat.le_refl _, by decide, rfl, rfl⟩⟩;refine ⟨_, _, rfl, ?_, ?_, HB1.out.alloc (by omega) _⟩;rw [HB.out.1]; exact World.ownsRow_nil _ _ 3 1;rw [HB.out.2, eL]; exact hrw
  have hq : ∃ q, aw = some ⟨q, 0, none⟩ := by
    rcases HROW.out.2 with ⟨e, h1⟩ | ⟨g, cap, cur, e, _⟩
    exact absurd h1 h0;injection e with e1; exact ⟨g, e1⟩
  obtain ⟨q, rfl⟩ := hq;obtain ⟨i0, hinf, hz0, hz1, hz2⟩ := info_parts info9w
  have hql : q < w1.heap.size := by
    rcases HROW.out.2 with ⟨e, _⟩ | ⟨g, cap, cur, e, _, hh, _⟩
    · cases e
    injection e with e1; injection e1 with e1; injection e1 with e1 _; rw [e1]; exact (Array.getElem?_eq_some_iff.1 hh).1
  have HNEW : Hid ((w1.alloc (.cells #[] 9)).ownsRow w.heap.size 9 1 (.slice (some ⟨w1.heap.size, 0, none⟩) 0 0) 0 []) := ⟨rfl, .inr ⟨w1.heap.size, 0, #[], rfl, by omega, heap_alloc_new _ _, Nat.le_refl _, by decide, rfl, rfl⟩⟩;have HLEN : Hid ((es.ww.map Value.string).length = nw * 1) := by show _ = _; rw [List.length_map, HN.out.2, Nat.mul_one]
  have HCEL : Hid (∀ j u, (es.ww.map Value.string)[j]? = some u -> (w1.alloc (.cells #[] 9)).cell? ((⟨q, 0, none⟩ : Addr).add j) = some u) := fun j u hu => by have hj : j < nw * 1 := (by rw [<- HLEN.out]; exact (List.getElem?_eq_some_iff.1 hu).1);have hadd : (⟨q, 0, none⟩ : Addr).add j = ⟨q, j, none⟩ := (by unfold Addr.add; split <;> simp_all);rw [hadd];rw [((Below.refl w1.heap.size w1).alloc (Nat.le_refl _) (.cells #[] 9)).cell (p := ⟨q, j, none⟩) hql];rw [World.ownsRow.cellAt HROW.out j hj];exact hu
  have H1C : Hid (∀ u ∈ es.ww.map Value.string, u.oneCell' = true) := fun u hu => by obtain ⟨y, _, rfl⟩ := List.mem_map.1 hu;rfl
  go_wp2_with (at_builtin; refine wpList_append_mark rfl (.tmp 17) (.tmp 20) 47 rfl w.heap.size 9 i0 (.string ⟨#[]⟩) 1 16 Tryz.underlying47 hinf hz0 hz1 hz2 rfl (by decide) _ 0 [] rfl HNEW.out ⟨q, 0, none⟩ nw cw (es.ww.map Value.string) rfl HLEN.out HCEL.out H1C.out (by omega) (by unfold maxLen; omega) (by omega) (by simp; omega) ?_)
  intro v4 w4 H4;obtain ⟨r4, g4, d4, _, q4, p4, hv4⟩ := H4.out;have HFIN : Hid (w4.ownsRow w.heap.size 9 1 v4 nw (es.ww.map Value.string) /\ Below w.heap.size w w4) := (by refine ⟨r4, ?_⟩;exact (HB1.out.alloc (by omega) _).grown g4 (by simp; omega) (by intro b hb; simp [Value.ownBlock] at hb; omega));subst hv4;clear H4 r4 g4 d4 HROW HNEW HCEL;go_wp2;go_ret2
  have hr := HFIN.out.1;refine ⟨_, _, rfl, ?_, ?_, HFIN.out.2⟩;rw [HB.out.1]; exact World.ownsRow_nil _ _ 3 1;rw [HB.out.2]; unfold OwnS; rw [HN.out.2]; exact (by simpa using hr)
def BdsG (w : World) (e : ES) (x : Ending) (w' : World) : Prop := ∃ vb vw, x = .returned (.tuple #[vb, vw, .int .i64 0]) /\ BdsX w w' vb vw e
theorem gBounds_yes (gb db f : Nat) (D : DSS) (w : World) (h : OutD w gb db D) (hk : D.ks.length <= 1000) (hf : f < D.ks.length) (hb1 : (D.ks.getD f k0S).e.bs.length <= 1000) (hw1 : (D.ks.getD f k0S).e.ww.length <= 1000) : Calls Tryz.prog 27 #[.pointer (some ⟨gb, 0, none⟩), .int .i64 (f : Nat)] w fun e w' => BdsG w (D.ks.getD f k0S).e e w' := by
  have g0 : w.cell? ⟨gb, 0, none⟩ = some (.pointer (some ⟨db, 0, none⟩)) := cell_of_row _ _ 0 _ 110 (0, 0) h.gp;have HHF : Calls Tryz.prog 52 #[.pointer (some ⟨gb, 0, none⟩), .int .i64 (f : Nat)] w fun e w' => e = .returned (.bool true) /\ w' = w := (by have h1 := hasFeature_any gb db D (f : Int) w h hk;have h2 : decide (0 <= (f : Int) /\ (f : Int) <= (D.ks.length : Int) - 1) = true := (by simp; omega);rw [h2] at h1;exact h1);obtain ⟨vK, vB, vX, kvs, bvs, X, hX⟩ := h.md;have HB := dsBounds_any db f vK vB vX kvs bvs X D w hX hf hb1 hw1;clear h hX hk hf hb1 hw1;generalize (D.ks.getD f k0S).e = es at *;go_enter Tryz.func27, Tryz.ntmps27;go_wp2_with fail
  refine HHF.mono ?_;rintro e w3 ⟨rfl, hw3⟩;obtain rfl := hw3.symm;go_wp2_with fail
  refine HB.mono ?_;rintro e w4 ⟨vb, vw, rfl, h4⟩;have H4 : Hid (BdsX w w4 vb vw es) := h4;clear h4;go_wp2;go_ret3
  exact ⟨_, _, rfl, H4.out⟩
end Go.Proofs.YtfcgnpchbcmdeaaGreat

namespace Go.Proofs.YtfcgnpchbcmdeaaGreat
open Go.RowKit
theorem DatOk.mem {n : Nat} {D : DSS} (_ : DatOk n D) {i : Nat} (hi : i < D.bs.length) : D.bs.getD i b0S ∈ D.bs := by rw [List.getD_eq_getElem?_getD, List.getElem?_eq_getElem hi]; exact List.getElem_mem _
theorem dsLookup_any (db f row n : Nat) (vK vB vX : Value) (kvs bvs : List (Value × Value)) (X : List XS) (D : DSS) (w : World) (h : MadeX w db vK vB vX kvs bvs X D) (hd : DatOk n D) (hf : f < D.ks.length) (hr : row < n) : Calls Tryz.prog 78 #[.pointer (some ⟨db, 0, none⟩), .int .i64 (row : Nat), .int .i64 (f : Nat)] w fun e w' => e = .returned (.int .i64 (lookF D X f (seatB D f) (seatP D f) row : Nat)) /\ Below w.heap.size w w' := by
  have hs := hd.seat hf;have hbm := hd.mem hs.hb;have hbo := hd.bok _ hbm;have hg := hd.g40 _ hbm;have hrl : row < (D.bs.getD (seatB D f) b0S).N.length := by rw [hbo.len]; exact hr
  have hNg : (D.bs.getD (seatB D f) b0S).N.getD row 0 <= (D.bs.getD (seatB D f) b0S).g := (by rw [List.getD_eq_getElem?_getD, List.getElem?_eq_getElem hrl]; exact hbo.le _ (List.getElem_mem _));have hxl : X.length <= 1000000 := (by rw [h.perm.length_eq]; have := hd.xl; omega);have hoff : offK D (seatB D f) (seatP D f) <= 100000 := (by have h1 := sumM_le D.ks ((D.bs.getD (seatB D f) b0S).fs.take (seatP D f)) (fun x hx => Nat.le_trans (hd.mn x (hd.fk _ hbm x (List.mem_of_mem_take hx))) (by decide));have h2 := hd.f4 _ hbm;have h3 : ((D.bs.getD (seatB D f) b0S).fs.take (seatP D f)).length <= (D.bs.getD (seatB D f) b0S).fs.length := (by rw [List.length_take]; omega);unfold offK;omega);have hn2 := hd.n2;have hbl : D.bs.length <= 1000 := (by have := hd.b4; omega);obtain ⟨_, hcol⟩ := h.ds.bn.each (seatB D f) hs.hb
  rcases hcol with ⟨_, p, e, sb, vc, e2, _, hX⟩ | ⟨_, p, e, dd, q, e2, _, hX⟩
  subst e2;refine lookup_sparse db f _ _ row sb vK vB vX kvs bvs X D w h hs hbl hxl (by omega) hoff e (fun W hW => ?_);have hX' : SpaX W 0 sb (D.bs.getD (seatB D f) b0S).N.length (Lib.bitLen (D.bs.getD (seatB D f) b0S).g) vc (spF (D.bs.getD (seatB D f) b0S).N (D.bs.getD (seatB D f) b0S).N.length) := ⟨(hW.block _ (Array.getElem?_eq_some_iff.1 hX.blk).1).trans hX.blk, (Touch.of_below (S := fun _ => False) hW).row hX.row (fun _ _ => id)⟩;exact sparseAt_any sb _ _ row vc _ W hX' hrl (by rw [hbo.len]; omega);subst e2;have hb6 : Lib.bitLen (D.bs.getD (seatB D f) b0S).g <= 6 := bitLen_le (by omega);have hN2 : (D.bs.getD (seatB D f) b0S).N.getD row 0 < 2 ^ Lib.bitLen (D.bs.getD (seatB D f) b0S).g := Nat.lt_of_le_of_lt hNg (bitLen_lt (by omega));refine lookup_dense db f _ _ row dd vK vB vX kvs bvs X D w h hs hbl hxl (by omega) hoff e (fun W hW => ?_)
  have hmul : row * Lib.bitLen (D.bs.getD (seatB D f) b0S).g + Lib.bitLen (D.bs.getD (seatB D f) b0S).g <= (D.bs.getD (seatB D f) b0S).N.length * Lib.bitLen (D.bs.getD (seatB D f) b0S).g := by rw [<- Nat.succ_mul];exact Nat.mul_le_mul_right _ hrl
  have hmul2 : (D.bs.getD (seatB D f) b0S).N.length * Lib.bitLen (D.bs.getD (seatB D f) b0S).g <= 200 * 6 := Nat.mul_le_mul (by rw [hbo.len]; exact hn2) hb6;have hX' : DenX W 0 dd q (D.bs.getD (seatB D f) b0S).N.length (Lib.bitLen (D.bs.getD (seatB D f) b0S).g) (packF (bitsN (D.bs.getD (seatB D f) b0S).N (Lib.bitLen (D.bs.getD (seatB D f) b0S).g)) (((D.bs.getD (seatB D f) b0S).N.length * Lib.bitLen (D.bs.getD (seatB D f) b0S).g + 7) / 8) ((D.bs.getD (seatB D f) b0S).N.length * Lib.bitLen (D.bs.getD (seatB D f) b0S).g)) := ⟨(hW.block _ (Array.getElem?_eq_some_iff.1 hX.blk).1).trans hX.blk, (Touch.of_below (S := fun _ => False) hW).row hX.row (fun _ _ => id)⟩;have h1 := denseAt_any dd q _ _ _ _ row _ W hX' (fun t => bitsN_le _ _ t) hb6 hmul (by omega) (by omega);rw [bitsN_row _ hN2] at h1;exact h1
theorem gLookup_bin (gb db f row m n budget : Nat) (es : List ES) (Bb : List (List Nat)) (w : World) (h : OutD w gb db (makeF m n budget es Bb)) (hm : m + 1 <= 4) (hn : n <= 200) (hk : BinOk m n es Bb) (hf : f < m + 1) (hr : row < n) : Calls Tryz.prog 44 #[.pointer (some ⟨gb, 0, none⟩), .int .i64 (row : Nat), .int .i64 (f : Nat)] w fun e w' => e = .returned (.tuple #[.int .i64 ((Bb.getD f []).getD row 0 : Nat), .int .i64 0]) /\ Below w.heap.size w w' := by
  have hd := makeF_ok (budget := budget) hm hn hk;have hkl : (makeF m n budget es Bb).ks.length = m + 1 := (by rw [show (makeF m n budget es Bb).ks = _ from addsF_ks _ _ _ _ _]; exact ksF_len es Bb (m + 1));have hN0 : ((makeF m n budget es Bb).bs.getD 0 b0S).N.length = n := (hd.bok _ (hd.mem hd.b0)).len;refine gLookup_yes gb db f row _ _ w h hd.b0 (by rw [hkl]; omega) (by rw [hN0]; exact hr) (by rw [hN0]; omega) (by rw [hkl]; exact hf) (fun W hW => ?_);obtain ⟨vK, vB, vX, kvs, bvs, X, hX⟩ := hW.md;have h1 := dsLookup_any db f row n vK vB vX kvs bvs X _ W hX hd (by rw [hkl]; exact hf) hr;rw [look_bin hm hn hk hX.perm hf hr] at h1;exact h1
theorem gRows_made (gb db n : Nat) (D : DSS) (w : World) (h : OutD w gb db D) (hd : DatOk n D) : Calls Tryz.prog 26 #[.pointer (some ⟨gb, 0, none⟩)] w fun e w' => e = .returned (.int .i64 (n : Nat)) /\ Below w.heap.size w w' := by have h1 := gRows_any gb db D w h hd.b0;rw [(hd.bok _ (hd.mem hd.b0)).len] at h1;exact h1
theorem gBundles_made (gb db n : Nat) (D : DSS) (w : World) (h : OutD w gb db D) (hd : DatOk n D) : Calls Tryz.prog 55 #[.pointer (some ⟨gb, 0, none⟩)] w fun e w' => BunE w D e w' :=
  gBundles_any gb db D w h hd.b0 (by have := hd.b4; omega) (fun i hi => ⟨hd.f0 _ (hd.mem hi), by have := hd.f4 _ (hd.mem hi); omega⟩)
theorem gBounds_made (gb db f n : Nat) (D : DSS) (w : World) (h : OutD w gb db D) (hd : DatOk n D) (hf : f < D.ks.length) : Calls Tryz.prog 27 #[.pointer (some ⟨gb, 0, none⟩), .int .i64 (f : Nat)] w fun e w' => BdsG w (D.ks.getD f k0S).e e w' :=
  gBounds_yes gb db f D w h (by have := hd.k4; omega) hf (hd.edg f hf).lb (hd.edg f hf).lw
end Go.Proofs.YtfcgnpchbcmdeaaGreat

namespace Go.Proofs.YtfcgnpchbcmdeaaGreat
open Go.RowKit
def ByIn (L : List Int) : Prop := ∀ b ∈ L, 0 <= b /\ b < 256
theorem ByIn.nil : ByIn [] := by intro b hb; simp at hb
theorem ByIn.append {A B : List Int} (a : ByIn A) (b : ByIn B) : ByIn (A ++ B) := fun x hx => by
  rcases List.mem_append.1 hx with h | h
  exact a x h;exact b x h
theorem ByIn.cons {x : Int} {A : List Int} (h1 : 0 <= x /\ x < 256) (a : ByIn A) : ByIn (x :: A) := fun y hy => by
  rcases List.mem_cons.1 hy with rfl | h
  exact h1;exact a y h
theorem ByIn.flat {α : Type} {f : α -> List Int} {L : List α} (h : ∀ x ∈ L, ByIn (f x)) : ByIn (L.flatMap f) := fun y hy => by obtain ⟨x, hx, hy⟩ := List.mem_flatMap.1 hy;exact h x hx y hy
theorem mod_in (x : Int) : 0 <= x % 256 /\ x % 256 < 256 := by omega
theorem lowL_in (n : Int) : ∀ j, ByIn (lowL n j)
  | 0 => ByIn.nil
  | j + 1 => by unfold lowL;exact (lowL_in n j).append (ByIn.cons (mod_in _) ByIn.nil)
theorem bytesL_in (b : ByteArray) : ByIn (bytesL b) := fun x hx => by unfold bytesL at hx;obtain ⟨u, _, rfl⟩ := List.mem_map.1 hx;have := u.toNat_lt;omega
theorem packF_in {f : Nat -> Nat} (hf : ∀ t, f t <= 1) (nb T : Nat) : ByIn (packF f nb T) := fun x hx => by unfold packF at hx;obtain ⟨j, _, rfl⟩ := List.mem_map.1 hx;have := byteF_lt hf T j;omega
theorem spK_in (L : List (Nat × Nat)) : ∀ k, ByIn (spK L k)
  | 0 => by unfold spK; exact ByIn.nil
  | k + 1 => by unfold spK;exact (spK_in L k).append (ByIn.cons (mod_in _) (ByIn.cons (mod_in _) ByIn.nil))
theorem colB_in (N : List Nat) (g : Nat) : ByIn (colB N g) := by unfold colB;split;unfold spaB;exact ByIn.append (ByIn.cons (by omega) (ByIn.cons (mod_in _) ByIn.nil)) (spK_in _ _);exact ByIn.cons (by omega) (packF_in (fun t => bitsN_le _ _ t) _ _)
theorem byN_in (fs : List Nat) : ByIn (byN fs) := fun x hx => by unfold byN at hx;obtain ⟨j, _, rfl⟩ := List.mem_map.1 hx;exact mod_in _
theorem bunB_in (b : BS) : ByIn (bunB b) := by unfold bunB;exact (ByIn.append (ByIn.cons (mod_in _) ByIn.nil) (byN_in _)).append (colB_in _ _)
theorem knA_in (k : KS) : ByIn (knA k) := by unfold knA;split;unfold knWB wrdB;exact ByIn.append (ByIn.cons (by omega) (ByIn.cons (mod_in _) (ByIn.cons (mod_in _) ByIn.nil))) (ByIn.flat (fun s _ => ByIn.cons (mod_in _) (bytesL_in s)));unfold knB bndB;exact ByIn.append (ByIn.cons (by omega) (ByIn.cons (mod_in _) (ByIn.cons (mod_in _) ByIn.nil))) (ByIn.flat (fun s _ => lowL_in s 4))
theorem xB_in (x : XS) : ByIn (xB x) := ByIn.cons (mod_in _) (ByIn.cons (mod_in _) (ByIn.cons (mod_in _) ByIn.nil))
theorem outF_in (D : DSS) (X : List XS) : ByIn (outF D X) := by unfold outF;refine ByIn.append (ByIn.append (ByIn.append (ByIn.append (ByIn.append ?_ (ByIn.flat fun k _ => knA_in k)) ?_) (ByIn.flat fun b _ => bunB_in b)) (lowL_in _ _)) (ByIn.flat fun x _ => xB_in x);exact ByIn.cons (by omega) (ByIn.cons (by omega) (ByIn.cons (mod_in _) (ByIn.cons (mod_in _) ByIn.nil)));exact ByIn.cons (mod_in _) ByIn.nil
theorem DatOk.bun {n : Nat} {D : DSS} (h : DatOk n D) : ∀ b ∈ D.bs, BunOk b := fun b hb => by
  have h1 := h.bok b hb;have h2 := h.g40 b hb;have h3 := h.f4 b hb;have h4 := h.n2;have h5 := h.k4;have hb6 : Lib.bitLen b.g <= 6 := bitLen_le (by omega);have hmul : b.N.length * Lib.bitLen b.g <= 200 * 6 := Nat.mul_le_mul (by rw [h1.len]; exact h4) hb6;have hsl := spF_len b.N b.N.length;have hpl := packF_len (bitsN b.N (Lib.bitLen b.g)) ((b.N.length * Lib.bitLen b.g + 7) / 8) (b.N.length * Lib.bitLen b.g);have hNl := h1.len;refine ⟨by omega, fun f hf => by have := h.fk b hb f hf; omega, ⟨by omega, fun x hx => ?_⟩, by omega, ?_⟩;obtain ⟨a1, a2, _⟩ := (mem_spF _ _ x).1 hx;refine ⟨by omega, ?_⟩;rw [a2, List.getD_eq_getElem?_getD, List.getElem?_eq_getElem a1];have := h1.le _ (List.getElem_mem a1);simp only [Option.getD_some];omega
  unfold bunB;rw [List.length_append, List.length_append];have hby : (byN b.fs).length = b.fs.length := by simp [byN]
  have hcb : (colB b.N b.g).length <= 1000 := (by unfold colB;split;unfold spaB;rw [List.length_append, spK_len];simp; omega;rw [List.length_cons, hpl]; omega);rw [hby];simp; omega
theorem gBytes_made (gb db n : Nat) (D : DSS) (w : World) (h : OutD w gb db D) (hd : DatOk n D) (hkn : ∀ K ∈ D.ks, KnOk K) (X : List XS) (hX : X.Perm D.xs) (hs : SortedX X) : Calls Tryz.prog 34 #[.pointer (some ⟨gb, 0, none⟩)] w fun e w' => e = .returned (.string (strOfNums (bytesF D X))) /\ Below w.heap.size w w' := by obtain ⟨vK, vB, vX, kvs, bvs, Y, hY⟩ := h.md;obtain rfl : X = Y := sorted_one hd.keys hX hs hY.perm hY.sorted;exact gBytes_any gb db vK vB vX kvs bvs X D w h.gp hY hd.b0 hkn hd.k4 hd.bun hd.b4 (by rw [hX.length_eq]; have := hd.xl; omega) (outF_in D X)
end Go.Proofs.YtfcgnpchbcmdeaaGreat

namespace Go.Proofs.YtfcgnpchbcmdeaaGreat
open Go.RowKit
set_option maxRecDepth 100000 in
set_option maxHeartbeats 4000000 in
theorem lwF_ok : LwOk lwF := by
  intro va wa n vcap wcap k1 k2 ct bins L ws w hv hw hL hn hz hwd c1 c2 l1 l2 hb1 hb2;have HC : Hid (∀ W : World, Below w.heap.size w W -> Calls Tryz.prog 211 #[.slice va n vcap, .slice wa n wcap, .int .i64 ct, .int .i64 bins] W fun e w' => ∃ v, e = .returned v /\ EdgM w' W.heap.size v (lwF L ws ct bins) /\ Below W.heap.size W w') := fun W hW => learnWords_any va wa n vcap wcap ct bins L ws W ((Touch.of_below (S := fun _ => False) hW).row hv (fun _ _ => id)) (hw.below hW) hL hn hz hwd hb1 hb2;have e1 : (w.alloc (.cells #[.bool false, .slice none 0 0, .slice none 0 0] 170)).cell? ⟨k1, 0, none⟩ = some (.int .i64 ct) := (((Below.refl _ _).alloc (Nat.le_refl _) _).cell (p := ⟨k1, 0, none⟩) l1).trans c1
  have e2 : (w.alloc (.cells #[.bool false, .slice none 0 0, .slice none 0 0] 170)).cell? ⟨k2, 0, none⟩ = some (.int .i64 bins) := (((Below.refl _ _).alloc (Nat.le_refl _) _).cell (p := ⟨k2, 0, none⟩) l2).trans c2;have HWD : Hid ((lwF L ws ct bins).wd = true /\ (lwF L ws ct bins).bs = []) := ⟨rfl, rfl⟩;clear hv hw hL hn hz hwd hb1 hb2;go_enter Tryz.func210, Tryz.ntmps210;go_wp2_with fail
  refine (HC.out _ ((Below.refl _ _).alloc (Nat.le_refl _) _)).mono ?_;rintro e w2 ⟨v, rfl, ⟨vb, vw, hv, hEb, hE⟩, hb⟩;rw [HWD.out.1] at hv;rw [HWD.out.2] at hEb;obtain ⟨ab, cb, rfl⟩ := hEb.shape;obtain ⟨av, cv, hav⟩ := hE.shapeW;subst hav;subst hv;have hblk : w2.heap[w.heap.size]? = some (.cells #[.bool false, .slice none 0 0, .slice none 0 0] 170 (0, 0)) := (hb.block _ (by simp)).trans (heap_alloc_new _ _);have d0 : w2.cell? ⟨w.heap.size, 0, none⟩ = some (.bool false) := cell_of_row _ _ 0 _ 170 (0, 0) hblk;have d1 : w2.cell? ⟨w.heap.size, 1, none⟩ = some (.slice none 0 0) := cell_of_row _ _ 1 _ 170 (0, 0) hblk;have d2 : w2.cell? ⟨w.heap.size, 2, none⟩ = some (.slice none 0 0) := cell_of_row _ _ 2 _ 170 (0, 0) hblk;have f0 : w2.frozen? ⟨w.heap.size, 0, none⟩ = false := frozen_of_row _ _ 0 _ 170 hblk;have f1 : w2.frozen? ⟨w.heap.size, 1, none⟩ = false := frozen_of_row _ _ 1 _ 170 hblk
  have f2 : w2.frozen? ⟨w.heap.size, 2, none⟩ = false := frozen_of_row _ _ 2 _ 170 hblk;have HB : Hid (Below w.heap.size w w2) := ((Below.refl _ _).alloc (Nat.le_refl _) _).trans (hb.mono (by simp));have HE : Hid (OwnS w2 w.heap.size (.slice av (lwF L ws ct bins).ww.length cv) (lwF L ws ct bins).ww /\ OwnI w2 w.heap.size (.slice ab ([] : List Int).length cb) []) := ⟨hE.monoW (by simp), hEb.mono (by simp)⟩;have HK : Hid (w2.heap[w.heap.size]? = some (.cells #[.bool false, .slice none 0 0, .slice none 0 0] 170 (0, 0))) := hblk;clear hb hE hEb hblk HC c1 c2 l1 l2 e1 e2;generalize hnw : (lwF L ws ct bins).ww.length = nw at *;have HNW : Hid ((lwF L ws ct bins).ww.length = nw) := hnw;clear hnw;go_wp2;refine bodyPost_ret (v := .agg #[.bool true, .slice ab 0 cb, .slice av nw cv]) (by simp [results, Tryz.results210, go_sem, *]) rfl ?_
  refine ⟨_, rfl, ⟨.slice ab 0 cb, .slice av nw cv, rfl, ?_, ?_⟩, ((HB.out.setCell (Nat.le_refl _) _).setCell (Nat.le_refl _) _).setCell (Nat.le_refl _) _⟩;exact own_put' (own_put' (own_put' HE.out.2 HK.out (by decide)) (by exact heap_setCell_same _ _ _ _ _ _ HK.out) (by decide)) (by exact heap_setCell_same _ _ _ _ _ _ (heap_setCell_same _ _ _ _ _ _ HK.out)) (by decide);exact own_put' (own_put' (own_put' HE.out.1 HK.out (by decide)) (by exact heap_setCell_same _ _ _ _ _ _ HK.out) (by decide)) (by exact heap_setCell_same _ _ _ _ _ _ (heap_setCell_same _ _ _ _ _ _ HK.out)) (by decide)
theorem lwF_fine : LwFine lwF := by refine ⟨lwF_ok, fun L ws ct bins hL hb1 hb2 => ?_⟩;have hl : (lwF L ws ct bins).ww.length <= 16 := (by show ((((heavyW (L.zip ws) ct).mergeSort fun x y => decide (leW x y)).take bins.toNat).map WS.wd).length <= 16;rw [List.length_map, List.length_take];omega);refine ⟨⟨List.Pairwise.nil, by simp [lwF], by omega⟩, rfl, ?_⟩;show cntE true 0 (lwF L ws ct bins).ww.length <= 16;simp only [cntE, if_true];exact hl
theorem closeOk_any {m : Nat} {wd : Nat -> Bool} {sc ct : Nat -> Int} {bins : Int} {size : Nat} {l : List Int} {s : RS} (hsc : ∀ i, i < m + 1 -> wd i = false -> 0 <= sc i /\ sc i <= 3) (hb : 2 <= bins) (hb2 : bins <= 16) (hs : 2 <= size) (hs2 : size <= 32) (h : rtakes (m + 1) wd sc RS.start l 0 = .ok s) : CloseOk lwF m wd ct bins size s := closeOk_all (fun _ => lwF_fine) hsc hb hb2 hs hs2 h
end Go.Proofs.YtfcgnpchbcmdeaaGreat

namespace Go.Proofs.YtfcgnpchbcmdeaaGreat
open Go.RowKit
theorem takeIn_vals {S : Int -> Prop} {size : Int} (hs : 2 <= size) (hs2 : size <= 32) : ∀ {Ls : List (List Ent)} {l : List Ent}, LevOk Ls -> Good l -> l.length <= 32 -> totals Ls + totalL l <= 1000000000000 -> (∀ L ∈ Ls, ∀ e ∈ L, S e.v) -> (∀ e ∈ l, S e.v) -> ∀ L ∈ takeInL size Ls l, ∀ e ∈ L, S e.v
  | [], l, _, _, _, _, _, hv => by simpa [takeInL] using hv
  | o :: r, l, h, g, hl, ht, hL, hv => by
    have go := h.good o (by simp);have hr : LevOk r := ⟨fun x hx => h.good x (by simp [hx]), fun x hx => h.len x (by simp [hx])⟩;have p1 := totals_pos hr.good;have p2 := (total_pos go).1;have p3 := (total_pos g).1;simp only [totals] at ht;simp only [takeInL];split
    · intro L hx
      rcases List.mem_cons.1 hx with rfl | hx
      exact hv;exact hL L (by simp [hx])
    have gj := joinL_good go g (by omega);have gc : Good (cutL (joinL o l) size) := gj.sub (cutL_sub gj size);have tc : totalL (cutL (joinL o l) size) = totalL o + totalL l := (by rw [total_cut, total_join]);have lc := cutL_len (joinL o l) hs
    have ih := takeIn_vals (S := S) hs hs2 hr gc (by omega) (by omega) (fun L hx => hL L (by simp [hx])) (fun e he => by
      rcases joinL_from go g e ((cutL_sub gj size).subset he) with ⟨x, hx, e1⟩ | ⟨x, hx, e1⟩
      rw [<- e1]; exact hL o (by simp) x hx
      rw [<- e1]; exact hv x hx)
    intro L hx
    rcases List.mem_cons.1 hx with rfl | hx
    simp;exact ih L hx
theorem sumE_vals {S : Int -> Prop} {vs ws : List Int} (h : ∀ v ∈ vs, S v /\ -1000000000 <= v /\ v <= 1000000000) : ∀ e ∈ sumE vs ws, S e.v := fun e he => by have hs := sumOf_is (pairsOf vs ws);obtain ⟨p, hp, h1, _⟩ := (rank_vals (sumOf (pairsOf vs ws)) 0).1 e he;obtain ⟨q, hq, e2⟩ := hs.sub p hp;unfold pairsOf at hq;obtain ⟨z, hz, rfl⟩ := List.mem_map.1 hq;have hz1 : z.1 ∈ vs := (List.of_mem_zip (a := z.1) (b := z.2) hz).1;obtain ⟨a, b, c⟩ := h z.1 hz1;rw [<- h1, <- e2];show S (clampV z.1);unfold clampV;rw [if_neg (by omega), if_neg (by omega)];exact a
theorem blocksF_vals {S : Int -> Prop} {size : Nat} (hs : 2 <= size) (hs2 : size <= 32) : ∀ (f : Nat) (Ls : List (List Ent)) (vs ws : List Int), LevOk Ls -> totals Ls + 1000 * (vs.length : Int) <= 1000000000000 -> vs.length <= 2097152 -> (∀ L ∈ Ls, ∀ e ∈ L, S e.v) -> (∀ v ∈ vs, S v /\ -1000000000 <= v /\ v <= 1000000000) -> ∀ L ∈ blocksF size f Ls vs ws, ∀ e ∈ L, S e.v
  | 0, Ls, vs, ws, _, _, _, hL, _ => by simp only [blocksF]; exact hL
  | f + 1, Ls, vs, ws, h, ht, hl, hL, hv => by simp only [blocksF];split;exact hL;have h1 := sumE_ok (vs := vs.take size) (ws := ws.take size) (by simp; omega);have hp := totals_pos h.good;have hlen : (vs.take size).length + (vs.drop size).length = vs.length := (by simp; omega);have hlt : (vs.take size).length <= size := (by simp; omega);obtain ⟨t1, t2⟩ := takeIn_ok (size := (size : Int)) (by omega) (by omega) h h1.1 (by omega) (by omega);refine blocksF_vals hs hs2 f _ (vs.drop size) (ws.drop size) t1 (by omega) (by omega) ?_ (fun v hv2 => hv v (List.mem_of_mem_drop hv2));exact takeIn_vals (by omega) (by omega) h h1.1 (by omega) (by omega) hL (sumE_vals (fun v hv2 => hv v (List.mem_of_mem_take hv2)))
theorem foldLev_vals {S : Int -> Prop} {size : Int} (hs : 2 <= size) (hs2 : size <= 32) : ∀ (Ls : List (List Ent)) (al : List Ent), LevOk Ls -> Good al -> al.length <= 32 -> totalL al + totals Ls <= 1000000000000 -> (∀ L ∈ Ls, ∀ e ∈ L, S e.v) -> (∀ e ∈ al, S e.v) -> ∀ e ∈ foldLev size al Ls, S e.v
  | [], al, _, _, _, _, _, hv => hv
  | l :: r, al, h, g, hl, ht, hL, hv => by
    have gl := h.good l (by simp);have hr : LevOk r := ⟨fun x hx => h.good x (by simp [hx]), fun x hx => h.len x (by simp [hx])⟩;have p1 := totals_pos hr.good;simp only [totals] at ht;have gj := joinL_good g gl (by omega);have lc := cutL_len (joinL al l) hs;have tc : totalL (cutL (joinL al l) size) = totalL al + totalL l := (by rw [total_cut, total_join]);simp only [foldLev]
    exact foldLev_vals hs hs2 r _ hr (gj.sub (cutL_sub gj size)) (by omega) (by omega) (fun L hx => hL L (by simp [hx])) (fun e he => by
      rcases joinL_from g gl e ((cutL_sub gj size).subset he) with ⟨x, hx, e1⟩ | ⟨x, hx, e1⟩
      rw [<- e1]; exact hv x hx
      rw [<- e1]; exact hL l (by simp) x hx)
theorem inBlocks_vals {S : Int -> Prop} {size : Nat} (hs : 2 <= size) (hs2 : size <= 32) (vs ws : List Int) (hl : vs.length <= 2097152) (hv : ∀ v ∈ vs, S v /\ -1000000000 <= v /\ v <= 1000000000) : ∀ e ∈ inBlocksL size vs ws, S e.v := by obtain ⟨h1, h2⟩ := blocksF_ok hs hs2 vs.length [] vs ws LevOk.nil (by simp [totals]; omega) hl;exact foldLev_vals (by omega) (by omega) _ [] h1 Good.nil (by simp) (by simp [totalL, totals] at h2 ⊢; omega) (blocksF_vals hs hs2 _ _ _ _ LevOk.nil (by simp [totals]; omega) hl (by simp) hv) (by simp)
theorem mem_keepN : ∀ (L : List VS) (ws : List Int) (x : Int × Int), x ∈ keepN L ws -> ∃ v ∈ L, v.miss = false /\ v.num = x.1
  | [], _, x, h => by simp [keepN] at h
  | _ :: _, [], x, h => by simp [keepN] at h
  | v :: L, z :: ws, x, h => by
    simp only [keepN] at h;split at h;obtain ⟨u, hu, h1⟩ := mem_keepN L ws x h;exact ⟨u, by simp [hu], h1⟩;rename_i hm
    rcases List.mem_cons.1 h with rfl | h
    exact ⟨v, by simp, by simpa using hm, rfl⟩;obtain ⟨u, hu, h1⟩ := mem_keepN L ws x h;exact ⟨u, by simp [hu], h1⟩
theorem learnB_from {L : List VS} {ws : List Int} {bins : Int} {size : Nat} (hL : L.length <= 200) (hs : 2 <= size) (hs2 : size <= 32) (hr : ∀ v ∈ L, -1000000000 <= v.num /\ v.num <= 1000000000) : ∀ x ∈ learnB L ws bins size, ∃ v ∈ L, v.miss = false /\ v.num = x := fun x hx => by have hl : ((keepN L ws).map Prod.fst).length <= 2097152 := (by have := keepN_len L ws; simp; omega);unfold learnB at hx;have h1 := (boundsL_sub _ bins).subset hx;obtain ⟨e, he, rfl⟩ := List.mem_map.1 h1;refine inBlocks_vals (S := fun y => ∃ v ∈ L, v.miss = false /\ v.num = y) hs hs2 _ _ hl (fun v hv => ?_) e (List.mem_of_mem_take he);obtain ⟨p, hp, rfl⟩ := List.mem_map.1 hv;obtain ⟨u, hu, h2, h3⟩ := mem_keepN L ws p hp;have := hr u hu;exact ⟨⟨u, hu, h2, h3⟩, by omega, by omega⟩
theorem lwF_from {L : List VS} {ws : List Int} {ct bins : Int} : ∀ x ∈ (lwF L ws ct bins).ww, ∃ v ∈ L, v.miss = false /\ v.word = x := fun x hx => by
  unfold lwF at hx;simp only at hx;obtain ⟨y, hy, rfl⟩ := List.mem_map.1 hx;have h1 := (List.mem_mergeSort).1 (List.mem_of_mem_take hy);have h2 := ((mem_heavyW _ _ _).1 h1).1;unfold wdIn at h2;obtain ⟨p, hp, h3⟩ := List.any_eq_true.1 h2;unfold hitV at h3;simp only [Bool.and_eq_true, Bool.not_eq_true', decide_eq_true_eq] at h3;refine ⟨p.1, (List.of_mem_zip (a := p.1) (b := p.2) hp).1, h3.1, ?_⟩;have h4 := h3.2
  cases hw : p.1.word with
  | mk d =>
    cases hy2 : y.wd with
    | mk d2 =>
      rw [hw, hy2] at h4;simp only at h4;rw [Array.toList_inj.1 h4]
theorem learn_kn {wd : Bool} {ct bins : Int} {size d : Nat} {L : List VS} {ws : List Int} (hL : L.length <= 200) (hs : 2 <= size) (hs2 : size <= 32) (hb : 2 <= bins) (hb2 : bins <= 16) (hr : ∀ v ∈ L, (-1000000000 <= v.num /\ v.num <= 1000000000) /\ v.word.size <= 8) : KnOk ⟨learnE lwF wd ct bins size L ws, d⟩ := by
  cases wd
  left;have e : learnE lwF false ct bins size L ws = ⟨false, learnB L ws bins size, []⟩ := (by simp [learnE]);rw [e];refine ⟨rfl, rfl, ?_, fun x hx => ?_⟩;have := (learnB_ok L ws hL hs hs2 hb).2;show (learnB L ws bins size).length <= 1000;omega;obtain ⟨v, hv, _, rfl⟩ := learnB_from hL hs hs2 (fun v hv => (hr v hv).1) x hx;have := (hr v hv).1;omega;right;have e : learnE lwF true ct bins size L ws = lwF L ws ct bins := (by simp [learnE]);rw [e];refine ⟨rfl, rfl, ?_, fun x hx => ?_⟩;show (List.map _ (List.take bins.toNat _)).length <= 1000;rw [List.length_map, List.length_take];omega;obtain ⟨v, hv, _, rfl⟩ := lwF_from x hx;exact (hr v hv).2
end Go.Proofs.YtfcgnpchbcmdeaaGreat

namespace Go.Proofs.YtfcgnpchbcmdeaaGreat
open Go.RowKit
structure Says (w : World) (gb n nk : Nat) (sb : ByteArray) (Ls : List (List Int)) (E : Nat -> ES) (B : Nat -> Nat -> Nat) : Prop where
  rows : ∀ W : World, Below w.heap.size w W -> Calls Tryz.prog 26 #[.pointer (some ⟨gb, 0, none⟩)] W fun e w' => e = .returned (.int .i64 (n : Nat)) /\ Below w.heap.size w w'
  bytes : ∀ W : World, Below w.heap.size w W -> Calls Tryz.prog 34 #[.pointer (some ⟨gb, 0, none⟩)] W fun e w' => e = .returned (.string sb) /\ Below w.heap.size w w'
  bundles : ∀ W : World, Below w.heap.size w W -> Calls Tryz.prog 55 #[.pointer (some ⟨gb, 0, none⟩)] W fun e w' => ∃ q, e = .returned (.slice (some ⟨q, 0, none⟩) Ls.length Ls.length) /\ ListsX w' 0 q Ls.length Ls.length Ls /\ Below W.heap.size W w'
  bounds : ∀ W : World, Below w.heap.size w W -> ∀ f, f < nk -> Calls Tryz.prog 27 #[.pointer (some ⟨gb, 0, none⟩), .int .i64 (f : Nat)] W fun e w' => BdsG W (E f) e w'
  look : ∀ W : World, Below w.heap.size w W -> ∀ f row, f < nk -> row < n -> Calls Tryz.prog 44 #[.pointer (some ⟨gb, 0, none⟩), .int .i64 (row : Nat), .int .i64 (f : Nat)] W fun e w' => e = .returned (.tuple #[.int .i64 (B f row : Nat), .int .i64 0]) /\ Below w.heap.size w w'
def TwoX (w wr : World) (v1 v2 v3 v4 : Value) (bI : List Int) (bS : List ByteArray) : Prop := Below w.heap.size w wr /\ OwnI wr 0 v1 bI /\ OwnS wr 0 v2 bS /\ OwnI wr 0 v3 bI /\ OwnS wr 0 v4 bS
theorem TwoX.drew {w wr : World} {v1 v2 v3 v4 : Value} {bI : List Int} {bS : List ByteArray} (h : TwoX w wr v1 v2 v3 v4 bI bS) (n : Nat) : TwoX w (wr.drewN n) v1 v2 v3 v4 bI bS :=
  ⟨below_drewN h.1 _, h.2.1.below (below_drewN (Below.refl _ _) _), h.2.2.1.below (below_drewN (Below.refl _ _) _), h.2.2.2.1.below (below_drewN (Below.refl _ _) _), h.2.2.2.2.below (below_drewN (Below.refl _ _) _)⟩
set_option maxRecDepth 100000 in
set_option maxHeartbeats 16000000 in
theorem same_any (ga gb n nk : Nat) (sb : ByteArray) (Ls : List (List Int)) (E : Nat -> ES) (B : Nat -> Nat -> Nat) (w : World) (ha : Says w ga n nk sb Ls E B) (hb : Says w gb n nk sb Ls E B) (hn : n <= 1000) (hk : nk <= 1000) (hl : Ls.length <= 1000) (hl2 : ∀ L ∈ Ls, L.length <= 1000) (hE : ∀ f, f < nk -> (bdI (E f)).length <= 1000 /\ (bdS (E f)).length <= 1000) : Calls Tryz.prog 30 #[.pointer (some ⟨ga, 0, none⟩), .pointer (some ⟨gb, 0, none⟩), .int .i64 (nk : Nat)] w fun e w' => e = .returned (.bool true) /\ Below w.heap.size w w' := by
  have HA : Hid (Says w ga n nk sb Ls E B) := ha;have HB : Hid (Says w gb n nk sb Ls E B) := hb
  have HL2 : Hid (∀ i, i < Ls.length -> (Ls.getD i []).length <= 1000) := fun i hi => by rw [List.getD_eq_getElem?_getD, List.getElem?_eq_getElem hi]; exact hl2 _ (List.getElem_mem _)
  have HE : Hid (∀ f, f < nk -> (bdI (E f)).length <= 1000 /\ (bdS (E f)).length <= 1000) := hE;clear ha hb hl2 hE;generalize hnl : Ls.length = nl at *;have HNL : Hid (Ls.length = nl) := hnl;clear hnl;go_enter Tryz.func30, Tryz.ntmps30;go_wp2_with fail
  refine (HA.out.rows _ (Below.refl _ _)).mono ?_;rintro e w1 ⟨rfl, h1⟩;have H1 : Hid (Below w.heap.size w w1) := h1;clear h1;go_wp2_with fail
  refine (HB.out.rows _ H1.out).mono ?_;rintro e w2 ⟨rfl, h2⟩;have H2 : Hid (Below w.heap.size w w2) := h2;clear h2 H1;go_wp2_with fail
  refine (HA.out.bytes _ H2.out).mono ?_;rintro e w3 ⟨rfl, h3⟩;have H3 : Hid (Below w.heap.size w w3) := h3;clear h3 H2;go_wp2_with fail
  refine (HB.out.bytes _ H3.out).mono ?_;rintro e w4 ⟨rfl, h4⟩;have H4 : Hid (Below w.heap.size w w4) := h4;clear h4 H3;go_wp2_with fail
  refine (HA.out.bundles _ H4.out).mono ?_;rintro e w5 ⟨qa, rfl, hqa, h5⟩;have H5 : Hid (Below w.heap.size w w5) := H4.out.trans (h5.mono H4.out.size);have HQA : Hid (ListsX w5 0 qa nl nl Ls) := (by have := hqa; rw [HNL.out] at this; exact this);rw [HNL.out];clear h5 hqa H4;go_wp2_with fail
  refine (HB.out.bundles _ H5.out).mono ?_;rintro e w6 ⟨qb, rfl, hqb, h6⟩;have H6 : Hid (Below w.heap.size w w6 /\ ListsX w6 0 qa nl nl Ls /\ ListsX w6 0 qb nl nl Ls) := ⟨H5.out.trans (h6.mono H5.out.size), HQA.out.below h6, by have := hqb; rw [HNL.out] at this; exact this⟩;rw [HNL.out];clear h6 hqb H5 HQA;go_wp2_with fail
  go_loopw [9] (fun ti wr => ∃ (i : Nat), ti = .int .i64 i /\ i <= nl /\ Hid (Below w.heap.size w wr /\ ListsX wr 0 qa nl nl Ls /\ ListsX wr 0 qb nl nl Ls)) (fun ti _ => nl - (intOf ti).toNat)
  case atStart => exact ⟨0, rfl, Nat.zero_le _, H6.out⟩
  case round =>
    clear H6;obtain ⟨i, rfl, hib, HR⟩ := hrel
    by_cases hin : i < nl
    · have bi1 : (0 : Int) <= (i : Int) := (by omega);have bi2 : (i : Int) < (nl : Int) := (by omega);obtain ⟨aa, ca, xa, hqal, _⟩ := HR.out.2.1.at hin;obtain ⟨ab, cb, xb, hqbl, _⟩ := HR.out.2.2.at hin;have HLL := HL2.out i hin;generalize hll : (Ls.getD i []).length = ll at *;have HLN : Hid ((Ls.getD i []).length = ll) := hll;clear hll;go_upto_region 10 with fail;go_quiet (fail);go_wp2_with fail
      obtain ⟨wl, hwl⟩ : ∃ wl, wl = wr := ⟨wr, rfl⟩;subst hwl;go_loopw [10] (fun tk wr => ∃ (k : Nat), tk = .int .i64 k /\ k <= ll /\ Hid (Below w.heap.size w wr /\ ListsX wr 0 qa nl nl Ls /\ ListsX wr 0 qb nl nl Ls)) (fun tk _ => ll - (intOf tk).toNat)
      case atStart => exact ⟨0, rfl, Nat.zero_le _, below_drewN HR.out.1 _, HR.out.2.1.below (below_drewN (Below.refl _ _) _), HR.out.2.2.below (below_drewN (Below.refl _ _) _)⟩
      case round =>
        clear HR xa xb;obtain ⟨k, rfl, hkb, HR⟩ := hrel;obtain ⟨aa, ca, xa, hqal, hoa⟩ := HR.out.2.1.at hin;obtain ⟨ab, cb, xb, hqbl, hob⟩ := HR.out.2.2.at hin;rw [HLN.out] at xa xb hoa hob
        by_cases hkn : k < ll
        · have bk1 : (0 : Int) <= (k : Int) := (by omega);have bk2 : (k : Int) < (ll : Int) := (by omega);obtain ⟨q1, rfl, _, _, y1, _⟩ := hoa.atK HLN.out hkn;obtain ⟨q2, rfl, _, _, y2, _⟩ := hob.atK HLN.out hkn;clear hoa hob;generalize (Ls.getD i []).getD k 0 = z at *;go_upto_region 15 with fail;go_quiet (fail);go_wp2;go_roundw;case rel => exact ⟨k + 1, by go_num, by omega, below_drewN HR.out.1 _, HR.out.2.1.below (below_drewN (Below.refl _ _) _), HR.out.2.2.below (below_drewN (Below.refl _ _) _)⟩
          case measure => simp [intOf]; omega
        have hnk : ¬ (k : Int) < (ll : Int) := (by omega);clear hoa hob;go_wp2;go_roundw;case rel => exact ⟨i + 1, by go_num, by omega, HR.out⟩
        case measure => simp [intOf]; omega
    have hni : ¬ (i : Int) < (nl : Int) := (by omega);have H7 : Hid (Below w.heap.size w wr) := HR.out.1;clear HR;go_wp2_with fail
    obtain ⟨wl, hwl⟩ : ∃ wl, wl = wr := ⟨wr, rfl⟩;subst hwl;go_loopw [11] (fun tf wr => ∃ (f : Nat), tf = .int .i64 f /\ f <= nk /\ Hid (Below w.heap.size w wr)) (fun tf _ => nk - (intOf tf).toNat)
    case atStart => exact ⟨0, rfl, Nat.zero_le _, H7⟩
    case round =>
      clear H7;obtain ⟨f, rfl, hfb, HR⟩ := hrel
      by_cases hfn : f < nk
      · have bf1 : (f : Int) < (nk : Int) := (by omega);go_wp2_with fail
        refine (HA.out.bounds _ HR.out f hfn).mono ?_;rintro e v1 ⟨vb, vw, rfl, hx⟩;obtain ⟨a1, c1, hs1⟩ := hx.nb.shape;obtain ⟨a2, c2, hs2⟩ := hx.nw.form;subst hs1 hs2;have HV1 : Hid (Below w.heap.size w v1 /\ OwnI v1 0 (.slice a1 (bdI (E f)).length c1) (bdI (E f)) /\ OwnS v1 0 (.slice a2 (bdS (E f)).length c2) (bdS (E f))) := ⟨HR.out.trans (hx.low.mono HR.out.size), hx.nb.mono (Nat.zero_le _), hx.nw.mono0⟩;clear hx;go_wp2_with fail
        refine (HB.out.bounds _ HV1.out.1 f hfn).mono ?_;rintro e v2 ⟨vb, vw, rfl, hx⟩;obtain ⟨a3, c3, hs1⟩ := hx.nb.shape;obtain ⟨a4, c4, hs2⟩ := hx.nw.form;subst hs1 hs2;have HV2 : Hid (Below w.heap.size w v2 /\ OwnI v2 0 (.slice a1 (bdI (E f)).length c1) (bdI (E f)) /\ OwnS v2 0 (.slice a2 (bdS (E f)).length c2) (bdS (E f)) /\ OwnI v2 0 (.slice a3 (bdI (E f)).length c3) (bdI (E f)) /\ OwnS v2 0 (.slice a4 (bdS (E f)).length c4) (bdS (E f))) := ⟨HV1.out.1.trans (hx.low.mono HV1.out.1.size), HV1.out.2.1.below hx.low, HV1.out.2.2.below hx.low, hx.nb.mono (Nat.zero_le _), hx.nw.mono0⟩;clear hx HV1;obtain ⟨hel1, hel2⟩ := HE.out f hfn;generalize bdI (E f) = bI at *;generalize bdS (E f) = bS at *;generalize hnI : bI.length = nI at *;generalize hnS : bS.length = nS at *;have HNI : Hid (bI.length = nI /\ bS.length = nS) := ⟨hnI, hnS⟩;clear hnI hnS
        have HT : Hid (TwoX w v2 (.slice a1 nI c1) (.slice a2 nS c2) (.slice a3 nI c3) (.slice a4 nS c4) bI bS) := HV2.out;clear HV2 HR;go_wp2_with fail
        go_loopw [18] (fun tk wr => ∃ (k : Nat), tk = .int .i64 k /\ k <= nI /\ Hid (TwoX w wr (.slice a1 nI c1) (.slice a2 nS c2) (.slice a3 nI c3) (.slice a4 nS c4) bI bS)) (fun tk _ => nI - (intOf tk).toNat)
        case atStart => exact ⟨0, rfl, Nat.zero_le _, HT⟩
        case round =>
          clear HT;obtain ⟨k, rfl, hkb, HR⟩ := hrel
          by_cases hkn : k < nI
          · have bk1 : (0 : Int) <= (k : Int) := (by omega);have bk2 : (k : Int) < (nI : Int) := (by omega);obtain ⟨q1, hq1, _, _, y1, _⟩ := HR.out.2.1.atK HNI.out.1 hkn;obtain ⟨q2, hq2, _, _, y2, _⟩ := HR.out.2.2.2.1.atK HNI.out.1 hkn;subst hq1 hq2;generalize bI.getD k 0 = z at *;go_upto_region 27 with fail;go_quiet (fail);go_wp2;go_roundw;case rel => exact ⟨k + 1, by go_num, by omega, HR.out.drew _⟩
            case measure => simp [intOf]; omega
          have hnk : ¬ (k : Int) < (nI : Int) := (by omega);have HT : Hid (TwoX w wr (.slice a1 nI c1) (.slice a2 nS c2) (.slice a3 nI c3) (.slice a4 nS c4) bI bS) := HR;clear HR;go_wp2_with fail
          obtain ⟨wm, hwm⟩ : ∃ wm, wm = wr := ⟨wr, rfl⟩;subst hwm;go_loopw [19] (fun tk wr => ∃ (k : Nat), tk = .int .i64 k /\ k <= nS /\ Hid (TwoX w wr (.slice a1 nI c1) (.slice a2 nS c2) (.slice a3 nI c3) (.slice a4 nS c4) bI bS)) (fun tk _ => nS - (intOf tk).toNat)
          case atStart => exact ⟨0, rfl, Nat.zero_le _, HT⟩
          case round =>
            clear HT;obtain ⟨k2, rfl, hkb2, HR⟩ := hrel
            by_cases hkn2 : k2 < nS
            · have bk1 : (0 : Int) <= (k2 : Int) := (by omega);have bk2 : (k2 : Int) < (nS : Int) := (by omega);obtain ⟨q1, hq1, _, y1⟩ := HR.out.2.2.1.atW HNI.out.2 hkn2 ⟨#[]⟩;obtain ⟨q2, hq2, _, y2⟩ := HR.out.2.2.2.2.atW HNI.out.2 hkn2 ⟨#[]⟩;subst hq1 hq2;generalize bS.getD k2 ⟨#[]⟩ = z at *;go_upto_region 32 with fail;go_quiet (fail);go_wp2;go_roundw;case rel => exact ⟨k2 + 1, by go_num, by omega, HR.out.drew _⟩
              case measure => simp [intOf]; omega
            have hnk2 : ¬ (k2 : Int) < (nS : Int) := (by omega);have HT : Hid (Below w.heap.size w wr) := HR.out.1;clear HR;go_wp2_with fail
            obtain ⟨wn, hwn⟩ : ∃ wn, wn = wr := ⟨wr, rfl⟩;subst hwn;go_loopw [20] (fun ti wr => ∃ (i : Nat), ti = .int .i64 i /\ i <= n /\ Hid (Below w.heap.size w wr)) (fun ti _ => n - (intOf ti).toNat)
            case atStart => exact ⟨0, rfl, Nat.zero_le _, HT⟩
            case round =>
              clear HT;obtain ⟨r, rfl, hrb, HR⟩ := hrel;go_wp2_with fail
              refine (HA.out.rows _ HR.out).mono ?_;rintro e u1 ⟨rfl, hu1⟩;have HU1 : Hid (Below w.heap.size w u1) := hu1;clear hu1 HR
              by_cases hrn : r < n
              · have br2 : (r : Int) < (n : Int) := (by omega);go_wp2_with fail
                refine (HA.out.look _ HU1.out f r hfn hrn).mono ?_;rintro e u2 ⟨rfl, hu2⟩;have HU2 : Hid (Below w.heap.size w u2) := hu2;clear hu2 HU1;go_wp2_with fail
                refine (HB.out.look _ HU2.out f r hfn hrn).mono ?_;rintro e u3 ⟨rfl, hu3⟩;have HU3 : Hid (Below w.heap.size w u3) := hu3;clear hu3 HU2;generalize B f r = bfr at *;go_wp2;go_roundw;case rel => exact ⟨r + 1, by go_num, by omega, HU3⟩
                case measure => simp [intOf]; omega
              have hnr : ¬ (r : Int) < (n : Int) := (by omega);go_wp2;go_roundw;case rel => exact ⟨f + 1, by go_num, by omega, HU1⟩
              case measure => simp [intOf]; omega
      have hnf : ¬ (f : Int) < (nk : Int) := (by omega);go_wp2;go_ret;exact ⟨rfl, HR.out⟩
end Go.Proofs.YtfcgnpchbcmdeaaGreat

namespace Go.Proofs.YtfcgnpchbcmdeaaGreat
open Go.RowKit
theorem ListsX.mono0 {w : World} {b q n i : Nat} {Ls : List (List Int)} (h : ListsX w b q n i Ls) : ListsX w 0 q n i Ls := by
  obtain ⟨c, h1, h2, h3⟩ := h.cur
  exact ⟨c, h1, h2, fun j hj => by
    obtain ⟨v, hv, ho⟩ := h3 j hj
    exact ⟨v, hv, ho.mono (Nat.zero_le _)⟩⟩
theorem OutD.says {w : World} {gb db m n budget : Nat} {es : List ES} {Bb : List (List Nat)} (h : OutD w gb db (makeF m n budget es Bb)) (hm : m + 1 <= 4) (hn : n <= 200) (hk : BinOk m n es Bb) (hkn : ∀ K ∈ (makeF m n budget es Bb).ks, KnOk K) {X : List XS} (hX : X.Perm (makeF m n budget es Bb).xs) (hs : SortedX X) : Says w gb n (m + 1) (strOfNums (bytesF (makeF m n budget es Bb) X)) (lisB (makeF m n budget es Bb)) (fun f => ((makeF m n budget es Bb).ks.getD f k0S).e) (fun f row => (Bb.getD f []).getD row 0) := by
  have hd := makeF_ok (budget := budget) hm hn hk;have hkl : (makeF m n budget es Bb).ks.length = m + 1 := (by rw [show (makeF m n budget es Bb).ks = _ from addsF_ks _ _ _ _ _]; exact ksF_len es Bb (m + 1));have hll : (lisB (makeF m n budget es Bb)).length = (makeF m n budget es Bb).bs.length := (by unfold lisB; rw [List.length_map]);refine ⟨fun W hW => ?_, fun W hW => ?_, fun W hW => ?_, fun W hW f hf => ?_, fun W hW f row hf hr => ?_⟩;exact (gRows_made gb db n _ W (h.below hW) hd).mono (fun _ _ h => ⟨h.1, hW.trans (h.2.mono hW.size)⟩);exact (gBytes_made gb db n _ W (h.below hW) hd hkn X hX hs).mono (fun _ _ h => ⟨h.1, hW.trans (h.2.mono hW.size)⟩);refine (gBundles_made gb db n _ W (h.below hW) hd).mono ?_;rintro e w' ⟨q, rfl, _, hL, hb⟩;rw [hll];exact ⟨q, rfl, hL.mono0, hb⟩
  exact gBounds_made gb db f n _ W (h.below hW) hd (by rw [hkl]; exact hf);exact (gLookup_bin gb db f row m n budget es Bb W (h.below hW) hm hn hk hf hr).mono (fun _ _ h => ⟨h.1, hW.trans (h.2.mono hW.size)⟩)
theorem same_made {w : World} {ga da gb db m n budget : Nat} {es : List ES} {Bb : List (List Nat)} (ha : OutD w ga da (makeF m n budget es Bb)) (hb : OutD w gb db (makeF m n budget es Bb)) (hm : m + 1 <= 4) (hn : n <= 200) (hk : BinOk m n es Bb) (hkn : ∀ K ∈ (makeF m n budget es Bb).ks, KnOk K) : Calls Tryz.prog 30 #[.pointer (some ⟨ga, 0, none⟩), .pointer (some ⟨gb, 0, none⟩), .int .i64 ((m : Int) + 1)] w fun e w' => e = .returned (.bool true) /\ Below w.heap.size w w' := by
  have hd := makeF_ok (budget := budget) hm hn hk;have hkl : (makeF m n budget es Bb).ks.length = m + 1 := (by rw [show (makeF m n budget es Bb).ks = _ from addsF_ks _ _ _ _ _]; exact ksF_len es Bb (m + 1));obtain ⟨vK, vB, vX, kvs, bvs, X, hX⟩ := ha.md
  have h1 := same_any ga gb n (m + 1) _ _ _ _ w (ha.says hm hn hk hkn hX.perm hX.sorted) (hb.says hm hn hk hkn hX.perm hX.sorted) (by omega) (by omega) (by unfold lisB; rw [List.length_map]; have := hd.b4; omega) (fun L hL => by
    unfold lisB at hL;obtain ⟨b, hb, rfl⟩ := List.mem_map.1 hL;rw [natI_len];have := hd.f4 b hb
    omega) (fun f hf => by
    have := hd.edg f (by rw [hkl]; exact hf);unfold bdI bdS;have h1 := this.lb;have h2 := this.lw;constructor;split;exact Nat.zero_le _;exact h1;split;exact h2
    exact Nat.zero_le _)
  exact h1
end Go.Proofs.YtfcgnpchbcmdeaaGreat

namespace Go.Proofs.YtfcgnpchbcmdeaaGreat
open Go.RowKit
def esD (m : Nat) (wd : Nat -> Bool) (ct : Nat -> Int) (bins : Int) (size : Nat) (s : RS) : List ES := (List.range (m + 1)).map (fun i => learnE lwF (wd i) (ct i) bins size (s.cols i) s.ws)
def bbD (m : Nat) (wd : Nat -> Bool) (ct : Nat -> Int) (bins : Int) (size : Nat) (s : RS) : List (List Nat) := (List.range (m + 1)).map (fun i => (s.cols i).map (binS (learnE lwF (wd i) (ct i) bins size (s.cols i) s.ws)))
def datD (m : Nat) (wd : Nat -> Bool) (ct : Nat -> Int) (bins : Int) (size budget : Nat) (s : RS) : DSS := makeF m s.ws.length budget (esD m wd ct bins size s) (bbD m wd ct bins size s)
section
variable {m : Nat} {wd : Nat -> Bool} {sc ct : Nat -> Int} {bins : Int} {size budget : Nat} {l : List Int} {s : RS}
theorem esD_get {i : Nat} (hi : i < m + 1) : (esD m wd ct bins size s).getD i e0S = learnE lwF (wd i) (ct i) bins size (s.cols i) s.ws := by simp [esD, List.getD_eq_getElem?_getD, hi]
theorem bbD_get {i : Nat} (hi : i < m + 1) : (bbD m wd ct bins size s).getD i [] = (s.cols i).map (binS (learnE lwF (wd i) (ct i) bins size (s.cols i) s.ws)) := by simp [bbD, List.getD_eq_getElem?_getD, hi]
structure Took (m : Nat) (s : RS) : Prop where
  inv : RInv (m + 1) s
  val : RVal (m + 1) s
theorem took (hsc : ∀ i, i < m + 1 -> wd i = false -> 0 <= sc i /\ sc i <= 3) (h : rtakes (m + 1) wd sc RS.start l 0 = .ok s) : Took m s :=
  ⟨RInv.takes (by omega) hsc l (RInv.start (show 1 <= m + 1 by omega)) h, RVal.takes (by omega) hsc l (RVal.start (m + 1)) (RInv.start (show 1 <= m + 1 by omega)) h⟩
theorem Took.binok (h : Took m s) (hc : CloseOk lwF m wd ct bins size s) : BinOk m s.ws.length (esD m wd ct bins size s) (bbD m wd ct bins size s) := by refine ⟨by simp [esD], fun i hi => ?_, fun i hi => ?_, fun i hi => ?_, fun i hi b hb => ?_⟩;rw [bbD_get hi, List.length_map]; exact h.inv.col i hi;rw [esD_get hi]; exact (hc.ok i hi).1;rw [esD_get hi]; exact (hc.ok i hi).2.2;rw [bbD_get hi] at hb;rw [esD_get hi];obtain ⟨v, _, rfl⟩ := List.mem_map.1 hb;exact binS_lt _ _
theorem Took.kn (h : Took m s) (hs : 2 <= size) (hs2 : size <= 32) (hb : 2 <= bins) (hb2 : bins <= 16) : ∀ K ∈ (datD m wd ct bins size budget s).ks, KnOk K := by intro K hK;rw [show (datD m wd ct bins size budget s).ks = ksF (esD m wd ct bins size s) (bbD m wd ct bins size s) (m + 1) from addsF_ks _ _ _ _ _] at hK;unfold ksF at hK;obtain ⟨i, hi, rfl⟩ := List.mem_map.1 hK;have hi := List.mem_range.1 hi;unfold kF;rw [esD_get hi];exact learn_kn (by rw [h.inv.col i hi]; exact h.inv.ws) hs hs2 hb hb2 (h.val.col i hi)
theorem same_fed {w : World} {ga da gb db : Nat} (ha : OutD w ga da (datD m wd ct bins size budget s)) (hb : OutD w gb db (datD m wd ct bins size budget s)) (h : Took m s) (hc : CloseOk lwF m wd ct bins size s) (hm : m + 1 <= 4) (hs : 2 <= size) (hs2 : size <= 32) (hb1 : 2 <= bins) (hb2 : bins <= 16) : Calls Tryz.prog 30 #[.pointer (some ⟨ga, 0, none⟩), .pointer (some ⟨gb, 0, none⟩), .int .i64 ((m : Int) + 1)] w fun e w' => e = .returned (.bool true) /\ Below w.heap.size w w' :=
  same_made ha hb hm h.inv.ws (h.binok hc) (h.kn hs hs2 hb1 hb2)
end
def FedA (m : Nat) (wd : Nat -> Bool) (ct : Nat -> Int) (bins : Int) (size budget len : Nat) (o : Except (Int × Nat) RS) (e : Ending) (w' : World) : Prop :=
  match o with
  | .error (z, p) => e = .returned (.tuple #[.pointer none, .int .i64 z, .int .i64 (p : Nat)])
  | .ok s => (s.wt ≠ 0 /\ e = .returned (.tuple #[.pointer none, .int .i64 2, .int .i64 (len : Nat)])) ∨
      (s.wt = 0 /\ ∃ gb db, e = .returned (.tuple #[.pointer (some ⟨gb, 0, none⟩), .int .i64 0, .int .i64 0]) /\ OutD w' gb db (datD m wd ct bins size budget s))
theorem fed_all (b : ByteArray) (fk m fc cn cc : Nat) (ca : Option Addr) (cz : List Int) (bins : Int) (size budget : Nat) (wd : Nat -> Bool) (sc ct : Nat -> Int) (w : World) (hF : Feats w fk 0 (m + 1) wd sc ct) (hc : confB (m + 1) bins size budget wd sc ct = true) (hcut : IntsV w ca cn cz) (hcn : cn <= 9223372036854775807) (hb : b.size <= 200000000000000) : Calls Tryz.prog 25 #[.agg #[.slice (some ⟨fk, 0, none⟩) (m + 1) fc, .int .i64 bins, .int .i64 (size : Nat), .int .i64 (budget : Nat)], .string b, .slice ca cn cc] w fun e w' => FedA m wd ct bins size budget b.size (rtakes (m + 1) wd sc RS.start (bytesL b) 0) e w' /\ Below w.heap.size w w' := by
  obtain ⟨h1, h4, c1, c2, c3, c4, c5, c6, hfe⟩ := conf_parts hc
  have hsc : ∀ i, i < m + 1 -> wd i = false -> 0 <= sc i /\ sc i <= 3 := fun i hi hw => by have := hfe i hi;unfold featB at this;rw [hw] at this;simp at this;omega
  exact keepFed_any lwF b fk 0 m fc cn cc ca cz bins size budget wd sc ct w hF hc hcut hcn hb (fun s hs _ => closeOk_any hsc (by omega) (by omega) (by omega) (by omega) hs)
end Go.Proofs.YtfcgnpchbcmdeaaGreat

namespace Go.Proofs.YtfcgnpchbcmdeaaGreat
open Go.RowKit
structure RawR where
  wt : Int
  ms : List Bool
  ns : List Int
  ss : List ByteArray
def goneR (x : Int) : Bool := decide (pickK x 3 = 0 /\ pickK (x.tdiv 3) 4 = 0)
def xR (l : List Int) (at_ i : Nat) : Int := l.getD (at_ + 1 + i) 0
def txR (cs l : List Int) (at_ i : Nat) : ByteArray := if goneR (xR l at_ i) = true then ⟨#[]⟩ else fdT (cfW cs i) (cfC cs i) ((xR l at_ i).tdiv 3)
def wtR (l : List Int) (at_ : Nat) : Int := 1 + ((pickK (l.getD at_ 0) 9 : Nat) : Int)
def fieldsT (cs l : List Int) (at_ : Nat) (s : ByteArray) : Nat -> ByteArray
  | 0 => s
  | i + 1 => (fieldsT cs l at_ s i ++ ⟨#[44]⟩) ++ txR cs l at_ i
def rowR (cs l : List Int) (at_ k : Nat) : RawR := ⟨wtR l at_, (List.range k).map fun i => goneR (xR l at_ i), (List.range k).map fun i => fdV (cfW cs i) (cfC cs i) ((xR l at_ i).tdiv 3), (List.range k).map fun i => fdS (cfW cs i) ((xR l at_ i).tdiv 3)⟩
def textR (cs l : List Int) : Nat -> ByteArray
  | 0 => ⟨#[]⟩
  | r + 1 => fieldsT cs l (r * (cfM cs + 2)) (textR cs l r ++ digS (wtR l (r * (cfM cs + 2)))) (cfM cs + 1) ++ ⟨#[10]⟩
def rowsR (cs l : List Int) (r : Nat) : List RawR := (List.range r).map fun j => rowR cs l (j * (cfM cs + 2)) (cfM cs + 1)
theorem rowsR_succ (cs l : List Int) (r : Nat) : rowsR cs l (r + 1) = rowsR cs l r ++ [rowR cs l (r * (cfM cs + 2)) (cfM cs + 1)] := by simp [rowsR, List.range_succ]
theorem rowR_succ (cs l : List Int) (at_ k : Nat) : rowR cs l at_ (k + 1) = ⟨wtR l at_, (rowR cs l at_ k).ms ++ [goneR (xR l at_ k)], (rowR cs l at_ k).ns ++ [fdV (cfW cs k) (cfC cs k) ((xR l at_ k).tdiv 3)], (rowR cs l at_ k).ss ++ [fdS (cfW cs k) ((xR l at_ k).tdiv 3)]⟩ := by simp [rowR, List.range_succ]
def manyR (cs l : List Int) : Nat := min 150 (l.length / (cfM cs + 2))
theorem wordT_size (p : Nat) : (wordT p).size <= 6 := by
  unfold wordT
  by_cases h : p < 6
  · rcases (show p = 0 ∨ p = 1 ∨ p = 2 ∨ p = 3 ∨ p = 4 ∨ p = 5 by omega) with rfl | rfl | rfl | rfl | rfl | rfl <;> decide
  rw [List.getD_eq_getElem?_getD, List.getElem?_eq_none (by simp; omega)]; decide
theorem kN_in (n : Int) : -30 <= kN n /\ kN n <= 30 := by have := pickK_lt n (show 0 < 61 by omega);unfold kN; omega
theorem fdT_size (wd : Bool) (sc n : Int) : (fdT wd sc n).size <= 6 := by have hk := kN_in n;have hd := digS_size (z := kN n) (by omega) (by omega);unfold fdT;split;exact wordT_size _;split;rw [ByteArray.size_append];have e : (⟨#[46, 53]⟩ : ByteArray).size = 2 := rfl;omega;omega
theorem txR_size (cs l : List Int) (at_ i : Nat) : (txR cs l at_ i).size <= 6 := by unfold txR;split;decide;exact fdT_size _ _ _
theorem fieldsT_size (cs l : List Int) (at_ : Nat) (s : ByteArray) : ∀ k, (fieldsT cs l at_ s k).size <= s.size + 7 * k
  | 0 => by simp [fieldsT]
  | k + 1 => by have h1 := fieldsT_size cs l at_ s k;have h2 := txR_size cs l at_ k;have e : (⟨#[44]⟩ : ByteArray).size = 1 := rfl;simp only [fieldsT, ByteArray.size_append];omega
theorem wtR_in (l : List Int) (at_ : Nat) : 1 <= wtR l at_ /\ wtR l at_ <= 9 := by have := pickK_lt (l.getD at_ 0) (show 0 < 9 by omega);unfold wtR; omega
theorem textR_size (cs l : List Int) : ∀ r, (textR cs l r).size <= 40 * r
  | 0 => by simp [textR]; decide
  | r + 1 => by have h1 := textR_size cs l r;have hm := (cf_in cs).2.2.2.2.2;have hw := wtR_in l (r * (cfM cs + 2));have h2 := digS_size (z := wtR l (r * (cfM cs + 2))) (by omega) (by omega);have h3 := fieldsT_size cs l (r * (cfM cs + 2)) (textR cs l r ++ digS (wtR l (r * (cfM cs + 2)))) (cfM cs + 1);have e : (⟨#[10]⟩ : ByteArray).size = 1 := rfl;simp only [textR, ByteArray.size_append] at *;omega
structure RawV where
  r : RawR
  vm : Value
  vn : Value
  vs : Value
def cellsR (p : RawV) : List Value := [.int .i64 p.r.wt, p.vm, p.vn, p.vs]
def flatRw : List RawV -> List Value
  | [] => []
  | p :: L => cellsR p ++ flatRw L
theorem flatRw_append (A B : List RawV) : flatRw (A ++ B) = flatRw A ++ flatRw B := by
  induction A with
  | nil => rfl
  | cons x A ih => simp [flatRw, ih]
structure RowsX (w : World) (base : Nat) (v : Value) (L : List RawV) : Prop where
  row : w.ownsRow base 103 4 v L.length (flatRw L)
  each : ∀ p ∈ L, OwnO w base p.vm p.r.ms /\ OwnI w base p.vn p.r.ns /\ OwnS w base p.vs p.r.ss
theorem RowsX.nil (w : World) (base : Nat) : RowsX w base (.slice none 0 0) [] := ⟨World.ownsRow_nil _ _ _ _, by simp⟩
theorem RowsX.below {w w' : World} {base : Nat} {v : Value} {L : List RawV} (h : RowsX w base v L) (hb : Below w.heap.size w w') : RowsX w' base v L := by have t := Touch.of_below (S := fun _ => False) hb;exact ⟨t.row h.row (fun _ _ => id), fun p hp => ⟨t.row (h.each p hp).1 (fun _ _ => id), t.row (h.each p hp).2.1 (fun _ _ => id), t.row (h.each p hp).2.2 (fun _ _ => id)⟩⟩
theorem RowsX.shape {w : World} {base : Nat} {v : Value} {L : List RawV} (h : RowsX w base v L) : ∃ a c, v = .slice a L.length c := by
  rcases h.row.2 with ⟨rfl, h0⟩ | ⟨g, cap, cur, rfl, _⟩
  exact ⟨none, 0, by rw [h0]⟩;exact ⟨_, cap, rfl⟩
theorem RowsX.more {w w' : World} {base : Nat} {v v' : Value} {L : List RawV} {p : RawV} (h : RowsX w base v L) (hp : OwnO w base p.vm p.r.ms /\ OwnI w base p.vn p.r.ns /\ OwnS w base p.vs p.r.ss) (g : w.grownBy w' v.ownBlock) (r : w'.ownsRow base 103 4 v' (L.length + 1) (flatRw L ++ cellsR p)) : RowsX w' base v' (L ++ [p]) := by
  have t : Touch (fun q => v.ownBlock = some q) w w' := (Touch.refl _ w).grown g (fun k hk _ => hk)
  have nt : ∀ {b2 e size m : Nat} {u : Value} {xs : List Value}, w.ownsRow b2 e size u m xs -> e ≠ 103 -> ∀ q, u.ownBlock = some q -> ¬ v.ownBlock = some q := fun hr hne q hq e => by obtain ⟨cur, hc⟩ := row_type hr hq;exact row_ne h.row e hc (Ne.symm hne) rfl
  refine ⟨?_, fun q hq => ?_⟩
  · rw [flatRw_append, List.length_append]
    simpa [flatRw] using r
  have hq2 : OwnO w base q.vm q.r.ms /\ OwnI w base q.vn q.r.ns /\ OwnS w base q.vs q.r.ss := by
    rcases List.mem_append.1 hq with e | e
    exact h.each q e;simp only [List.mem_singleton] at e;rw [e]; exact hp
  exact ⟨t.row hq2.1 (nt hq2.1 (by decide)), t.row hq2.2.1 (nt hq2.2.1 (by decide)), t.row hq2.2.2 (nt hq2.2.2 (by decide))⟩
def RowsM (w : World) (base : Nat) (v : Value) (Rs : List RawR) : Prop := ∃ L, L.map RawV.r = Rs /\ RowsX w base v L
structure RowU (w : World) (b : Nat) (vm vn vs : Value) (R : RawR) : Prop where
  blk : w.heap[b]? = some (.cells #[.int .i64 R.wt, vm, vn, vs] 103 (0, 0))
  om : OwnO w b vm R.ms
  on : OwnI w b vn R.ns
  os : OwnS w b vs R.ss
theorem info103 : (Tryz.prog.info? 103).map (fun i => (i.zero, i.size, i.bytes)) = some (some (.agg #[.int .i64 0, .slice none 0 0, .slice none 0 0, .slice none 0 0]), 4, 80) := by kernel_rfl
section
variable {w w4 : World} {b : Nat} {vm vn vs v4 : Value} {R : RawR}
theorem RowU.putM {x : Bool} (h : RowU w b vm vn vs R) (g : w.grownBy w4 vm.ownBlock) (r : OwnO w4 b v4 (R.ms ++ [x])) : RowU (w4.setCell ⟨b, 1, none⟩ v4) b v4 vn vs ⟨R.wt, R.ms ++ [x], R.ns, R.ss⟩ /\ w4.heap[b]? = some (.cells #[.int .i64 R.wt, vm, vn, vs] 103 (0, 0)) := by
  have t : Touch (fun q => vm.ownBlock = some q) w w4 := (Touch.refl _ w).grown g (fun k hk _ => hk)
  have nt : ∀ {b2 e size m : Nat} {u : Value} {xs : List Value}, w.ownsRow b2 e size u m xs -> e ≠ 4 -> ∀ q, u.ownBlock = some q -> ¬ vm.ownBlock = some q := fun hr hne q hq e => by obtain ⟨cur, hc⟩ := row_type hr hq;exact row_ne h.om e hc (Ne.symm hne) rfl
  have hb4 := t.at_ h.blk (fun e => row_ne h.om e h.blk (by decide) rfl);exact ⟨⟨heap_setCell_same _ b 1 _ 103 _ hb4, own_put' r hb4 (by decide), own_put' (t.row h.on (nt h.on (by decide))) hb4 (by decide), own_put' (t.row h.os (nt h.os (by decide))) hb4 (by decide)⟩, hb4⟩
theorem RowU.putN {x : Int} (h : RowU w b vm vn vs R) (g : w.grownBy w4 vn.ownBlock) (r : OwnI w4 b v4 (R.ns ++ [x])) : RowU (w4.setCell ⟨b, 2, none⟩ v4) b vm v4 vs ⟨R.wt, R.ms, R.ns ++ [x], R.ss⟩ /\ w4.heap[b]? = some (.cells #[.int .i64 R.wt, vm, vn, vs] 103 (0, 0)) := by
  have t : Touch (fun q => vn.ownBlock = some q) w w4 := (Touch.refl _ w).grown g (fun k hk _ => hk)
  have nt : ∀ {b2 e size m : Nat} {u : Value} {xs : List Value}, w.ownsRow b2 e size u m xs -> e ≠ 3 -> ∀ q, u.ownBlock = some q -> ¬ vn.ownBlock = some q := fun hr hne q hq e => by obtain ⟨cur, hc⟩ := row_type hr hq;exact row_ne h.on e hc (Ne.symm hne) rfl
  have hb4 := t.at_ h.blk (fun e => row_ne h.on e h.blk (by decide) rfl);exact ⟨⟨heap_setCell_same _ b 2 _ 103 _ hb4, own_put' (t.row h.om (nt h.om (by decide))) hb4 (by decide), own_put' r hb4 (by decide), own_put' (t.row h.os (nt h.os (by decide))) hb4 (by decide)⟩, hb4⟩
theorem RowU.putS {x : ByteArray} (h : RowU w b vm vn vs R) (g : w.grownBy w4 vs.ownBlock) (r : OwnS w4 b v4 (R.ss ++ [x])) : RowU (w4.setCell ⟨b, 3, none⟩ v4) b vm vn v4 ⟨R.wt, R.ms, R.ns, R.ss ++ [x]⟩ /\ w4.heap[b]? = some (.cells #[.int .i64 R.wt, vm, vn, vs] 103 (0, 0)) := by
  have t : Touch (fun q => vs.ownBlock = some q) w w4 := (Touch.refl _ w).grown g (fun k hk _ => hk)
  have nt : ∀ {b2 e size m : Nat} {u : Value} {xs : List Value}, w.ownsRow b2 e size u m xs -> e ≠ 9 -> ∀ q, u.ownBlock = some q -> ¬ vs.ownBlock = some q := fun hr hne q hq e => by obtain ⟨cur, hc⟩ := row_type hr hq;exact row_ne h.os e hc (Ne.symm hne) rfl
  have hb4 := t.at_ h.blk (fun e => row_ne h.os e h.blk (by decide) rfl);exact ⟨⟨heap_setCell_same _ b 3 _ 103 _ hb4, own_put' (t.row h.om (nt h.om (by decide))) hb4 (by decide), own_put' (t.row h.on (nt h.on (by decide))) hb4 (by decide), own_put' r hb4 (by decide)⟩, hb4⟩
theorem RowU.below {w' : World} (h : RowU w b vm vn vs R) (hb : Below w.heap.size w w') : RowU w' b vm vn vs R := by have t := Touch.of_below (S := fun _ => False) hb;exact ⟨t.at_ h.blk id, t.row h.om (fun _ _ => id), t.row h.on (fun _ _ => id), t.row h.os (fun _ _ => id)⟩
end
end Go.Proofs.YtfcgnpchbcmdeaaGreat
