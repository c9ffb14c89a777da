import Derived.Test.YtfcgnpchbcmdeaaGreatZfbn
import Derived.Test.YtfcgnpchbcmdeaaGreatZfbl
namespace Go.Proofs.YtfcgnpchbcmdeaaGreat
open Go.RowKit
def plW (ww : List ByteArray) (x : ByteArray) : Nat := ww.findIdx (fun y => decide (y = x))
def wantK (ww : List ByteArray) (x : ByteArray) (k : Nat) : Nat := if plW ww x < k then plW ww x else ww.length
theorem plW_le (ww : List ByteArray) (x : ByteArray) : plW ww x <= ww.length := List.findIdx_le_length
theorem plW_none {ww : List ByteArray} {x : ByteArray} (h : x ∉ ww) : plW ww x = ww.length := by unfold plW;rw [List.findIdx_eq_length];intro y hy;simp only [decide_eq_false_iff_not];rintro rfl;exact h hy
theorem wantK_end (ww : List ByteArray) (x : ByteArray) : wantK ww x ww.length = plW ww x := by have := plW_le ww x;unfold wantK;split <;> omega
theorem plW_mem {ww : List ByteArray} {x : ByteArray} (h : plW ww x = ww.length) : x ∉ ww := fun hx => by have : plW ww x < ww.length := List.findIdx_lt_length_of_exists ⟨x, hx, by simp⟩;omega
theorem wantK_succ {ww : List ByteArray} (hn : ww.Nodup) {k : Nat} (hk : k < ww.length) (x : ByteArray) : wantK ww x (k + 1) = if ww.getD k ⟨#[]⟩ = x then k else wantK ww x k := by
  have eg : ww.getD k ⟨#[]⟩ = ww[k] := (by simp [List.getD, hk]);unfold wantK
  by_cases h : ww.getD k ⟨#[]⟩ = x
  have hp : plW ww x = k := (by unfold plW;rw [List.findIdx_eq hk];refine ⟨by rw [<- eg, h]; simp, fun j hj => ?_⟩;simp only [decide_eq_false_iff_not];intro h3;have := (List.pairwise_iff_getElem.1 hn) j k (by omega) hk hj;rw [h3, <- eg, h] at this;exact this rfl);rw [if_pos h, hp, if_pos (by omega)]
  have hp : plW ww x ≠ k := fun hp => by unfold plW at hp;have := ((List.findIdx_eq hk).1 hp).1;rw [<- eg] at this;exact h (of_decide_eq_true this)
  rw [if_neg h];split <;> split <;> omega
def binW (ww : List ByteArray) (R : RawR) (f : Nat) : Nat := if R.ms.getD f false = true then ww.length + 1 else plW ww (R.ss.getD f ⟨#[]⟩)
set_option maxRecDepth 100000 in
set_option maxHeartbeats 16000000 in
theorem wordsFit_any (gb fk fm fc f n cap base wc bins size budget : Nat) (ct : Int) (a wa : Option Addr) (Rs : List RawR) (ww : List ByteArray) (w : World) (hR : RowsM w base (.slice a n cap) Rs) (hn : n = Rs.length) (hn2 : n <= 200) (hf : HasF Rs f) (hfl : f <= 1000) (hwt : ∀ R ∈ Rs, 0 <= R.wt /\ R.wt <= 99) (hfm : f < fm) (hfk : w.cell? ⟨fk, f * 3 + 2, none⟩ = some (.int .i64 ct)) (hs : OwnS w 0 (.slice wa ww.length wc) ww) (hlw : ww.length <= 1000) (h1 : ww.length <= bins) (h2 : ∀ x ∈ ww, ct <= wtW Rs f x) (h3 : ww.Pairwise (fun x y => wtW Rs f y < wtW Rs f x ∨ wtW Rs f y = wtW Rs f x /\ lessS x y)) (h4 : ww.Nodup) (h5 : ∀ i, i < n -> (Rs.getD i r0R).ms.getD f false = false -> (Rs.getD i r0R).ss.getD f ⟨#[]⟩ ∉ ww -> ww.length < bins -> wtW Rs f ((Rs.getD i r0R).ss.getD f ⟨#[]⟩) < ct) (hL : ∀ W, Below w.heap.size w W -> ∀ i, i < n -> Calls Tryz.prog 44 #[.pointer (some ⟨gb, 0, none⟩), .int .i64 (i : Nat), .int .i64 (f : Nat)] W fun e w' => e = .returned (.tuple #[.int .i64 (binW ww (Rs.getD i r0R) f : Nat), .int .i64 0]) /\ Below W.heap.size W w') : Calls Tryz.prog 28 #[.pointer (some ⟨gb, 0, none⟩), .slice a n cap, .agg #[.slice (some ⟨fk, 0, none⟩) fm fc, .int .i64 (bins : Nat), .int .i64 (size : Nat), .int .i64 (budget : Nat)], .int .i64 (f : Nat), .slice wa ww.length wc] w fun e w' => e = .returned (.bool true) /\ Below w.heap.size w w' := by
  have HN : Hid (n = Rs.length) := hn;have HF : Hid (HasF Rs f) := hf;have hfl2 := cellLt hfk;obtain ⟨w0, hw0⟩ : ∃ w0, w0 = w.alloc (.cells #[.slice (some ⟨fk, 0, none⟩) fm fc, .int .i64 (bins : Nat), .int .i64 (size : Nat), .int .i64 (budget : Nat)] 37) := ⟨_, rfl⟩;have HR0 : Hid (w0.heap[w.heap.size]? = some (.cells #[.slice (some ⟨fk, 0, none⟩) fm fc, .int .i64 (bins : Nat), .int .i64 (size : Nat), .int .i64 (budget : Nat)] 37 (0, 0)) /\ w0.heap.size = w.heap.size + 1) := ⟨by rw [hw0]; exact heap_alloc_new w _, by rw [hw0]; simp⟩;have hB0 : Below w.heap.size w w0 := (by rw [hw0]; exact (Below.refl _ _).alloc (Nat.le_refl _) _);have HBW : Hid (∀ W, Below w0.heap.size w0 W -> Below w.heap.size w W) := fun W hW => hB0.trans (hW.mono (by have := HR0.out.2; omega));have HRO : Hid (∀ W, Below w0.heap.size w0 W -> RowsM W base (.slice a n cap) Rs) := fun W hW => hR.below (HBW.out W hW)
  have HC : Hid (∀ W, Below w0.heap.size w0 W -> W.cell? ⟨w.heap.size, 0, none⟩ = some (.slice (some ⟨fk, 0, none⟩) fm fc) /\ W.cell? ⟨w.heap.size, 1, none⟩ = some (.int .i64 (bins : Nat)) /\ W.cell? ⟨fk, f * 3 + 2, none⟩ = some (.int .i64 ct)) := fun W hW => by have hlt : w.heap.size < w0.heap.size := (by have := HR0.out.2; omega);have hX := (hW.block _ hlt).trans HR0.out.1;exact ⟨cell_of_row _ _ 0 _ 37 (0, 0) hX, cell_of_row _ _ 1 _ 37 (0, 0) hX, ((HBW.out W hW).cell (p := ⟨fk, f * 3 + 2, none⟩) hfl2).trans hfk⟩
  have HLK : Hid (∀ W, Below w0.heap.size w0 W -> ∀ i, i < n -> Calls Tryz.prog 44 #[.pointer (some ⟨gb, 0, none⟩), .int .i64 (i : Nat), .int .i64 (f : Nat)] W fun e w' => e = .returned (.tuple #[.int .i64 (binW ww (Rs.getD i r0R) f : Nat), .int .i64 0]) /\ Below W.heap.size W w') := fun W hW i hi => hL W (HBW.out W hW) i hi;have H54 : Hid (∀ W, Below w0.heap.size w0 W -> ∀ s, Calls Tryz.prog 54 #[.slice a n cap, .int .i64 (f : Nat), .string s] W fun e w' => e = .returned (.int .i64 (wtW Rs f s)) /\ w' = W) := fun W hW s => weight_any a n cap f base Rs s W (HRO.out W hW) HN.out hn2 HF.out hwt hfl;obtain ⟨nw, hnw⟩ : ∃ nw, nw = ww.length := ⟨_, rfl⟩;have HNW : Hid (ww.length = nw) := hnw.symm
  have HSW : Hid (∀ W, Below w0.heap.size w0 W -> OwnS W 0 (.slice wa nw wc) ww) := fun W hW => by rw [hnw]; exact hs.below (HBW.out W hW)
  have H2 : Hid (∀ x ∈ ww, ct <= wtW Rs f x) := h2;have H3 : Hid (ww.Pairwise (fun x y => wtW Rs f y < wtW Rs f x ∨ wtW Rs f y = wtW Rs f x /\ lessS x y)) := h3;have H4 : Hid (ww.Nodup) := h4;have H5 : Hid (∀ i, i < n -> (Rs.getD i r0R).ms.getD f false = false -> plW ww ((Rs.getD i r0R).ss.getD f ⟨#[]⟩) = nw -> nw < bins -> wtW Rs f ((Rs.getD i r0R).ss.getD f ⟨#[]⟩) < ct) := fun i hi hm hp hb => h5 i hi hm (plW_mem (by rw [hp, hnw])) (by rw [<- hnw]; exact hb);rw [<- hnw] at h1 hlw ⊢;clear hR hn hf hwt hfk hs h2 h3 h4 h5 hL hnw hB0 hfl2;have g1 : ¬ (bins : Int) < (nw : Int) := (by omega);have bf1 : (0 : Int) <= (f : Int) := (by omega);have bf2 : (f : Int) < (fm : Int) := (by omega);go_enter Tryz.func28, Tryz.ntmps28;go_wp2_with fail
  rw [<- hw0];clear hw0;go_loopw [11] (fun tk wr => ∃ k : Nat, k <= nw /\ tk = .int .i64 k /\ Hid (Below w0.heap.size w0 wr)) (fun tk _ => nw - (intOf tk).toNat)
  case atStart => exact ⟨0, Nat.zero_le _, rfl, Below.refl _ _⟩
  case round =>
    obtain ⟨k, hk, rfl, HB⟩ := hrel
    by_cases hkn : k < nw
    · have bk1 : (0 : Int) <= (k : Int) := (by omega);have bk2 : (k : Int) < (nw : Int) := (by omega);have HCX : Hid (∀ W, Below w0.heap.size w0 W -> ∀ j, j < nw -> ∃ q, wa = some ⟨q, 0, none⟩ /\ q < W.heap.size /\ W.cell? ⟨q, j, none⟩ = some (.string (ww.getD j ⟨#[]⟩))) := fun W hW j hj => (HSW.out W hW).atW HNW.out hj ⟨#[]⟩;obtain ⟨qw, rfl, _, x1⟩ := HCX.out wr HB.out k hkn;obtain ⟨c0, c1, c2⟩ := HC.out wr HB.out;have hmem : ww.getD k ⟨#[]⟩ ∈ ww := (by rw [List.getD_eq_getElem?_getD, List.getElem?_eq_getElem (by rw [HNW.out]; exact hkn)]; exact List.getElem_mem _);have hge : ¬ wtW Rs f (ww.getD k ⟨#[]⟩) < ct := by have := H2.out _ hmem; omega
      have HUP : Hid (∀ j, k = j + 1 -> wtW Rs f (ww.getD k ⟨#[]⟩) < wtW Rs f (ww.getD j ⟨#[]⟩) ∨ wtW Rs f (ww.getD k ⟨#[]⟩) = wtW Rs f (ww.getD j ⟨#[]⟩) /\ lessS (ww.getD j ⟨#[]⟩) (ww.getD k ⟨#[]⟩)) := fun j hj => by have h1 := HNW.out;have := List.pairwise_iff_getElem.1 H3.out j k (by omega) (by omega) (by omega);rw [List.getD_eq_getElem?_getD, List.getD_eq_getElem?_getD, List.getElem?_eq_getElem (by omega), List.getElem?_eq_getElem (by omega)];exact this
      have h54 := H54.out wr HB.out (ww.getD k ⟨#[]⟩);generalize ww.getD k ⟨#[]⟩ = x at *;generalize wtW Rs f x = N1 at *;clear hmem;go_wp2_with fail
      refine h54.mono ?_;clear h54;rintro e w1 ⟨rfl, hw1⟩;obtain rfl := hw1.symm
      cases k with
      | zero =>
        go_wp2;go_roundw;case rel => exact ⟨1, by omega, by go_num, HB.out⟩
        case measure => simp [intOf]; omega
      | succ j =>
        obtain ⟨q2, e2, _, x0⟩ := HCX.out wr HB.out j (by omega);injection e2 with e2;injection e2 with e2;subst e2;have h54 := H54.out wr HB.out (ww.getD j ⟨#[]⟩);have hup := HUP.out j rfl;have b1 : (0 : Int) <= (j : Int) + 1 - 1 := (by omega);have b2 : (j : Int) + 1 - 1 < (nw : Int) := (by omega);have b3 : (0 : Int) < (j : Int) + 1 := (by omega);generalize ww.getD j ⟨#[]⟩ = y at *;generalize wtW Rs f y = N0 at *;clear HUP HCX;have HUP : Hid (N1 < N0 ∨ N1 = N0 /\ lessS y x) := hup;clear hup;go_wp2_with fail
        refine h54.mono ?_;clear h54;rintro e w2 ⟨rfl, hw2⟩;obtain rfl := hw2.symm
        rcases HUP.out with hlt | ⟨heq, hls⟩
        · have d1 : decide (N0 < N1) = false := (by simp; omega);have d2 : (N0 == N1) = false := (by rw [beq_eq_false_iff_ne]; omega);clear hlt;go_upto_region 11 with fail;go_big_quiet (fail);go_wp2;go_roundw;case rel => exact ⟨j + 1 + 1, by omega, by go_num, below_drewN HB.out _⟩
          case measure => simp [intOf]; omega
        subst heq;have d1 : decide (N1 < N1) = false := (by simp);have d2 : (N1 == N1) = true := (by simp);have d3 : Op.bytesLess y.toList x.toList = true := (by rw [less_eq]; exact decide_eq_true hls);go_upto_region 11 with fail;go_big_quiet (fail);go_wp2;go_roundw;case rel => exact ⟨j + 1 + 1, by omega, by go_num, below_drewN HB.out _⟩
        case measure => simp [intOf]; omega
    have hnk : ¬ (k : Int) < (nw : Int) := (by omega);clear H2 H3;go_wp2_with fail
    go_loopw [14] (fun ti wr => ∃ i : Nat, i <= n /\ ti = .int .i64 i /\ Hid (Below w0.heap.size w0 wr)) (fun ti _ => n - (intOf ti).toNat)
    case atStart => exact ⟨0, Nat.zero_le _, rfl, HB.out⟩
    case round =>
      clear HB;obtain ⟨i, hi, rfl, HB⟩ := hrel
      by_cases hin : i < n
      · have bi1 : (0 : Int) <= (i : Int) := (by omega);have bi2 : (i : Int) < (n : Int) := (by omega);have HTB : Hid (∀ W, Below wr.heap.size wr W -> Below w0.heap.size w0 W) := fun W hW => HB.out.trans (hW.mono HB.out.size);obtain ⟨g, mg, ml, mc, ng, nl, nc, sg, sl, sc, rfl, hA⟩ := (HRO.out wr HB.out).at_ HN.out HF.out hin;obtain ⟨hg, c0, c1, c2, c3, l1, l2, l3, m1, m2, m3⟩ := hA;have hmg := cellLt m1;have hsg := cellLt m3
        have HCC : Hid (∀ W, Below wr.heap.size wr W -> W.cell? ⟨g, i * 4 + 1, none⟩ = some (.slice (some ⟨mg, 0, none⟩) ml mc) /\ W.cell? ⟨mg, f, none⟩ = some (.bool ((Rs.getD i r0R).ms.getD f false)) /\ W.cell? ⟨g, i * 4 + 3, none⟩ = some (.slice (some ⟨sg, 0, none⟩) sl sc) /\ W.cell? ⟨sg, f, none⟩ = some (.string ((Rs.getD i r0R).ss.getD f ⟨#[]⟩))) := fun W hW => ⟨(hW.cell (p := ⟨g, i * 4 + 1, none⟩) hg).trans c1, (hW.cell (p := ⟨mg, f, none⟩) hmg).trans m1, (hW.cell (p := ⟨g, i * 4 + 3, none⟩) hg).trans c3, (hW.cell (p := ⟨sg, f, none⟩) hsg).trans m3⟩;have HLJ : Hid (∀ W, Below wr.heap.size wr W -> Calls Tryz.prog 44 #[.pointer (some ⟨gb, 0, none⟩), .int .i64 (i : Nat), .int .i64 (f : Nat)] W fun e w' => e = .returned (.tuple #[.int .i64 (binW ww (Rs.getD i r0R) f : Nat), .int .i64 0]) /\ Below W.heap.size W w') := fun W hW => HLK.out W (HTB.out W hW) i hin
        have HBR : Hid (binW ww (Rs.getD i r0R) f = if (Rs.getD i r0R).ms.getD f false = true then nw + 1 else plW ww ((Rs.getD i r0R).ss.getD f ⟨#[]⟩)) := (by show _ = _; unfold binW; rw [HNW.out]);have HH5 := H5.out i hin;have bm : (f : Int) < (ml : Int) := (by omega);have bs : (f : Int) < (sl : Int) := (by omega);generalize (Rs.getD i r0R).ms.getD f false = mb at *;generalize (Rs.getD i r0R).ss.getD f ⟨#[]⟩ = x at *;generalize binW ww (Rs.getD i r0R) f = R at *;have HP : Hid (wantK ww x nw = plW ww x /\ plW ww x <= nw) := ⟨by rw [<- HNW.out]; exact wantK_end ww x, by rw [<- HNW.out]; exact plW_le ww x⟩;have HH : Hid (mb = false -> plW ww x = nw -> nw < bins -> wtW Rs f x < ct) := HH5;clear c0 c1 c2 c3 m1 m2 m3 l1 l2 l3 hg hmg hsg HH5;go_wp2_with fail
        obtain ⟨wk, hwk⟩ : ∃ wk, wk = wr := ⟨_, rfl⟩;subst hwk;go_loopw [15, 16] (fun tw tk wr => ∃ k : Nat, k <= nw /\ tk = .int .i64 k /\ tw = .int .i64 (wantK ww x k : Nat) /\ Hid (Below wk.heap.size wk wr)) (fun _ tk _ => nw - (intOf tk).toNat)
        case atStart => exact ⟨0, Nat.zero_le _, rfl, by rw [<- HNW.out]; rfl, Below.refl _ _⟩
        case round =>
          obtain ⟨k, hk, rfl, rfl, HBJ⟩ := hrel;obtain ⟨e1, e2, e3, e4⟩ := HCC.out wr HBJ.out
          by_cases hkn : k < nw
          · have bk1 : (0 : Int) <= (k : Int) := (by omega);have bk2 : (k : Int) < (nw : Int) := (by omega);obtain ⟨qw, rfl, _, x1⟩ := (HSW.out wr (HTB.out wr HBJ.out)).atW HNW.out hkn ⟨#[]⟩;have HNS : Hid (wantK ww x (k + 1) = if ww.getD k ⟨#[]⟩ = x then k else wantK ww x k) := wantK_succ H4.out (by rw [HNW.out]; exact hkn) x;generalize wantK ww x k = A at *;generalize ww.getD k ⟨#[]⟩ = y at *;clear e1 e2
            by_cases hy : y = x
            · have HQ : Hid (wantK ww x (k + 1) = k) := (by show _ = _; rw [HNS.out, if_pos hy]);clear HNS;subst hy;go_upto_region 20 with fail;go_big_quiet (fail);go_wp2;go_roundw;case rel => exact ⟨k + 1, by omega, by go_num, by rw [HQ.out], below_drewN HBJ.out _⟩
              case measure => simp [intOf]; omega
            have HQ : Hid (wantK ww x (k + 1) = A) := (by show _ = _; rw [HNS.out, if_neg hy]);have hyb := strNe hy;clear HNS;go_upto_region 20 with fail;go_big_quiet (fail);go_wp2;go_roundw;case rel => exact ⟨k + 1, by omega, by go_num, by rw [HQ.out], below_drewN HBJ.out _⟩
            case measure => simp [intOf]; omega
          have hnk : ¬ (k : Int) < (nw : Int) := (by omega);have hkk : k = nw := (by omega);subst hkk;rw [HP.out.1];obtain ⟨c0, c1, c2⟩ := HC.out wr (HTB.out wr HBJ.out);have HW54 : Hid (∀ d, Calls Tryz.prog 54 #[.slice (some ⟨g, 0, none⟩) n cap, .int .i64 (f : Nat), .string x] (wr.drewN d) fun e w' => e = .returned (.int .i64 (wtW Rs f x)) /\ w' = wr.drewN d) := fun d => H54.out (wr.drewN d) (HTB.out _ (below_drewN HBJ.out _)) x;have hbr := HBR.out;have hF := HP.out.2;have HHH : Hid (mb = false -> plW ww x = k -> k < bins -> wtW Rs f x < ct) := HH.out;clear hk hkn HBR HP HH;generalize plW ww x = F at *;generalize wtW Rs f x = NX at *
          have HTAIL : Hid (∀ d W2, Below (wr.drewN d).heap.size (wr.drewN d) W2 -> Below w0.heap.size w0 W2) := fun d W2 h2 => by have hd : Below wk.heap.size wk (wr.drewN d) := below_drewN HBJ.out _;exact (HTB.out _ (hd.trans (h2.mono hd.size)))
          cases mb with
          | true =>
            have HQ : Hid (R = k + 1) := (by rw [if_pos rfl] at hbr; exact hbr);clear hbr HHH
            rcases Nat.lt_or_ge F k with hFk | hFk
            · have q1 : ((F : Int) == (k : Int)) = false := (by rw [beq_eq_false_iff_ne]; omega);go_upto_region 22 with fail;go_big_quiet (first | (go_at_call 54; exact (HW54.out _).mono (fun _ _ h => ⟨h.1, _, h.2⟩)));go_wp2_with fail
              refine (HLJ.out _ (below_drewN HBJ.out _)).mono ?_;rintro e w2 ⟨rfl, hb2⟩;rw [HQ.out];have HB2 : Hid (Below w0.heap.size w0 w2) := HTAIL.out _ _ hb2;clear hb2;go_wp2;go_roundw;case rel => exact ⟨i + 1, by omega, by go_num, HB2.out⟩
              case measure => simp [intOf]; omega
            have hFF : F = k := (by omega);subst hFF;go_upto_region 22 with fail;go_big_quiet (first | (go_at_call 54; exact (HW54.out _).mono (fun _ _ h => ⟨h.1, _, h.2⟩)));go_wp2_with fail
            refine (HLJ.out _ (below_drewN HBJ.out _)).mono ?_;rintro e w2 ⟨rfl, hb2⟩;rw [HQ.out];have HB2 : Hid (Below w0.heap.size w0 w2) := HTAIL.out _ _ hb2;clear hb2;go_wp2;go_roundw;case rel => exact ⟨i + 1, by omega, by go_num, HB2.out⟩
            case measure => simp [intOf]; omega
          | false =>
            have HQ : Hid (R = F) := (by rw [if_neg (by decide)] at hbr; exact hbr);clear hbr
            rcases Nat.lt_or_ge F k with hFk | hFk
            · have q1 : ((F : Int) == (k : Int)) = false := (by rw [beq_eq_false_iff_ne]; omega);clear HHH;go_upto_region 22 with fail;go_big_quiet (first | (go_at_call 54; exact (HW54.out _).mono (fun _ _ h => ⟨h.1, _, h.2⟩)));go_wp2_with fail
              refine (HLJ.out _ (below_drewN HBJ.out _)).mono ?_;rintro e w2 ⟨rfl, hb2⟩;rw [HQ.out];have HB2 : Hid (Below w0.heap.size w0 w2) := HTAIL.out _ _ hb2;clear hb2;go_wp2;go_roundw;case rel => exact ⟨i + 1, by omega, by go_num, HB2.out⟩
              case measure => simp [intOf]; omega
            have hFF : F = k := (by omega);subst hFF
            by_cases hro : F < bins
            · have q2 : decide ((F : Int) < (bins : Int)) = true := (by simp; omega);have q3 : decide (ct <= NX) = false := (by have := HHH.out rfl rfl hro; simp; omega);clear HHH;go_upto_region 22 with fail;go_big_quiet (first | (go_at_call 54; exact (HW54.out _).mono (fun _ _ h => ⟨h.1, _, h.2⟩)));go_wp2_with fail
              refine (HLJ.out _ (below_drewN HBJ.out _)).mono ?_;rintro e w2 ⟨rfl, hb2⟩;rw [HQ.out];have HB2 : Hid (Below w0.heap.size w0 w2) := HTAIL.out _ _ hb2;clear hb2;go_wp2;go_roundw;case rel => exact ⟨i + 1, by omega, by go_num, HB2.out⟩
              case measure => simp [intOf]; omega
            have q2 : decide ((F : Int) < (bins : Int)) = false := (by simp; omega);clear HHH;go_upto_region 22 with fail;go_big_quiet (first | (go_at_call 54; exact (HW54.out _).mono (fun _ _ h => ⟨h.1, _, h.2⟩)));go_wp2_with fail
            refine (HLJ.out _ (below_drewN HBJ.out _)).mono ?_;rintro e w2 ⟨rfl, hb2⟩;rw [HQ.out];have HB2 : Hid (Below w0.heap.size w0 w2) := HTAIL.out _ _ hb2;clear hb2;go_wp2;go_roundw;case rel => exact ⟨i + 1, by omega, by go_num, HB2.out⟩
            case measure => simp [intOf]; omega
      have hni : ¬ (i : Int) < (n : Int) := (by omega);go_wp2;go_ret;exact ⟨rfl, HBW.out _ HB.out⟩
end Go.Proofs.YtfcgnpchbcmdeaaGreat

namespace Go.Proofs.YtfcgnpchbcmdeaaGreat
open Go.RowKit
theorem bytesL_append (a b : ByteArray) : bytesL (a ++ b) = bytesL a ++ bytesL b := by unfold bytesL;rw [ByteArray.data_append, Array.toList_append, List.map_append]
def runF (wd : Bool) (u : Int) : List Int -> PartS -> List Int -> Option (PartS × List Int)
  | [], p, bs => some (p, bs)
  | c :: r, p, bs => match fieldStep wd u p bs c with
    | some (p', bs') => runF wd u r p' bs'
    | none => none
def okF (wd : Bool) (u : Int) (bytes : List Int) (miss : Bool) (num : Int) (word : List Int) : Bool :=
  match runF wd u bytes part0 [] with
  | none => false
  | some (p, bs) => mayEnd p.st && (fieldStep wd u p bs 44).isNone && (fieldStep wd u p bs 10).isNone && decide (numOf p = num) && (decide (p.st = 0) == miss) && decide (bs = word)
theorem ok_miss (wd : Bool) {sc : Nat} (h : sc <= 3) : okF wd (tenTo sc) [] true 0 [] = true := by rcases (show sc = 0 ∨ sc = 1 ∨ sc = 2 ∨ sc = 3 by omega) with rfl | rfl | rfl | rfl <;> cases wd <;> decide
theorem ok_word {p : Nat} (h : p < 6) : okF true (tenTo 0) (bytesL (wordT p)) false 0 (bytesL (wordV p)) = true := by rcases (show p = 0 ∨ p = 1 ∨ p = 2 ∨ p = 3 ∨ p = 4 ∨ p = 5 by omega) with rfl | rfl | rfl | rfl | rfl | rfl <;> kernel_rfl
theorem ok_nums : ((List.range 4).all fun sc => (List.range 61).all fun j => okF false (tenTo sc) (bytesL (digS ((j : Int) - 30))) false (((j : Int) - 30) * tenTo sc) []) = true := by kernel_rfl
theorem ok_halves : ((List.range 3).all fun sc => (List.range 31).all fun j => okF false (tenTo (sc + 1)) (bytesL (digS (j : Int) ++ ⟨#[46, 53]⟩)) false ((j : Int) * tenTo (sc + 1) + tenTo (sc + 1) / 2) []) = true := by kernel_rfl
theorem ok_num {sc : Nat} {k : Int} (hs : sc <= 3) (h1 : -30 <= k) (h2 : k <= 30) : okF false (tenTo sc) (bytesL (digS k)) false (k * tenTo sc) [] = true := by
  have h := ok_nums;rw [List.all_eq_true] at h;have h3 := h sc (by simp; omega);rw [List.all_eq_true] at h3;have h4 := h3 (k + 30).toNat (by simp; omega)
  rwa [show (((k + 30).toNat : Nat) : Int) - 30 = k by omega] at h4
theorem ok_half {sc : Nat} {k : Int} (hs0 : 0 < sc) (hs : sc <= 3) (h1 : 0 <= k) (h2 : k <= 30) : okF false (tenTo sc) (bytesL (digS k ++ ⟨#[46, 53]⟩)) false (k * tenTo sc + tenTo sc / 2) [] = true := by
  have h := ok_halves;rw [List.all_eq_true] at h;have h3 := h (sc - 1) (by simp; omega);rw [List.all_eq_true, show sc - 1 + 1 = sc by omega] at h3;have h4 := h3 k.toNat (by simp; omega)
  rwa [show ((k.toNat : Nat) : Int) = k by omega] at h4
def numR (cs l : List Int) (at_ i : Nat) : Int := if goneR (xR l at_ i) = true then 0 else fdV (cfW cs i) (cfC cs i) ((xR l at_ i).tdiv 3)
def wrdR (cs l : List Int) (at_ i : Nat) : ByteArray := if goneR (xR l at_ i) = true then ⟨#[]⟩ else fdS (cfW cs i) ((xR l at_ i).tdiv 3)
theorem strOf_bytes (b : ByteArray) : strOfNums (bytesL b) = b := by
  cases b with
  | mk d =>
    unfold strOfNums bytesL;congr 1;apply Array.ext';simp [List.map_map, Function.comp_def]
theorem ok_field (cs l : List Int) (at_ i : Nat) : okF (cfW cs i) (tenTo (cfC cs i).toNat) (bytesL (txR cs l at_ i)) (goneR (xR l at_ i)) (numR cs l at_ i) (bytesL (wrdR cs l at_ i)) = true := by
  have hp4 := pickK_lt (rawK cs (4 + i)) (show 0 < 4 by omega);have hC : 0 <= cfC cs i /\ cfC cs i <= 3 := (by unfold cfC; split <;> omega);unfold txR numR wrdR
  cases hg : goneR (xR l at_ i) with
  | true =>
    simp only [if_true];exact ok_miss (cfW cs i) (sc := (cfC cs i).toNat) (by omega)
  | false =>
    simp only [Bool.false_eq_true, if_false];generalize (xR l at_ i).tdiv 3 = x
    cases hw : cfW cs i with
    | true =>
      have hc0 : cfC cs i = 0 := (by unfold cfC; rw [hw]; rfl);rw [hc0];unfold fdT fdV fdS;simp only [if_true];exact ok_word (pickK_lt x (by omega))
    | false =>
      have hk := kN_in x;unfold fdT fdV fdS;simp only [Bool.false_eq_true, if_false]
      cases hh : halfN (cfC cs i) x with
      | true =>
        unfold halfN at hh;rw [decide_eq_true_eq] at hh;simp only [if_true];have := ok_half (sc := (cfC cs i).toNat) (k := kN x) (by omega) (by omega) hh.2.2 (by omega);exact this
      | false =>
        simp only [Bool.false_eq_true, if_false];exact ok_num (sc := (cfC cs i).toNat) (by omega) hk.1 hk.2
section
variable {n : Nat} {wd : Nat -> Bool} {sc : Nat -> Int}
theorem rtakes_run (s : RS) (hfl : s.fl = true) (hws : s.ws.length ≠ 200) : ∀ (l : List Int) (p : PartS) (bs : List Int) (k : Nat) {p' : PartS} {bs' : List Int}, runF (wd s.row.length) (tenTo (sc s.row.length).toNat) l p bs = some (p', bs') -> rtakes n wd sc { s with p := p, bs := bs } l k = .ok { s with p := p', bs := bs' }
  | [], p, bs, k, p', bs', h => by unfold runF at h;injection h with h;injection h with h1 h2;subst h1 h2;rfl
  | c :: r, p, bs, k, p', bs', h => by
    unfold runF at h
    cases hs : fieldStep (wd s.row.length) (tenTo (sc s.row.length).toNat) p bs c with
    | none => rw [hs] at h; cases h
    | some q =>
      obtain ⟨p1, bs1⟩ := q;rw [hs] at h;have e : rtake n wd sc { s with p := p, bs := bs } c = .ok { s with p := p1, bs := bs1 } := (by unfold rtake;rw [if_neg hws, if_neg (by simp [hfl])];simp only [hs]);unfold rtakes;rw [e];exact rtakes_run s hfl hws r p1 bs1 (k + 1) h
theorem rtakes_field {s : RS} (hfl : s.fl = true) (hws : s.ws.length ≠ 200) (hp : s.p = part0) (hbs : s.bs = []) {bytes : List Int} {miss : Bool} {num : Int} {word : ByteArray} (hok : okF (wd s.row.length) (tenTo (sc s.row.length).toNat) bytes miss num (bytesL word) = true) (k : Nat) : rtakes n wd sc s (bytes ++ [sepOf s.row.length n]) k = .ok (rowEnd n s (s.row ++ [⟨miss, num, word⟩])) := by
  unfold okF at hok
  cases hr : runF (wd s.row.length) (tenTo (sc s.row.length).toNat) bytes part0 [] with
  | none => rw [hr] at hok; cases hok
  | some q =>
    obtain ⟨p, bs⟩ := q;rw [hr] at hok;simp only [Bool.and_eq_true, decide_eq_true_eq, beq_iff_eq, Option.isNone_iff_eq_none] at hok;obtain ⟨⟨⟨⟨⟨h1, h2⟩, h3⟩, h4⟩, h5⟩, h6⟩ := hok;have h0 := rtakes_run (n := n) (wd := wd) (sc := sc) s hfl hws bytes part0 [] k hr;rw [show ({ s with p := part0, bs := [] } : RS) = s by rw [<- hp, <- hbs]] at h0;rw [rtakes_append, h0];simp only [rtakes];have hn : fieldStep (wd s.row.length) (tenTo (sc s.row.length).toNat) p bs (sepOf s.row.length n) = none := by unfold sepOf;split;exact h3;exact h2
    have e : rtake n wd sc { s with p := p, bs := bs } (sepOf s.row.length n) = .ok (rowEnd n s (s.row ++ [⟨miss, num, word⟩])) := (by unfold rtake;rw [if_neg hws, if_neg (by simp [hfl])];simp only [hn];rw [if_pos (by first | exact ⟨rfl, h1⟩ | exact ⟨trivial, h1⟩)];have ev : valOf p bs = ⟨miss, num, word⟩ := (by unfold valOf;rw [h4, h5, h6, strOf_bytes]);rw [ev];rfl);rw [e]
end
def valR (cs l : List Int) (at_ i : Nat) : VS := ⟨goneR (xR l at_ i), numR cs l at_ i, wrdR cs l at_ i⟩
def hB (cs l : List Int) (at_ : Nat) : Nat -> List Int
  | 0 => []
  | k + 1 => hB cs l at_ k ++ (bytesL (txR cs l at_ k) ++ [44])
theorem fieldsT_bytes (cs l : List Int) (at_ : Nat) (s : ByteArray) : ∀ k, bytesL (fieldsT cs l at_ s k) ++ [44] = bytesL s ++ (44 :: hB cs l at_ k)
  | 0 => by simp [fieldsT, hB]
  | k + 1 => by have ih := fieldsT_bytes cs l at_ s k;have e : bytesL (⟨#[44]⟩ : ByteArray) = [44] := rfl;simp only [fieldsT, bytesL_append, e];rw [List.append_assoc, List.append_assoc, <- List.append_assoc (bytesL (fieldsT cs l at_ s k)), ih];simp [hB]
set_option maxHeartbeats 1000000 in
theorem rtakes_h (cs l : List Int) (at_ : Nat) (S : RS) (hfl : S.fl = true) (hws : S.ws.length ≠ 200) (hrow : S.row = []) (hp : S.p = part0) (hbs : S.bs = []) (q : Nat) : ∀ k, k <= cfM cs -> rtakes (cfM cs + 1) (cfW cs) (cfC cs) S (hB cs l at_ k) q = .ok { S with row := (List.range k).map (valR cs l at_) }
  | 0, _ => by simp only [hB, rtakes, List.range_zero, List.map_nil];rw [<- hrow]
  | k + 1, hk => by
    have ih := rtakes_h cs l at_ S hfl hws hrow hp hbs q k (by omega);simp only [hB];rw [rtakes_append, ih];simp only;have hl : ((List.range k).map (valR cs l at_)).length = k := (by simp);have hs : sepOf k (cfM cs + 1) = 44 := (by unfold sepOf; rw [if_neg (by omega)]);have h := rtakes_field (n := cfM cs + 1) (wd := cfW cs) (sc := cfC cs) (s := { S with row := (List.range k).map (valR cs l at_) }) hfl hws hp hbs (bytes := bytesL (txR cs l at_ k)) (miss := goneR (xR l at_ k)) (num := numR cs l at_ k) (word := wrdR cs l at_ k) (by rw [show ({ S with row := (List.range k).map (valR cs l at_) } : RS).row.length = k from hl]; exact ok_field cs l at_ k) (q + (hB cs l at_ k).length);rw [show ({ S with row := (List.range k).map (valR cs l at_) } : RS).row.length = k from hl, hs] at h;rw [h];unfold rowEnd;rw [if_neg (by simp; omega)]
    have er : (List.range k).map (valR cs l at_) ++ [⟨goneR (xR l at_ k), numR cs l at_ k, wrdR cs l at_ k⟩] = (List.range (k + 1)).map (valR cs l at_) := (by rw [List.range_succ, List.map_append]; rfl);rw [er, hp, hbs]
def stR (cs l : List Int) : Nat -> RS
  | 0 => RS.start
  | r + 1 => rowEnd (cfM cs + 1) { stR cs l r with wt := wtR l (r * (cfM cs + 2)), fl := true } ((List.range (cfM cs + 1)).map (valR cs l (r * (cfM cs + 2))))
structure StOk (cs l : List Int) (r : Nat) (s : RS) : Prop where
  ws : s.ws = (List.range r).map fun j => wtR l (j * (cfM cs + 2))
  col : ∀ i, i < cfM cs + 1 -> s.cols i = (List.range r).map fun j => valR cs l (j * (cfM cs + 2)) i
  wt : s.wt = 0
  fl : s.fl = false
  row : s.row = []
  p : s.p = part0
  bs : s.bs = []
theorem stR_ok (cs l : List Int) : ∀ r, StOk cs l r (stR cs l r)
  | 0 => ⟨rfl, fun _ _ => rfl, rfl, rfl, rfl, rfl, rfl⟩
  | r + 1 => by have ih := stR_ok cs l r;unfold stR rowEnd;rw [if_pos (by simp)];refine ⟨?_, fun i hi => ?_, rfl, rfl, rfl, rfl, rfl⟩;show (stR cs l r).ws ++ _ = _;rw [ih.ws, List.range_succ, List.map_append]; rfl;show (if i < cfM cs + 1 then (stR cs l r).cols i ++ _ else (stR cs l r).cols i) = _;rw [if_pos hi, ih.col i hi, show List.range (r + 1) = List.range r ++ [r] from List.range_succ, List.map_append];congr 1;simp [List.getD, hi]
theorem rtakes_weight {n : Nat} {wd : Nat -> Bool} {sc : Nat -> Int} {s : RS} {z : Int} (h1 : 1 <= z) (h2 : z <= 9) (hfl : s.fl = false) (hws : s.ws.length ≠ 200) (hwt : s.wt = 0) (k : Nat) : rtakes n wd sc s (bytesL (digS z) ++ [44]) k = .ok { s with wt := z, fl := true } := by
  have eb : bytesL (digS z) = [48 + z] := by rcases (show z = 1 ∨ z = 2 ∨ z = 3 ∨ z = 4 ∨ z = 5 ∨ z = 6 ∨ z = 7 ∨ z = 8 ∨ z = 9 by omega) with rfl | rfl | rfl | rfl | rfl | rfl | rfl | rfl | rfl <;> kernel_rfl
  have e1 : rtake n wd sc s (48 + z) = .ok { s with wt := z } := (by unfold rtake;rw [if_neg hws, if_pos hfl];have : weightStep s.wt (48 + z) = .digit z := (by unfold weightStep;rw [hwt, if_neg (by omega), if_pos (by omega)];congr 1;omega);rw [this]);have e2 : rtake n wd sc { s with wt := z } 44 = .ok { s with wt := z, fl := true } := (by unfold rtake;rw [if_neg hws, if_pos hfl];have : weightStep z 44 = .whole := (by unfold weightStep;rw [if_pos ⟨rfl, by omega⟩]);rw [this]);rw [eb];simp only [List.singleton_append, rtakes, e1, e2]
set_option maxHeartbeats 1000000 in
theorem text_ok (cs l : List Int) : ∀ r, r <= 150 -> rtakes (cfM cs + 1) (cfW cs) (cfC cs) RS.start (bytesL (textR cs l r)) 0 = .ok (stR cs l r)
  | 0, _ => rfl
  | r + 1, hr => by
    have ih := text_ok cs l r (by omega);have hS := stR_ok cs l r;obtain ⟨at_, hat⟩ : ∃ at_, at_ = r * (cfM cs + 2) := ⟨_, rfl⟩;have hw := wtR_in l at_;have hwl : (stR cs l r).ws.length ≠ 200 := by rw [hS.ws]; simp; omega
    have eb : bytesL (textR cs l (r + 1)) = bytesL (textR cs l r) ++ ((bytesL (digS (wtR l at_)) ++ [44]) ++ (hB cs l at_ (cfM cs) ++ (bytesL (txR cs l at_ (cfM cs)) ++ [10]))) := by have e10 : bytesL (⟨#[10]⟩ : ByteArray) = [10] := rfl;have e44 : bytesL (⟨#[44]⟩ : ByteArray) = [44] := rfl;have hf := fieldsT_bytes cs l at_ (textR cs l r ++ digS (wtR l at_)) (cfM cs);simp only [textR, <- hat, fieldsT, bytesL_append, e10, e44];rw [hf, bytesL_append];simp
    rw [eb, rtakes_append, ih];simp only;rw [rtakes_append, rtakes_weight hw.1 hw.2 hS.fl hwl hS.wt];simp only;rw [rtakes_append, rtakes_h cs l at_ { stR cs l r with wt := wtR l at_, fl := true } rfl hwl hS.row hS.p hS.bs _ (cfM cs) (Nat.le_refl _)];simp only;have hl : ((List.range (cfM cs)).map (valR cs l at_)).length = cfM cs := (by simp);have hs : sepOf (cfM cs) (cfM cs + 1) = 10 := by unfold sepOf; rw [if_pos rfl]
    have h := rtakes_field (n := cfM cs + 1) (wd := cfW cs) (sc := cfC cs) (s := { stR cs l r with wt := wtR l at_, fl := true, row := (List.range (cfM cs)).map (valR cs l at_) }) rfl hwl hS.p hS.bs (bytes := bytesL (txR cs l at_ (cfM cs))) (miss := goneR (xR l at_ (cfM cs))) (num := numR cs l at_ (cfM cs)) (word := wrdR cs l at_ (cfM cs)) (by rw [show ({ stR cs l r with wt := wtR l at_, fl := true, row := (List.range (cfM cs)).map (valR cs l at_) } : RS).row.length = cfM cs from hl]; exact ok_field cs l at_ (cfM cs)) (0 + (bytesL (textR cs l r)).length + (bytesL (digS (wtR l at_)) ++ [44]).length + (hB cs l at_ (cfM cs)).length);rw [show ({ stR cs l r with wt := wtR l at_, fl := true, row := (List.range (cfM cs)).map (valR cs l at_) } : RS).row.length = cfM cs from hl, hs] at h;rw [h]
    have er : (List.range (cfM cs)).map (valR cs l at_) ++ [⟨goneR (xR l at_ (cfM cs)), numR cs l at_ (cfM cs), wrdR cs l at_ (cfM cs)⟩] = (List.range (cfM cs + 1)).map (valR cs l at_) := (by rw [List.range_succ, List.map_append]; rfl);simp only [er];show _ = Except.ok (rowEnd (cfM cs + 1) { stR cs l r with wt := wtR l (r * (cfM cs + 2)), fl := true } ((List.range (cfM cs + 1)).map (valR cs l (r * (cfM cs + 2)))));rw [<- hat];unfold rowEnd;rw [if_pos (by simp)]
end Go.Proofs.YtfcgnpchbcmdeaaGreat

namespace Go.Proofs.YtfcgnpchbcmdeaaGreat
open Go.RowKit
structure RowV (R : RawR) (i : Nat) (V : VS) (z : Int) : Prop where
  miss : V.miss = R.ms.getD i false
  num : V.miss = false -> V.num = R.ns.getD i 0
  word : V.miss = false -> V.word = R.ss.getD i ⟨#[]⟩
  wt : z = R.wt
section
variable {n i : Nat} {R : Nat -> RawR} {V : Nat -> VS} {Z : Nat -> Int}
theorem rangeD {α : Type} {n j : Nat} (F : Nat -> α) (d : α) (hj : j < n) : ((List.range n).map F).getD j d = F j := by simp [List.getD_eq_getElem?_getD, hj]
theorem mem_seenV (h : ∀ j, j < n -> RowV (R j) i (V j) (Z j)) (x : Int) : x ∈ seenF ((List.range n).map R) i n ↔ ∃ v ∈ (List.range n).map V, v.miss = false /\ v.num = x := by rw [mem_seenF _ i x n (by simp)];constructor;rintro ⟨j, hj, h1, h2⟩;rw [rangeD R r0R hj] at h1 h2;have hm : (V j).miss = false := (h j hj).miss.trans h1;exact ⟨V j, List.mem_map.2 ⟨j, List.mem_range.2 hj, rfl⟩, hm, ((h j hj).num hm).trans h2⟩;rintro ⟨v, hv, h1, h2⟩;obtain ⟨j, hj, rfl⟩ := List.mem_map.1 hv;have hj := List.mem_range.1 hj;refine ⟨j, hj, ?_, ?_⟩;rw [rangeD R r0R hj]; exact (h j hj).miss.symm.trans h1;rw [rangeD R r0R hj, <- (h j hj).num h1]; exact h2
theorem zipR : ((List.range n).map V).zip ((List.range n).map Z) = (List.range n).map fun j => (V j, Z j) := by refine List.ext_getElem (by simp) (fun k h1 h2 => ?_);simp
theorem wtV (h : ∀ j, j < n -> RowV (R j) i (V j) (Z j)) (x : ByteArray) : wtW ((List.range n).map R) i x = wdSum (((List.range n).map V).zip ((List.range n).map Z)) x.data.toList := by
  rw [zipR];unfold wtW wdSum;rw [List.map_map, List.map_map];congr 1;refine List.map_congr_left fun j hj => ?_;have hj := List.mem_range.1 hj;have hr := h j hj
  have hx : ∀ y : ByteArray, (y.data.toList = x.data.toList) ↔ y = x := fun y => by cases y; cases x; simp
  show (if (R j).ms.getD i false = false /\ (R j).ss.getD i ⟨#[]⟩ = x then (R j).wt else 0) = (if hitV (V j) x.data.toList = true then Z j else 0)
  rcases Bool.eq_false_or_eq_true (V j).miss with hm | hm
  rw [if_neg (by rw [<- hr.miss, hm]; simp), if_neg (by unfold hitV; rw [hm]; simp)];have hw := hr.word hm
  by_cases e : (R j).ss.getD i ⟨#[]⟩ = x
  rw [if_pos ⟨by rw [<- hr.miss, hm], e⟩, if_pos (by unfold hitV; rw [hm, hw, e]; simp), hr.wt]
  rw [if_neg (fun h2 => e h2.2), if_neg (by
    unfold hitV;rw [hm];simp only [Bool.not_false, Bool.true_and, decide_eq_true_eq]
    rw [hx, hw]; exact e)]
theorem binV_num (h : ∀ j, j < n -> RowV (R j) i (V j) (Z j)) {bz : List Int} {j : Nat} (hj : j < n) : binS ⟨false, bz, []⟩ (V j) = binR bz (R j) i := by
  have hr := h j hj;unfold binS binR;rw [<- hr.miss]
  rcases Bool.eq_false_or_eq_true (V j).miss with hm | hm
  rw [if_pos hm, if_pos hm]; rfl;have hne : ¬ (V j).miss = true := (by rw [hm]; simp);rw [if_neg hne, if_neg hne, hr.num hm]; rfl
theorem binV_word (h : ∀ j, j < n -> RowV (R j) i (V j) (Z j)) {ww : List ByteArray} {j : Nat} (hj : j < n) : binS ⟨true, [], ww⟩ (V j) = binW ww (R j) i := by
  have hr := h j hj;unfold binS binW;rw [<- hr.miss]
  rcases Bool.eq_false_or_eq_true (V j).miss with hm | hm
  rw [if_pos hm, if_pos hm]; rfl;have hne : ¬ (V j).miss = true := (by rw [hm]; simp);rw [if_neg hne, if_neg hne, hr.word hm]; rfl
theorem numFits (h : ∀ j, j < n -> RowV (R j) i (V j) (Z j)) {bins : Int} {size : Nat} (hn : n <= 200) (hs : 2 <= size) (hs2 : size <= 32) (hb : 2 <= bins) (hbs : bins <= size) (hr : ∀ v ∈ (List.range n).map V, -1000000000 <= v.num /\ v.num <= 1000000000) (bz : List Int) (e : bz = learnB ((List.range n).map V) ((List.range n).map Z) bins size) : ((bz.length : Int) < bins) /\ (∀ x ∈ bz, x ∈ seenF ((List.range n).map R) i n) /\ bz.Pairwise (· < ·) /\ (0 < (seenF ((List.range n).map R) i n).length -> ((seenF ((List.range n).map R) i n).length : Int) <= bins -> bz.length = (seenF ((List.range n).map R) i n).length - 1) := by
  subst e
  have hl : ((List.range n).map V).length <= 200 := by simpa using hn
  obtain ⟨a, b⟩ := learnB_ok ((List.range n).map V) ((List.range n).map Z) hl hs hs2 hb;refine ⟨b, fun x hx => (mem_seenV h x).2 (learnB_from hl hs hs2 hr x hx), a, fun h0 h1 => ?_⟩;exact learnB_few hl (by simp) hs hs2 hbs hr (seenF_nodup _ _ _) (mem_seenV h) h0 h1
theorem wordFits (h : ∀ j, j < n -> RowV (R j) i (V j) (Z j)) {bins ct : Int} (hb : 2 <= bins) (ww : List ByteArray) (e : ww = (lwF ((List.range n).map V) ((List.range n).map Z) ct bins).ww) : ((ww.length : Int) <= bins) /\ (∀ x ∈ ww, ct <= wtW ((List.range n).map R) i x) /\ (ww.Pairwise fun x y => wtW ((List.range n).map R) i y < wtW ((List.range n).map R) i x ∨ wtW ((List.range n).map R) i y = wtW ((List.range n).map R) i x /\ lessS x y) /\ ww.Nodup /\ (∀ j, j < n -> (((List.range n).map R).getD j r0R).ms.getD i false = false -> (((List.range n).map R).getD j r0R).ss.getD i ⟨#[]⟩ ∉ ww -> (ww.length : Int) < bins -> wtW ((List.range n).map R) i ((((List.range n).map R).getD j r0R).ss.getD i ⟨#[]⟩) < ct) := by
  subst e;refine ⟨lwF_few _ _ _ _ (by omega), fun x hx => ?_, ?_, lwF_nodup _ _ _ _, fun j hj hm hx hl => ?_⟩;rw [wtV h]; exact lwF_heavy _ _ _ _ x hx;refine (lwF_order _ _ _ _).imp (fun {x y} hxy => ?_);rw [wtV h, wtV h]; exact hxy;rw [rangeD R r0R hj] at hm hx ⊢;have hr := h j hj;have hm2 : (V j).miss = false := hr.miss.trans hm;rw [<- hr.word hm2] at hx ⊢;rw [wtV h];refine Int.lt_of_not_ge fun hc => hx ?_;exact lwF_all _ _ _ _ (by simp) hl (V j) (List.mem_map.2 ⟨j, List.mem_range.2 hj, rfl⟩) hm2 hc
end
theorem rowV_at (cs l : List Int) {i : Nat} (hi : i < cfM cs + 1) (at_ : Nat) : RowV (rowR cs l at_ (cfM cs + 1)) i (valR cs l at_ i) (wtR l at_) := by have e1 : (rowR cs l at_ (cfM cs + 1)).ms.getD i false = goneR (xR l at_ i) := rangeD (fun i => goneR (xR l at_ i)) false hi;have e2 : (rowR cs l at_ (cfM cs + 1)).ns.getD i 0 = fdV (cfW cs i) (cfC cs i) ((xR l at_ i).tdiv 3) := rangeD (fun i => fdV (cfW cs i) (cfC cs i) ((xR l at_ i).tdiv 3)) 0 hi;have e3 : (rowR cs l at_ (cfM cs + 1)).ss.getD i ⟨#[]⟩ = fdS (cfW cs i) ((xR l at_ i).tdiv 3) := rangeD (fun i => fdS (cfW cs i) ((xR l at_ i).tdiv 3)) ⟨#[]⟩ hi;refine ⟨e1.symm, fun hm => ?_, fun hm => ?_, rfl⟩;rw [e2];show numR cs l at_ i = _;unfold numR;rw [if_neg (by rw [show goneR (xR l at_ i) = false from hm]; simp)];rw [e3];show wrdR cs l at_ i = _;unfold wrdR;rw [if_neg (by rw [show goneR (xR l at_ i) = false from hm]; simp)]
end Go.Proofs.YtfcgnpchbcmdeaaGreat
