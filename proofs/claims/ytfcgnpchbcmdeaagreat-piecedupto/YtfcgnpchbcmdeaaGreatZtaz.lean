import Derived.Test.YtfcgnpchbcmdeaaGreatZtay
import Derived.Test.YtfcgnpchbcmdeaaGreatZtax
import Derived.Deep.RegionHeld3
namespace Go.Proofs.YtfcgnpchbcmdeaaGreat
open Go.RowKit
def newG (n : Nat) : GS := ⟨[], List.replicate n false, 0, 0⟩
def layStep (Ks : List KS) (Os : List (List Bool)) (n budget : Nat) (Gs : List GS) (f : Nat) : List GS :=
  if Gs.findIdx (roomG (Os.getD f []) (Ks.getD f k0S).many budget) < Gs.length then Gs.set (Gs.findIdx (roomG (Os.getD f []) (Ks.getD f k0S).many budget)) (addG (Gs.getD (Gs.findIdx (roomG (Os.getD f []) (Ks.getD f k0S).many budget)) g0S) f (Os.getD f []) (Ks.getD f k0S).many)
  else Gs ++ [addG (newG n) f (Os.getD f []) (Ks.getD f k0S).many]
def layF (m : Nat) (Ks : List KS) (Os : List (List Bool)) (n budget : Nat) : List GS := (ordF m Os).foldl (layStep Ks Os n budget) []
structure GInv (n k : Nat) (Gs : List GS) : Prop where
  len : Gs.length <= k
  each : ∀ G ∈ Gs, G.out.length = n /\ G.conf <= 400 /\ G.bins <= 400 /\ G.fs.length <= k
theorem confN_le {a b : List Bool} (h : a.length = b.length) : confN a b <= b.length := by have := cntT_le (bothL a b);rw [bothL_len h] at this;exact this
theorem GInv.step {n k budget : Nat} {Ks : List KS} {Os : List (List Bool)} {Gs : List GS} {f : Nat} (h : GInv n k Gs) (hO : (Os.getD f []).length = n) (hn : n <= 200) (hb : budget <= 20) (hm : (Ks.getD f k0S).many <= 100) : GInv n (k + 1) (layStep Ks Os n budget Gs f) := by
  unfold layStep;split
  · rename_i hi;have hroom := List.findIdx_getElem (w := hi);generalize Gs.findIdx (roomG (Os.getD f []) (Ks.getD f k0S).many budget) = i at *;have eG : Gs.getD i g0S = Gs[i] := (by simp [List.getD, hi]);rw [eG];obtain ⟨g1, g2, g3, g4⟩ := h.each Gs[i] (List.getElem_mem hi);simp only [roomG, Bool.and_eq_true, decide_eq_true_eq] at hroom;refine ⟨by rw [List.length_set]; have := h.len; omega, fun G hG => ?_⟩
    rcases List.mem_or_eq_of_mem_set hG with hG | rfl
    obtain ⟨a1, a2, a3, a4⟩ := h.each G hG;exact ⟨a1, a2, a3, by omega⟩;refine ⟨?_, ?_, ?_, ?_⟩;show (orL _ _).length = n;rw [orL_len (by omega)]; exact g1;show Gs[i].conf + confN Gs[i].out (Os.getD f []) <= 400;omega;show Gs[i].bins + _ <= 400;omega;show (Gs[i].fs ++ [f]).length <= k + 1;simp; omega
  · refine ⟨by rw [List.length_append]; have := h.len; simp; omega, fun G hG => ?_⟩
    rcases List.mem_append.1 hG with hG | hG
    obtain ⟨a1, a2, a3, a4⟩ := h.each G hG;exact ⟨a1, a2, a3, by omega⟩;simp only [List.mem_cons, List.not_mem_nil, or_false] at hG;subst hG;have hl : (newG n).out.length = (Os.getD f []).length := (by rw [hO]; exact List.length_replicate);refine ⟨?_, ?_, ?_, ?_⟩;show (orL _ _).length = n;rw [orL_len hl]; simp [newG];show 0 + confN (newG n).out (Os.getD f []) <= 400;have := confN_le hl; omega;show 0 + _ <= 400;omega;show ([] ++ [f]).length <= k + 1;simp
theorem GInv.ok {n k : Nat} {Gs : List GS} (h : GInv n k Gs) (hk : k <= 100) : ∀ G ∈ Gs, GOk n G := fun G hG => by obtain ⟨a1, a2, a3, a4⟩ := h.each G hG;exact ⟨a1, by omega, by omega, by omega⟩
theorem KnsX.at2 {w : World} {q n c : Nat} {vs : List (Value × Value)} {Ks : List KS} (h : KnsX w (.slice (some ⟨q, 0, none⟩) n c) vs Ks) {i : Nat} (hi : i < Ks.length) : ∃ ab cb aw cw, q < w.heap.size /\ w.cell? ⟨q, i * 4, none⟩ = some (.bool (Ks.getD i k0S).e.wd) /\ w.cell? ⟨q, i * 4 + 1, none⟩ = some (.slice ab (Ks.getD i k0S).e.bs.length cb) /\ w.cell? ⟨q, i * 4 + 2, none⟩ = some (.slice aw (Ks.getD i k0S).e.ww.length cw) /\ w.cell? ⟨q, i * 4 + 3, none⟩ = some (.int .i64 ((Ks.getD i k0S).d : Nat)) /\ OwnI w 0 (.slice ab (Ks.getD i k0S).e.bs.length cb) (Ks.getD i k0S).e.bs /\ OwnS w 0 (.slice aw (Ks.getD i k0S).e.ww.length cw) (Ks.getD i k0S).e.ww := by obtain ⟨q', c', ab, cb, aw, cw, e, r⟩ := h.at hi;injection e with e _ _;injection e with e;injection e with e _;subst e;exact ⟨ab, cb, aw, cw, r⟩
theorem OutsX.at2 {w : World} {q n c : Nat} {vs : List Value} {Os : List (List Bool)} (h : OutsX w (.slice (some ⟨q, 0, none⟩) n c) vs Os) {i : Nat} (hi : i < Os.length) : q < w.heap.size /\ w.cell? ⟨q, i, none⟩ = some (vs.getD i (.slice none 0 0)) := by obtain ⟨q', c', e, r⟩ := h.at hi;injection e with e _ _;injection e with e;injection e with e _;subst e;exact r
theorem info313 : (Tryz.prog.info? 313).map (fun i => (i.zero, i.size, i.bytes)) = some (some (.pointer none), 1, 8) := by kernel_rfl
theorem KS.many_eq (k : KS) : ((cntE k.e.wd k.e.bs.length k.e.ww.length : Nat) : Int) + 2 = ((k.many : Nat) : Int) := by unfold KS.many ES.cnt;omega
def Laid (w : World) (N : Nat) (v : Value) (Gs : List GS) : Prop := ∃ base gbs Kk, N <= base /\ GrpsY w base v gbs Kk Gs
set_option maxRecDepth 100000 in
set_option maxHeartbeats 4000000 in
theorem layTogether_any (m n budget qk kc qo oc : Nat) (vs : List (Value × Value)) (os : List Value) (Ks : List KS) (Os : List (List Bool)) (w : World) (hm : m + 1 <= 4) (hKl : Ks.length = m + 1) (hOl : Os.length = m + 1) (hK : KnsX w (.slice (some ⟨qk, 0, none⟩) (m + 1) kc) vs Ks) (hO : OutsX w (.slice (some ⟨qo, 0, none⟩) (m + 1) oc) os Os) (hl : ∀ O ∈ Os, O.length = n) (hn : n <= 200) (hb : budget <= 20) (hcn : ∀ K ∈ Ks, K.many <= 100) : Calls Tryz.prog 206 #[.slice (some ⟨qk, 0, none⟩) (m + 1) kc, .slice (some ⟨qo, 0, none⟩) (m + 1) oc, .int .i64 budget] w fun e w' => ∃ v, e = .returned v /\ Laid w'  w.heap.size v (layF m Ks Os n budget) /\ Below w.heap.size w w' := by
  have HBY : Hid (Calls Tryz.prog 254 #[.slice (some ⟨qo, 0, none⟩) (m + 1) oc] w fun e w' => ∃ v, e = .returned v /\ OwnI w' w.heap.size v (natI (ordF m Os)) /\ Below w.heap.size w w') := byStandingOut_any m qo oc n os Os w hm hOl hO hl hn;have HH : Hid (KnsX w (.slice (some ⟨qk, 0, none⟩) (m + 1) kc) vs Ks /\ OutsX w (.slice (some ⟨qo, 0, none⟩) (m + 1) oc) os Os /\ Ks.length = m + 1 /\ Os.length = m + 1 /\ (∀ O ∈ Os, O.length = n) /\ ∀ K ∈ Ks, K.many <= 100) := ⟨hK, hO, hKl, hOl, hl, hcn⟩;have HOL : Hid ((ordF m Os).length = m + 1 /\ ∀ f ∈ ordF m Os, f < m + 1) := ⟨ordF_len m Os, ordF_lt m Os⟩;obtain ⟨j0, jinf, jz0, jz1, jz2⟩ := info_parts info313;clear hKl hOl hK hO hl hcn;go_enter Tryz.func206, Tryz.ntmps206
  go_wp2_with fail
  refine HBY.out.mono ?_;rintro e w1 ⟨vord, rfl, hord, hb1⟩;obtain ⟨oa, occ, hvo⟩ := hord.shape;rw [natI_len, HOL.out.1] at hvo;subst hvo;obtain ⟨qr, hqr, hqrl, hqrb, _, _⟩ := hord.atK (k := 0) (by rw [natI_len]; exact HOL.out.1) (by omega);subst hqr;have hs1 := hb1.size;have HORD : Hid (OwnI w1 w.heap.size (.slice (some ⟨qr, 0, none⟩) (m + 1) occ) (natI (ordF m Os))) := hord;have HB1 : Hid (Below w.heap.size w w1) := hb1;have HLAY : Hid (layF m Ks Os n budget = (ordF m Os).foldl (layStep Ks Os n budget) []) := rfl;clear hord hb1 HBY;generalize ordF m Os = ord at *;go_wp2_with fail
  go_loopw [15, 7] (fun ti tG wr => ∃ (k : Nat) (gbs : List Nat) (Kk : Nat -> Nat -> Prop), ti = .int .i64 k /\ k <= m + 1 /\ Hid (GrpsY wr w1.heap.size tG gbs Kk ((ord.take k).foldl (layStep Ks Os n budget) []) /\ GInv n k ((ord.take k).foldl (layStep Ks Os n budget) [])) /\ Hid (Below w1.heap.size w1 wr)) (fun ti _ _ => m + 1 - (intOf ti).toNat)
  case atStart =>
    refine ⟨0, [], fun _ _ => False, rfl, Nat.zero_le _, ⟨⟨⟨World.ownsRow_nil _ _ _ _, rfl, (fun i hi => by simp at hi), (fun i j hi => by simp at hi)⟩, (fun i hi => by simp at hi), (fun k hk => by simp [Value.ownBlock] at hk), (fun i hi => by simp at hi)⟩, ⟨by simp, by simp⟩⟩, Below.refl _ _⟩
  case round =>
    obtain ⟨k, gbs, Kk, rfl, hk, HG, HB⟩ := hrel;have hsz := HB.out.size
    by_cases hkm : k < m + 1
    · have hkl : k < ord.length := (by rw [HOL.out.1]; exact hkm);have hfm : ord.getD k 0 < m + 1 := (by have : ord.getD k 0 = ord[k] := (by simp [List.getD, hkl]);rw [this]; exact HOL.out.2 _ (List.getElem_mem hkl));have hfold : (ord.take (k + 1)).foldl (layStep Ks Os n budget) [] = layStep Ks Os n budget ((ord.take k).foldl (layStep Ks Os n budget) []) (ord.getD k 0) := (by rw [List.take_succ_eq_append_getElem hkl, List.foldl_append];simp [List.getD, hkl]);have HNX : Hid ((ord.take (k + 1)).foldl (layStep Ks Os n budget) [] = layStep Ks Os n budget ((ord.take k).foldl (layStep Ks Os n budget) []) (ord.getD k 0)) := hfold;have hc0 : wr.cell? ⟨qr, k, none⟩ = some (.int .i64 ((ord.getD k 0 : Nat) : Int)) := by have := (HORD.out.cellK (by rw [natI_len]; exact HOL.out.1.symm) hkm).1;rw [natI_getD] at this;exact (HB.out.cell (p := ⟨qr, k, none⟩) hqrl).trans this
      clear hfold;generalize ord.getD k 0 = f at *;generalize (ord.take k).foldl (layStep Ks Os n budget) [] = Gs at *;have hbw : Below w.heap.size w wr := HB1.out.trans (HB.out.mono hs1);have hKw := HH.out.1.below hbw;have hOw := HH.out.2.1.below hbw;obtain ⟨ab, cb, aw, cw, hqkl, k0, k1, k2, k3, _, _⟩ := hKw.at2 (i := f) (by rw [HH.out.2.2.1]; exact hfm);obtain ⟨hqol, o0⟩ := hOw.at2 (i := f) (by rw [HH.out.2.2.2.1]; exact hfm);have hOf := hOw.each f (by rw [HH.out.2.2.2.1]; exact hfm);have hOfl : (Os.getD f []).length = n := HH.out.2.2.2.2.1 _ (by simp [List.getD, show f < Os.length by rw [HH.out.2.2.2.1]; exact hfm]);have hmany : (Ks.getD f k0S).many <= 100 := HH.out.2.2.2.2.2 _ (by simp [List.getD, show f < Ks.length by rw [HH.out.2.2.1]; exact hfm]);obtain ⟨fa, fc, hfv⟩ := hOf.shape;rw [hfv] at o0 hOf;rw [hOfl] at o0 hOf;have HMN := KS.many_eq (Ks.getD f k0S)
      have HHM : Hid (∀ W : World, Calls Tryz.prog 146 #[.agg #[.bool (Ks.getD f k0S).e.wd, .slice ab (Ks.getD f k0S).e.bs.length cb, .slice aw (Ks.getD f k0S).e.ww.length cw]] W fun e w' => e = .returned (.int .i64 (((Ks.getD f k0S).many : Nat) : Int)) /\ Below W.heap.size W w') := fun W => by rw [<- HMN];exact howMany_any _ ab aw _ cb _ cw W (by unfold KS.many ES.cnt at hmany; omega)
      have HOF : Hid (OwnO wr 0 (.slice fa n fc) (Os.getD f []) /\ (Os.getD f []).length = n) := ⟨hOf, hOfl⟩;have HSTEP : Hid (layStep Ks Os n budget Gs f = if Gs.findIdx (roomG (Os.getD f []) (Ks.getD f k0S).many budget) < Gs.length then Gs.set (Gs.findIdx (roomG (Os.getD f []) (Ks.getD f k0S).many budget)) (addG (Gs.getD (Gs.findIdx (roomG (Os.getD f []) (Ks.getD f k0S).many budget)) g0S) f (Os.getD f []) (Ks.getD f k0S).many) else Gs ++ [addG (newG n) f (Os.getD f []) (Ks.getD f k0S).many]) := rfl;have HINV : Hid (GInv n (k + 1) (layStep Ks Os n budget Gs f)) := HG.out.2.step hOfl hn hb hmany
      have hfaw : ∀ q, fa = some ⟨q, 0, none⟩ -> q < w.heap.size := fun q hq => by have h0 := HH.out.2.1.each f (by rw [HH.out.2.2.2.1]; exact hfm);rw [hfv, hq] at h0;exact (World.ownsRow.lt h0 q rfl).2
      clear hKw hOw hfv HMN k3 hOf hOfl hbw;generalize Ks.getD f k0S = Kf at *;generalize Os.getD f [] = Of at *;generalize Kf.e.wd = kwd at *;generalize Kf.e.bs.length = knb at *;generalize Kf.e.ww.length = knw at *;generalize Kf.many = km at *;generalize layStep Ks Os n budget Gs f = Gs' at *;obtain ⟨ga, gc, hgv⟩ := HG.out.1.x.form;subst hgv;have bk1 : (0 : Int) <= (k : Int) := (by omega);have bk2 : (k : Int) < (m : Int) + 1 := (by omega);have bf1 : (0 : Int) <= (f : Int) := (by omega);have bf2 : (f : Int) < (m : Int) + 1 := (by omega);go_wp2_with fail
      refine (HHM.out _).mono ?_;rintro e w2 ⟨rfl, hb2⟩;have hs2 := hb2.size;have o2 : w2.cell? ⟨qo, f, none⟩ = some (.slice fa n fc) := (hb2.cell (p := ⟨qo, f, none⟩) hqol).trans o0;have HG2 : Hid (GrpsY w2 w1.heap.size (.slice ga Gs.length gc) gbs Kk Gs) := by refine HG.out.1.touch (S := fun _ => False) (Touch.of_below hb2) (fun _ _ => id)
      have HOF2 : Hid (OwnO w2 0 (.slice fa n fc) Of /\ Of.length = n) := ⟨HOF.out.1.below hb2, HOF.out.2⟩;have HB2 : Hid (Below w1.heap.size w1 w2) := HB.out.trans (hb2.mono hsz);have HOK : Hid (GInv n k Gs) := HG.out.2;have HFW : Hid (Calls Tryz.prog 255 #[.slice ga Gs.length gc, .slice fa n fc, .int .i64 km, .int .i64 budget] w2 fun e w' => e = .returned (fwrV gbs Gs.length (Gs.findIdx (roomG Of km budget))) /\ Below w2.heap.size w2 w') := firstWithRoom_any ga fa gc n fc km budget gbs Kk Gs Of w2 HG2.out.x (HOK.out.ok (by omega)) HOF2.out.1 HOF2.out.2 hn (by omega) (by have := HOK.out.len; omega);clear HG HOF HB hb2 k0 k1 k2 o0 hc0;generalize hgl : Gs.length = gl at *;have HGL : Hid (Gs.length = gl) := hgl;clear hgl;go_wp2_with fail
      refine HFW.out.mono ?_;rintro e w3 ⟨rfl, hb3⟩;have hs3 := hb3.size;have o3 : w3.cell? ⟨qo, f, none⟩ = some (.slice fa n fc) := (hb3.cell (p := ⟨qo, f, none⟩) (by show qo < _; omega)).trans o2;have HG3 : Hid (GrpsY w3 w1.heap.size (.slice ga gl gc) gbs Kk Gs) := HG2.out.touch (S := fun _ => False) (Touch.of_below hb3) (fun _ _ => id);have HOF3 : Hid (OwnO w3 0 (.slice fa n fc) Of /\ Of.length = n) := ⟨HOF2.out.1.below hb3, HOF2.out.2⟩;have HB3 : Hid (Below w1.heap.size w1 w3) := HB2.out.trans (hb3.mono (by omega));clear HG2 HOF2 HB2 HFW hb3 o2;generalize Gs.findIdx (roomG Of km budget) = ix at *
      by_cases hix : ix < gl
      · have hfv : fwrV gbs gl ix = .pointer (some ⟨gbs.getD ix 0, 0, none⟩) := (by unfold fwrV; rw [if_pos hix]; rfl);rw [hfv];obtain ⟨vf, vo, hGK⟩ := HG3.out.x.each ix (by rw [HGL.out]; exact hix);have hok := HOK.out.ok (by omega) (Gs.getD ix g0S) (by simp [List.getD, show ix < Gs.length by rw [HGL.out]; exact hix])
        have HAD : Hid (Calls Tryz.prog 256 #[.pointer (some ⟨gbs.getD ix 0, 0, none⟩), .int .i64 f, .slice fa n fc, .int .i64 km] w3 fun e w' => e = .returned (.tuple #[]) /\ (∃ K', GrpW w' K' (gbs.getD ix 0) (addG (Gs.getD ix g0S) f Of km) /\ ∀ k, K' k -> Kk ix k ∨ w3.heap.size <= k) /\ Touch (Kk ix) w3 w') :=
          add_any (Kk ix) _ f km vf vo fa n fc Of _ w3 hGK HOF3.out.1 hok.out HOF3.out.2 hn hok.conf hok.bins (by omega) hok.fs (fun q hq h1 => by
            have h2 := HG3.out.kb ix (by rw [HGL.out]; exact hix) q h1
            have h3 : fa = some ⟨q, 0, none⟩ := by
              rcases HOF3.out.1.2 with ⟨e, _⟩ | ⟨g, cap, cur, e, _⟩
              rw [e] at hq; cases hq;injection e with e _ _;rw [e] at hq ⊢;simp [Value.ownBlock] at hq;rw [hq]
            have := hfaw q h3
            omega)
        have HST2 : Hid (Gs' = Gs.set ix (addG (Gs.getD ix g0S) f Of km)) := (by have := HSTEP.out;rw [if_pos hix] at this;exact this);clear hGK hok hfv;obtain ⟨gb, hgb⟩ : ∃ gb, gb = gbs.getD ix 0 := ⟨_, rfl⟩;have HGB : Hid (gb = gbs.getD ix 0) := hgb;rw [<- hgb] at HAD ⊢;clear hgb;go_wp2_with fail
        refine HAD.out.mono ?_;rintro e w4 ⟨rfl, ⟨K', hG', hK'⟩, t4⟩;have HF : Hid (GrpsY w4 w1.heap.size (.slice ga gl gc) gbs (fun j => if j = ix then K' else Kk j) ((ord.take (k + 1)).foldl (layStep Ks Os n budget) [])) := (by rw [HNX.out, HST2.out];exact HG3.out.put (by rw [HGL.out]; exact hix) t4 (by rw [<- HGB.out]; exact hG') hK' (by omega));have HBF : Hid (Below w1.heap.size w1 w4) := (by have h3 := HB3.out;exact ⟨t4.os.trans h3.os, t4.tape.trans h3.tape, t4.output.trans h3.output, Nat.le_trans h3.size t4.size, fun q hq => (t4.block q (by omega) (fun h => by have := HG3.out.kb ix (by rw [HGL.out]; exact hix) q h; omega)).trans (h3.block q hq)⟩);have HIN : Hid (GInv n (k + 1) ((ord.take (k + 1)).foldl (layStep Ks Os n budget) [])) := (by rw [HNX.out]; exact HINV.out);clear hG' hK' t4 HAD HG3 HB3 HOF3 o3;go_wp2
        go_roundw
        case rel => exact ⟨k + 1, gbs, _, by go_num, by omega, ⟨HF.out, HIN.out⟩, HBF⟩
        case measure => simp [intOf]; omega
      · have hfv : fwrV gbs gl ix = .pointer none := (by unfold fwrV; rw [if_neg hix]);rw [hfv];have HST2 : Hid (Gs' = Gs ++ [addG (newG n) f Of km]) := (by have := HSTEP.out;rw [if_neg hix] at this;exact this);have hmk := make_flags n (by omega);clear hfv;have HROW : Hid (w3.ownsRow 0 313 1 (.slice ga gl gc) gl (gbs.map ptrV)) := (by have := HG3.out.x.row; rw [HGL.out] at this; exact this);go_wp2_with (at_builtin; refine wpList_append_mark rfl (.tmp 43) (.tmp 45) 311 rfl 0 313 j0 (.pointer none) 1 8 Tryz.underlying311 jinf jz0 jz1 jz2 rfl (by decide) _ gl (gbs.map ptrV) rfl (((HROW.out.alloc _).alloc _).alloc _) ⟨w3.heap.size + 1 + 1, 0, none⟩ 1 1 [.pointer (some ⟨w3.heap.size + 1, 0, none⟩)] rfl rfl ?_ ?_ ?_ ?_ ?_ ?_ ?_)
        · intro j u hj
          cases j with
          | zero => simp at hj; subst hj; simp [go_sem, Addr.add]
          | succ j => simp at hj
        intro u hu; simp at hu; subst hu; rfl;decide;unfold maxLen; have := HOK.out.len; have := HGL.out; omega;have := HOK.out.len; have := HGL.out; omega;omega;intro v4 w4 H4;obtain ⟨r4, g4, d4, _, _⟩ := H4.out;obtain ⟨wx, hwx⟩ : ∃ wx, wx = ((w3.alloc (.cells (madeCells #[.bool false] n) 4)).alloc (.cells #[.slice none 0 0, .slice (some ⟨w3.heap.size, 0, none⟩) n n, .int .i64 0, .int .i64 0] 351)).alloc (.cells #[.pointer (some ⟨w3.heap.size + 1, 0, none⟩)] 313) := ⟨_, rfl⟩;rw [<- hwx] at g4 d4;have hxs : wx.heap.size = w3.heap.size + 1 + 1 + 1 := (by rw [hwx]; simp);have hbx : Below w3.heap.size w3 wx := (by rw [hwx]; exact (((Below.refl _ _).alloc (Nat.le_refl _) _).alloc (by simp) _).alloc (by simp; omega) _);have hGx : GrpsY wx w1.heap.size (.slice ga gl gc) gbs Kk Gs := HG3.out.touch (S := fun _ => False) (Touch.of_below hbx) (fun _ _ => id)
        have hflag : OwnO (w3.alloc (.cells (madeCells #[.bool false] n) 4)) 0 (.slice (some ⟨w3.heap.size, 0, none⟩) n n) (List.replicate n false) := made_flags n w3 0 (by omega) (Nat.zero_le _)
        have hnew : GrpW wx (fun q => q = w3.heap.size ∨ q = w3.heap.size + 1) (w3.heap.size + 1) (newG n) := by refine ⟨.slice none 0 0, .slice (some ⟨w3.heap.size, 0, none⟩) n n, ⟨?_, OwnI.nil _ _, ?_, .inr rfl, fun q hq => by simp [Value.ownBlock] at hq, fun q hq => by simp [Value.ownBlock] at hq; exact .inl hq.symm, fun q hq => by rcases hq with e | e <;> omega⟩⟩;rw [hwx];have := heap_alloc_new (w3.alloc (.cells (madeCells #[.bool false] n) 4)) (.cells #[.slice none 0 0, .slice (some ⟨w3.heap.size, 0, none⟩) n n, .int .i64 0, .int .i64 0] 351);rw [show (w3.alloc (.cells (madeCells #[.bool false] n) 4)).heap.size = w3.heap.size + 1 by simp] at this;exact (Below.heap_alloc _ _ _ (by simp)).trans this;rw [hwx]; exact (hflag.alloc _).alloc _
        have hGY : GrpsY w4 w1.heap.size v4 (gbs ++ [w3.heap.size + 1]) (fun j => if j = Gs.length then (fun q => q = w3.heap.size ∨ q = w3.heap.size + 1) else Kk j) (Gs ++ [newG n]) := by
          refine hGx.snoc (by rw [HGL.out]; exact r4) g4 ?_ hnew (fun i hi q hq h1 => ?_) (fun q hq h1 => ?_) (fun q hq => by rcases hq with e | e <;> omega) (by omega)
          · rcases d4 with e | e
            exact .inl e;exact .inr ⟨_, e.1, by omega⟩
          · obtain ⟨vf, vo, hG⟩ := HG3.out.x.each i hi;have := hG.kl q hq
            rcases h1 with e | e <;> omega
          · have := (World.ownsRow.lt HROW.out q hq).2
            rcases h1 with e | e <;> omega
        have hb4 : Below w3.heap.size w3 wx := hbx;have t34 : Touch (fun q => (Value.slice ga gl gc).ownBlock = some q) w3 w4 := (Touch.of_below hbx).trans ((Touch.refl _ wx).grown g4 (fun q hq _ => hq));have hs4 : w3.heap.size + 1 + 1 + 1 <= w4.heap.size := by rw [<- hxs]; exact g4.size
        have o4 : w4.cell? ⟨qo, f, none⟩ = some (.slice fa n fc) := by
          have : w4.heap[qo]? = w3.heap[qo]? := t34.block qo (by omega) (fun hq => by
            obtain ⟨cur, hc⟩ := row_type HROW.out hq;have h1 := HG3.out.rb qo hq;have := HH.out.2.1.at2 (i := f) (by rw [HH.out.2.2.2.1]; exact hfm)
            omega)
          rw [World.cell?_of_block (a := ⟨qo, f, none⟩) this];exact o3
        have hOF4 : OwnO w4 0 (.slice fa n fc) Of := t34.row HOF3.out.1 (fun q hq h1 => by
          have h2 := HG3.out.rb q h1
          have h3 : fa = some ⟨q, 0, none⟩ := by
            rcases HOF3.out.1.2 with ⟨e, _⟩ | ⟨g, cap, cur, e, _⟩
            rw [e] at hq; cases hq;injection e with e _ _;rw [e] at hq ⊢;simp [Value.ownBlock] at hq;rw [hq]
          have := hfaw q h3
          omega)
        obtain ⟨vf, vo, hGK⟩ := hGY.x.each Gs.length (by simp);have e1 : (Gs ++ [newG n]).getD Gs.length g0S = newG n := (by simp [List.getD]);have e2 : (gbs ++ [w3.heap.size + 1]).getD Gs.length 0 = w3.heap.size + 1 := (by have := HG3.out.x.len; simp [List.getD, <- this]);rw [e1, e2] at hGK;simp only [if_true] at hGK
        have HAD : Hid (Calls Tryz.prog 256 #[.pointer (some ⟨w3.heap.size + 1, 0, none⟩), .int .i64 f, .slice fa n fc, .int .i64 km] w4 fun e w' => e = .returned (.tuple #[]) /\ (∃ K', GrpW w' K' (w3.heap.size + 1) (addG (newG n) f Of km) /\ ∀ k, K' k -> (k = w3.heap.size ∨ k = w3.heap.size + 1) ∨ w4.heap.size <= k) /\ Touch (fun q => q = w3.heap.size ∨ q = w3.heap.size + 1) w4 w') :=
          add_any (fun q => q = w3.heap.size ∨ q = w3.heap.size + 1) _ f km vf vo fa n fc Of _ w4 hGK hOF4 (by simp [newG]) HOF3.out.2 hn (by simp [newG]) (by simp [newG]) (by omega) (by simp [newG]) (fun q hq h1 => by
            have h3 : fa = some ⟨q, 0, none⟩ := by
              rcases HOF3.out.1.2 with ⟨e, _⟩ | ⟨g, cap, cur, e, _⟩
              rw [e] at hq; cases hq;injection e with e _ _;rw [e] at hq ⊢;simp [Value.ownBlock] at hq;rw [hq]
            have := hfaw q h3
            rcases h1 with e | e <;> omega)
        have HGY : Hid (GrpsY w4 w1.heap.size v4 (gbs ++ [w3.heap.size + 1]) (fun j => if j = Gs.length then (fun q => q = w3.heap.size ∨ q = w3.heap.size + 1) else Kk j) (Gs ++ [newG n])) := hGY;have HB4 : Hid (Below w1.heap.size w1 w4) := (by have h3 := HB3.out;exact ⟨t34.os.trans h3.os, t34.tape.trans h3.tape, t34.output.trans h3.output, Nat.le_trans h3.size t34.size, fun q hq => (t34.block q (by omega) (fun h => by have := HG3.out.rb q h; omega)).trans (h3.block q hq)⟩);obtain ⟨ga4, gc4, hv4⟩ := hGY.x.form;rw [List.length_append] at hv4;simp only [List.length_cons, List.length_nil, Nat.zero_add, HGL.out] at hv4;subst hv4;have HE2 : Hid ((gbs ++ [w3.heap.size + 1]).getD Gs.length 0 = w3.heap.size + 1) := e2;clear H4 r4 g4 d4 hwx hxs hbx hGx hflag hnew hGY hb4 t34 hOF4 hGK e1 e2 hmk o3 HG3 HB3 HROW HOF3;go_wp2_with fail
        refine HAD.out.mono ?_;rintro e w5 ⟨rfl, ⟨K', hG', hK'⟩, t5⟩;have HF : Hid (GrpsY w5 w1.heap.size (.slice ga4 (gl + 1) gc4) (gbs ++ [w3.heap.size + 1]) (fun j => if j = Gs.length then K' else (if j = Gs.length then (fun q => q = w3.heap.size ∨ q = w3.heap.size + 1) else Kk j)) ((ord.take (k + 1)).foldl (layStep Ks Os n budget) [])) := by rw [HNX.out, HST2.out];have := HGY.out.put (i := Gs.length) (K' := K') (G' := addG (newG n) f Of km) (by simp) (by simpa using t5) (by rw [HE2.out]; exact hG') (by simpa using hK') (by omega);have e : (Gs ++ [newG n]).set Gs.length (addG (newG n) f Of km) = Gs ++ [addG (newG n) f Of km] := (by rw [List.set_append_right _ _ (Nat.le_refl _), Nat.sub_self, List.set_cons_zero]);rw [e] at this;exact this
        have HBF : Hid (Below w1.heap.size w1 w5) := (by have h3 := HB4.out;exact ⟨t5.os.trans h3.os, t5.tape.trans h3.tape, t5.output.trans h3.output, Nat.le_trans h3.size t5.size, fun q hq => (t5.block q (by omega) (fun h => by rcases h with e | e <;> omega)).trans (h3.block q hq)⟩);have HIN : Hid (GInv n (k + 1) ((ord.take (k + 1)).foldl (layStep Ks Os n budget) [])) := (by rw [HNX.out]; exact HINV.out);clear hG' hK' t5 HAD HGY HB4 o4 HE2;go_wp2
        go_roundw
        case rel => exact ⟨k + 1, _, _, by go_num, by omega, ⟨HF.out, HIN.out⟩, HBF⟩
        case measure => simp [intOf]; omega
    · have hnk : ¬ (k : Int) < (m : Int) + 1 := (by omega);have HF : Hid (GrpsY wr w1.heap.size u7 gbs Kk (layF m Ks Os n budget) /\ Below w.heap.size w wr) := (by have h1 := HG.out.1;rw [List.take_of_length_le (by have := HOL.out.1; omega)] at h1;rw [HLAY.out];exact ⟨h1, HB1.out.trans (HB.out.mono hs1)⟩);clear HG HB;go_wp2
      go_ret
      exact ⟨_, rfl, ⟨_, _, _, hs1, HF.out.1⟩, HF.out.2⟩
end Go.Proofs.YtfcgnpchbcmdeaaGreat

namespace Go.Proofs.YtfcgnpchbcmdeaaGreat
set_option maxRecDepth 100000
set_option maxHeartbeats 4000000
open Go.RowKit
theorem width_any (r d : Int) (w : World) : Calls Tryz.prog 330 #[.agg #[.int .i64 r, .int .i64 d]] w fun e w' => e = .returned (.int .i64 d) /\ w' = w.alloc (.cells #[.int .i64 r, .int .i64 d] 379) := by
  go_enter Tryz.func330, Tryz.ntmps330
  go_wp2
  go_ret
  exact ⟨rfl, rfl⟩
theorem rows_any (r d : Int) (w : World) : Calls Tryz.prog 299 #[.agg #[.int .i64 r, .int .i64 d]] w fun e w' => e = .returned (.int .i64 r) /\ w' = w.alloc (.cells #[.int .i64 r, .int .i64 d] 379) := by
  go_enter Tryz.func299, Tryz.ntmps299
  go_wp2
  go_ret
  exact ⟨rfl, rfl⟩
theorem OwnB.put {w : World} {base g cap n k : Nat} {zs : List Int} (h : OwnB w base (.slice (some ⟨g, 0, none⟩) n cap) zs) (hn : n = zs.length) (z : Int) : OwnB (w.setCell ⟨g, k, none⟩ (.int .u8 z)) base (.slice (some ⟨g, 0, none⟩) n cap) (zs.set k z) /\ w.grownBy (w.setCell ⟨g, k, none⟩ (.int .u8 z)) (some g) := by subst hn;obtain ⟨h1, h2⟩ := World.ownsRow.stored h k (.int .u8 z);refine ⟨?_, h2⟩;unfold OwnB;rw [List.length_set, List.map_set];exact h1
theorem OwnB.cellK {w : World} {base g cap n k : Nat} {zs : List Int} (h : OwnB w base (.slice (some ⟨g, 0, none⟩) n cap) zs) (hn : n = zs.length) (hk : k < n) : w.cell? ⟨g, k, none⟩ = some (.int .u8 (zs.getD k 0)) /\ w.frozen? ⟨g, k, none⟩ = false := by subst hn;refine ⟨?_, World.ownsRow.frozenAt h k⟩;rw [World.ownsRow.cellAt h k (by omega)];simp [List.getD, hk]
theorem OwnB.alloc {w : World} {base : Nat} {v : Value} {zs : List Int} (h : OwnB w base v zs) (o : Obj) : OwnB (w.alloc o) base v zs := World.ownsRow.alloc h o
theorem put_any (db base rows d q c nb row n : Nat) (f : Nat -> Nat) (w : World) (hblk : w.heap[db]? = some (.cells #[.int .i64 (rows : Nat), .int .i64 (d : Nat), .slice (some ⟨q, 0, none⟩) nb c] 396 (0, 0))) (hB : OwnB w base (.slice (some ⟨q, 0, none⟩) nb c) (packF f nb (row * d))) (hf : ∀ t, f t <= 1) (hfn : ∀ i, i < d -> f (row * d + i) = n / 2 ^ i % 2) (hnb : row * d + d <= 8 * nb) (hr : row <= 200) (hd : d <= 6) : Calls Tryz.prog 331 #[.pointer (some ⟨db, 0, none⟩), .int .i64 row, .int .i64 n] w fun e w' => e = .returned (.tuple #[]) /\ OwnB w' base (.slice (some ⟨q, 0, none⟩) nb c) (packF f nb (row * d + d)) /\ Touch (fun k => k = q) w w' := by
  have c0 : w.cell? ⟨db, 0, none⟩ = some (.int .i64 (rows : Nat)) := cell_of_row _ _ 0 _ 396 (0, 0) hblk;have c1 : w.cell? ⟨db, 1, none⟩ = some (.int .i64 (d : Nat)) := cell_of_row _ _ 1 _ 396 (0, 0) hblk;have hdl : db < w.heap.size := (Array.getElem?_eq_some_iff.1 hblk).1
  have hqd : db ≠ q := fun e => by obtain ⟨cur, hc⟩ := row_type hB (k := q) rfl;rw [e, hc] at hblk;simp at hblk
  have hm0 : row * d <= 1200 := Nat.mul_le_mul hr hd;have hm2 : (row : Int) * (d : Int) = ((row * d : Nat) : Int) := (by simp);have HFN : Hid (∀ i, i < d -> f (row * d + i) = n / 2 ^ i % 2) := hfn;have HF : Hid (∀ t, f t <= 1) := hf;have HBLK : Hid (w.heap[db]? = some (.cells #[.int .i64 (rows : Nat), .int .i64 (d : Nat), .slice (some ⟨q, 0, none⟩) nb c] 396 (0, 0))) := hblk;have HOB : Hid (OwnB w base (.slice (some ⟨q, 0, none⟩) nb c) (packF f nb (row * d))) := hB;clear hblk hB hf hfn;generalize row * d = P at *;go_enter Tryz.func331, Tryz.ntmps331
  go_wp2_with fail
  refine (width_any _ _ _).mono ?_;rintro e w1 ⟨rfl, rfl⟩;go_wp2_with fail
  refine (width_any _ _ _).mono ?_;rintro e w1 ⟨rfl, rfl⟩;go_wp2_with fail
  go_loopw [21] (fun ti wr => ∃ k : Nat, ti = .int .i64 k /\ k <= d /\ Hid (OwnB wr base (.slice (some ⟨q, 0, none⟩) nb c) (packF f nb (P + k)) /\ Touch (fun x => x = q) w wr)) (fun ti _ => d - (intOf ti).toNat)
  case atStart => exact ⟨0, rfl, Nat.zero_le _, (HOB.out.alloc _).alloc _, ((Touch.refl _ _).alloc _).alloc _⟩
  case round =>
    clear HOB c0 c1;obtain ⟨k, rfl, hk, HR⟩ := hrel
    by_cases hkd : k < d
    · have hblk2 : wr.heap[db]? = some (.cells #[.int .i64 (rows : Nat), .int .i64 (d : Nat), .slice (some ⟨q, 0, none⟩) nb c] 396 (0, 0)) := HR.out.2.at_ HBLK.out hqd;have c2 : wr.drew.cell? ⟨db, 2, none⟩ = some (.slice (some ⟨q, 0, none⟩) nb c) := cell_of_row _ _ 2 _ 396 (0, 0) hblk2;obtain ⟨T, hT⟩ : ∃ T, T = P + k := ⟨_, rfl⟩;obtain ⟨J, hJ⟩ : ∃ J, J = T / 8 := ⟨_, rfl⟩;obtain ⟨R, hR⟩ : ∃ R, R = T % 8 := ⟨_, rfl⟩;have hJn : J < nb := (by omega);obtain ⟨cf1, cf2⟩ := HR.out.1.cellK (k := J) (by rw [packF_len]) hJn;rw [packF_getD f _ hJn] at cf1;obtain ⟨y, hy⟩ : ∃ y, y = byteF f (P + k) J := ⟨_, rfl⟩;obtain ⟨bt, hbt⟩ : ∃ bt, bt = n / 2 ^ k % 2 := ⟨_, rfl⟩;have hfb : f T = bt := (by rw [hT, HFN.out k hkd, hbt]);have hy256 : y < 256 := (by rw [hy]; exact byteF_lt HF.out _ _);have hyl : y < 2 ^ R := (by rw [hy, hJ, hR, <- hT]; exact byteF_here HF.out T);have hb1 : bt <= 1 := by omega
      have hR8 : R < 8 := by omega
      have h2R : 2 ^ R <= 128 := by
        have : (2 : Nat) ^ R <= 2 ^ 7 := Nat.pow_le_pow_right (by decide) (by omega)
        simpa using this
      have hbm : bt * 2 ^ R <= 1 * 2 ^ R := Nat.mul_le_mul_right _ hb1;have hnx : byteF f (P + k + 1) J = y + bt * 2 ^ R := by rw [hy, hJ, hR, <- hT, byteF_at, hfb]
      have HSET : Hid ((packF f nb (P + k)).set J ((y + bt * 2 ^ R : Nat) : Int) = packF f nb (P + (k + 1))) := by show _ = _;rw [<- hnx];have := packF_set f nb (P + k);rw [<- hT, <- hJ, hT] at this;exact this
      have hor : y ||| bt * 2 ^ R = y + bt * 2 ^ R := or_bit hyl
      have q1 : (P : Int) + (k : Int) = (T : Int) := (by omega);have q2 : (T : Int).tdiv 8 = (J : Int) := (by rw [Int.tdiv_eq_ediv_of_nonneg (by omega)]; omega);have q3 : (T : Int) / 8 = (J : Int) := (by omega);have q4 : (T : Int).tmod 8 = (R : Int) := (by rw [Int.tmod_eq_emod_of_nonneg (by omega)]; omega);have q5 : (T : Int) % 8 = (R : Int) := by omega
      have q6 : bits BinOp.and IntKind.u8 ((n : Int) / 2 ^ k % 256) 1 = (bt : Int) := by have e : ((n : Int) / 2 ^ k % 256) = ((n / 2 ^ k % 256 : Nat) : Int) := (by simp);rw [e];have := (bitsU8 (n / 2 ^ k % 256) 1 (by omega) (by decide)).1;rw [and_one] at this;rw [hbt];rw [show ((1 : Nat) : Int) = 1 from rfl] at this;rw [this];have : n / 2 ^ k % 256 % 2 = n / 2 ^ k % 2 := (by omega);rw [this]
      have q7 : IntKind.i64.wrap (T : Int) = (T : Int) := wrapI (by omega) (by omega);have q8 : IntKind.i64.wrap (J : Int) = (J : Int) := wrapI (by omega) (by omega);obtain ⟨z, hz⟩ : ∃ z, z = bt * 2 ^ R := ⟨_, rfl⟩;have hz256 : z < 256 := by omega
      have q9 : IntKind.u8.wrap ((bt : Int) * 2 ^ R) = (z : Int) := by
        rw [wraps_u8 _ (by exact_mod_cast Nat.zero_le (bt * 2 ^ R)) (by
          have : ((bt : Int) * 2 ^ R) = ((bt * 2 ^ R : Nat) : Int) := by simp
          rw [this, <- hz]; omega)]
        rw [hz]; simp
      obtain ⟨u, hu⟩ : ∃ u, u = y + z := ⟨_, rfl⟩;have q10 : bits BinOp.or IntKind.u8 (y : Int) (z : Int) = (u : Int) := by rw [(bitsU8 y z hy256 hz256).2, hz, hor, hu, hz]
      rw [<- hz, <- hu] at HSET;have br1 : (0 : Int) <= (R : Int) := (by omega);have br2 : (R : Int) <= 8 := (by omega);clear hz hu hor hbm hyl;rw [<- hy] at cf1;have d1 : wr.drew.cell? ⟨q, J, none⟩ = some (.int .u8 (y : Nat)) := cf1;have fq : wr.drew.frozen? ⟨q, J, none⟩ = false := cf2;have bk1 : (0 : Int) <= (k : Int) := (by omega);have bk2 : (k : Int) < (d : Int) := (by omega);have bj1 : (0 : Int) <= (J : Int) := (by omega);have bj2 : (J : Int) < (nb : Int) := (by omega);have bT : (T : Int) <= 1300 := (by omega);have HRR : Hid (OwnB wr base (.slice (some ⟨q, 0, none⟩) nb c) (packF f nb (P + k)) /\ Touch (fun x => x = q) w wr) := HR;have HQ3 : Hid (P + k = T) := hT.symm;clear hblk2 hT hJ hR cf1 cf2 hy hbt hfb hnx HR;go_upto_region 5 with fail
      refine wp_region_S (fun w' => w'.cell? ⟨db, 2, none⟩ = some (.slice (some ⟨q, 0, none⟩) nb c) /\ w'.cell? ⟨q, J, none⟩ = some (.int .u8 (y : Nat))) 18 (by kernel_rfl) ⟨c2, d1⟩ (fun hHeld => ?_);refine tkL [1, 2, 3, 8, 9, 16, 17, 18] (i := 0) (v := ?_) (hy := Or.inl ⟨by rfl, ?_⟩) (h := ?_)
      rotate_left;· intro w hSw;(try dsimp only at hSw);go_simp;try with_reducible rfl
      try simp only [Act.put, sA, sB, sC]
      refine tkL [2, 3, 8, 9, 16, 17, 18] (i := 1) (v := ?_) (hy := Or.inl ⟨by rfl, ?_⟩) (h := ?_)
      rotate_left;· intro w hSw;(try dsimp only at hSw);go_simp;try with_reducible rfl
      try simp only [Act.put, sA, sB, sC]
      refine tkL [3, 8, 9, 16, 17, 18] (i := 2) (v := ?_) (hy := Or.inl ⟨by rfl, ?_⟩) (h := ?_)
      rotate_left;· intro w hSw;(try dsimp only at hSw);go_simp;try with_reducible rfl
      try simp only [Act.put, sA, sB, sC]
      refine tkL [8, 9, 16, 17, 18] (i := 3) (v := ?_) (hy := Or.inl ⟨by rfl, ?_⟩) (h := ?_)
      rotate_left
      · intro w hSw;try obtain ⟨_, _⟩ := hSw
        (try dsimp only at hSw)
        go_simp;try with_reducible rfl
      try simp only [Act.put, sA, sB, sC]
      refine tkL [6, 7, 8, 9, 16, 17, 18] (i := 4) (v := ?_) (hy := Or.inl ⟨by rfl, ?_⟩) (h := ?_)
      rotate_left;· intro w hSw;(try dsimp only at hSw);go_simp;try with_reducible rfl
      try simp only [Act.put, sA, sB, sC]
      refine tkL [6, 7, 8, 9, 16, 17, 18] (i := 5) (v := ?_) (hy := Or.inl ⟨by rfl, ?_⟩) (h := ?_)
      rotate_left;· intro w hSw;(try dsimp only at hSw);go_simp;try with_reducible rfl
      try simp only [Act.put, sA, sB, sC]
      refine tkL [7, 8, 9, 16, 17, 18] (i := 6) (v := ?_) (hy := Or.inl ⟨by rfl, ?_⟩) (h := ?_)
      rotate_left;· intro w hSw;(try dsimp only at hSw);go_simp;try with_reducible rfl
      try simp only [Act.put, sA, sB, sC]
      refine tkL [8, 9, 16, 17, 18] (i := 7) (v := ?_) (hy := Or.inl ⟨by rfl, ?_⟩) (h := ?_)
      rotate_left;· intro w hSw;(try dsimp only at hSw);go_simp;try with_reducible rfl
      try simp only [Act.put, sA, sB, sC]
      refine tkL [9, 16, 17, 18] (i := 8) (v := ?_) (hy := Or.inl ⟨by rfl, ?_⟩) (h := ?_)
      rotate_left;· intro w hSw;(try dsimp only at hSw);go_simp;try with_reducible rfl
      try simp only [Act.put, sA, sB, sC]
      refine tkL [16, 17, 18] (i := 9) (v := ?_) (hy := Or.inl ⟨by rfl, ?_⟩) (h := ?_)
      rotate_left
      · intro w hSw;try obtain ⟨_, _⟩ := hSw
        (try dsimp only at hSw)
        go_simp;try with_reducible rfl
      try simp only [Act.put, sA, sB, sC]
      refine tkL [15, 16, 17, 18] (i := 10) (v := ?_) (hy := Or.inl ⟨by rfl, ?_⟩) (h := ?_)
      rotate_left;· intro w hSw;(try dsimp only at hSw);go_simp;try with_reducible rfl
      try simp only [Act.put, sA, sB, sC]
      refine tkL [13, 14, 15, 16, 17, 18] (i := 11) (v := ?_) (hy := Or.inl ⟨by rfl, ?_⟩) (h := ?_)
      rotate_left;· intro w hSw;(try dsimp only at hSw);go_simp;try with_reducible rfl
      try simp only [Act.put, sA, sB, sC]
      refine tkL [13, 14, 15, 16, 17, 18] (i := 12) (v := ?_) (hy := Or.inl ⟨by rfl, ?_⟩) (h := ?_)
      rotate_left;· intro w hSw;(try dsimp only at hSw);go_simp;try with_reducible rfl
      try simp only [Act.put, sA, sB, sC]
      refine tkL [14, 15, 16, 17, 18] (i := 13) (v := ?_) (hy := Or.inl ⟨by rfl, ?_⟩) (h := ?_)
      rotate_left;· intro w hSw;(try dsimp only at hSw);go_simp;try with_reducible rfl
      try simp only [Act.put, sA, sB, sC]
      refine tkL [15, 16, 17, 18] (i := 14) (v := ?_) (hy := Or.inl ⟨by rfl, ?_⟩) (h := ?_)
      rotate_left;· intro w hSw;(try dsimp only at hSw);go_simp;try with_reducible rfl
      try simp only [Act.put, sA, sB, sC]
      refine tkL [16, 17, 18] (i := 15) (v := ?_) (hy := Or.inl ⟨by rfl, ?_⟩) (h := ?_)
      rotate_left;· intro w hSw;(try dsimp only at hSw);go_simp;try with_reducible rfl
      try simp only [Act.put, sA, sB, sC]
      refine tkL [17, 18] (i := 16) (v := ?_) (hy := Or.inl ⟨by rfl, ?_⟩) (h := ?_)
      rotate_left;· intro w hSw;(try dsimp only at hSw);go_simp;try with_reducible rfl
      try simp only [Act.put, sA, sB, sC]
      refine tkL [18] (i := 17) (v := ?_) (hy := Or.inl ⟨by rfl, ?_⟩) (h := ?_)
      rotate_left;· intro w hSw;(try dsimp only at hSw);go_simp;try with_reducible rfl
      try simp only [Act.put, sA, sB, sC]
      refine wpAnyS_lastL (i := 18) (by kernel_rfl) rfl (by kernel_rfl) (fun KK hK => ?_);go_simp;refine hK.out _ _ ?_;clear hK KK;try simp only [Act.put, sA, sB, sC]
      refine wpAnyS_done (by kernel_rfl) ?_ _;have HF2 : Hid (OwnB (wr.setCell ⟨q, J, none⟩ (.int .u8 (u : Nat))).drew base (.slice (some ⟨q, 0, none⟩) nb c) (packF f nb (P + (k + 1))) /\ Touch (fun x => x = q) w (wr.setCell ⟨q, J, none⟩ (.int .u8 (u : Nat))).drew) := (by rw [<- HSET.out];exact ⟨World.ownsRow.drew (HRR.out.1.put (by rw [packF_len]) _).1, (HRR.out.2.setCell (p := ⟨q, J, none⟩) (fun _ => rfl) _).drew⟩);clear HRR hHeld c2 d1 fq q1 q2 q3 q4 q5 q6 q7 q8 q9 q10;go_wp2
      go_roundw
      case rel => exact ⟨k + 1, by go_num, by omega, HF2⟩
      case measure => simp [intOf]; omega
    · have hnk : ¬ (k : Int) < (d : Int) := (by omega);have HF2 : Hid (OwnB wr base (.slice (some ⟨q, 0, none⟩) nb c) (packF f nb (P + d)) /\ Touch (fun x => x = q) w wr) := (by have : k = d := (by omega);subst this;exact HR);clear HR;go_wp2
      go_end0
      exact ⟨rfl, HF2.out.1, HF2.out.2⟩
end Go.Proofs.YtfcgnpchbcmdeaaGreat

namespace Go.Proofs.YtfcgnpchbcmdeaaGreat
open Go.RowKit
theorem make_bytes (n : Nat) (hn : n <= 1000000) (W : World) : (Instr.makeSlice 66 (.int .i64 (n : Int)) (.int .i64 (n : Int))).run Tryz.prog W = .ok (.slice (some ⟨W.heap.size, 0, none⟩) n n) (W.alloc (.cells (madeCells #[.int .u8 0] n) 5)) := by obtain ⟨i0, hinf, hz0, hz1, hz2⟩ := info_parts info5;have := run_make (P := Tryz.prog) W 66 5 i0 _ Tryz.underlying66 hinf hz0 .i64 .i64 (n : Int) (n : Int) (by omega) (by omega) (by rw [hz2]; omega) (by omega);rw [hz1] at this;rw [this, Int.toNat_natCast, Nat.mul_one];rfl
theorem made_bytes (n : Nat) (W : World) (base : Nat) (hn : n <= 1000000) (hb : base <= W.heap.size) : OwnB (W.alloc (.cells (madeCells #[.int .u8 0] n) 5)) base (.slice (some ⟨W.heap.size, 0, none⟩) n n) (List.replicate n 0) := by
  have := World.ownsRow_lit (base := base) (size := 1) (e := 5) W (madeCells #[.int .u8 0] n) n hb (by unfold maxLen; omega) (by simp [madeCells]);rw [made_one] at this;unfold OwnB
  simpa using this
def bitsN (N : List Nat) (d t : Nat) : Nat := N.getD (t / d) 0 / 2 ^ (t % d) % 2
theorem bitsN_le (N : List Nat) (d : Nat) : ∀ t, bitsN N d t <= 1 := fun t => by unfold bitsN; omega
theorem bitsN_at (N : List Nat) {d row i : Nat} (h : i < d) : bitsN N d (row * d + i) = N.getD row 0 / 2 ^ i % 2 := by unfold bitsN;have e1 : (row * d + i) / d = row := (by rw [Nat.mul_comm, Nat.mul_add_div (by omega), Nat.div_eq_of_lt h, Nat.add_zero]);have e2 : (row * d + i) % d = i := (by rw [Nat.mul_comm, Nat.mul_add_mod, Nat.mod_eq_of_lt h]);rw [e1, e2]
structure DenX (w : World) (base db q n d : Nat) (bs : List Int) : Prop where
  blk : w.heap[db]? = some (.cells #[.int .i64 (n : Nat), .int .i64 (d : Nat), .slice (some ⟨q, 0, none⟩) bs.length bs.length] 396 (0, 0))
  row : OwnB w base (.slice (some ⟨q, 0, none⟩) bs.length bs.length) bs
def DenV (w : World) (base : Nat) (v : Value) (n d : Nat) (bs : List Int) : Prop := ∃ db q, v = .pointer (some ⟨db, 0, none⟩) /\ base <= db /\ DenX w base db q n d bs
set_option maxRecDepth 100000 in
set_option maxHeartbeats 4000000 in
theorem newDense_any (va : Option Addr) (n d m vc : Nat) (N : List Nat) (w : World) (hv : OwnI w 0 (.slice va m vc) (natI N)) (hN : N.length = m) (hmn : m <= n) (hn : n <= 200) (hd : d <= 6) : Calls Tryz.prog 301 #[.agg #[.int .i64 n, .int .i64 d], .slice va m vc] w fun e w' => ∃ v, e = .returned v /\ DenV w' w.heap.size v n d (packF (bitsN N d) ((n * d + 7) / 8) (m * d)) /\ Below w.heap.size w w' := by
  have HV : Hid (OwnI w 0 (.slice va m vc) (natI N) /\ N.length = m) := ⟨hv, hN⟩;obtain ⟨P, hP⟩ : ∃ P, P = n * d := ⟨_, rfl⟩;have hP0 : P <= 1200 := (by rw [hP]; exact Nat.mul_le_mul hn hd);have hm2 : (n : Int) * (d : Int) = (P : Int) := (by rw [hP]; simp);obtain ⟨nb, hnb⟩ : ∃ nb, nb = (P + 7) / 8 := ⟨_, rfl⟩;have HNB : Hid (nb = (n * d + 7) / 8 /\ P = n * d /\ nb = (P + 7) / 8) := ⟨by rw [hnb, hP], hP, hnb⟩;have q1 : ((P : Int) + 7).tdiv 8 = (nb : Int) := (by rw [Int.tdiv_eq_ediv_of_nonneg (by omega)]; omega);have q2 : IntKind.i64.wrap (P : Int) = (P : Int) := wrapI (by omega) (by omega);have q3 : IntKind.i64.wrap ((P : Int) + 7) = (P : Int) + 7 := wrapI (by omega) (by omega);have q4 : IntKind.i64.wrap (nb : Int) = (nb : Int) := wrapI (by omega) (by omega);have hmk := make_bytes nb (by omega);have hnb2 : nb <= 151 := (by omega);rw [<- HNB.out.1];clear hv hN hP hnb
  go_enter Tryz.func301, Tryz.ntmps301
  go_upto_region 1 with fail
  obtain ⟨w0, hw0⟩ : ∃ w0, w0 = w.alloc (.cells #[.int .i64 (n : Nat), .int .i64 (d : Nat)] 379) := ⟨_, rfl⟩;rw [<- hw0];have hs0 : w0.heap.size = w.heap.size + 1 := (by rw [hw0]; simp);have d0 : w0.cell? ⟨w.heap.size, 0, none⟩ = some (.int .i64 (n : Nat)) := (by rw [hw0]; simp [go_sem]);have d1 : w0.cell? ⟨w.heap.size, 1, none⟩ = some (.int .i64 (d : Nat)) := (by rw [hw0]; simp [go_sem]);have HB0 : Hid (Below w.heap.size w w0) := (by show Below _ _ _; rw [hw0]; exact (Below.refl _ _).alloc (Nat.le_refl _) _);have hlt0 : w.heap.size < w0.heap.size := (by omega);have HS0 : Hid (w0.heap.size = w.heap.size + 1) := hs0;clear hw0 hs0
  go_region_held3 (fun w' => w'.cell? ⟨w.heap.size, 0, none⟩ = some (.int .i64 (n : Nat)) /\ w'.cell? ⟨w.heap.size, 1, none⟩ = some (.int .i64 (d : Nat))) (exact ⟨(Below.cell (B := w0.heap.size) (w := w0) (p := ⟨w.heap.size, 0, none⟩) (by repeat (first | with_reducible exact Below.refl _ _ | with_reducible apply Below.drew | (refine Below.alloc ?_ (by first | omega | (simp; omega) | simp) _))) hlt0).trans d0, (Below.cell (B := w0.heap.size) (w := w0) (p := ⟨w.heap.size, 1, none⟩) (by repeat (first | with_reducible exact Below.refl _ _ | with_reducible apply Below.drew | (refine Below.alloc ?_ (by first | omega | (simp; omega) | simp) _))) hlt0).trans d1⟩) (first | (go_at_call 299; refine (rows_any _ _ _).mono ?_; rintro e w1 ⟨rfl, rfl⟩) | (go_at_call 330; refine (width_any _ _ _).mono ?_; rintro e w1 ⟨rfl, rfl⟩))
  obtain ⟨w4, hw4⟩ : ∃ w4, w4 = ((((w0.alloc (.cells #[.int .i64 (n : Nat), .int .i64 (d : Nat)] 379)).alloc (.cells #[.int .i64 (n : Nat), .int .i64 (d : Nat)] 379)).alloc (.cells (madeCells #[.int .u8 0] nb) 5)).alloc (.cells #[.int .i64 (n : Nat), .int .i64 (d : Nat), .slice (some ⟨w0.heap.size + 1 + 1, 0, none⟩) nb nb] 396)).drew := ⟨_, rfl⟩;rw [<- hw4];have hs4 : w4.heap.size = w0.heap.size + 1 + 1 + 1 + 1 := by rw [hw4]; simp
  have HB4 : Hid (Below w.heap.size w w4) := by show Below _ _ _;rw [hw4];exact (HB0.out.trans ((((((Below.refl _ _).alloc (by omega) _).alloc (by simp; omega) _).alloc (by simp; omega) _).alloc (by simp; omega) _).drew))
  have hb4 : w4.heap[w0.heap.size + 1 + 1 + 1]? = some (.cells #[.int .i64 (n : Nat), .int .i64 (d : Nat), .slice (some ⟨w0.heap.size + 1 + 1, 0, none⟩) nb nb] 396 (0, 0)) := by rw [hw4];have := heap_alloc_new (((w0.alloc (.cells #[.int .i64 (n : Nat), .int .i64 (d : Nat)] 379)).alloc (.cells #[.int .i64 (n : Nat), .int .i64 (d : Nat)] 379)).alloc (.cells (madeCells #[.int .u8 0] nb) 5)) (.cells #[.int .i64 (n : Nat), .int .i64 (d : Nat), .slice (some ⟨w0.heap.size + 1 + 1, 0, none⟩) nb nb] 396);rw [show (((w0.alloc (.cells #[.int .i64 (n : Nat), .int .i64 (d : Nat)] 379)).alloc (.cells #[.int .i64 (n : Nat), .int .i64 (d : Nat)] 379)).alloc (.cells (madeCells #[.int .u8 0] nb) 5)).heap.size = w0.heap.size + 1 + 1 + 1 by simp] at this;exact this
  have hO4 : OwnB w4 w.heap.size (.slice (some ⟨w0.heap.size + 1 + 1, 0, none⟩) nb nb) (packF (bitsN N d) nb 0) := by rw [packF_zero, hw4];have := made_bytes nb ((w0.alloc (.cells #[.int .i64 (n : Nat), .int .i64 (d : Nat)] 379)).alloc (.cells #[.int .i64 (n : Nat), .int .i64 (d : Nat)] 379)) w.heap.size (by omega) (by simp; omega);have h2 := (this.alloc (.cells #[.int .i64 (n : Nat), .int .i64 (d : Nat), .slice (some ⟨w0.heap.size + 1 + 1, 0, none⟩) nb nb] 396));rw [show ((w0.alloc (.cells #[.int .i64 (n : Nat), .int .i64 (d : Nat)] 379)).alloc (.cells #[.int .i64 (n : Nat), .int .i64 (d : Nat)] 379)).heap.size = w0.heap.size + 1 + 1 by simp] at h2;exact h2
  have HBK : Hid (w4.heap[w0.heap.size + 1 + 1 + 1]? = some (.cells #[.int .i64 (n : Nat), .int .i64 (d : Nat), .slice (some ⟨w0.heap.size + 1 + 1, 0, none⟩) nb nb] 396 (0, 0))) := hb4;have HO4 : Hid (OwnB w4 w.heap.size (.slice (some ⟨w0.heap.size + 1 + 1, 0, none⟩) nb nb) (packF (bitsN N d) nb 0)) := hO4;clear hw4 hb4 hO4 d0 d1 hmk q1 q2 q3 q4;have hqge : w.heap.size <= w0.heap.size + 1 + 1 := (by omega);have HQ : Hid (w0.heap.size + 1 + 1 + 1 < w4.heap.size /\ w0.heap.size + 1 + 1 + 1 ≠ w0.heap.size + 1 + 1) := ⟨by omega, by omega⟩;generalize w0.heap.size + 1 + 1 = q at *;go_wp2_with fail
  go_loopw [21] (fun ti wr => ∃ k : Nat, ti = .int .i64 k /\ k <= m /\ Hid (OwnB wr w.heap.size (.slice (some ⟨q, 0, none⟩) nb nb) (packF (bitsN N d) nb (k * d)) /\ Touch (fun x => x = q) w4 wr)) (fun ti _ => m - (intOf ti).toNat)
  case atStart => exact ⟨0, rfl, Nat.zero_le _, by rw [Nat.zero_mul]; exact ⟨HO4.out, Touch.refl _ _⟩⟩
  case round =>
    clear HO4;obtain ⟨k, rfl, hk, HR⟩ := hrel;have hbw : Below w.heap.size w wr := (by have t := HR.out.2;have h4 := HB4.out;exact ⟨t.os.trans h4.os, t.tape.trans h4.tape, t.output.trans h4.output, Nat.le_trans h4.size t.size, fun x hx => (t.block x (by have := h4.size; omega) (by omega)).trans (h4.block x hx)⟩);have HBW : Hid (Below w.heap.size w wr) := hbw;have hblk : wr.heap[q + 1]? = some (.cells #[.int .i64 (n : Nat), .int .i64 (d : Nat), .slice (some ⟨q, 0, none⟩) nb nb] 396 (0, 0)) := HR.out.2.at_ HBK.out HQ.out.2;have HBLK : Hid (wr.heap[q + 1]? = some (.cells #[.int .i64 (n : Nat), .int .i64 (d : Nat), .slice (some ⟨q, 0, none⟩) nb nb] 396 (0, 0))) := hblk
    by_cases hkm : k < m
    · obtain ⟨qv, hqv, hql, _, hc, _⟩ := HV.out.1.atK (by rw [natI_len]; exact HV.out.2) hkm;subst hqv;have a0 := (hbw.cell (p := ⟨qv, k, none⟩) hql).trans hc;rw [natI_getD] at a0;have hk1 : k * d + d = (k + 1) * d := (by rw [Nat.add_mul, Nat.one_mul]);have hk2 : (k + 1) * d <= n * d := Nat.mul_le_mul_right _ (by omega)
      have HPUT : Hid (Calls Tryz.prog 331 #[.pointer (some ⟨q + 1, 0, none⟩), .int .i64 k, .int .i64 ((N.getD k 0 : Nat) : Int)] wr fun e w' => e = .returned (.tuple #[]) /\ OwnB w' w.heap.size (.slice (some ⟨q, 0, none⟩) nb nb) (packF (bitsN N d) nb (k * d + d)) /\ Touch (fun x => x = q) wr w') :=
        put_any (q + 1) w.heap.size n d q nb nb k (N.getD k 0) (bitsN N d) wr hblk HR.out.1 (bitsN_le N d) (fun i hi => bitsN_at N hi) (by have := HNB.out; omega) (by omega) hd
      rw [hk1] at HPUT;generalize N.getD k 0 = x at *;have bk1 : (0 : Int) <= (k : Int) := (by omega);have bk2 : (k : Int) < (m : Int) := (by omega);have HT : Hid (Touch (fun x => x = q) w4 wr) := HR.out.2;clear hc hk1 hk2 HR hblk hbw;go_wp2_with fail
      refine HPUT.out.mono ?_;rintro e w5 ⟨rfl, ho5, t5⟩;have HF : Hid (OwnB w5 w.heap.size (.slice (some ⟨q, 0, none⟩) nb nb) (packF (bitsN N d) nb ((k + 1) * d)) /\ Touch (fun x => x = q) w4 w5) := ⟨ho5, HT.out.trans t5⟩;clear ho5 t5 HPUT HT;go_wp2
      go_roundw
      case rel => exact ⟨k + 1, by go_num, by omega, HF⟩
      case measure => simp [intOf]; omega
    · have hnk : ¬ (k : Int) < (m : Int) := (by omega);have HF : Hid (DenX wr w.heap.size (q + 1) q n d (packF (bitsN N d) nb (m * d))) := (by have : k = m := (by omega);subst this;exact ⟨by rw [packF_len]; exact hblk, by rw [packF_len]; exact HR.out.1⟩);clear HR hblk hbw;go_wp2
      go_ret
      exact ⟨_, rfl, ⟨_, _, rfl, by omega, HF.out⟩, HBW.out⟩
end Go.Proofs.YtfcgnpchbcmdeaaGreat

namespace Go.Proofs.YtfcgnpchbcmdeaaGreat
set_option maxRecDepth 100000
set_option maxHeartbeats 4000000
open Go.RowKit
def nzL (N : List Nat) : List Bool := N.map (fun x => decide (x ≠ 0))
def nzN (N : List Nat) : Nat := cntT (nzL N)
theorem nzL_len (N : List Nat) : (nzL N).length = N.length := by simp [nzL]
theorem nzL_getD {N : List Nat} {k : Nat} (h : k < N.length) : (nzL N).getD k false = decide (N.getD k 0 ≠ 0) := by simp [nzL, List.getD, h]
theorem notZero_any (va : Option Addr) (m c : Nat) (N : List Nat) (w : World) (hv : OwnI w 0 (.slice va m c) (natI N)) (hN : N.length = m) (hm : m <= 200) : Calls Tryz.prog 298 #[.slice va m c] w fun e w' => e = .returned (.int .i64 (nzN N : Nat)) /\ w' = w := by
  have HV : Hid (OwnI w 0 (.slice va m c) (natI N) /\ N.length = m) := ⟨hv, hN⟩;clear hv hN;go_enter Tryz.func298, Tryz.ntmps298
  go_wp2_with fail
  go_loop [8, 3] (fun ti tn => ∃ k : Nat, ti = .int .i64 k /\ k <= m /\ tn = .int .i64 (cntT ((nzL N).take k) : Nat) /\ cntT ((nzL N).take k) <= k) (fun ti _ => m - (intOf ti).toNat)
  case atStart => exact ⟨0, rfl, Nat.zero_le _, rfl, Nat.le_refl _⟩
  case round =>
    obtain ⟨k, rfl, hk, rfl, hkc⟩ := hrel
    by_cases hkm : k < m
    · obtain ⟨q, rfl, hql, _, a0, _⟩ := HV.out.1.atK (by rw [natI_len]; exact HV.out.2) hkm;rw [natI_getD] at a0;have hs := cntT_snoc ((nzL N).take k) ((nzL N).getD k false);rw [<- take_snocB _ (by rw [nzL_len]; have := HV.out.2; omega), nzL_getD (by have := HV.out.2; omega)] at hs;have HS : Hid (cntT ((nzL N).take (k + 1)) = cntT ((nzL N).take k) + (if decide (N.getD k 0 ≠ 0) = true then 1 else 0)) := hs;clear hs;generalize cntT ((nzL N).take k) = t at *;generalize N.getD k 0 = x at *;have bk1 : (0 : Int) <= (k : Int) := (by omega);have bk2 : (k : Int) < (m : Int) := by omega
      by_cases hx : x = 0
      · subst hx;have HS2 : Hid (cntT ((nzL N).take (k + 1)) = t) := (by have := HS.out; rw [if_neg (by decide)] at this; exact this);clear HS;go_wp2
        go_roundw
        case rel => exact ⟨k + 1, by go_num, by omega, by rw [HS2.out], by rw [HS2.out]; omega⟩
        case measure => simp [intOf]; omega
      · have hne : ((x : Int) != 0) = true := (by rw [bne_iff_ne]; omega);have HS2 : Hid (cntT ((nzL N).take (k + 1)) = t + 1) := (by have := HS.out; rw [if_pos (by simpa using hx)] at this; exact this);clear HS hx;go_wp2
        go_roundw
        case rel => exact ⟨k + 1, by go_num, by omega, by rw [HS2.out]; go_num, by rw [HS2.out]; omega⟩
        case measure => simp [intOf]; omega
    · have hnk : ¬ (k : Int) < (m : Int) := (by omega);have HF : Hid (cntT ((nzL N).take k) = nzN N) := (by show _ = _; rw [List.take_of_length_le (by rw [nzL_len]; have := HV.out.2; omega)]; rfl);generalize cntT ((nzL N).take k) = t at *;go_wp2
      go_ret
      exact ⟨by rw [HF.out]; rfl, rfl⟩
theorem bitsOf_any (g : Nat) (w : World) (hg : g <= 1000) : Calls Tryz.prog 282 #[.int .i64 g] w fun e w' => e = .returned (.int .i64 (Lib.bitLen g : Nat)) /\ w' = w := by
  have HL : Hid (Calls Tryz.prog 150 #[.int .u64 (g : Nat)] w fun e w' => e = .returned (.int .i64 (Lib.bitLen g : Nat)) /\ w' = w) := (by have := Tryz.bits_Len (g : Nat) w (by omega) (by omega);rw [Int.toNat_natCast] at this;exact this);generalize Lib.bitLen g = b at *;go_enter Tryz.func282, Tryz.ntmps282
  go_wp2_with fail
  refine HL.out.mono ?_;rintro e w1 ⟨rfl, rfl⟩;go_wp2
  go_ret
  exact ⟨rfl, rfl⟩
def spF (N : List Nat) : Nat -> List (Nat × Nat)
  | 0 => []
  | k + 1 => spF N k ++ (if N.getD k 0 = 0 then [] else [(k, N.getD k 0)])
theorem spF_len (N : List Nat) : ∀ k, (spF N k).length <= k
  | 0 => by simp [spF]
  | k + 1 => by have := spF_len N k;simp only [spF];split;simp; omega;simp; omega
def cellsC (p : Nat × Nat) : List Value := [.int .i64 (p.1 : Nat), .int .i64 (p.2 : Nat)]
def flatC : List (Nat × Nat) -> List Value
  | [] => []
  | p :: L => cellsC p ++ flatC L
theorem flatC_append (a b : List (Nat × Nat)) : flatC (a ++ b) = flatC a ++ flatC b := by
  induction a with
  | nil => rfl
  | cons e L ih => simp [flatC, ih]
theorem info405 : (Tryz.prog.info? 405).map (fun i => (i.zero, i.size, i.bytes)) = some (some (.agg #[.int .i64 0, .int .i64 0]), 2, 16) := by kernel_rfl
def OwnC (w : World) (base : Nat) (v : Value) (L : List (Nat × Nat)) : Prop := w.ownsRow base 405 2 v L.length (flatC L)
theorem OwnC.more {w : World} {base : Nat} {v : Value} {L : List (Nat × Nat)} {x : Nat × Nat} (h : w.ownsRow base 405 2 v (L.length + 1) (flatC L ++ cellsC x)) : OwnC w base v (L ++ [x]) := by
  unfold OwnC;rw [flatC_append, List.length_append]
  simpa [flatC] using h
theorem OwnC.shape {w : World} {base : Nat} {v : Value} {L : List (Nat × Nat)} (h : OwnC w base v L) : ∃ a c, v = .slice a L.length c := by
  rcases h.2 with ⟨rfl, h0⟩ | ⟨q, p, cur, rfl, _⟩
  exact ⟨none, 0, by rw [h0]⟩;exact ⟨_, _, rfl⟩
structure SpaX (w : World) (base sb n d : Nat) (vc : Value) (L : List (Nat × Nat)) : Prop where
  blk : w.heap[sb]? = some (.cells #[.int .i64 (n : Nat), .int .i64 (d : Nat), vc] 403 (0, 0))
  row : OwnC w base vc L
def SpaV (w : World) (base : Nat) (v : Value) (n d : Nat) (L : List (Nat × Nat)) : Prop := ∃ sb vc, v = .pointer (some ⟨sb, 0, none⟩) /\ base <= sb /\ SpaX w base sb n d vc L
theorem newSparse_any (va : Option Addr) (n d m vc : Nat) (N : List Nat) (w : World) (hv : OwnI w 0 (.slice va m vc) (natI N)) (hN : N.length = m) (hm : m <= 200) : Calls Tryz.prog 300 #[.agg #[.int .i64 n, .int .i64 d], .slice va m vc] w fun e w' => ∃ v, e = .returned v /\ SpaV w' w.heap.size v n d (spF N m) /\ Below w.heap.size w w' := by
  have HV : Hid (OwnI w 0 (.slice va m vc) (natI N) /\ N.length = m) := ⟨hv, hN⟩;obtain ⟨i0, hinf, hz0, hz1, hz2⟩ := info_parts info405;clear hv hN;obtain ⟨w0, hw0⟩ : ∃ w0, w0 = (w.alloc (.cells #[.int .i64 (n : Nat), .int .i64 (d : Nat)] 379)).alloc (.cells #[.int .i64 (n : Nat), .int .i64 (d : Nat), .slice none 0 0] 403) := ⟨_, rfl⟩;have HB0 : Hid (Below w.heap.size w w0) := (by show Below _ _ _; rw [hw0]; exact ((Below.refl _ _).alloc (Nat.le_refl _) _).alloc (by simp) _);have hs0 : w0.heap.size = w.heap.size + 1 + 1 := by rw [hw0]; simp
  have HK0 : Hid (w0.heap[w.heap.size + 1]? = some (.cells #[.int .i64 (n : Nat), .int .i64 (d : Nat), .slice none 0 0] 403 (0, 0))) := (by show _ = _;rw [hw0];have := heap_alloc_new (w.alloc (.cells #[.int .i64 (n : Nat), .int .i64 (d : Nat)] 379)) (.cells #[.int .i64 (n : Nat), .int .i64 (d : Nat), .slice none 0 0] 403);rw [show (w.alloc (.cells #[.int .i64 (n : Nat), .int .i64 (d : Nat)] 379)).heap.size = w.heap.size + 1 by simp] at this;exact this);go_enter Tryz.func300, Tryz.ntmps300
  go_wp2_with fail
  go_loopw [13] (fun ti wr => ∃ (k : Nat) (vk : Value), ti = .int .i64 k /\ k <= m /\ Hid (SpaX wr (w.heap.size + 1 + 1) (w.heap.size + 1) n d vk (spF N k) /\ Touch (fun x => x = w.heap.size + 1) w0 wr)) (fun ti _ => m - (intOf ti).toNat)
  case atStart =>
    refine ⟨0, .slice none 0 0, rfl, Nat.zero_le _, ?_, ?_⟩;rw [<- hw0];exact ⟨HK0.out, World.ownsRow_nil _ _ _ _⟩;rw [<- hw0]; exact Touch.refl _ _
  case round =>
    clear hw0 HK0;obtain ⟨k, vk, rfl, hk, HR⟩ := hrel;have hsz := HR.out.2.size
    by_cases hkm : k < m
    · obtain ⟨qv, hqv, hql, _, hc, _⟩ := HV.out.1.atK (by rw [natI_len]; exact HV.out.2) hkm;subst hqv;have a0 : wr.cell? ⟨qv, k, none⟩ = some (.int .i64 ((N.getD k 0 : Nat) : Int)) := by rw [natI_getD] at hc;rw [World.cell?_of_block (a := ⟨qv, k, none⟩) ((HR.out.2.block qv (by omega) (by omega)).trans (HB0.out.block qv hql))];exact hc
      have HSP : Hid (spF N (k + 1) = spF N k ++ (if N.getD k 0 = 0 then [] else [(k, N.getD k 0)])) := rfl;obtain ⟨ca, cc, hvk⟩ := HR.out.1.row.shape;subst hvk;have c2 : wr.cell? ⟨w.heap.size + 1, 2, none⟩ = some (.slice ca (spF N k).length cc) := cell_of_row _ _ 2 _ 403 (0, 0) HR.out.1.blk;have hll := spF_len N k;clear hc;generalize N.getD k 0 = x at *;have bk1 : (0 : Int) <= (k : Int) := (by omega);have bk2 : (k : Int) < (m : Int) := by omega
      by_cases hx : x = 0
      · subst hx;have HF : Hid (SpaX wr (w.heap.size + 1 + 1) (w.heap.size + 1) n d (.slice ca (spF N k).length cc) (spF N (k + 1)) /\ Touch (fun x => x = w.heap.size + 1) w0 wr) := (by rw [HSP.out, if_pos rfl, List.append_nil];exact HR.out);clear HR HSP;go_wp2
        go_roundw
        case rel => exact ⟨k + 1, _, by go_num, by omega, HF⟩
        case measure => simp [intOf]; omega
      · have hne : ((x : Int) != 0) = true := (by rw [bne_iff_ne]; omega);have HS2 : Hid (spF N (k + 1) = spF N k ++ [(k, x)]) := (by have := HSP.out; rw [if_neg hx] at this; exact this);clear HSP hx;have hlt : w.heap.size + 1 < wr.heap.size := (Array.getElem?_eq_some_iff.1 HR.out.1.blk).1;have HRW : Hid (wr.ownsRow (w.heap.size + 1 + 1) 405 2 (.slice ca (spF N k).length cc) (spF N k).length (flatC (spF N k))) := HR.out.1.row;generalize hgl : (spF N k).length = sl at *;go_wp2_with (at_builtin; refine wpList_append_mark rfl (.tmp 24) (.tmp 28) 401 rfl (w.heap.size + 1 + 1) 405 i0 (.agg #[.int .i64 0, .int .i64 0]) 2 16 Tryz.underlying401 hinf hz0 hz1 hz2 rfl (by decide) _ sl (flatC (spF N k)) rfl (HRW.out.alloc _) ⟨wr.heap.size, 0, none⟩ 1 1 [.int .i64 (k : Nat), .int .i64 (x : Nat)] rfl rfl ?_ ?_ ?_ ?_ ?_ ?_ ?_)
        exact one_new wr #[.int .i64 (k : Nat), .int .i64 (x : Nat)] 405
        · intro u hu; simp at hu; rcases hu with rfl | rfl <;> rfl
        decide;unfold maxLen; omega;omega;simp; omega;intro v4 w4 H4;obtain ⟨r4, g4, d4, _, _⟩ := H4.out;have hblk4 : w4.heap[w.heap.size + 1]? = some (.cells #[.int .i64 (n : Nat), .int .i64 (d : Nat), .slice ca sl cc] 403 (0, 0)) := (by rw [g4.block (w.heap.size + 1) (by simp; omega) (fun e => row_ne HRW.out e.symm HR.out.1.blk (by decide) rfl)];have := HR.out.1.blk;exact (Below.heap_alloc wr _ _ hlt).trans this);have c4 : w4.cell? ⟨w.heap.size + 1, 2, none⟩ = some (.slice ca sl cc) := cell_of_row _ _ 2 _ 403 (0, 0) hblk4;have f4 : w4.frozen? ⟨w.heap.size + 1, 2, none⟩ = false := frozen_of_row _ _ 2 _ 403 hblk4;have hO4 : OwnC w4 (w.heap.size + 1 + 1) v4 (spF N (k + 1)) := (by rw [HS2.out];refine OwnC.more ?_;rw [hgl];exact r4);obtain ⟨a5, c5, hv5⟩ := hO4.shape
        have HF : Hid (SpaX (w4.setCell ⟨w.heap.size + 1, 2, none⟩ v4) (w.heap.size + 1 + 1) (w.heap.size + 1) n d v4 (spF N (k + 1)) /\ Touch (fun x => x = w.heap.size + 1) w0 (w4.setCell ⟨w.heap.size + 1, 2, none⟩ v4)) := (by refine ⟨⟨heap_setCell_same _ _ 2 _ 403 _ hblk4, own_put' hO4 hblk4 (by decide)⟩, ?_⟩;have t1 : Touch (fun x => x = w.heap.size + 1) w0 (wr.alloc (.cells #[.int .i64 (k : Nat), .int .i64 (x : Nat)] 405)) := HR.out.2.alloc _;have t2 := t1.grown g4 (fun q hq hlt2 => by have := (World.ownsRow.lt HRW.out q hq).1; omega);exact t2.setCell (p := ⟨w.heap.size + 1, 2, none⟩) (fun _ => rfl) v4);rw [hv5] at HF;subst hv5;clear H4 r4 g4 d4 hblk4 hO4 HRW HR HS2 hgl;generalize (spF N (k + 1)).length = s5 at *;go_wp2
        go_roundw
        case rel => exact ⟨k + 1, _, by go_num, by omega, HF⟩
        case measure => simp [intOf]; omega
    · have hnk : ¬ (k : Int) < (m : Int) := by omega
      have HF : Hid (SpaV wr w.heap.size (.pointer (some ⟨w.heap.size + 1, 0, none⟩)) n d (spF N m) /\ Below w.heap.size w wr) := by
        have : k = m := (by omega);subst this;have t := HR.out.2;have h0 := HB0.out;refine ⟨⟨_, _, rfl, by omega, HR.out.1.blk, ?_⟩, ⟨t.os.trans h0.os, t.tape.trans h0.tape, t.output.trans h0.output, Nat.le_trans h0.size t.size, fun x hx => (t.block x (by omega) (by omega)).trans (h0.block x hx)⟩⟩;have hr := HR.out.1.row;refine ⟨hr.1, ?_⟩
        rcases hr.2 with hn | ⟨g, cap, cur, e, hg, r⟩
        exact .inl hn;exact .inr ⟨g, cap, cur, e, by omega, r⟩
      clear HR;go_wp2
      go_ret
      exact ⟨_, rfl, HF.out.1, HF.out.2⟩
end Go.Proofs.YtfcgnpchbcmdeaaGreat

namespace Go.Proofs.YtfcgnpchbcmdeaaGreat
open Go.RowKit
theorem bitLen_six : ∀ g : Fin 64, Lib.bitLen g.val <= 6 := by decide +kernel
theorem bitLen_le {g : Nat} (h : g < 64) : Lib.bitLen g <= 6 := bitLen_six ⟨g, h⟩
theorem bitLen_pos64 : ∀ g : Fin 64, g.val < 2 ^ Lib.bitLen g.val := by decide +kernel
theorem bitLen_lt {g : Nat} (h : g < 64) : g < 2 ^ Lib.bitLen g := bitLen_pos64 ⟨g, h⟩
def ColV (w : World) (base : Nat) (v : Value) (N : List Nat) (g : Nat) : Prop :=
  (4 * nzN N < N.length /\ ∃ p, v = .iface 380 p /\ SpaV w base p N.length (Lib.bitLen g) (spF N N.length)) ∨
  (¬ 4 * nzN N < N.length /\ ∃ p, v = .iface 382 p /\ DenV w base p N.length (Lib.bitLen g) (packF (bitsN N (Lib.bitLen g)) ((N.length * Lib.bitLen g + 7) / 8) (N.length * Lib.bitLen g)))
set_option maxRecDepth 100000 in
set_option maxHeartbeats 4000000 in
theorem colOf_any (va : Option Addr) (m vc g : Nat) (N : List Nat) (w : World) (hv : OwnI w 0 (.slice va m vc) (natI N)) (hN : N.length = m) (hm : m <= 200) (hg : g < 64) : Calls Tryz.prog 257 #[.slice va m vc, .int .i64 g] w fun e w' => ∃ v, e = .returned v /\ ColV w' w.heap.size v N g /\ Below w.heap.size w w' := by
  have hb6 := bitLen_le hg;have HBO : Hid (Calls Tryz.prog 282 #[.int .i64 g] w fun e w' => e = .returned (.int .i64 (Lib.bitLen g : Nat)) /\ w' = w) := bitsOf_any g w (by omega);have hnz : nzN N <= m := (by have := cntT_le (nzL N); rw [nzL_len] at this; unfold nzN; omega);have HNZ : Hid (∀ W : World, Below w.heap.size w W -> Calls Tryz.prog 298 #[.slice va m vc] W fun e w' => e = .returned (.int .i64 (nzN N : Nat)) /\ w' = W) := fun W hW => notZero_any va m vc N W (hv.below hW) hN hm;have HSP : Hid (∀ W : World, Below w.heap.size w W -> Calls Tryz.prog 300 #[.agg #[.int .i64 m, .int .i64 (Lib.bitLen g : Nat)], .slice va m vc] W fun e w' => ∃ v, e = .returned v /\ SpaV w' W.heap.size v m (Lib.bitLen g) (spF N m) /\ Below W.heap.size W w') := fun W hW => newSparse_any va m (Lib.bitLen g) m vc N W (hv.below hW) hN hm
  have HDE : Hid (∀ W : World, Below w.heap.size w W -> Calls Tryz.prog 301 #[.agg #[.int .i64 m, .int .i64 (Lib.bitLen g : Nat)], .slice va m vc] W fun e w' => ∃ v, e = .returned v /\ DenV w' W.heap.size v m (Lib.bitLen g) (packF (bitsN N (Lib.bitLen g)) ((m * Lib.bitLen g + 7) / 8) (m * Lib.bitLen g)) /\ Below W.heap.size W w') := fun W hW => newDense_any va m (Lib.bitLen g) m vc N W (hv.below hW) hN (Nat.le_refl _) hm hb6
  have HCV : Hid (∀ (W : World) (v : Value), ((4 * nzN N < m /\ ∃ p, v = .iface 380 p /\ SpaV W w.heap.size p m (Lib.bitLen g) (spF N m)) ∨ (¬ 4 * nzN N < m /\ ∃ p, v = .iface 382 p /\ DenV W w.heap.size p m (Lib.bitLen g) (packF (bitsN N (Lib.bitLen g)) ((m * Lib.bitLen g + 7) / 8) (m * Lib.bitLen g)))) -> ColV W w.heap.size v N g) := fun W v h => by unfold ColV;rw [hN];exact h
  clear hv hN;generalize Lib.bitLen g = d at *;generalize nzN N = z at *;have b1 : (4 : Int) * (z : Int) <= 800 := (by omega);have q1 : IntKind.i64.wrap (4 * (z : Int)) = 4 * (z : Int) := wrapI (by omega) (by omega);go_enter Tryz.func257, Tryz.ntmps257
  go_wp2_with fail
  refine HBO.out.mono ?_;rintro e w1 ⟨rfl, hw1⟩;obtain rfl := hw1.symm;clear hw1;go_upto_region 2 with fail
  obtain ⟨w0, hw0⟩ : ∃ w0, w0 = w.alloc (.cells #[.int .i64 (m : Nat), .int .i64 (d : Nat)] 379) := ⟨_, rfl⟩;rw [<- hw0];have hs0 : w0.heap.size = w.heap.size + 1 := (by rw [hw0]; simp);have d0 : w0.cell? ⟨w.heap.size, 0, none⟩ = some (.int .i64 (m : Nat)) := (by rw [hw0]; simp [go_sem]);have d1 : w0.cell? ⟨w.heap.size, 1, none⟩ = some (.int .i64 (d : Nat)) := (by rw [hw0]; simp [go_sem]);have HB0 : Hid (Below w.heap.size w w0) := (by show Below _ _ _; rw [hw0]; exact (Below.refl _ _).alloc (Nat.le_refl _) _);have hlt0 : w.heap.size < w0.heap.size := (by omega);clear hw0 hs0
  go_region_held3 (fun w' => w'.cell? ⟨w.heap.size, 0, none⟩ = some (.int .i64 (m : Nat)) /\ w'.cell? ⟨w.heap.size, 1, none⟩ = some (.int .i64 (d : Nat))) (exact ⟨(Below.cell (B := w0.heap.size) (w := w0) (p := ⟨w.heap.size, 0, none⟩) (by repeat (first | with_reducible exact Below.refl _ _ | with_reducible apply Below.drew | (refine Below.alloc ?_ (by first | omega | (simp; omega) | simp) _))) hlt0).trans d0, (Below.cell (B := w0.heap.size) (w := w0) (p := ⟨w.heap.size, 1, none⟩) (by repeat (first | with_reducible exact Below.refl _ _ | with_reducible apply Below.drew | (refine Below.alloc ?_ (by first | omega | (simp; omega) | simp) _))) hlt0).trans d1⟩) (first | (go_at_call 298; refine (HNZ.out _ HB0.out.drew).mono ?_; rintro e w1 ⟨rfl, rfl⟩) | (go_at_call 299; refine (rows_any _ _ _).mono ?_; rintro e w1 ⟨rfl, rfl⟩))
  generalize hw3 : (w0.alloc (.cells #[.int .i64 (m : Nat), .int .i64 (d : Nat)] 379)).drew = w3;have HB3 : Hid (Below w.heap.size w w3) := (by show Below _ _ _; rw [<- hw3]; exact (HB0.out.alloc (by omega) _).drew);have hs3 : w3.heap.size = w0.heap.size + 1 := (by rw [<- hw3]; simp);have e0 : w3.cell? ⟨w.heap.size, 0, none⟩ = some (.int .i64 (m : Nat)) := (by rw [<- hw3]; exact (Below.cell (B := w0.heap.size) (w := w0) (p := ⟨w.heap.size, 0, none⟩) ((Below.refl _ _).alloc (Nat.le_refl _) _).drew hlt0).trans d0);have e1 : w3.cell? ⟨w.heap.size, 1, none⟩ = some (.int .i64 (d : Nat)) := (by rw [<- hw3]; exact (Below.cell (B := w0.heap.size) (w := w0) (p := ⟨w.heap.size, 1, none⟩) ((Below.refl _ _).alloc (Nat.le_refl _) _).drew hlt0).trans d1);have hsz3 := HB3.out.size;clear hw3 d0 d1 HB0 HNZ HBO
  by_cases hc : 4 * z < m
  · have hc2 : (4 : Int) * (z : Int) < (m : Int) := (by omega);go_wp2_with fail
    refine (HSP.out _ HB3.out).mono ?_;rintro e w4 ⟨v4, rfl, hS4, hb4⟩;obtain ⟨sb, vc4, rfl, h1, h2⟩ := hS4
    have HF : Hid (ColV w4 w.heap.size (.iface 380 (.pointer (some ⟨sb, 0, none⟩))) N g /\ Below w.heap.size w w4) := by
      refine ⟨HCV.out w4 _ (.inl ⟨hc, _, rfl, sb, vc4, rfl, by omega, h2.blk, ?_⟩), HB3.out.trans (hb4.mono hsz3)⟩;have hr := h2.row;refine ⟨hr.1, ?_⟩
      rcases hr.2 with hn | ⟨g, cap, cur, e, hg, r⟩
      exact .inl hn;exact .inr ⟨g, cap, cur, e, by omega, r⟩
    clear h1 h2 hb4 HSP HDE HCV;go_wp2
    go_ret
    exact ⟨_, rfl, HF.out.1, HF.out.2⟩
  · have hc2 : ¬ (4 : Int) * (z : Int) < (m : Int) := (by omega);go_wp2_with fail
    refine (HDE.out _ HB3.out).mono ?_;rintro e w4 ⟨v4, rfl, hS4, hb4⟩;obtain ⟨db, q, rfl, h1, h2⟩ := hS4
    have HF : Hid (ColV w4 w.heap.size (.iface 382 (.pointer (some ⟨db, 0, none⟩))) N g /\ Below w.heap.size w w4) := by
      refine ⟨HCV.out w4 _ (.inr ⟨hc, _, rfl, db, q, rfl, by omega, h2.blk, ?_⟩), HB3.out.trans (hb4.mono hsz3)⟩;have hr := h2.row;refine ⟨hr.1, ?_⟩
      rcases hr.2 with hn | ⟨g, cap, cur, e, hg, r⟩
      exact .inl hn;exact .inr ⟨g, cap, cur, e, by omega, r⟩
    clear h1 h2 hb4 HSP HDE HCV;go_wp2
    go_ret
    exact ⟨_, rfl, HF.out.1, HF.out.2⟩
end Go.Proofs.YtfcgnpchbcmdeaaGreat
