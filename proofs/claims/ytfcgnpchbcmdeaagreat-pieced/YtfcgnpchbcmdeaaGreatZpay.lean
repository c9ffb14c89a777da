import Derived.Test.YtfcgnpchbcmdeaaGreatZpax
namespace Go.Proofs.YtfcgnpchbcmdeaaGreat
open Go.RowKit
def g0S : GS := ⟨[], [], 0, 0⟩
def ptrV (b : Nat) : Value := .pointer (some ⟨b, 0, none⟩)
structure GrpsX (w : World) (vG : Value) (gbs : List Nat) (Ks : Nat -> Nat -> Prop) (Gs : List GS) : Prop where
  row : w.ownsRow 0 313 1 vG Gs.length (gbs.map ptrV)
  len : gbs.length = Gs.length
  each : ∀ i, i < Gs.length -> GrpW w (Ks i) (gbs.getD i 0) (Gs.getD i g0S)
  apart : ∀ i j, i < Gs.length -> j < Gs.length -> i ≠ j -> ∀ k, Ks i k -> ¬ Ks j k
def roomG (L : List Bool) (bins budget : Nat) (G : GS) : Bool := decide (G.conf + confN G.out L <= budget) && decide (G.bins + bins <= 40)
structure GOk (n : Nat) (G : GS) : Prop where
  out : G.out.length = n
  conf : G.conf <= 1000
  bins : G.bins <= 1000
  fs : G.fs.length <= 1000
theorem GrpsX.at {w : World} {vG : Value} {gbs : List Nat} {Ks : Nat -> Nat -> Prop} {Gs : List GS} (h : GrpsX w vG gbs Ks Gs) {i : Nat} (hi : i < Gs.length) : ∃ q c, vG = .slice (some ⟨q, 0, none⟩) Gs.length c /\ q < w.heap.size /\ w.cell? ⟨q, i, none⟩ = some (ptrV (gbs.getD i 0)) := by
  have hr := h.row
  rcases h.row.2 with ⟨_, h0⟩ | ⟨g, cap, cur, e, hb, hh, hnc, _⟩
  omega;subst e;refine ⟨g, cap, rfl, (Array.getElem?_eq_some_iff.1 hh).1, ?_⟩;rw [World.ownsRow.cellAt hr i (by omega)];have := h.len;simp [List.getD, show i < gbs.length by omega]
theorem GrpsX.form {w : World} {vG : Value} {gbs : List Nat} {Ks : Nat -> Nat -> Prop} {Gs : List GS} (h : GrpsX w vG gbs Ks Gs) : ∃ a c, vG = .slice a Gs.length c := by
  rcases h.row.2 with ⟨rfl, h0⟩ | ⟨q, p, cur, rfl, _⟩
  exact ⟨none, 0, by rw [h0]⟩;exact ⟨_, _, rfl⟩
def fwrV (gbs : List Nat) (m : Nat) (i : Nat) : Value := if i < m then ptrV (gbs.getD i 0) else .pointer none
set_option maxRecDepth 100000 in
set_option maxHeartbeats 4000000 in
theorem firstWithRoom_any (ga va : Option Addr) (gc n c bins budget : Nat) (gbs : List Nat) (Ks : Nat -> Nat -> Prop) (Gs : List GS) (L : List Bool) (w : World) (hG : GrpsX w (.slice ga Gs.length gc) gbs Ks Gs) (hok : ∀ G ∈ Gs, GOk n G) (hv : OwnO w 0 (.slice va n c) L) (hL : L.length = n) (hn : n <= 200) (hb : bins <= 1000) (hgl : Gs.length <= 1000) : Calls Tryz.prog 255 #[.slice ga Gs.length gc, .slice va n c, .int .i64 bins, .int .i64 budget] w fun e w' => e = .returned (fwrV gbs Gs.length (Gs.findIdx (roomG L bins budget))) /\ Below w.heap.size w w' := by
  have HG : Hid (GrpsX w (.slice ga Gs.length gc) gbs Ks Gs) := hG;have HOK : Hid (∀ G ∈ Gs, GOk n G) := hok;have HV : Hid (OwnO w 0 (.slice va n c) L /\ L.length = n) := ⟨hv, hL⟩;obtain ⟨m, hm⟩ : ∃ m, m = Gs.length := ⟨_, rfl⟩;have HM : Hid (m = Gs.length) := hm;rw [<- hm] at hgl ⊢;clear hG hok hv hL hm;go_enter Tryz.func255, Tryz.ntmps255;go_wp2_with fail
  go_loopw [13] (fun ti wr => ∃ k : Nat, ti = .int .i64 k /\ k <= m /\ Hid (∀ j, j < k -> roomG L bins budget (Gs.getD j g0S) = false) /\ ∃ d, wr = w.drewN d) (fun ti _ => m - (intOf ti).toNat)
  case atStart => exact ⟨0, rfl, Nat.zero_le _, fun j hj => by omega, 0, rfl⟩
  case round =>
    obtain ⟨k, rfl, hk, HN, d, rfl⟩ := hrel
    by_cases hkm : k < m
    · have hkl : k < Gs.length := (by rw [<- HM.out]; exact hkm);obtain ⟨q, gc', hga, hql, hcell⟩ := HG.out.at hkl;injection hga with hga _ hgc;subst hga hgc;obtain ⟨vf, vo, hK⟩ := HG.out.each k hkl;have hGk := HOK.out _ (show Gs.getD k g0S ∈ Gs by simp [List.getD, hkl]);have HDEF : Hid (roomG L bins budget (Gs.getD k g0S) = (decide ((Gs.getD k g0S).conf + confN (Gs.getD k g0S).out L <= budget) && decide ((Gs.getD k g0S).bins + bins <= 40))) := rfl
      have HFI : Hid (roomG L bins budget (Gs.getD k g0S) = true -> Gs.findIdx (roomG L bins budget) = k) := fun ht => by
        have e : Gs.getD k g0S = Gs[k] := (by simp [List.getD, hkl]);rw [e] at ht;rw [List.findIdx_eq hkl];refine ⟨ht, fun j hj => ?_⟩;have := HN.out j hj
        rwa [show Gs.getD j g0S = Gs[j]'(by omega) by simp [List.getD, show j < Gs.length by omega]] at this
      have HNX : Hid (roomG L bins budget (Gs.getD k g0S) = false -> ∀ j, j < k + 1 -> roomG L bins budget (Gs.getD j g0S) = false) := fun hf j hj => by
        by_cases e : j = k
        rw [e]; exact hf;exact HN.out j (by omega)
      generalize Gs.getD k g0S = G at *;obtain ⟨gb, hgb⟩ : ∃ gb, gb = gbs.getD k 0 := ⟨_, rfl⟩;have HGB : Hid (ptrV gb = ptrV (gbs.getD k 0)) := (by show _ = _; rw [hgb]);rw [<- hgb] at hK hcell;clear hgb;obtain ⟨oa, oc, hvo⟩ := hK.out.shape;rw [hGk.out] at hvo;subst hvo;have c1 : w.cell? ⟨gb, 1, none⟩ = some (.slice oa n oc) := cell_of_row _ _ 1 _ 351 (0, 0) hK.blk;have c2 : w.cell? ⟨gb, 2, none⟩ = some (.int .i64 (G.conf : Nat)) := cell_of_row _ _ 2 _ 351 (0, 0) hK.blk;have c3 : w.cell? ⟨gb, 3, none⟩ = some (.int .i64 (G.bins : Nat)) := cell_of_row _ _ 3 _ 351 (0, 0) hK.blk;have hcn := cntT_le (bothL G.out L);rw [bothL_len (by have := HV.out.2; have := hGk.out; omega), HV.out.2] at hcn;have hcn2 : confN G.out L <= 200 := (by unfold confN; omega);have hq1 := hGk.conf;have hq2 := hGk.bins
      have HCW : Hid (∀ e, Calls Tryz.prog 297 #[.pointer (some ⟨gb, 0, none⟩), .slice va n c] (w.drewN e) fun e' w' => e' = .returned (.int .i64 (confN G.out L : Nat)) /\ w' = w.drewN e) := fun e => conflictsWith_any gb va oa n c oc L G.out (w.drewN e) c1 hK.out HV.out.1 hGk.out HV.out.2 hn;clear hK hGk hcn c1;generalize confN G.out L = cf at *;generalize G.conf = gcf at *;generalize G.bins = gbn at *;unfold ptrV at hcell;have bk1 : (0 : Int) <= (k : Int) := (by omega);have bk2 : (k : Int) < (m : Int) := by omega
      by_cases h1 : gcf + cf <= budget
      · have g1 : decide ((gcf : Int) + (cf : Int) <= (budget : Int)) = true := by simp; omega
        by_cases h2 : gbn + bins <= 40
        · have g2 : decide ((gbn : Int) + (bins : Int) <= 40) = true := (by simp; omega);have HR : Hid (Gs.findIdx (roomG L bins budget) = k) := HFI.out (by rw [HDEF.out]; simp [h1, h2]);clear HFI HDEF h1 h2;go_upto_region 4 with fail;go_quiet (first | (go_at_call 297; exact (HCW.out _).mono (fun _ _ h => ⟨h.1, _, h.2⟩)));go_wp2;go_ret;refine ⟨?_, below_drewN (Below.refl _ _) _⟩;rw [HR.out];unfold fwrV;rw [if_pos hkm, <- HGB.out];rfl
        have g2 : decide ((gbn : Int) + (bins : Int) <= 40) = false := (by simp; omega);have HR : Hid (∀ j, j < k + 1 -> roomG L bins budget (Gs.getD j g0S) = false) := HNX.out (by rw [HDEF.out]; simp [h1, h2]);clear HFI HDEF h1 h2 HN HNX;go_upto_region 4 with fail;go_quiet (first | (go_at_call 297; exact (HCW.out _).mono (fun _ _ h => ⟨h.1, _, h.2⟩)));go_wp2;go_roundw;case rel => exact ⟨k + 1, by go_num, by omega, HR, _, rfl⟩
        case measure => simp [intOf]; omega
      have g1 : decide ((gcf : Int) + (cf : Int) <= (budget : Int)) = false := (by simp; omega);have HR : Hid (∀ j, j < k + 1 -> roomG L bins budget (Gs.getD j g0S) = false) := HNX.out (by rw [HDEF.out]; simp [h1]);clear HFI HDEF h1 HN HNX;go_upto_region 4 with fail;go_quiet (first | (go_at_call 297; exact (HCW.out _).mono (fun _ _ h => ⟨h.1, _, h.2⟩)));go_wp2;go_roundw;case rel => exact ⟨k + 1, by go_num, by omega, HR, _, rfl⟩
      case measure => simp [intOf]; omega
    have hnk : ¬ (k : Int) < (m : Int) := by omega
    have HR : Hid (¬ Gs.findIdx (roomG L bins budget) < m) := fun h => by
      rw [HM.out] at h;have h1 := List.findIdx_getElem (w := h);have := HN.out (Gs.findIdx (roomG L bins budget)) (by have := HM.out; omega);rw [show Gs.getD (Gs.findIdx (roomG L bins budget)) g0S = Gs[Gs.findIdx (roomG L bins budget)]'h by simp [List.getD, h]] at this;rw [h1] at this
      cases this
    clear HN;go_wp2;go_ret;refine ⟨?_, below_drewN (Below.refl _ _) _⟩;unfold fwrV;rw [if_neg HR.out];rfl
end Go.Proofs.YtfcgnpchbcmdeaaGreat

namespace Go.Proofs.YtfcgnpchbcmdeaaGreat
open Go.RowKit Go.Lib Go.Sort
structure OutsX (w : World) (vO : Value) (vs : List Value) (Os : List (List Bool)) : Prop where
  row : w.ownsRow 0 101 1 vO Os.length vs
  each : ∀ i, i < Os.length -> OwnO w 0 (vs.getD i (.slice none 0 0)) (Os.getD i [])
theorem OutsX.below {w w' : World} {vO : Value} {vs : List Value} {Os : List (List Bool)} (h : OutsX w vO vs Os) (hb : Below w.heap.size w w') : OutsX w' vO vs Os :=
  ⟨(Touch.of_below (S := fun _ => False) hb).row h.row (fun _ _ => id), fun i hi => (h.each i hi).below hb⟩
theorem OutsX.at {w : World} {vO : Value} {vs : List Value} {Os : List (List Bool)} (h : OutsX w vO vs Os) {i : Nat} (hi : i < Os.length) : ∃ q c, vO = .slice (some ⟨q, 0, none⟩) Os.length c /\ q < w.heap.size /\ w.cell? ⟨q, i, none⟩ = some (vs.getD i (.slice none 0 0)) := by
  have hr := h.row
  rcases h.row.2 with ⟨_, h0⟩ | ⟨g, cap, cur, e, hb, hh, hnc, _⟩
  omega;subst e;refine ⟨g, cap, rfl, (Array.getElem?_eq_some_iff.1 hh).1, ?_⟩;rw [World.ownsRow.cellAt hr i (by omega)];have := hr.1;simp [List.getD, show i < vs.length by omega]
set_option maxRecDepth 100000 in
set_option maxHeartbeats 4000000 in
theorem byOut_any (ob q qc n f g : Nat) (vs : List Value) (Os : List (List Bool)) (w : World) (hO : OutsX w (.slice (some ⟨q, 0, none⟩) Os.length qc) vs Os) (hl : ∀ O ∈ Os, O.length = n) (hn : n <= 200) (hb : w.cell? ⟨ob, 0, none⟩ = some (.slice (some ⟨q, 0, none⟩) Os.length qc)) (hf : f < Os.length) (hg : g < Os.length) : Calls Tryz.prog 295 #[.int .i64 f, .int .i64 g, .pointer (some ⟨ob, 0, none⟩)] w fun e w' => e = .returned (.int .i64 (Lib.compareInt (cntT (Os.getD g []) : Nat) (cntT (Os.getD f []) : Nat))) /\ ∃ m, w' = w.drewN m := by
  obtain ⟨q1, c1, e1, _, d1⟩ := hO.at hf;injection e1 with e1 _ _;injection e1 with e1;injection e1 with e1 _;subst e1;obtain ⟨q2, c2, e2, _, d2⟩ := hO.at hg;injection e2 with e2 _ _;injection e2 with e2;injection e2 with e2 _;subst e2;have o1 := hO.each f hf;have o2 := hO.each g hg;have l1 := hl _ (show Os.getD f [] ∈ Os by simp [List.getD, hf]);have l2 := hl _ (show Os.getD g [] ∈ Os by simp [List.getD, hg]);generalize Os.getD f [] = F at *;generalize Os.getD g [] = G at *;generalize vs.getD f (.slice none 0 0) = v1 at *;generalize vs.getD g (.slice none 0 0) = v2 at *;obtain ⟨a1, b1, rfl⟩ := o1.shape;obtain ⟨a2, b2, rfl⟩ := o2.shape;rw [l1] at o1 d1;rw [l2] at o2 d2;have H1 : Hid (∀ e, Calls Tryz.prog 296 #[.slice a1 n b1] (w.drewN e) fun e' w' => e' = .returned (.int .i64 (cntT F : Nat)) /\ w' = w.drewN e) := fun e => cnt_any a1 n b1 F (w.drewN e) o1 l1 hn
  have H2 : Hid (∀ e, Calls Tryz.prog 296 #[.slice a2 n b2] (w.drewN e) fun e' w' => e' = .returned (.int .i64 (cntT G : Nat)) /\ w' = w.drewN e) := fun e => cnt_any a2 n b2 G (w.drewN e) o2 l2 hn;have H3 : Hid (∀ e, Calls Tryz.prog 151 #[.int .i64 (cntT G : Nat), .int .i64 (cntT F : Nat)] (w.drewN e) fun e' w' => e' = .returned (.int .i64 (Lib.compareInt (cntT G : Nat) (cntT F : Nat))) /\ w' = w.drewN e) := fun e => Tryz.cmp_Compare_int _ _ (w.drewN e);generalize Lib.compareInt (cntT G : Nat) (cntT F : Nat) = r at *;generalize cntT F = cF at *;generalize cntT G = cG at *;generalize Os.length = m at *;have b1' : (0 : Int) <= (f : Int) := (by omega);have b2' : (f : Int) < (m : Int) := (by omega);have b3' : (0 : Int) <= (g : Int) := (by omega);have b4' : (g : Int) < (m : Int) := (by omega);clear hO o1 o2 l1 l2 hl hf hg;go_enter Tryz.func295, Tryz.ntmps295;go_upto_region 1 with fail
  go_quiet (first | (go_at_call_of 296 (a2); exact (H2.out _).mono (fun _ _ h => ⟨h.1, _, h.2⟩)) | (go_at_call_of 296 (a1); exact (H1.out _).mono (fun _ _ h => ⟨h.1, _, h.2⟩)) | (go_at_call 151; exact (H3.out _).mono (fun _ _ h => ⟨h.1, _, h.2⟩)));go_wp2;go_ret;exact ⟨rfl, _, rfl⟩
end Go.Proofs.YtfcgnpchbcmdeaaGreat

namespace Go.Proofs.YtfcgnpchbcmdeaaGreat
open Go.RowKit Go.Lib Go.Sort
def encF {m : Nat} (x : Fin m) : Value := .int .i64 ((x.val : Nat) : Int)
def cmpF {m : Nat} (Os : List (List Bool)) (x y : Fin m) : Int := Lib.compareInt (cntT (Os.getD y.val []) : Nat) (cntT (Os.getD x.val []) : Nat)
theorem oneF {m : Nat} : OneCell (encF (m := m)) := fun _ => rfl
set_option maxRecDepth 100000 in
set_option maxHeartbeats 2000000 in
theorem stable_any (m blk cap ob : Nat) (d : Array (Fin (m + 1))) (w : World) (hm : m + 1 <= 4) (hd : d.size = m + 1) (Os : List (List Bool)) (hcmp : CmpReads (α := Fin (m + 1)) Tryz.prog 295 #[.pointer (some ⟨ob, 0, none⟩)] encF (cmpF Os) blk 0 (m + 1) w) (hH : Holds encF w blk 0 d) :
    Calls Tryz.prog 294 #[.slice (some ⟨blk, 0, none⟩) (m + 1) cap, .func (.func 295) #[] #[.pointer (some ⟨ob, 0, none⟩)]] w fun e w' => e = .returned (.tuple #[]) /\ ∃ n, w' = (putRow encF w blk 0 (Sort.insertionSort (ltOf (cmpF Os)) d 0 (m + 1))).drewN n := by
  have HI : Hid (Calls Tryz.prog 346 #[.slice (some ⟨blk, 0, none⟩) (m + 1) cap, .int .i64 0, .int .i64 ((m + 1 : Nat) : Int), .func (.func 295) #[] #[.pointer (some ⟨ob, 0, none⟩)]] w fun e w' => e = .returned (.tuple #[]) /\ ∃ n, w' = (putRow encF w blk 0 (Sort.insertionSort (ltOf (cmpF Os)) d 0 (m + 1))).drewN n) := (by have := Tryz.insertionSortCmpFunc_one encF oneF (cmpF Os) 295 #[.pointer (some ⟨ob, 0, none⟩)] blk 0 cap 0 (m + 1) d w (enters_of Tryz.func295 (by kernel_rfl) rfl) (by rw [hd]; exact hcmp) hH (Nat.zero_le _) (by omega) (by omega);rw [hd] at this;exact this);generalize putRow encF w blk 0 (Sort.insertionSort (ltOf (cmpF Os)) d 0 (m + 1)) = w2 at *
  have HS : Hid (Calls Tryz.prog 329 #[.slice (some ⟨blk, 0, none⟩) (m + 1) cap, .int .i64 ((m + 1 : Nat) : Int), .func (.func 295) #[] #[.pointer (some ⟨ob, 0, none⟩)]] w fun e w' => e = .returned (.tuple #[]) /\ ∃ n, w' = w2.drewN n) := by
    clear hcmp hH hd;have hb1 : ¬ (20 : Int) <= (m : Int) + 1 := (by omega);have hb2 : ¬ (20 : Int) < (m : Int) + 1 := (by omega);go_enter Tryz.func329, Tryz.ntmps329;go_wp2_with fail
    go_loopw [7, 8] (fun ta tb wr => ta = .int .i64 0 /\ tb = .int .i64 20 /\ wr = w) (fun _ _ _ => 0)
    case atStart => exact ⟨rfl, rfl, rfl⟩
    case round =>
      obtain ⟨rfl, rfl, rfl⟩ := hrel;go_wp2_with fail
      refine (HI.out).mono ?_;rintro e w3 ⟨rfl, n3, rfl⟩;go_wp2_with fail
      go_loopw [6] (fun tb wr => tb = .int .i64 20 /\ wr = w2.drewN n3) (fun _ _ => 0)
      case atStart => exact ⟨rfl, rfl⟩
      case round =>
        obtain ⟨rfl, rfl⟩ := hrel;go_wp2;go_end0;exact ⟨rfl, _, rfl⟩
  clear HI hcmp hH hd;go_enter Tryz.func294, Tryz.ntmps294;go_wp2_with fail
  refine (HS.out).mono ?_;rintro e w3 ⟨rfl, n3, rfl⟩;go_wp2;go_end0;exact ⟨rfl, _, rfl⟩
theorem touch_sort {α : Type} [Inhabited α] (enc : α -> Value) (w : World) (blk off m : Nat) (dk : Array α) (os : Array Obj) : Touch (fun k => k = blk) w (sortWorld enc w blk off m dk os) := by refine ⟨rfl, rfl, rfl, ?_, fun k hk hne => ?_⟩;unfold sortWorld; simp;unfold sortWorld;rw [Go.Sort.heap_grow_old _ _ (by simpa using hk)];have : blk ≠ k := fun e => hne e.symm;simp [Go.Sort.putRow, Go.Sort.mapBlock, Go.Sort.ahead, Array.getElem?_modify, this]
theorem touch_put {α : Type} [Inhabited α] (enc : α -> Value) (w : World) (blk off : Nat) (dk : Array α) : Touch (fun k => k = blk) w (putRow enc w blk off dk) := by refine ⟨rfl, rfl, rfl, ?_, fun k hk hne => ?_⟩;simp [Go.Sort.putRow, Go.Sort.mapBlock];have : blk ≠ k := fun e => hne e.symm;simp [Go.Sort.putRow, Go.Sort.mapBlock, Array.getElem?_modify, this]
theorem OutsX.touch {S : Nat -> Prop} {w w' : World} {vO : Value} {vs : List Value} {Os : List (List Bool)} (h : OutsX w vO vs Os) (t : Touch S w w') (hs : ∀ k cur ty, w.heap[k]? = some (.cells cur ty (0, 0)) -> ty = 101 ∨ ty = 4 -> ¬ S k) : OutsX w' vO vs Os :=
  ⟨t.row h.row (fun k hk => by obtain ⟨cur, hc⟩ := row_type h.row hk; exact hs k _ _ hc (.inl rfl)), fun i hi => t.row (h.each i hi) (fun k hk => by obtain ⟨cur, hc⟩ := row_type (h.each i hi) hk; exact hs k _ _ hc (.inr rfl))⟩
theorem own_putRow {w : World} {base g cap n m : Nat} {zs : List Int} {D : Array (Fin (m + 1))} (h : OwnI w base (.slice (some ⟨g, 0, none⟩) n cap) zs) (hz : zs.length = n) (hD : D.size = n) : OwnI (putRow encF w g 0 D) base (.slice (some ⟨g, 0, none⟩) n cap) (D.toList.map (fun x => ((x.val : Nat) : Int))) := by
  rcases h.2 with ⟨e, _⟩ | ⟨g', cap', cur, e, hb, hg, hnc, hcm, hcs, htake⟩
  simp at e;simp only [Value.slice.injEq, Option.some.injEq, Addr.mk.injEq, and_true] at e;obtain ⟨rfl, _, rfl⟩ := e;have hh : (putRow encF w g 0 D).heap[g]? = some (.cells (Go.Sort.putCells encF 0 D cur) 3 (0, 0)) := (by simp [Go.Sort.putRow, Go.Sort.mapBlock, Array.getElem?_modify, hg, Go.Sort.onCells]);have hl : (D.toList.map (fun x => ((x.val : Nat) : Int))).length = n := (by simp [hD]);refine ⟨by rw [List.length_map]; omega, .inr ⟨g, cap, _, by rw [hl], hb, hh, by rw [hl]; omega, hcm, by simp [Go.Sort.putCells, hcs], ?_⟩⟩;rw [hl, Nat.mul_one];apply List.ext_getElem?;intro j
  by_cases hj : j < n
  rw [List.getElem?_take_of_lt hj, Array.getElem?_toList];have h1 : j < cur.size := (by omega);have h2 : j < D.size := (by omega);simp [Go.Sort.putCells, h1, h2, encF];rw [List.getElem?_take_eq_none (by omega), List.getElem?_eq_none (by simp; omega)]
def idxF (m : Nat) : Array (Fin (m + 1)) := Array.ofFn (fun i => i)
def ordF (m : Nat) (Os : List (List Bool)) : List Nat := (Sort.insertionSort (ltOf (cmpF (m := m + 1) Os)) (idxF m) 0 (m + 1)).toList.map (fun x => x.val)
theorem cmpReads (m blk ob q qc n : Nat) (vs : List Value) (Os : List (List Bool)) (w : World) (hOl : Os.length = m + 1) (hO : OutsX w (.slice (some ⟨q, 0, none⟩) Os.length qc) vs Os) (hl : ∀ O ∈ Os, O.length = n) (hn : n <= 200) (hb : w.heap[ob]? = some (.cells #[.slice (some ⟨q, 0, none⟩) Os.length qc] 309 (0, 0))) (hblk : ∃ cur, w.heap[blk]? = some (.cells cur 3 (0, 0))) : CmpReads (α := Fin (m + 1)) Tryz.prog 295 #[.pointer (some ⟨ob, 0, none⟩)] encF (cmpF Os) blk 0 (m + 1) w := by
  intro mm os dk _ x y;have t := touch_sort (encF (m := m + 1)) w blk 0 mm dk os;obtain ⟨cur, hcur⟩ := hblk;refine byOut_any ob q qc n x.val y.val vs Os _ (hO.touch t ?_) hl hn ?_ (by have := x.isLt; omega) (by have := y.isLt; omega)
  · rintro k c ty hk hty rfl;rw [hcur] at hk;simp at hk
    rcases hty with e | e <;> rw [e] at hk <;> simp at hk
  have := t.at_ hb (fun e => by rw [e, hcur] at hb; simp at hb);exact cell_of_row _ _ 0 _ 309 (0, 0) this
theorem insSize {α : Type} [Inhabited α] (lt : α -> α -> Bool) (h : SWO lt) (d : Array α) (n : Nat) (hd : d.size = n) : (Sort.insertionSort lt d 0 n).size = n := by have := (Sort.insertionSort_holds (lt := lt) h d 0 n (Nat.zero_le _) (by omega)).1;obtain ⟨h1, _⟩ := this;omega
end Go.Proofs.YtfcgnpchbcmdeaaGreat

namespace Go.Proofs.YtfcgnpchbcmdeaaGreat
open Go.RowKit Go.Lib Go.Sort
theorem ltF {m : Nat} (Os : List (List Bool)) (x y : Fin m) : ltOf (cmpF Os) x y = decide (cntT (Os.getD y.val []) < cntT (Os.getD x.val [])) := by
  unfold ltOf cmpF Lib.compareInt;generalize cntT (Os.getD y.val []) = a;generalize cntT (Os.getD x.val []) = b
  by_cases h1 : a < b
  simp [h1]
  by_cases h3 : b < a <;> simp [h1, h3]
theorem swoF {m : Nat} (Os : List (List Bool)) : SWO (ltOf (cmpF (m := m) Os)) where
  irrefl x := by rw [ltF]; simp
  trans x y z h1 h2 := by rw [ltF] at *; simp at *; omega
  ntrans x y z h1 h2 := by rw [ltF] at *; simp at *; omega
theorem idxF_size (m : Nat) : (idxF m).size = m + 1 := by simp [idxF]
theorem ordF_len (m : Nat) (Os : List (List Bool)) : (ordF m Os).length = m + 1 := by unfold ordF;rw [List.length_map, Array.length_toList, insSize _ (swoF Os) _ _ (idxF_size m)]
theorem ordF_lt (m : Nat) (Os : List (List Bool)) : ∀ f ∈ ordF m Os, f < m + 1 := by intro f hf;unfold ordF at hf;obtain ⟨x, _, rfl⟩ := List.mem_map.1 hf;exact x.isLt
set_option maxRecDepth 100000 in
set_option maxHeartbeats 4000000 in
theorem byStandingOut_any (m q qc n : Nat) (vs : List Value) (Os : List (List Bool)) (w : World) (hm : m + 1 <= 4) (hOl : Os.length = m + 1) (hO : OutsX w (.slice (some ⟨q, 0, none⟩) (m + 1) qc) vs Os) (hl : ∀ O ∈ Os, O.length = n) (hn : n <= 200) : Calls Tryz.prog 254 #[.slice (some ⟨q, 0, none⟩) (m + 1) qc] w fun e w' => ∃ v, e = .returned v /\ OwnI w' w.heap.size v (natI (ordF m Os)) /\ Below w.heap.size w w' := by
  have HO : Hid (OutsX w (.slice (some ⟨q, 0, none⟩) (m + 1) qc) vs Os /\ Os.length = m + 1 /\ ∀ O ∈ Os, O.length = n) := ⟨hO, hOl, hl⟩;have hmk := make_ints (m + 1) (by omega);have hmk2 : ∀ W : World, (Instr.makeSlice 25 (.int .i64 ((m : Int) + 1)) (.int .i64 ((m : Int) + 1))).run Tryz.prog W = .ok (.slice (some ⟨W.heap.size, 0, none⟩) (m + 1) (m + 1)) (W.alloc (.cells (madeCells #[.int .i64 0] (m + 1)) 3)) := hmk;clear hO hOl hl hmk;go_enter Tryz.func254, Tryz.ntmps254;go_wp2_with fail
  go_loopw [10] (fun ti wr => ∃ k : Nat, ti = .int .i64 k /\ k <= m + 1 /\ Hid (OwnI wr (w.heap.size + 1) (.slice (some ⟨w.heap.size + 1, 0, none⟩) (m + 1) (m + 1)) (fillI (fun i => (i : Int)) (m + 1) k)) /\ Hid (Below (w.heap.size + 1) (w.alloc (.cells #[.slice (some ⟨q, 0, none⟩) (m + 1) qc] 309)) wr)) (fun ti _ => m + 1 - (intOf ti).toNat)
  case atStart =>
    refine ⟨0, rfl, Nat.zero_le _, ?_, ?_⟩
    · rw [fillI_zero];have := made_ints (m + 1) (w.alloc (.cells #[.slice (some ⟨q, 0, none⟩) (m + 1) qc] 309)) (w.heap.size + 1) (by omega) (by simp);show OwnI _ _ _ _
      simpa using this
    exact (Below.refl _ _).alloc (by simp) _
  case round =>
    clear hmk2;obtain ⟨k, rfl, hk, HI, HB⟩ := hrel;have hsz := HB.out.size;simp at hsz
    by_cases hkm : k < m + 1
    · have hfl := fillI_len (fun i => (i : Int)) (show k <= m + 1 by omega);have HSET : Hid ((fillI (fun i => (i : Int)) (m + 1) k).set k (k : Int) = fillI (fun i => (i : Int)) (m + 1) (k + 1)) := fillI_set (fun i => (i : Int)) hkm;have HFL : Hid (m + 1 = (fillI (fun i => (i : Int)) (m + 1) k).length) := hfl.symm;obtain ⟨cf1, cf2⟩ := HI.out.cellK hfl.symm hkm;clear hfl;generalize fillI (fun i => (i : Int)) (m + 1) k = F at *;generalize F.getD k 0 = z0 at *;have bk1 : (0 : Int) <= (k : Int) := (by omega);have bk2 : (k : Int) < (m : Int) + 1 := (by omega);go_wp2;go_roundw
      case rel =>
        refine ⟨k + 1, by go_num, by omega, ?_, ?_⟩;rw [<- HSET.out];exact (HI.out.put HFL.out _).1;exact HB.out.setCell (Nat.le_refl _) _
      case measure => simp [intOf]; omega
    have hnk : ¬ (k : Int) < (m : Int) + 1 := (by omega);have hbx : wr.heap[w.heap.size]? = some (.cells #[.slice (some ⟨q, 0, none⟩) (m + 1) qc] 309 (0, 0)) := (HB.out.block w.heap.size (by omega)).trans (heap_alloc_new _ _);have hbw : Below w.heap.size w wr := ((Below.refl _ _).alloc (Nat.le_refl _) _).trans (HB.out.mono (by omega));have hI : OwnI wr (w.heap.size + 1) (.slice (some ⟨w.heap.size + 1, 0, none⟩) (m + 1) (m + 1)) (fillI (fun i => (i : Int)) (m + 1) (m + 1)) := (by have : k = m + 1 := (by omega);subst this;exact HI.out);have hfl := fillI_len (fun i => (i : Int)) (Nat.le_refl (m + 1));have hH : Holds encF wr (w.heap.size + 1) 0 (idxF m) := by intro j hj;rw [idxF_size] at hj;rw [Nat.zero_add];obtain ⟨p1, p2⟩ := hI.cellK hfl.symm hj;refine ⟨?_, p2⟩;rw [p1, fillI_full];have : (idxF m)[j]! = ⟨j, hj⟩ := (by simp [idxF, hj]);rw [this];simp [encF, List.getD, hj]
    have hOw : OutsX wr (.slice (some ⟨q, 0, none⟩) Os.length qc) vs Os := by rw [HO.out.2.1]; exact HO.out.1.below hbw
    have hcm := cmpReads m (w.heap.size + 1) w.heap.size q qc n vs Os wr HO.out.2.1 hOw HO.out.2.2 hn (by rw [HO.out.2.1]; exact hbx) (by
      obtain ⟨cur, hc⟩ := row_type hI (k := w.heap.size + 1) rfl
      exact ⟨cur, hc⟩)
    have HST : Hid (Calls Tryz.prog 294 #[.slice (some ⟨w.heap.size + 1, 0, none⟩) (m + 1) (m + 1), .func (.func 295) #[] #[.pointer (some ⟨w.heap.size, 0, none⟩)]] wr fun e w' => e = .returned (.tuple #[]) /\ OwnI w' w.heap.size (.slice (some ⟨w.heap.size + 1, 0, none⟩) (m + 1) (m + 1)) (natI (ordF m Os)) /\ Below w.heap.size w w') := by
      refine (stable_any m (w.heap.size + 1) (m + 1) w.heap.size (idxF m) wr hm (idxF_size m) Os hcm hH).mono ?_;rintro e w' ⟨rfl, d, rfl⟩;have hp := own_putRow (D := Sort.insertionSort (ltOf (cmpF (m := m + 1) Os)) (idxF m) 0 (m + 1)) hI hfl (insSize _ (swoF Os) _ _ (idxF_size m));have ht := touch_put (encF (m := m + 1)) wr (w.heap.size + 1) 0 (Sort.insertionSort (ltOf (cmpF (m := m + 1) Os)) (idxF m) 0 (m + 1));refine ⟨rfl, ?_, ?_⟩;have e : natI (ordF m Os) = (Sort.insertionSort (ltOf (cmpF (m := m + 1) Os)) (idxF m) 0 (m + 1)).toList.map (fun x => ((x.val : Nat) : Int)) := (by simp [natI, ordF]);rw [e];exact (OwnI.below (OwnI.mono hp (by omega)) (below_drewN (Below.refl _ _) d))
      refine below_drewN ?_ d;exact ⟨ht.os.trans hbw.os, ht.tape.trans hbw.tape, ht.output.trans hbw.output, Nat.le_trans hbw.size ht.size, fun k hk => (ht.block k (by omega) (by omega)).trans (hbw.block k hk)⟩
    clear hbx hbw hI hfl hH hOw hcm HI HB;go_wp2_with fail
    refine HST.out.mono ?_;rintro e w2 ⟨rfl, ho, hb⟩;have HF : Hid (OwnI w2 w.heap.size (.slice (some ⟨w.heap.size + 1, 0, none⟩) (m + 1) (m + 1)) (natI (ordF m Os)) /\ Below w.heap.size w w2) := ⟨ho, hb⟩;clear ho hb;go_wp2;go_ret;exact ⟨_, rfl, HF.out.1, HF.out.2⟩
end Go.Proofs.YtfcgnpchbcmdeaaGreat

namespace Go.Proofs.YtfcgnpchbcmdeaaGreat
open Go.RowKit
structure KS where
  e : ES
  d : Nat
def k0S : KS := ⟨⟨false, [], []⟩, 0⟩
def KS.many (k : KS) : Nat := k.e.cnt + 2
def cellsKn (k : KS) (v : Value × Value) : List Value := [.bool k.e.wd, v.1, v.2, .int .i64 (k.d : Nat)]
def flatKn : List KS -> List (Value × Value) -> List Value
  | [], _ => []
  | _ :: _, [] => []
  | k :: Ks, v :: vs => cellsKn k v ++ flatKn Ks vs
def vv0 : Value × Value := (.slice none 0 0, .slice none 0 0)
theorem flatKn_get : ∀ (Ks : List KS) (vs : List (Value × Value)), vs.length = Ks.length -> ∀ i, i < Ks.length -> ∀ c, c < 4 -> (flatKn Ks vs)[i * 4 + c]? = (cellsKn (Ks.getD i k0S) (vs.getD i vv0))[c]?
  | [], _, _, i, h => by simp at h
  | k :: Ks, [], h, _, _ => by simp at h
  | k :: Ks, v :: vs, _, 0, _ => fun c hc => by simp only [flatKn];rw [show 0 * 4 + c = c by omega, List.getElem?_append_left (by simpa [cellsKn] using hc)]; rfl
  | k :: Ks, v :: vs, h, i + 1, hi => fun c hc => by simp only [flatKn];rw [List.getElem?_append_right (by simp [cellsKn]; omega), show (i + 1) * 4 + c - (cellsKn k v).length = i * 4 + c by simp [cellsKn]; omega];exact flatKn_get Ks vs (by simpa using h) i (by simpa using hi) c hc
structure KnsX (w : World) (vK : Value) (vs : List (Value × Value)) (Ks : List KS) : Prop where
  row : w.ownsRow 0 172 4 vK Ks.length (flatKn Ks vs)
  len : vs.length = Ks.length
  each : ∀ i, i < Ks.length -> OwnI w 0 (vs.getD i vv0).1 (Ks.getD i k0S).e.bs /\ OwnS w 0 (vs.getD i vv0).2 (Ks.getD i k0S).e.ww
theorem KnsX.touch {S : Nat -> Prop} {w w' : World} {vK : Value} {vs : List (Value × Value)} {Ks : List KS} (h : KnsX w vK vs Ks) (t : Touch S w w') (hs : ∀ k cur ty, w.heap[k]? = some (.cells cur ty (0, 0)) -> ty = 172 ∨ ty = 3 ∨ ty = 9 -> ¬ S k) : KnsX w' vK vs Ks :=
  ⟨t.row h.row (fun k hk => by obtain ⟨cur, hc⟩ := row_type h.row hk; exact hs k _ _ hc (.inl rfl)), h.len, fun i hi => ⟨t.row (h.each i hi).1 (fun k hk => by obtain ⟨cur, hc⟩ := row_type (h.each i hi).1 hk; exact hs k _ _ hc (.inr (.inl rfl))), t.row (h.each i hi).2 (fun k hk => by obtain ⟨cur, hc⟩ := row_type (h.each i hi).2 hk; exact hs k _ _ hc (.inr (.inr rfl)))⟩⟩
theorem KnsX.below {w w' : World} {vK : Value} {vs : List (Value × Value)} {Ks : List KS} (h : KnsX w vK vs Ks) (hb : Below w.heap.size w w') : KnsX w' vK vs Ks :=
  ⟨(Touch.of_below (S := fun _ => False) hb).row h.row (fun _ _ => id), h.len, fun i hi => ⟨(h.each i hi).1.below hb, (h.each i hi).2.below hb⟩⟩
theorem KnsX.at {w : World} {vK : Value} {vs : List (Value × Value)} {Ks : List KS} (h : KnsX w vK vs Ks) {i : Nat} (hi : i < Ks.length) : ∃ q c ab cb aw cw, vK = .slice (some ⟨q, 0, none⟩) Ks.length c /\ q < w.heap.size /\ w.cell? ⟨q, i * 4, none⟩ = some (.bool (Ks.getD i k0S).e.wd) /\ w.cell? ⟨q, i * 4 + 1, none⟩ = some (.slice ab (Ks.getD i k0S).e.bs.length cb) /\ w.cell? ⟨q, i * 4 + 2, none⟩ = some (.slice aw (Ks.getD i k0S).e.ww.length cw) /\ w.cell? ⟨q, i * 4 + 3, none⟩ = some (.int .i64 ((Ks.getD i k0S).d : Nat)) /\ OwnI w 0 (.slice ab (Ks.getD i k0S).e.bs.length cb) (Ks.getD i k0S).e.bs /\ OwnS w 0 (.slice aw (Ks.getD i k0S).e.ww.length cw) (Ks.getD i k0S).e.ww := by
  have hr := h.row
  rcases h.row.2 with ⟨_, h0⟩ | ⟨g, cap, cur, e, hb, hh, hnc, _⟩
  omega;subst e;obtain ⟨e1, e2⟩ := h.each i hi;obtain ⟨ab, cb, hab⟩ := e1.shape;obtain ⟨aw, cw, haw⟩ := e2.form;rw [hab] at e1;rw [haw] at e2
  have key : ∀ c u, c < 4 -> (cellsKn (Ks.getD i k0S) (vs.getD i vv0))[c]? = some u -> w.cell? ⟨g, i * 4 + c, none⟩ = some u := fun c u hc hu => by rw [World.ownsRow.cellAt hr (i * 4 + c) (by omega)];exact (flatKn_get Ks vs h.len i hi c hc).trans hu
  refine ⟨g, cap, ab, cb, aw, cw, rfl, (Array.getElem?_eq_some_iff.1 hh).1, key 0 _ (by omega) rfl, ?_, ?_, key 3 _ (by omega) rfl, e1, e2⟩;rw [<- hab]; exact key 1 _ (by omega) rfl;rw [<- haw]; exact key 2 _ (by omega) rfl
structure GrpsY (w : World) (base : Nat) (vG : Value) (gbs : List Nat) (Ks : Nat -> Nat -> Prop) (Gs : List GS) : Prop where
  x : GrpsX w vG gbs Ks Gs
  rk : ∀ i, i < Gs.length -> ∀ k, vG.ownBlock = some k -> ¬ Ks i k
  rb : ∀ k, vG.ownBlock = some k -> base <= k
  kb : ∀ i, i < Gs.length -> ∀ k, Ks i k -> base <= k
theorem GrpsX.touch {S : Nat -> Prop} {w w' : World} {vG : Value} {gbs : List Nat} {Ks : Nat -> Nat -> Prop} {Gs : List GS} (h : GrpsX w vG gbs Ks Gs) (t : Touch S w w') (hr : ∀ k, vG.ownBlock = some k -> ¬ S k) (hs : ∀ i, i < Gs.length -> ∀ k, Ks i k -> ¬ S k) : GrpsX w' vG gbs Ks Gs :=
  ⟨t.row h.row hr, h.len, fun i hi => (h.each i hi).touch t (hs i hi), h.apart⟩
theorem GrpsY.touch {S : Nat -> Prop} {w w' : World} {base : Nat} {vG : Value} {gbs : List Nat} {Ks : Nat -> Nat -> Prop} {Gs : List GS} (h : GrpsY w base vG gbs Ks Gs) (t : Touch S w w') (hs : ∀ k, base <= k -> ¬ S k) : GrpsY w' base vG gbs Ks Gs :=
  ⟨h.x.touch t (fun k hk => hs k (h.rb k hk)) (fun i hi k hk => hs k (h.kb i hi k hk)), h.rk, h.rb, h.kb⟩
theorem GrpsY.put {w w' : World} {base i : Nat} {vG : Value} {gbs : List Nat} {Ks : Nat -> Nat -> Prop} {Gs : List GS} {K' : Nat -> Prop} {G' : GS} (h : GrpsY w base vG gbs Ks Gs) (hi : i < Gs.length) (t : Touch (Ks i) w w') (hg : GrpW w' K' (gbs.getD i 0) G') (hk : ∀ k, K' k -> Ks i k ∨ w.heap.size <= k) (hbase : base <= w.heap.size) : GrpsY w' base vG gbs (fun j => if j = i then K' else Ks j) (Gs.set i G') := by
  have hlt : ∀ j, j < Gs.length -> ∀ k, Ks j k -> k < w.heap.size := fun j hj k hk => by obtain ⟨vf, vo, hG⟩ := h.x.each j hj;exact hG.kl k hk
  refine ⟨⟨?_, ?_, fun j hj => ?_, fun a b ha hb hab k => ?_⟩, fun j hj k hrk => ?_, h.rb, fun j hj k => ?_⟩;rw [List.length_set]; exact t.row h.x.row (fun k hk => h.rk i hi k hk);rw [List.length_set]; exact h.x.len
  · rw [List.length_set] at hj
    by_cases e : j = i
    subst e;simp only [if_true];have : (Gs.set j G').getD j g0S = G' := (by simp [List.getD, hj]);rw [this]; exact hg;simp only [if_neg e];have : (Gs.set i G').getD j g0S = Gs.getD j g0S := (by simp [List.getD, Ne.symm e]);rw [this];exact (h.x.each j hj).touch t (fun k hk => h.x.apart j i hj hi e k hk)
  · rw [List.length_set] at ha hb
    by_cases ea : a = i
    · have eb : b ≠ i := fun e => hab (ea.trans e.symm);simp only [if_pos ea, if_neg eb];intro h1 h2
      rcases hk k h1 with h3 | h3
      exact h.x.apart i b hi hb (fun e => eb e.symm) k h3 h2;have := hlt b hb k h2; omega
    by_cases eb : b = i
    · simp only [if_neg ea, if_pos eb];intro h1 h2
      rcases hk k h2 with h3 | h3
      exact h.x.apart a i ha hi ea k h1 h3;have := hlt a ha k h1; omega
    simp only [if_neg ea, if_neg eb];exact h.x.apart a b ha hb hab k
  · rw [List.length_set] at hj
    by_cases e : j = i
    · simp only [if_pos e];intro h1
      rcases hk k h1 with h3 | h3
      exact h.rk i hi k hrk h3;have := (World.ownsRow.lt h.x.row k hrk).2; omega
    simp only [if_neg e];exact h.rk j hj k hrk
  rw [List.length_set] at hj
  by_cases e : j = i
  · simp only [if_pos e];intro h1
    rcases hk k h1 with h3 | h3
    exact h.kb i hi k h3;omega
  simp only [if_neg e];exact h.kb j hj k
theorem GrpsY.snoc {w w' : World} {base gb : Nat} {vG vG' : Value} {gbs : List Nat} {Ks : Nat -> Nat -> Prop} {Gs : List GS} {K' : Nat -> Prop} {G' : GS} (h : GrpsY w base vG gbs Ks Gs) (hr : w'.ownsRow 0 313 1 vG' (Gs.length + 1) (gbs.map ptrV ++ [ptrV gb])) (hg : w.grownBy w' vG.ownBlock) (hd : vG'.ownBlock = vG.ownBlock ∨ ∃ N, vG'.ownBlock = some N /\ w.heap.size <= N) (hG : GrpW w K' gb G') (hk : ∀ i, i < Gs.length -> ∀ k, Ks i k -> ¬ K' k) (hkr : ∀ k, vG.ownBlock = some k -> ¬ K' k) (hkb : ∀ k, K' k -> base <= k) (hbase : base <= w.heap.size) : GrpsY w' base vG' (gbs ++ [gb]) (fun j => if j = Gs.length then K' else Ks j) (Gs ++ [G']) := by
  have hlt : ∀ j, j < Gs.length -> ∀ k, Ks j k -> k < w.heap.size := fun j hj k hk => by obtain ⟨vf, vo, hG⟩ := h.x.each j hj;exact hG.kl k hk
  have hltK : ∀ k, K' k -> k < w.heap.size := fun k hk => by obtain ⟨vf, vo, hG⟩ := hG;exact hG.kl k hk
  have t : Touch (fun k => vG.ownBlock = some k) w w' := (Touch.refl _ w).grown hg (fun k hk _ => hk);have hlen := h.x.len;refine ⟨⟨?_, ?_, fun j hj => ?_, fun a b ha hb hab k => ?_⟩, fun j hj k hrk => ?_, fun k hrk => ?_, fun j hj k => ?_⟩;rw [List.length_append, List.map_append]; exact hr;simp [hlen]
  · rw [List.length_append] at hj;simp at hj
    by_cases e : j = Gs.length
    subst e;simp only [if_true];have e1 : (Gs ++ [G']).getD Gs.length g0S = G' := (by simp [List.getD]);have e2 : (gbs ++ [gb]).getD Gs.length 0 = gb := (by simp [List.getD, <- hlen]);rw [e1, e2];exact hG.touch t (fun k hk hr => hkr k hr hk);have hj2 : j < Gs.length := (by omega);simp only [if_neg e];have e1 : (Gs ++ [G']).getD j g0S = Gs.getD j g0S := (by simp [List.getD, List.getElem?_append_left hj2]);have e2 : (gbs ++ [gb]).getD j 0 = gbs.getD j 0 := (by simp [List.getD, List.getElem?_append_left (show j < gbs.length by omega)]);rw [e1, e2];exact (h.x.each j hj2).touch t (fun k hk hr => h.rk j hj2 k hr hk)
  · rw [List.length_append] at ha hb;simp at ha hb
    by_cases ea : a = Gs.length
    have eb : b ≠ Gs.length := fun e => hab (ea.trans e.symm);simp only [if_pos ea, if_neg eb];intro h1 h2;exact hk b (by omega) k h2 h1
    by_cases eb : b = Gs.length
    simp only [if_neg ea, if_pos eb];intro h1 h2;exact hk a (by omega) k h1 h2;simp only [if_neg ea, if_neg eb];exact h.x.apart a b (by omega) (by omega) hab k
  · rw [List.length_append] at hj;simp at hj
    rcases hd with e1 | ⟨N, e1, e2⟩
    · rw [e1] at hrk
      by_cases e : j = Gs.length
      simp only [if_pos e]; exact hkr k hrk;simp only [if_neg e]; exact h.rk j (by omega) k hrk
    rw [e1] at hrk;injection hrk with hrk;subst hrk
    by_cases e : j = Gs.length
    simp only [if_pos e]; intro h1; have := hltK _ h1; omega;simp only [if_neg e]; intro h1; have := hlt j (by omega) _ h1; omega
  · rcases hd with e1 | ⟨N, e1, e2⟩
    rw [e1] at hrk; exact h.rb k hrk;rw [e1] at hrk;injection hrk with hrk;omega
  rw [List.length_append] at hj;simp at hj
  by_cases e : j = Gs.length
  simp only [if_pos e]; exact hkb k;simp only [if_neg e]; exact h.kb j (by omega) k
end Go.Proofs.YtfcgnpchbcmdeaaGreat

namespace Go.Proofs.YtfcgnpchbcmdeaaGreat
open Go.RowKit
def newG (n : Nat) : GS := ⟨[], List.replicate n false, 0, 0⟩
def layStep (Ks : List KS) (Os : List (List Bool)) (n budget : Nat) (Gs : List GS) (f : Nat) : List GS :=
  if Gs.findIdx (roomG (Os.getD f []) (Ks.getD f k0S).many budget) < Gs.length then Gs.set (Gs.findIdx (roomG (Os.getD f []) (Ks.getD f k0S).many budget)) (addG (Gs.getD (Gs.findIdx (roomG (Os.getD f []) (Ks.getD f k0S).many budget)) g0S) f (Os.getD f []) (Ks.getD f k0S).many)
  else Gs ++ [addG (newG n) f (Os.getD f []) (Ks.getD f k0S).many]
def layF (m : Nat) (Ks : List KS) (Os : List (List Bool)) (n budget : Nat) : List GS := (ordF m Os).foldl (layStep Ks Os n budget) []
structure GInv (n k : Nat) (Gs : List GS) : Prop where
  len : Gs.length <= k
  each : ∀ G ∈ Gs, G.out.length = n /\ G.conf <= 400 /\ G.bins <= 400 /\ G.fs.length <= k
theorem confN_le {a b : List Bool} (h : a.length = b.length) : confN a b <= b.length := by have := cntT_le (bothL a b);rw [bothL_len h] at this;exact this
theorem GInv.step {n k budget : Nat} {Ks : List KS} {Os : List (List Bool)} {Gs : List GS} {f : Nat} (h : GInv n k Gs) (hO : (Os.getD f []).length = n) (hn : n <= 200) (hb : budget <= 20) (hm : (Ks.getD f k0S).many <= 100) : GInv n (k + 1) (layStep Ks Os n budget Gs f) := by
  unfold layStep;split
  · rename_i hi;have hroom := List.findIdx_getElem (w := hi);generalize Gs.findIdx (roomG (Os.getD f []) (Ks.getD f k0S).many budget) = i at *;have eG : Gs.getD i g0S = Gs[i] := (by simp [List.getD, hi]);rw [eG];obtain ⟨g1, g2, g3, g4⟩ := h.each Gs[i] (List.getElem_mem hi);simp only [roomG, Bool.and_eq_true, decide_eq_true_eq] at hroom;refine ⟨by rw [List.length_set]; have := h.len; omega, fun G hG => ?_⟩
    rcases List.mem_or_eq_of_mem_set hG with hG | rfl
    obtain ⟨a1, a2, a3, a4⟩ := h.each G hG;exact ⟨a1, a2, a3, by omega⟩;refine ⟨?_, ?_, ?_, ?_⟩;show (orL _ _).length = n;rw [orL_len (by omega)]; exact g1;show Gs[i].conf + confN Gs[i].out (Os.getD f []) <= 400;omega;show Gs[i].bins + _ <= 400;omega;show (Gs[i].fs ++ [f]).length <= k + 1;simp; omega
  refine ⟨by rw [List.length_append]; have := h.len; simp; omega, fun G hG => ?_⟩
  rcases List.mem_append.1 hG with hG | hG
  obtain ⟨a1, a2, a3, a4⟩ := h.each G hG;exact ⟨a1, a2, a3, by omega⟩;simp only [List.mem_cons, List.not_mem_nil, or_false] at hG;subst hG;have hl : (newG n).out.length = (Os.getD f []).length := (by rw [hO]; exact List.length_replicate);refine ⟨?_, ?_, ?_, ?_⟩;show (orL _ _).length = n;rw [orL_len hl]; simp [newG];show 0 + confN (newG n).out (Os.getD f []) <= 400;have := confN_le hl; omega;show 0 + _ <= 400;omega;show ([] ++ [f]).length <= k + 1;simp
theorem GInv.ok {n k : Nat} {Gs : List GS} (h : GInv n k Gs) (hk : k <= 100) : ∀ G ∈ Gs, GOk n G := fun G hG => by obtain ⟨a1, a2, a3, a4⟩ := h.each G hG;exact ⟨a1, by omega, by omega, by omega⟩
theorem KnsX.at2 {w : World} {q n c : Nat} {vs : List (Value × Value)} {Ks : List KS} (h : KnsX w (.slice (some ⟨q, 0, none⟩) n c) vs Ks) {i : Nat} (hi : i < Ks.length) : ∃ ab cb aw cw, q < w.heap.size /\ w.cell? ⟨q, i * 4, none⟩ = some (.bool (Ks.getD i k0S).e.wd) /\ w.cell? ⟨q, i * 4 + 1, none⟩ = some (.slice ab (Ks.getD i k0S).e.bs.length cb) /\ w.cell? ⟨q, i * 4 + 2, none⟩ = some (.slice aw (Ks.getD i k0S).e.ww.length cw) /\ w.cell? ⟨q, i * 4 + 3, none⟩ = some (.int .i64 ((Ks.getD i k0S).d : Nat)) /\ OwnI w 0 (.slice ab (Ks.getD i k0S).e.bs.length cb) (Ks.getD i k0S).e.bs /\ OwnS w 0 (.slice aw (Ks.getD i k0S).e.ww.length cw) (Ks.getD i k0S).e.ww := by obtain ⟨q', c', ab, cb, aw, cw, e, r⟩ := h.at hi;injection e with e _ _;injection e with e;injection e with e _;subst e;exact ⟨ab, cb, aw, cw, r⟩
theorem OutsX.at2 {w : World} {q n c : Nat} {vs : List Value} {Os : List (List Bool)} (h : OutsX w (.slice (some ⟨q, 0, none⟩) n c) vs Os) {i : Nat} (hi : i < Os.length) : q < w.heap.size /\ w.cell? ⟨q, i, none⟩ = some (vs.getD i (.slice none 0 0)) := by obtain ⟨q', c', e, r⟩ := h.at hi;injection e with e _ _;injection e with e;injection e with e _;subst e;exact r
theorem info313 : (Tryz.prog.info? 313).map (fun i => (i.zero, i.size, i.bytes)) = some (some (.pointer none), 1, 8) := by kernel_rfl
theorem KS.many_eq (k : KS) : ((cntE k.e.wd k.e.bs.length k.e.ww.length : Nat) : Int) + 2 = ((k.many : Nat) : Int) := by unfold KS.many ES.cnt;omega
def Laid (w : World) (N : Nat) (v : Value) (Gs : List GS) : Prop := ∃ base gbs Kk, N <= base /\ GrpsY w base v gbs Kk Gs
set_option maxRecDepth 100000 in
set_option maxHeartbeats 4000000 in
theorem layTogether_any (m n budget qk kc qo oc : Nat) (vs : List (Value × Value)) (os : List Value) (Ks : List KS) (Os : List (List Bool)) (w : World) (hm : m + 1 <= 4) (hKl : Ks.length = m + 1) (hOl : Os.length = m + 1) (hK : KnsX w (.slice (some ⟨qk, 0, none⟩) (m + 1) kc) vs Ks) (hO : OutsX w (.slice (some ⟨qo, 0, none⟩) (m + 1) oc) os Os) (hl : ∀ O ∈ Os, O.length = n) (hn : n <= 200) (hb : budget <= 20) (hcn : ∀ K ∈ Ks, K.many <= 100) : Calls Tryz.prog 206 #[.slice (some ⟨qk, 0, none⟩) (m + 1) kc, .slice (some ⟨qo, 0, none⟩) (m + 1) oc, .int .i64 budget] w fun e w' => ∃ v, e = .returned v /\ Laid w'  w.heap.size v (layF m Ks Os n budget) /\ Below w.heap.size w w' := by
  have HBY : Hid (Calls Tryz.prog 254 #[.slice (some ⟨qo, 0, none⟩) (m + 1) oc] w fun e w' => ∃ v, e = .returned v /\ OwnI w' w.heap.size v (natI (ordF m Os)) /\ Below w.heap.size w w') := byStandingOut_any m qo oc n os Os w hm hOl hO hl hn;have HH : Hid (KnsX w (.slice (some ⟨qk, 0, none⟩) (m + 1) kc) vs Ks /\ OutsX w (.slice (some ⟨qo, 0, none⟩) (m + 1) oc) os Os /\ Ks.length = m + 1 /\ Os.length = m + 1 /\ (∀ O ∈ Os, O.length = n) /\ ∀ K ∈ Ks, K.many <= 100) := ⟨hK, hO, hKl, hOl, hl, hcn⟩;have HOL : Hid ((ordF m Os).length = m + 1 /\ ∀ f ∈ ordF m Os, f < m + 1) := ⟨ordF_len m Os, ordF_lt m Os⟩;obtain ⟨j0, jinf, jz0, jz1, jz2⟩ := info_parts info313;clear hKl hOl hK hO hl hcn;go_enter Tryz.func206, Tryz.ntmps206;go_wp2_with fail
  refine HBY.out.mono ?_;rintro e w1 ⟨vord, rfl, hord, hb1⟩;obtain ⟨oa, occ, hvo⟩ := hord.shape;rw [natI_len, HOL.out.1] at hvo;subst hvo;obtain ⟨qr, hqr, hqrl, hqrb, _, _⟩ := hord.atK (k := 0) (by rw [natI_len]; exact HOL.out.1) (by omega);subst hqr;have hs1 := hb1.size;have HORD : Hid (OwnI w1 w.heap.size (.slice (some ⟨qr, 0, none⟩) (m + 1) occ) (natI (ordF m Os))) := hord;have HB1 : Hid (Below w.heap.size w w1) := hb1;have HLAY : Hid (layF m Ks Os n budget = (ordF m Os).foldl (layStep Ks Os n budget) []) := rfl;clear hord hb1 HBY;generalize ordF m Os = ord at *;go_wp2_with fail
  go_loopw [15, 7] (fun ti tG wr => ∃ (k : Nat) (gbs : List Nat) (Kk : Nat -> Nat -> Prop), ti = .int .i64 k /\ k <= m + 1 /\ Hid (GrpsY wr w1.heap.size tG gbs Kk ((ord.take k).foldl (layStep Ks Os n budget) []) /\ GInv n k ((ord.take k).foldl (layStep Ks Os n budget) [])) /\ Hid (Below w1.heap.size w1 wr)) (fun ti _ _ => m + 1 - (intOf ti).toNat)
  case atStart =>
    refine ⟨0, [], fun _ _ => False, rfl, Nat.zero_le _, ⟨⟨⟨World.ownsRow_nil _ _ _ _, rfl, (fun i hi => by simp at hi), (fun i j hi => by simp at hi)⟩, (fun i hi => by simp at hi), (fun k hk => by simp [Value.ownBlock] at hk), (fun i hi => by simp at hi)⟩, ⟨by simp, by simp⟩⟩, Below.refl _ _⟩
  case round =>
    obtain ⟨k, gbs, Kk, rfl, hk, HG, HB⟩ := hrel;have hsz := HB.out.size
    by_cases hkm : k < m + 1
    · have hkl : k < ord.length := (by rw [HOL.out.1]; exact hkm);have hfm : ord.getD k 0 < m + 1 := (by have : ord.getD k 0 = ord[k] := (by simp [List.getD, hkl]);rw [this]; exact HOL.out.2 _ (List.getElem_mem hkl));have hfold : (ord.take (k + 1)).foldl (layStep Ks Os n budget) [] = layStep Ks Os n budget ((ord.take k).foldl (layStep Ks Os n budget) []) (ord.getD k 0) := (by rw [List.take_succ_eq_append_getElem hkl, List.foldl_append];simp [List.getD, hkl]);have HNX : Hid ((ord.take (k + 1)).foldl (layStep Ks Os n budget) [] = layStep Ks Os n budget ((ord.take k).foldl (layStep Ks Os n budget) []) (ord.getD k 0)) := hfold;have hc0 : wr.cell? ⟨qr, k, none⟩ = some (.int .i64 ((ord.getD k 0 : Nat) : Int)) := by have := (HORD.out.cellK (by rw [natI_len]; exact HOL.out.1.symm) hkm).1;rw [natI_getD] at this;exact (HB.out.cell (p := ⟨qr, k, none⟩) hqrl).trans this
      clear hfold;generalize ord.getD k 0 = f at *;generalize (ord.take k).foldl (layStep Ks Os n budget) [] = Gs at *;have hbw : Below w.heap.size w wr := HB1.out.trans (HB.out.mono hs1);have hKw := HH.out.1.below hbw;have hOw := HH.out.2.1.below hbw;obtain ⟨ab, cb, aw, cw, hqkl, k0, k1, k2, k3, _, _⟩ := hKw.at2 (i := f) (by rw [HH.out.2.2.1]; exact hfm);obtain ⟨hqol, o0⟩ := hOw.at2 (i := f) (by rw [HH.out.2.2.2.1]; exact hfm);have hOf := hOw.each f (by rw [HH.out.2.2.2.1]; exact hfm);have hOfl : (Os.getD f []).length = n := HH.out.2.2.2.2.1 _ (by simp [List.getD, show f < Os.length by rw [HH.out.2.2.2.1]; exact hfm]);have hmany : (Ks.getD f k0S).many <= 100 := HH.out.2.2.2.2.2 _ (by simp [List.getD, show f < Ks.length by rw [HH.out.2.2.1]; exact hfm]);obtain ⟨fa, fc, hfv⟩ := hOf.shape;rw [hfv] at o0 hOf;rw [hOfl] at o0 hOf;have HMN := KS.many_eq (Ks.getD f k0S)
      have HHM : Hid (∀ W : World, Calls Tryz.prog 146 #[.agg #[.bool (Ks.getD f k0S).e.wd, .slice ab (Ks.getD f k0S).e.bs.length cb, .slice aw (Ks.getD f k0S).e.ww.length cw]] W fun e w' => e = .returned (.int .i64 (((Ks.getD f k0S).many : Nat) : Int)) /\ Below W.heap.size W w') := fun W => by rw [<- HMN];exact howMany_any _ ab aw _ cb _ cw W (by unfold KS.many ES.cnt at hmany; omega)
      have HOF : Hid (OwnO wr 0 (.slice fa n fc) (Os.getD f []) /\ (Os.getD f []).length = n) := ⟨hOf, hOfl⟩;have HSTEP : Hid (layStep Ks Os n budget Gs f = if Gs.findIdx (roomG (Os.getD f []) (Ks.getD f k0S).many budget) < Gs.length then Gs.set (Gs.findIdx (roomG (Os.getD f []) (Ks.getD f k0S).many budget)) (addG (Gs.getD (Gs.findIdx (roomG (Os.getD f []) (Ks.getD f k0S).many budget)) g0S) f (Os.getD f []) (Ks.getD f k0S).many) else Gs ++ [addG (newG n) f (Os.getD f []) (Ks.getD f k0S).many]) := rfl;have HINV : Hid (GInv n (k + 1) (layStep Ks Os n budget Gs f)) := HG.out.2.step hOfl hn hb hmany
      have hfaw : ∀ q, fa = some ⟨q, 0, none⟩ -> q < w.heap.size := fun q hq => by have h0 := HH.out.2.1.each f (by rw [HH.out.2.2.2.1]; exact hfm);rw [hfv, hq] at h0;exact (World.ownsRow.lt h0 q rfl).2
      clear hKw hOw hfv HMN k3 hOf hOfl hbw;generalize Ks.getD f k0S = Kf at *;generalize Os.getD f [] = Of at *;generalize Kf.e.wd = kwd at *;generalize Kf.e.bs.length = knb at *;generalize Kf.e.ww.length = knw at *;generalize Kf.many = km at *;generalize layStep Ks Os n budget Gs f = Gs' at *;obtain ⟨ga, gc, hgv⟩ := HG.out.1.x.form;subst hgv;have bk1 : (0 : Int) <= (k : Int) := (by omega);have bk2 : (k : Int) < (m : Int) + 1 := (by omega);have bf1 : (0 : Int) <= (f : Int) := (by omega);have bf2 : (f : Int) < (m : Int) + 1 := (by omega);go_wp2_with fail
      refine (HHM.out _).mono ?_;rintro e w2 ⟨rfl, hb2⟩;have hs2 := hb2.size;have o2 : w2.cell? ⟨qo, f, none⟩ = some (.slice fa n fc) := (hb2.cell (p := ⟨qo, f, none⟩) hqol).trans o0;have HG2 : Hid (GrpsY w2 w1.heap.size (.slice ga Gs.length gc) gbs Kk Gs) := by refine HG.out.1.touch (S := fun _ => False) (Touch.of_below hb2) (fun _ _ => id)
      have HOF2 : Hid (OwnO w2 0 (.slice fa n fc) Of /\ Of.length = n) := ⟨HOF.out.1.below hb2, HOF.out.2⟩;have HB2 : Hid (Below w1.heap.size w1 w2) := HB.out.trans (hb2.mono hsz);have HOK : Hid (GInv n k Gs) := HG.out.2;have HFW : Hid (Calls Tryz.prog 255 #[.slice ga Gs.length gc, .slice fa n fc, .int .i64 km, .int .i64 budget] w2 fun e w' => e = .returned (fwrV gbs Gs.length (Gs.findIdx (roomG Of km budget))) /\ Below w2.heap.size w2 w') := firstWithRoom_any ga fa gc n fc km budget gbs Kk Gs Of w2 HG2.out.x (HOK.out.ok (by omega)) HOF2.out.1 HOF2.out.2 hn (by omega) (by have := HOK.out.len; omega);clear HG HOF HB hb2 k0 k1 k2 o0 hc0;generalize hgl : Gs.length = gl at *;have HGL : Hid (Gs.length = gl) := hgl;clear hgl;go_wp2_with fail
      refine HFW.out.mono ?_;rintro e w3 ⟨rfl, hb3⟩;have hs3 := hb3.size;have o3 : w3.cell? ⟨qo, f, none⟩ = some (.slice fa n fc) := (hb3.cell (p := ⟨qo, f, none⟩) (by show qo < _; omega)).trans o2;have HG3 : Hid (GrpsY w3 w1.heap.size (.slice ga gl gc) gbs Kk Gs) := HG2.out.touch (S := fun _ => False) (Touch.of_below hb3) (fun _ _ => id);have HOF3 : Hid (OwnO w3 0 (.slice fa n fc) Of /\ Of.length = n) := ⟨HOF2.out.1.below hb3, HOF2.out.2⟩;have HB3 : Hid (Below w1.heap.size w1 w3) := HB2.out.trans (hb3.mono (by omega));clear HG2 HOF2 HB2 HFW hb3 o2;generalize Gs.findIdx (roomG Of km budget) = ix at *
      by_cases hix : ix < gl
      · have hfv : fwrV gbs gl ix = .pointer (some ⟨gbs.getD ix 0, 0, none⟩) := (by unfold fwrV; rw [if_pos hix]; rfl);rw [hfv];obtain ⟨vf, vo, hGK⟩ := HG3.out.x.each ix (by rw [HGL.out]; exact hix);have hok := HOK.out.ok (by omega) (Gs.getD ix g0S) (by simp [List.getD, show ix < Gs.length by rw [HGL.out]; exact hix])
        have HAD : Hid (Calls Tryz.prog 256 #[.pointer (some ⟨gbs.getD ix 0, 0, none⟩), .int .i64 f, .slice fa n fc, .int .i64 km] w3 fun e w' => e = .returned (.tuple #[]) /\ (∃ K', GrpW w' K' (gbs.getD ix 0) (addG (Gs.getD ix g0S) f Of km) /\ ∀ k, K' k -> Kk ix k ∨ w3.heap.size <= k) /\ Touch (Kk ix) w3 w') :=
          add_any (Kk ix) _ f km vf vo fa n fc Of _ w3 hGK HOF3.out.1 hok.out HOF3.out.2 hn hok.conf hok.bins (by omega) hok.fs (fun q hq h1 => by
            have h2 := HG3.out.kb ix (by rw [HGL.out]; exact hix) q h1
            have h3 : fa = some ⟨q, 0, none⟩ := by
              rcases HOF3.out.1.2 with ⟨e, _⟩ | ⟨g, cap, cur, e, _⟩
              rw [e] at hq; cases hq;injection e with e _ _;rw [e] at hq ⊢;simp [Value.ownBlock] at hq;rw [hq]
            have := hfaw q h3
            omega)
        have HST2 : Hid (Gs' = Gs.set ix (addG (Gs.getD ix g0S) f Of km)) := (by have := HSTEP.out;rw [if_pos hix] at this;exact this);clear hGK hok hfv;obtain ⟨gb, hgb⟩ : ∃ gb, gb = gbs.getD ix 0 := ⟨_, rfl⟩;have HGB : Hid (gb = gbs.getD ix 0) := hgb;rw [<- hgb] at HAD ⊢;clear hgb;go_wp2_with fail
        refine HAD.out.mono ?_;rintro e w4 ⟨rfl, ⟨K', hG', hK'⟩, t4⟩;have HF : Hid (GrpsY w4 w1.heap.size (.slice ga gl gc) gbs (fun j => if j = ix then K' else Kk j) ((ord.take (k + 1)).foldl (layStep Ks Os n budget) [])) := (by rw [HNX.out, HST2.out];exact HG3.out.put (by rw [HGL.out]; exact hix) t4 (by rw [<- HGB.out]; exact hG') hK' (by omega));have HBF : Hid (Below w1.heap.size w1 w4) := by have h3 := HB3.out;exact ⟨t4.os.trans h3.os, t4.tape.trans h3.tape, t4.output.trans h3.output, Nat.le_trans h3.size t4.size, fun q hq => (t4.block q (by omega) (fun h => by have := HG3.out.kb ix (by rw [HGL.out]; exact hix) q h; omega)).trans (h3.block q hq)⟩
        have HIN : Hid (GInv n (k + 1) ((ord.take (k + 1)).foldl (layStep Ks Os n budget) [])) := (by rw [HNX.out]; exact HINV.out);clear hG' hK' t4 HAD HG3 HB3 HOF3 o3;go_wp2;go_roundw;case rel => exact ⟨k + 1, gbs, _, by go_num, by omega, ⟨HF.out, HIN.out⟩, HBF⟩
        case measure => simp [intOf]; omega
      have hfv : fwrV gbs gl ix = .pointer none := (by unfold fwrV; rw [if_neg hix]);rw [hfv];have HST2 : Hid (Gs' = Gs ++ [addG (newG n) f Of km]) := (by have := HSTEP.out;rw [if_neg hix] at this;exact this);have hmk := make_flags n (by omega);clear hfv;have HROW : Hid (w3.ownsRow 0 313 1 (.slice ga gl gc) gl (gbs.map ptrV)) := (by have := HG3.out.x.row; rw [HGL.out] at this; exact this);go_wp2_with (at_builtin; refine wpList_append_mark rfl (.tmp 43) (.tmp 45) 311 rfl 0 313 j0 (.pointer none) 1 8 Tryz.underlying311 jinf jz0 jz1 jz2 rfl (by decide) _ gl (gbs.map ptrV) rfl (((HROW.out.alloc _).alloc _).alloc _) ⟨w3.heap.size + 1 + 1, 0, none⟩ 1 1 [.pointer (some ⟨w3.heap.size + 1, 0, none⟩)] rfl rfl ?_ ?_ ?_ ?_ ?_ ?_ ?_)
      · intro j u hj
        cases j with
        | zero => simp at hj; subst hj; simp [go_sem, Addr.add]
        | succ j => simp at hj
      intro u hu; simp at hu; subst hu; rfl;decide;unfold maxLen; have := HOK.out.len; have := HGL.out; omega;have := HOK.out.len; have := HGL.out; omega;omega;intro v4 w4 H4;obtain ⟨r4, g4, d4, _, _⟩ := H4.out;obtain ⟨wx, hwx⟩ : ∃ wx, wx = ((w3.alloc (.cells (madeCells #[.bool false] n) 4)).alloc (.cells #[.slice none 0 0, .slice (some ⟨w3.heap.size, 0, none⟩) n n, .int .i64 0, .int .i64 0] 351)).alloc (.cells #[.pointer (some ⟨w3.heap.size + 1, 0, none⟩)] 313) := ⟨_, rfl⟩;rw [<- hwx] at g4 d4;have hxs : wx.heap.size = w3.heap.size + 1 + 1 + 1 := (by rw [hwx]; simp);have hbx : Below w3.heap.size w3 wx := (by rw [hwx]; exact (((Below.refl _ _).alloc (Nat.le_refl _) _).alloc (by simp) _).alloc (by simp; omega) _);have hGx : GrpsY wx w1.heap.size (.slice ga gl gc) gbs Kk Gs := HG3.out.touch (S := fun _ => False) (Touch.of_below hbx) (fun _ _ => id)
      have hflag : OwnO (w3.alloc (.cells (madeCells #[.bool false] n) 4)) 0 (.slice (some ⟨w3.heap.size, 0, none⟩) n n) (List.replicate n false) := made_flags n w3 0 (by omega) (Nat.zero_le _)
      have hnew : GrpW wx (fun q => q = w3.heap.size ∨ q = w3.heap.size + 1) (w3.heap.size + 1) (newG n) := by refine ⟨.slice none 0 0, .slice (some ⟨w3.heap.size, 0, none⟩) n n, ⟨?_, OwnI.nil _ _, ?_, .inr rfl, fun q hq => by simp [Value.ownBlock] at hq, fun q hq => by simp [Value.ownBlock] at hq; exact .inl hq.symm, fun q hq => by rcases hq with e | e <;> omega⟩⟩;rw [hwx];have := heap_alloc_new (w3.alloc (.cells (madeCells #[.bool false] n) 4)) (.cells #[.slice none 0 0, .slice (some ⟨w3.heap.size, 0, none⟩) n n, .int .i64 0, .int .i64 0] 351);rw [show (w3.alloc (.cells (madeCells #[.bool false] n) 4)).heap.size = w3.heap.size + 1 by simp] at this;exact (Below.heap_alloc _ _ _ (by simp)).trans this;rw [hwx]; exact (hflag.alloc _).alloc _
      have hGY : GrpsY w4 w1.heap.size v4 (gbs ++ [w3.heap.size + 1]) (fun j => if j = Gs.length then (fun q => q = w3.heap.size ∨ q = w3.heap.size + 1) else Kk j) (Gs ++ [newG n]) := by
        refine hGx.snoc (by rw [HGL.out]; exact r4) g4 ?_ hnew (fun i hi q hq h1 => ?_) (fun q hq h1 => ?_) (fun q hq => by rcases hq with e | e <;> omega) (by omega)
        · rcases d4 with e | e
          exact .inl e;exact .inr ⟨_, e.1, by omega⟩
        · obtain ⟨vf, vo, hG⟩ := HG3.out.x.each i hi;have := hG.kl q hq
          rcases h1 with e | e <;> omega
        have := (World.ownsRow.lt HROW.out q hq).2
        rcases h1 with e | e <;> omega
      have hb4 : Below w3.heap.size w3 wx := hbx;have t34 : Touch (fun q => (Value.slice ga gl gc).ownBlock = some q) w3 w4 := (Touch.of_below hbx).trans ((Touch.refl _ wx).grown g4 (fun q hq _ => hq));have hs4 : w3.heap.size + 1 + 1 + 1 <= w4.heap.size := by rw [<- hxs]; exact g4.size
      have o4 : w4.cell? ⟨qo, f, none⟩ = some (.slice fa n fc) := by
        have : w4.heap[qo]? = w3.heap[qo]? := t34.block qo (by omega) (fun hq => by
          obtain ⟨cur, hc⟩ := row_type HROW.out hq;have h1 := HG3.out.rb qo hq;have := HH.out.2.1.at2 (i := f) (by rw [HH.out.2.2.2.1]; exact hfm)
          omega)
        rw [World.cell?_of_block (a := ⟨qo, f, none⟩) this];exact o3
      have hOF4 : OwnO w4 0 (.slice fa n fc) Of := t34.row HOF3.out.1 (fun q hq h1 => by
        have h2 := HG3.out.rb q h1
        have h3 : fa = some ⟨q, 0, none⟩ := by
          rcases HOF3.out.1.2 with ⟨e, _⟩ | ⟨g, cap, cur, e, _⟩
          rw [e] at hq; cases hq;injection e with e _ _;rw [e] at hq ⊢;simp [Value.ownBlock] at hq;rw [hq]
        have := hfaw q h3
        omega)
      obtain ⟨vf, vo, hGK⟩ := hGY.x.each Gs.length (by simp);have e1 : (Gs ++ [newG n]).getD Gs.length g0S = newG n := (by simp [List.getD]);have e2 : (gbs ++ [w3.heap.size + 1]).getD Gs.length 0 = w3.heap.size + 1 := (by have := HG3.out.x.len; simp [List.getD, <- this]);rw [e1, e2] at hGK;simp only [if_true] at hGK
      have HAD : Hid (Calls Tryz.prog 256 #[.pointer (some ⟨w3.heap.size + 1, 0, none⟩), .int .i64 f, .slice fa n fc, .int .i64 km] w4 fun e w' => e = .returned (.tuple #[]) /\ (∃ K', GrpW w' K' (w3.heap.size + 1) (addG (newG n) f Of km) /\ ∀ k, K' k -> (k = w3.heap.size ∨ k = w3.heap.size + 1) ∨ w4.heap.size <= k) /\ Touch (fun q => q = w3.heap.size ∨ q = w3.heap.size + 1) w4 w') :=
        add_any (fun q => q = w3.heap.size ∨ q = w3.heap.size + 1) _ f km vf vo fa n fc Of _ w4 hGK hOF4 (by simp [newG]) HOF3.out.2 hn (by simp [newG]) (by simp [newG]) (by omega) (by simp [newG]) (fun q hq h1 => by
          have h3 : fa = some ⟨q, 0, none⟩ := by
            rcases HOF3.out.1.2 with ⟨e, _⟩ | ⟨g, cap, cur, e, _⟩
            rw [e] at hq; cases hq;injection e with e _ _;rw [e] at hq ⊢;simp [Value.ownBlock] at hq;rw [hq]
          have := hfaw q h3
          rcases h1 with e | e <;> omega)
      have HGY : Hid (GrpsY w4 w1.heap.size v4 (gbs ++ [w3.heap.size + 1]) (fun j => if j = Gs.length then (fun q => q = w3.heap.size ∨ q = w3.heap.size + 1) else Kk j) (Gs ++ [newG n])) := hGY;have HB4 : Hid (Below w1.heap.size w1 w4) := (by have h3 := HB3.out;exact ⟨t34.os.trans h3.os, t34.tape.trans h3.tape, t34.output.trans h3.output, Nat.le_trans h3.size t34.size, fun q hq => (t34.block q (by omega) (fun h => by have := HG3.out.rb q h; omega)).trans (h3.block q hq)⟩);obtain ⟨ga4, gc4, hv4⟩ := hGY.x.form;rw [List.length_append] at hv4;simp only [List.length_cons, List.length_nil, Nat.zero_add, HGL.out] at hv4;subst hv4;have HE2 : Hid ((gbs ++ [w3.heap.size + 1]).getD Gs.length 0 = w3.heap.size + 1) := e2;clear H4 r4 g4 d4 hwx hxs hbx hGx hflag hnew hGY hb4 t34 hOF4 hGK e1 e2 hmk o3 HG3 HB3 HROW HOF3;go_wp2_with fail
      refine HAD.out.mono ?_;rintro e w5 ⟨rfl, ⟨K', hG', hK'⟩, t5⟩;have HF : Hid (GrpsY w5 w1.heap.size (.slice ga4 (gl + 1) gc4) (gbs ++ [w3.heap.size + 1]) (fun j => if j = Gs.length then K' else (if j = Gs.length then (fun q => q = w3.heap.size ∨ q = w3.heap.size + 1) else Kk j)) ((ord.take (k + 1)).foldl (layStep Ks Os n budget) [])) := by rw [HNX.out, HST2.out];have := HGY.out.put (i := Gs.length) (K' := K') (G' := addG (newG n) f Of km) (by simp) (by simpa using t5) (by rw [HE2.out]; exact hG') (by simpa using hK') (by omega);have e : (Gs ++ [newG n]).set Gs.length (addG (newG n) f Of km) = Gs ++ [addG (newG n) f Of km] := (by rw [List.set_append_right _ _ (Nat.le_refl _), Nat.sub_self, List.set_cons_zero]);rw [e] at this;exact this
      have HBF : Hid (Below w1.heap.size w1 w5) := by have h3 := HB4.out;exact ⟨t5.os.trans h3.os, t5.tape.trans h3.tape, t5.output.trans h3.output, Nat.le_trans h3.size t5.size, fun q hq => (t5.block q (by omega) (fun h => by rcases h with e | e <;> omega)).trans (h3.block q hq)⟩
      have HIN : Hid (GInv n (k + 1) ((ord.take (k + 1)).foldl (layStep Ks Os n budget) [])) := (by rw [HNX.out]; exact HINV.out);clear hG' hK' t5 HAD HGY HB4 o4 HE2;go_wp2;go_roundw;case rel => exact ⟨k + 1, _, _, by go_num, by omega, ⟨HF.out, HIN.out⟩, HBF⟩
      case measure => simp [intOf]; omega
    have hnk : ¬ (k : Int) < (m : Int) + 1 := (by omega);have HF : Hid (GrpsY wr w1.heap.size u7 gbs Kk (layF m Ks Os n budget) /\ Below w.heap.size w wr) := (by have h1 := HG.out.1;rw [List.take_of_length_le (by have := HOL.out.1; omega)] at h1;rw [HLAY.out];exact ⟨h1, HB1.out.trans (HB.out.mono hs1)⟩);clear HG HB;go_wp2;go_ret;exact ⟨_, rfl, ⟨_, _, _, hs1, HF.out.1⟩, HF.out.2⟩
end Go.Proofs.YtfcgnpchbcmdeaaGreat
