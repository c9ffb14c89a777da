import Derived.Test.YtfcgnpchbcmdeaaGreatZpbe
import Derived.Test.YtfcgnpchbcmdeaaGreatZpau
import Derived.Test.YtfcgnpchbcmdeaaGreatZpbd
import Derived.Lib.AppendStr
namespace Go.Proofs.YtfcgnpchbcmdeaaGreat
open Go.RowKit
set_option maxRecDepth 100000 in
set_option maxHeartbeats 4000000 in
theorem denseAppend_any (db q n d : Nat) (pk : List Int) (a : Option Addr) (c : Nat) (bs : List Int) (w : World) (hD : DenX w 0 db q n d pk) (h : OwnB w 0 (.slice a bs.length c) bs) (hne : (Value.slice a bs.length c).ownBlock ≠ some q) (hp : 0 < pk.length) (hpl : pk.length <= 1000) (hl : bs.length <= 1000000) : Calls Tryz.prog 374 #[.pointer (some ⟨db, 0, none⟩), .slice a bs.length c] w fun e w' => AppB w (.slice a bs.length c) bs (100 :: pk) e w' := by
  have H0 : Hid (OwnB w 0 (.slice a bs.length c) bs) := h;have HD : Hid (DenX w 0 db q n d pk) := hD;have HNE : Hid ((Value.slice a bs.length c).ownBlock ≠ some q) := hne;have d2 : w.drew.cell? ⟨db, 2, none⟩ = some (.slice (some ⟨q, 0, none⟩) pk.length pk.length) := cell_of_row _ _ 2 _ 396 (0, 0) hD.blk;have hdl : db < w.heap.size := (Array.getElem?_eq_some_iff.1 hD.blk).1;obtain ⟨i0, hinf, hz0, hz1, hz2⟩ := info_parts info5;clear h hD hne;generalize hbl : bs.length = bl at *;generalize hpl2 : pk.length = pl at *;have HBL : Hid (bs.length = bl /\ pk.length = pl) := ⟨hbl, hpl2⟩;clear hbl hpl2;go_enter Tryz.func374, Tryz.ntmps374;go_upto_region 1 with fail;refine wp_region_S (fun w' => w'.cell? ⟨db, 2, none⟩ = some (.slice (some ⟨q, 0, none⟩) pl pl)) 8 (by kernel_rfl) d2 (fun hHeld => ?_);refine tkM [2, 7, 8] 0 (v := ?_) ?_ ?_
  rotate_left;· intro w hSw;(try dsimp only at hSw);go_simp;try with_reducible rfl
  try simp only [Act.put, sA, sB, sC]
  refine tkM [4, 5, 6, 7, 8] 3 (v := ?_) ?_ ?_
  rotate_left;· intro w hSw;(try dsimp only at hSw);go_simp;try with_reducible rfl
  try simp only [Act.put, sA, sB, sC]
  refine tkM [5, 6, 7, 8] 4 (v := ?_) ?_ ?_
  rotate_left;· intro w hSw;(try dsimp only at hSw);go_simp;try with_reducible rfl
  try simp only [Act.put, sA, sB, sC]
  refine tkM [6, 7, 8] 5 (v := ?_) ?_ ?_
  rotate_left;· intro w hSw;(try dsimp only at hSw);go_simp;try with_reducible rfl
  try simp only [Act.put, sA, sB, sC]
  refine tkM [7, 8] 6 (v := ?_) ?_ ?_
  rotate_left;· intro w hSw;(try dsimp only at hSw);go_simp;try with_reducible rfl
  try simp only [Act.put, sA, sB, sC]
  refine wpAnyS_oneL (i := 1) (by kernel_rfl) rfl (fun KK hK => ?_);go_simp;refine hK.out _ _ ((Below.cell (B := w.drew.heap.size) (p := ⟨db, 2, none⟩) ((Below.refl _ _).alloc (Nat.le_refl _) _) hdl).trans d2) (fun hHeld => ?_);clear hK KK;try simp only [Act.put, sA, sB, sC]
  refine wpAnyS_oneL (i := 2) (by kernel_rfl) rfl (fun KK hK => ?_);have hr0 : w.ownsRow 0 5 1 (.slice a bl c) bl (bs.map (Value.int .u8)) := by have h1 := H0.out;unfold OwnB at h1;rw [HBL.out.1] at h1;exact h1
  refine step_append_mark rfl (.tmp 5) (.tmp 6) 66 rfl 0 5 i0 (.int .u8 0) 1 1 Tryz.underlying66 hinf hz0 hz1 hz2 rfl (by decide) (.slice a bl c) bl (bs.map (Value.int .u8)) (by simp [Act.eval]) (World.ownsRow.alloc (w := w.drew) hr0 _) ⟨w.heap.size, 0, none⟩ 1 1 [.int .u8 100] (by simp [Act.eval]) rfl (one_new w.drew #[.int .u8 100] 5) (by intro u hu; simp at hu; rcases hu with rfl; rfl) (by decide) (by unfold maxLen; omega) (by omega) (by simp) ?_;intro v6 w6 H6;obtain ⟨r6, g6, dd6, _, q6, p6, hv6⟩ := H6.out;have hb5 : Below w.heap.size w (w.drew.alloc (.cells #[.int .u8 100] 5)) := ((Below.refl _ w).drew).alloc (Nat.le_refl _) _;have hA6 : AppP w (.slice a bl c) w6 v6 := AppP.pre hb5 (AppP.of_mark g6 dd6 (Nat.le_refl _))
  have hD6 : w6.heap[db]? = some (.cells #[.int .i64 (n : Nat), .int .i64 (d : Nat), .slice (some ⟨q, 0, none⟩) pk.length pk.length] 396 (0, 0)) := hA6.1.at_ HD.out.blk (fun e => row_ne hr0 e HD.out.blk (by decide) rfl);have hP6 : OwnB w6 0 (.slice (some ⟨q, 0, none⟩) pk.length pk.length) pk := hA6.1.row HD.out.row (fun k hk e => HNE.out (by simp [Value.ownBlock] at hk; rw [hk]; exact e));have c6 : w6.cell? ⟨db, 2, none⟩ = some (.slice (some ⟨q, 0, none⟩) pl pl) := by have h1 := cell_of_row _ _ 2 _ 396 (0, 0) hD6;rw [HBL.out.2] at h1;exact h1
  have HA6 : Hid (AppP w (.slice a bl c) w6 v6) := hA6;have HP6 : Hid (OwnB w6 0 (.slice (some ⟨q, 0, none⟩) pk.length pk.length) pk) := hP6;have HR6 : Hid (w6.ownsRow 0 5 1 v6 (bl + 1) (bs.map (Value.int .u8) ++ [.int .u8 100])) := r6;subst hv6;clear H6 r6 g6 dd6 hb5 hA6 hD6 hP6;refine hK.out _ _ c6 (fun hHeld => ?_);clear hK KK;try simp only [Act.put, sA, sB, sC]
  refine wpAnyS_oneL (i := 7) (by kernel_rfl) rfl (fun KK hK => ?_)
  refine step_append_mark rfl (.tmp 7) (.tmp 11) 66 rfl 0 5 i0 (.int .u8 0) 1 1 Tryz.underlying66 hinf hz0 hz1 hz2 rfl (by decide) (.slice (some ⟨q6, 0, none⟩) (bl + 1) p6) (bl + 1) (bs.map (Value.int .u8) ++ [.int .u8 100]) (by simp [Act.eval]) HR6.out ⟨q, 0, none⟩ pl pl (pk.map (Value.int .u8)) (by simp [Act.eval]) (by rw [List.length_map, HBL.out.2, Nat.mul_one]) (fun j u hu => by
    have h1 := HP6.out;unfold OwnB at h1;have hj : j < pk.length := (by have h2 := (List.getElem?_eq_some_iff.1 hu).1;rw [List.length_map] at h2;exact h2);have h2 := World.ownsRow.cellAt h1 j (by omega);rw [hu] at h2
    have h3 : (⟨q, 0, none⟩ : Addr).add j = ⟨q, j, none⟩ := by
      by_cases hj0 : j = 0
      subst hj0; rfl;simp [Addr.add, hj0]
    rw [h3]
    exact h2) (by intro u hu; obtain ⟨x, _, rfl⟩ := List.mem_map.1 hu; rfl) hp (by unfold maxLen; omega) (by omega) (Nat.zero_le _) ?_
  intro v7 w7 H7;obtain ⟨r7, g7, dd7, _, q7, p7, hv7⟩ := H7.out;have HFIN : Hid (OwnB w7 0 v7 (bs ++ 100 :: pk) /\ AppP w (.slice a bl c) w7 v7) := by refine ⟨?_, HA6.out.trans (AppP.of_mark g7 dd7 (Nat.le_refl _))⟩;unfold OwnB;have e1 : (bs ++ 100 :: pk).length = bl + 1 + pl := (by rw [List.length_append, List.length_cons, HBL.out.1, HBL.out.2]; omega);have e2 : (bs ++ 100 :: pk).map (Value.int .u8) = bs.map (Value.int .u8) ++ [.int .u8 100] ++ pk.map (Value.int .u8) := (by simp);rw [e1, e2];exact r7
  have c7 : w7.cell? ⟨db, 2, none⟩ = some (.slice (some ⟨q, 0, none⟩) pl pl) := by
    have t7 : Touch (fun k => (Value.slice (some ⟨q6, 0, none⟩) (bl + 1) p6).ownBlock = some k) w6 w7 := (Touch.refl _ _).grown g7 (fun k hk _ => hk)
    have hne7 : ¬ (Value.slice (some ⟨q6, 0, none⟩) (bl + 1) p6).ownBlock = some db := fun e => by
      obtain ⟨cur, hcur⟩ := row_type HR6.out e
      have hD6 : w6.heap[db]? = some (.cells #[.int .i64 (n : Nat), .int .i64 (d : Nat), .slice (some ⟨q, 0, none⟩) pk.length pk.length] 396 (0, 0)) := HA6.out.1.at_ HD.out.blk (fun e => by
        obtain ⟨c2, hc2⟩ := row_type H0.out e;have := HD.out.blk;rw [hc2] at this
        simp at this)
      rw [hcur] at hD6;simp at hD6
    rw [World.cell?_of_block (a := ⟨db, 2, none⟩) (t7.block db (by have := HA6.out.1.size; omega) hne7)];exact c6
  subst hv7;clear H7 r7 g7 dd7;refine hK.out _ _ c7 (fun hHeld => ?_);clear hK KK;try simp only [Act.put, sA, sB, sC]
  refine wpAnyS_lastL (i := 8) (by kernel_rfl) rfl (by kernel_rfl) (fun KK hK => ?_);go_simp;refine hK.out _ _ ?_;clear hK KK;try simp only [Act.put, sA, sB, sC]
  refine wpAnyS_done (by kernel_rfl) ?_ _;go_wp2;go_ret;exact ⟨_, rfl, HFIN.out⟩
end Go.Proofs.YtfcgnpchbcmdeaaGreat

namespace Go.Proofs.YtfcgnpchbcmdeaaGreat
open Go.RowKit
def aheadK (L : List (Nat × Nat)) (k : Nat) : Int := if k = 0 then -1 else (((L.getD (k - 1) (0, 0)).1 : Nat) : Int)
def spK (L : List (Nat × Nat)) : Nat -> List Int
  | 0 => []
  | k + 1 => spK L k ++ [((((L.getD k (0, 0)).1 : Nat) : Int) - aheadK L k) % 256, (((L.getD k (0, 0)).2 : Nat) : Int) % 256]
theorem spK_len (L : List (Nat × Nat)) : ∀ k, (spK L k).length = k * 2
  | 0 => rfl
  | k + 1 => by simp [spK, spK_len L k]; omega
def spaB (L : List (Nat × Nat)) : List Int := [115, ((L.length : Nat) : Int) % 256] ++ spK L L.length
theorem flatC_get : ∀ (L : List (Nat × Nat)) (i : Nat), i < L.length -> ∀ c, c < 2 -> (flatC L)[i * 2 + c]? = (cellsC (L.getD i (0, 0)))[c]?
  | [], i, h => by simp at h
  | x :: L, 0, _ => fun c hc => by simp only [flatC];rw [show 0 * 2 + c = c by omega, List.getElem?_append_left (by simpa [cellsC] using hc)]; rfl
  | x :: L, i + 1, h => fun c hc => by simp only [flatC];rw [List.getElem?_append_right (by simp [cellsC]; omega), show (i + 1) * 2 + c - (cellsC x).length = i * 2 + c by simp [cellsC]; omega];exact flatC_get L i (by simpa using h) c hc
theorem OwnC.atK {w : World} {base : Nat} {a : Option Addr} {c : Nat} {L : List (Nat × Nat)} (h : OwnC w base (.slice a L.length c) L) {k : Nat} (hk : k < L.length) : ∃ q, a = some ⟨q, 0, none⟩ /\ q < w.heap.size /\ w.cell? ⟨q, k * 2, none⟩ = some (.int .i64 ((L.getD k (0, 0)).1 : Nat)) /\ w.cell? ⟨q, k * 2 + 1, none⟩ = some (.int .i64 ((L.getD k (0, 0)).2 : Nat)) := by
  have h' := h
  rcases h'.2 with ⟨e, h0⟩ | ⟨g, cap, cur, e, _, hh, hnc, _⟩
  omega;injection e with e1 e2 e3;subst e1;have hr : w.ownsRow base 405 2 (.slice (some ⟨g, 0, none⟩) L.length c) L.length (flatC L) := h
  have key : ∀ o u, o < 2 -> (cellsC (L.getD k (0, 0)))[o]? = some u -> w.cell? ⟨g, k * 2 + o, none⟩ = some u := fun o u ho hu => by rw [World.ownsRow.cellAt hr (k * 2 + o) (by omega)];exact (flatC_get L k hk o ho).trans hu
  exact ⟨g, rfl, (Array.getElem?_eq_some_iff.1 hh).1, key 0 _ (by omega) rfl, key 1 _ (by omega) rfl⟩
set_option maxRecDepth 100000 in
set_option maxHeartbeats 4000000 in
theorem sparseAppend_any (sb n d : Nat) (vc : Value) (L : List (Nat × Nat)) (a : Option Addr) (c : Nat) (bs : List Int) (w : World) (hS : SpaX w 0 sb n d vc L) (h : OwnB w 0 (.slice a bs.length c) bs) (hL : L.length <= 1000) (hr : ∀ x ∈ L, x.1 <= 1000 /\ x.2 <= 1000) (hl : bs.length <= 1000000) : Calls Tryz.prog 370 #[.pointer (some ⟨sb, 0, none⟩), .slice a bs.length c] w fun e w' => AppB w (.slice a bs.length c) bs (spaB L) e w' := by
  have H0 : Hid (OwnB w 0 (.slice a bs.length c) bs) := h;have HS : Hid (SpaX w 0 sb n d vc L) := hS;have HRg : Hid (∀ x ∈ L, x.1 <= 1000 /\ x.2 <= 1000) := hr;obtain ⟨ca, cc, hvc⟩ := hS.row.shape;subst hvc;have d2 : w.cell? ⟨sb, 2, none⟩ = some (.slice ca L.length cc) := cell_of_row _ _ 2 _ 403 (0, 0) hS.blk;have hsl : sb < w.heap.size := (Array.getElem?_eq_some_iff.1 hS.blk).1;obtain ⟨i0, hinf, hz0, hz1, hz2⟩ := info_parts info5;have HR0 : Hid (w.ownsRow 0 5 1 (.slice a bs.length c) bs.length (bs.map (Value.int .u8))) := h;have HSB : Hid (spaB L = [115, ((L.length : Nat) : Int) % 256] ++ spK L L.length) := rfl;clear h hS hr;generalize hbl : bs.length = bl at *;generalize hll : L.length = ll at *;have HBL : Hid (bs.length = bl /\ L.length = ll) := ⟨hbl, hll⟩;clear hbl hll;go_enter Tryz.func370, Tryz.ntmps370
  go_wp2_with (at_builtin; refine wpList_append_mark rfl (.tmp 8) (.tmp 15) 66 rfl 0 5 i0 (.int .u8 0) 1 1 Tryz.underlying66 hinf hz0 hz1 hz2 rfl (by decide) _ bl (bs.map (Value.int .u8)) rfl (HR0.out.alloc _) ⟨w.heap.size, 0, none⟩ 2 2 [.int .u8 115, .int .u8 ((ll : Int) % 256)] rfl rfl ?_ ?_ ?_ ?_ ?_ ?_ ?_)
  exact one_new w #[.int .u8 115, .int .u8 ((ll : Int) % 256)] 5
  · intro u hu; simp at hu; rcases hu with rfl | rfl <;> rfl
  decide;unfold maxLen; omega;omega;simp;intro v1 w1 H1;obtain ⟨r1, g1, dd1, _, q1, p1, hv1⟩ := H1.out;have hA1 : AppP w (.slice a bl c) w1 v1 := AppP.pre ((Below.refl _ _).alloc (Nat.le_refl _) _) (AppP.of_mark g1 dd1 (by simp));have hO1 : OwnB w1 0 v1 (bs ++ [115, (ll : Int) % 256]) := OwnB.more (n := 2) (by rw [HBL.out.1]; exact r1) rfl;subst hv1
  have HST : Hid (∀ (W : World) (v : Value), AppP w (.slice a bl c) W v -> SpaX W 0 sb n d (.slice ca ll cc) L) := fun W v hW => by refine ⟨hW.1.at_ HS.out.blk (fun e => row_ne HR0.out e HS.out.blk (by decide) rfl), hW.1.row HS.out.row (fun k hk e => ?_)⟩;obtain ⟨c1, hc1⟩ := row_type HS.out.row hk;exact row_ne HR0.out e hc1 (by decide) rfl
  have HA1 : Hid (AppP w (.slice a bl c) w1 (.slice (some ⟨q1, 0, none⟩) (bl + 2) p1) /\ OwnB w1 0 (.slice (some ⟨q1, 0, none⟩) (bl + 2) p1) (bs ++ [115, (ll : Int) % 256])) := ⟨hA1, hO1⟩;have c2 : w1.cell? ⟨sb, 2, none⟩ = some (.slice ca ll cc) := cell_of_row _ _ 2 _ 403 (0, 0) (HST.out w1 _ hA1).blk;clear H1 r1 g1 dd1 hA1 hO1 d2;go_wp2_with fail
  go_loopw [1, 5, 22] (fun tv tah ti wr => ∃ (k : Nat) (ak : Option Addr) (ck : Nat), tv = .slice ak (bl + 2 + k * 2) ck /\ tah = .int .i64 (aheadK L k) /\ ti = .int .i64 k /\ k <= ll /\ Hid (OwnB wr 0 (.slice ak (bl + 2 + k * 2) ck) (bs ++ [115, (ll : Int) % 256] ++ spK L k) /\ AppP w (.slice a bl c) wr (.slice ak (bl + 2 + k * 2) ck))) (fun _ _ ti _ => ll - (intOf ti).toNat)
  case atStart => exact ⟨0, _, _, rfl, rfl, rfl, Nat.zero_le _, by show OwnB _ _ _ (_ ++ []) /\ _; rw [List.append_nil]; exact ⟨HA1.out.2, HA1.out.1⟩⟩
  case round =>
    clear HA1 c2;obtain ⟨k, ak, ck, rfl, rfl, rfl, hk, HR⟩ := hrel
    by_cases hkl : k < ll
    · have hS := HST.out wr _ HR.out.2;have hkL : k < L.length := (by rw [HBL.out.2]; exact hkl);have hrow := hS.row;have hrow2 : OwnC wr 0 (.slice ca L.length cc) L := (by rw [HBL.out.2]; exact hrow);obtain ⟨q, hq, hql, y0, y1⟩ := hrow2.atK hkL;subst hq;have hgk : L.getD k (0, 0) = L[k] := (by simp [List.getD, hkL]);have hrg := HRg.out _ (List.getElem_mem hkL);rw [<- hgk] at hrg;have HX : Hid (bs ++ [115, (ll : Int) % 256] ++ spK L (k + 1) = (bs ++ [115, (ll : Int) % 256] ++ spK L k) ++ [((((L.getD k (0, 0)).1 : Nat) : Int) - aheadK L k) % 256, (((L.getD k (0, 0)).2 : Nat) : Int) % 256] /\ aheadK L (k + 1) = (((L.getD k (0, 0)).1 : Nat) : Int)) := ⟨by simp [spK], by simp [aheadK]⟩
      have hah : -1 <= aheadK L k /\ aheadK L k <= 1000 := (by unfold aheadK;split;omega;have hk1 : k - 1 < L.length := (by omega);have h1 : L.getD (k - 1) (0, 0) = L[k - 1] := (by simp [List.getD, hk1]);have h2 := (HRg.out _ (List.getElem_mem hk1)).1;rw [h1];omega);have HLL : Hid ((bs ++ [115, (ll : Int) % 256] ++ spK L k).length = bl + 2 + k * 2) := (by show _ = _; rw [List.length_append, List.length_append, spK_len, HBL.out.1]; rfl);have HRW : Hid (wr.ownsRow 0 5 1 (.slice ak (bl + 2 + k * 2) ck) (bl + 2 + k * 2) ((bs ++ [115, (ll : Int) % 256] ++ spK L k).map (Value.int .u8))) := by have h1 := HR.out.1;unfold OwnB at h1;rw [HLL.out] at h1;exact h1
      generalize bs ++ [115, (ll : Int) % 256] ++ spK L k = L0 at *;generalize aheadK L k = ah at *;obtain ⟨hr1, hr2⟩ := hrg;obtain ⟨ha1, ha2⟩ := hah;clear hgk hrow hrow2 hS;generalize (L.getD k (0, 0)).1 = x1 at *;generalize (L.getD k (0, 0)).2 = x2 at *;generalize hbn : bl + 2 + k * 2 = bn at *;have HBN : Hid (bl + 2 + k * 2 = bn) := hbn;have hbn2 : bn <= 1002002 := (by omega);clear hbn;have bk1 : (0 : Int) <= (k : Int) := (by omega);have bk2 : (k : Int) < (ll : Int) := (by omega);go_wp2_with (at_builtin; refine wpList_append_mark rfl (.tmp 26) (.tmp 35) 66 rfl 0 5 i0 (.int .u8 0) 1 1 Tryz.underlying66 hinf hz0 hz1 hz2 rfl (by decide) _ bn (L0.map (Value.int .u8)) rfl ((HRW.out.alloc _).alloc _) ⟨wr.heap.size + 1, 0, none⟩ 2 2 [.int .u8 (((x1 : Int) - ah) % 256), .int .u8 ((x2 : Int) % 256)] rfl rfl ?_ ?_ ?_ ?_ ?_ ?_ ?_)
      intro j u hu;have h1 := one_new (wr.alloc (.cells #[.int .i64 (x1 : Nat), .int .i64 (x2 : Nat)] 405)) #[.int .u8 (((x1 : Int) - ah) % 256), .int .u8 ((x2 : Int) % 256)] 5 j u hu;rw [show (wr.alloc (.cells #[.int .i64 (x1 : Nat), .int .i64 (x2 : Nat)] 405)).heap.size = wr.heap.size + 1 by simp] at h1;exact h1
      · intro u hu; simp at hu; rcases hu with rfl | rfl <;> rfl
      decide;unfold maxLen; omega;omega;simp;intro v4 w4 H4;obtain ⟨r4, g4, d4, _, q4, p4, hv4⟩ := H4.out;have hbx : Below wr.heap.size wr ((wr.alloc (.cells #[.int .i64 (x1 : Nat), .int .i64 (x2 : Nat)] 405)).alloc (.cells #[.int .u8 (((x1 : Int) - ah) % 256), .int .u8 ((x2 : Int) % 256)] 5)) := ((Below.refl _ _).alloc (Nat.le_refl _) _).alloc (by simp) _;have hbk : ((wr.alloc (.cells #[.int .i64 (x1 : Nat), .int .i64 (x2 : Nat)] 405)).alloc (.cells #[.int .u8 (((x1 : Int) - ah) % 256), .int .u8 ((x2 : Int) % 256)] 5)).heap[wr.heap.size]? = some (.cells #[.int .i64 (x1 : Nat), .int .i64 (x2 : Nat)] 405 (0, 0)) := (Below.heap_alloc _ _ _ (by simp)).trans (heap_alloc_new _ _)
      have hb4 : w4.heap[wr.heap.size]? = some (.cells #[.int .i64 (x1 : Nat), .int .i64 (x2 : Nat)] 405 (0, 0)) := (g4.block wr.heap.size (by simp; omega) (fun e => by
        have := (World.ownsRow.lt HRW.out _ e.symm).2
        omega)).trans hbk
      have c40 : w4.cell? ⟨wr.heap.size, 0, none⟩ = some (.int .i64 (x1 : Nat)) := cell_of_row _ _ 0 _ 405 (0, 0) hb4;have HN : Hid (OwnB w4 0 v4 (bs ++ [115, (ll : Int) % 256] ++ spK L (k + 1)) /\ AppP w (.slice a bl c) w4 v4) := by refine ⟨?_, HR.out.2.trans (AppP.pre hbx (AppP.of_mark g4 d4 (by simp)))⟩;rw [HX.out.1];refine OwnB.more (n := 2) ?_ rfl;rw [HLL.out];exact r4
      subst hv4;have HX2 : Hid (aheadK L (k + 1) = (x1 : Int)) := HX.out.2;clear H4 r4 g4 d4 HRW HR hbx hbk hb4 HX y0 y1;have hbn3 : bn + 2 = bl + 2 + (k + 1) * 2 := (by have := HBN.out; omega);rw [hbn3] at HN ⊢;clear hbn3;go_wp2;go_roundw;case rel => exact ⟨k + 1, some ⟨q4, 0, none⟩, p4, rfl, by rw [HX2.out], by go_num, by omega, HN⟩
      case measure => simp [intOf]; omega
    have hnk : ¬ (k : Int) < (ll : Int) := (by omega);have hkk : k = ll := by omega
    have HF : Hid (OwnB wr 0 (.slice ak (bl + 2 + k * 2) ck) (bs ++ spaB L) /\ AppP w (.slice a bl c) wr (.slice ak (bl + 2 + k * 2) ck)) := (by refine ⟨?_, HR.out.2⟩;rw [HSB.out, <- List.append_assoc];have h1 := HR.out.1;rw [hkk] at h1 ⊢;exact h1);clear hkk HR;go_wp2;go_ret;exact ⟨_, rfl, HF.out⟩
end Go.Proofs.YtfcgnpchbcmdeaaGreat

namespace Go.Proofs.YtfcgnpchbcmdeaaGreat
open Go.RowKit
set_option maxRecDepth 100000 in
set_option maxHeartbeats 4000000 in
theorem denseAppend_none (db q n d : Nat) (pk : List Int) (a : Option Addr) (c : Nat) (bs : List Int) (w : World) (hD : DenX w 0 db q n d pk) (h : OwnB w 0 (.slice a bs.length c) bs) (hne : (Value.slice a bs.length c).ownBlock ≠ some q) (hp : pk.length = 0) (hl : bs.length <= 1000000) : Calls Tryz.prog 374 #[.pointer (some ⟨db, 0, none⟩), .slice a bs.length c] w fun e w' => AppB w (.slice a bs.length c) bs (100 :: pk) e w' := by
  have H0 : Hid (OwnB w 0 (.slice a bs.length c) bs) := h;have HD : Hid (DenX w 0 db q n d pk) := hD;have HNE : Hid ((Value.slice a bs.length c).ownBlock ≠ some q) := hne;have d2 : w.drew.cell? ⟨db, 2, none⟩ = some (.slice (some ⟨q, 0, none⟩) pk.length pk.length) := cell_of_row _ _ 2 _ 396 (0, 0) hD.blk;have hdl : db < w.heap.size := (Array.getElem?_eq_some_iff.1 hD.blk).1;obtain ⟨i0, hinf, hz0, hz1, hz2⟩ := info_parts info5;clear h hD hne;generalize hbl : bs.length = bl at *;generalize hpl2 : pk.length = pl at *;have HBL : Hid (bs.length = bl /\ pk.length = pl) := ⟨hbl, hpl2⟩;clear hbl hpl2;go_enter Tryz.func374, Tryz.ntmps374;go_upto_region 1 with fail;refine wp_region_S (fun w' => w'.cell? ⟨db, 2, none⟩ = some (.slice (some ⟨q, 0, none⟩) pl pl)) 8 (by kernel_rfl) d2 (fun hHeld => ?_);refine tkM [2, 7, 8] 0 (v := ?_) ?_ ?_
  rotate_left;· intro w hSw;(try dsimp only at hSw);go_simp;try with_reducible rfl
  try simp only [Act.put, sA, sB, sC]
  refine tkM [4, 5, 6, 7, 8] 3 (v := ?_) ?_ ?_
  rotate_left;· intro w hSw;(try dsimp only at hSw);go_simp;try with_reducible rfl
  try simp only [Act.put, sA, sB, sC]
  refine tkM [5, 6, 7, 8] 4 (v := ?_) ?_ ?_
  rotate_left;· intro w hSw;(try dsimp only at hSw);go_simp;try with_reducible rfl
  try simp only [Act.put, sA, sB, sC]
  refine tkM [6, 7, 8] 5 (v := ?_) ?_ ?_
  rotate_left;· intro w hSw;(try dsimp only at hSw);go_simp;try with_reducible rfl
  try simp only [Act.put, sA, sB, sC]
  refine tkM [7, 8] 6 (v := ?_) ?_ ?_
  rotate_left;· intro w hSw;(try dsimp only at hSw);go_simp;try with_reducible rfl
  try simp only [Act.put, sA, sB, sC]
  refine wpAnyS_oneL (i := 1) (by kernel_rfl) rfl (fun KK hK => ?_);go_simp;refine hK.out _ _ ((Below.cell (B := w.drew.heap.size) (p := ⟨db, 2, none⟩) ((Below.refl _ _).alloc (Nat.le_refl _) _) hdl).trans d2) (fun hHeld => ?_);clear hK KK;try simp only [Act.put, sA, sB, sC]
  refine wpAnyS_oneL (i := 2) (by kernel_rfl) rfl (fun KK hK => ?_);have hr0 : w.ownsRow 0 5 1 (.slice a bl c) bl (bs.map (Value.int .u8)) := by have h1 := H0.out;unfold OwnB at h1;rw [HBL.out.1] at h1;exact h1
  refine step_append_mark rfl (.tmp 5) (.tmp 6) 66 rfl 0 5 i0 (.int .u8 0) 1 1 Tryz.underlying66 hinf hz0 hz1 hz2 rfl (by decide) (.slice a bl c) bl (bs.map (Value.int .u8)) (by simp [Act.eval]) (World.ownsRow.alloc (w := w.drew) hr0 _) ⟨w.heap.size, 0, none⟩ 1 1 [.int .u8 100] (by simp [Act.eval]) rfl (one_new w.drew #[.int .u8 100] 5) (by intro u hu; simp at hu; rcases hu with rfl; rfl) (by decide) (by unfold maxLen; omega) (by omega) (by simp) ?_;intro v6 w6 H6;obtain ⟨r6, g6, dd6, _, q6, p6, hv6⟩ := H6.out;have hb5 : Below w.heap.size w (w.drew.alloc (.cells #[.int .u8 100] 5)) := ((Below.refl _ w).drew).alloc (Nat.le_refl _) _;have hA6 : AppP w (.slice a bl c) w6 v6 := AppP.pre hb5 (AppP.of_mark g6 dd6 (Nat.le_refl _))
  have hD6 : w6.heap[db]? = some (.cells #[.int .i64 (n : Nat), .int .i64 (d : Nat), .slice (some ⟨q, 0, none⟩) pk.length pk.length] 396 (0, 0)) := hA6.1.at_ HD.out.blk (fun e => row_ne hr0 e HD.out.blk (by decide) rfl);have hP6 : OwnB w6 0 (.slice (some ⟨q, 0, none⟩) pk.length pk.length) pk := hA6.1.row HD.out.row (fun k hk e => HNE.out (by simp [Value.ownBlock] at hk; rw [hk]; exact e));have c6 : w6.cell? ⟨db, 2, none⟩ = some (.slice (some ⟨q, 0, none⟩) pl pl) := by have h1 := cell_of_row _ _ 2 _ 396 (0, 0) hD6;rw [HBL.out.2] at h1;exact h1
  have HA6 : Hid (AppP w (.slice a bl c) w6 v6) := hA6;have HP6 : Hid (OwnB w6 0 (.slice (some ⟨q, 0, none⟩) pk.length pk.length) pk) := hP6;have HR6 : Hid (w6.ownsRow 0 5 1 v6 (bl + 1) (bs.map (Value.int .u8) ++ [.int .u8 100])) := r6;subst hv6;clear H6 r6 g6 dd6 hb5 hA6 hD6 hP6;refine hK.out _ _ c6 (fun hHeld => ?_);clear hK KK;try simp only [Act.put, sA, sB, sC]
  refine wpAnyS_oneL (i := 7) (by kernel_rfl) rfl (fun KK hK => ?_);have hpl0 : pl = 0 := hp;subst hpl0
  have hcap : bl + 1 <= p6 := by
    rcases HR6.out.2 with ⟨e, _⟩ | ⟨g, cap, cur, e, _, _, hnc, _⟩
    · cases e
    simp only [Value.slice.injEq, true_and] at e;rw [e.2]; exact hnc
  have hcap2 : ((bl + 1 : Nat) : Int) <= (p6 : Int) := (by omega);go_simp;have HFIN : Hid (OwnB w6 0 (.slice (some ⟨q6, 0, none⟩) (bl + 1) p6) (bs ++ 100 :: pk) /\ AppP w (.slice a bl c) w6 (.slice (some ⟨q6, 0, none⟩) (bl + 1) p6)) := (by refine ⟨?_, HA6.out⟩;unfold OwnB;have epk : pk = [] := List.length_eq_zero_iff.1 HBL.out.2;have e1 : (bs ++ 100 :: pk).length = bl + 1 := (by rw [epk, List.length_append, HBL.out.1]; rfl);have e2 : (bs ++ 100 :: pk).map (Value.int .u8) = bs.map (Value.int .u8) ++ [.int .u8 100] := (by rw [epk]; simp);rw [e1, e2];exact HR6.out);refine hK.out _ _ c6 (fun hHeld => ?_);clear hK KK;try simp only [Act.put, sA, sB, sC]
  refine wpAnyS_lastL (i := 8) (by kernel_rfl) rfl (by kernel_rfl) (fun KK hK => ?_);go_simp;refine hK.out _ _ ?_;clear hK KK;try simp only [Act.put, sA, sB, sC]
  refine wpAnyS_done (by kernel_rfl) ?_ _;go_wp2;go_ret;exact ⟨_, rfl, HFIN.out⟩
end Go.Proofs.YtfcgnpchbcmdeaaGreat

namespace Go.Proofs.YtfcgnpchbcmdeaaGreat
open Go.RowKit
structure OutB (W0 w : World) (v : Value) (bs : List Int) : Prop where
  bl : Below W0.heap.size W0 w
  ow : OwnB w 0 v bs
  nw : ∀ k, v.ownBlock = some k -> W0.heap.size <= k
def OutE (W0 : World) (L : List Int) (e : Ending) (w' : World) : Prop := ∃ a c, e = .returned (.slice a L.length c) /\ OutB W0 w' (.slice a L.length c) L
theorem OutB.app {W0 w w' : World} {v v' : Value} {bs L : List Int} (h : OutB W0 w v bs) (ho : OwnB w' 0 v' L) (ha : AppP w v w' v') : OutB W0 w' v' L := by
  refine ⟨h.bl.trans (ha.1.to_below h.bl.size (fun q hq => h.nw q hq)), ho, fun k hk => ?_⟩
  rcases ha.2 k hk with e | e
  exact h.nw k e;exact Nat.le_trans h.bl.size e
theorem OutB.below {W0 w w' : World} {v : Value} {bs : List Int} (h : OutB W0 w v bs) (hb : Below w.heap.size w w') : OutB W0 w' v bs := ⟨h.bl.trans (hb.mono h.bl.size), (Touch.of_below (S := fun _ => False) hb).row h.ow (fun _ _ => id), h.nw⟩
theorem AppB.out {W0 w w' : World} {v : Value} {bs news : List Int} {e : Ending} (h : OutB W0 w v bs) (ha : AppB w v bs news e w') : OutE W0 (bs ++ news) e w' := by obtain ⟨v', rfl, ho, hp⟩ := ha;obtain ⟨a, c, rfl⟩ := ho.form;exact ⟨a, c, rfl, h.app ho hp⟩
theorem denseAppend_both (db q n d : Nat) (pk : List Int) (a : Option Addr) (c : Nat) (bs : List Int) (w : World) (hD : DenX w 0 db q n d pk) (h : OwnB w 0 (.slice a bs.length c) bs) (hne : (Value.slice a bs.length c).ownBlock ≠ some q) (hpl : pk.length <= 1000) (hl : bs.length <= 1000000) : Calls Tryz.prog 374 #[.pointer (some ⟨db, 0, none⟩), .slice a bs.length c] w fun e w' => AppB w (.slice a bs.length c) bs (100 :: pk) e w' := by
  by_cases h0 : pk.length = 0
  exact denseAppend_none db q n d pk a c bs w hD h hne h0 hl;exact denseAppend_any db q n d pk a c bs w hD h hne (by omega) hpl hl
def colB (N : List Nat) (g : Nat) : List Int := if 4 * nzN N < N.length then spaB (spF N N.length) else 100 :: packF (bitsN N (Lib.bitLen g)) ((N.length * Lib.bitLen g + 7) / 8) (N.length * Lib.bitLen g)
def byN (fs : List Nat) : List Int := fs.map (fun f => ((f : Nat) : Int) % 256)
def bunB (b : BS) : List Int := [((b.fs.length : Nat) : Int) % 256] ++ byN b.fs ++ colB b.N b.g
theorem byN_take {fs : List Nat} {k : Nat} (h : k < fs.length) : byN (fs.take (k + 1)) = byN (fs.take k) ++ [((fs.getD k 0 : Nat) : Int) % 256] := by unfold byN;rw [List.take_succ_eq_append_getElem h, List.map_append];simp [List.getD, h]
set_option maxRecDepth 100000 in
set_option maxHeartbeats 8000000 in
theorem bundleAppend_any (W0 : World) (fa : Option Addr) (fcc : Nat) (b : BS) (vcol : Value) (a : Option Addr) (c : Nat) (bs : List Int) (w : World) (hf : OwnI W0 0 (.slice fa b.fs.length fcc) (natI b.fs)) (hc : ColV W0 0 vcol b.N b.g) (ho : OutB W0 w (.slice a bs.length c) bs) (hfl : b.fs.length <= 1000) (hff : ∀ f ∈ b.fs, f <= 1000) (hl : bs.length <= 900000) (hsp : (spF b.N b.N.length).length <= 1000 /\ ∀ x ∈ spF b.N b.N.length, x.1 <= 1000 /\ x.2 <= 1000) (hpk : (packF (bitsN b.N (Lib.bitLen b.g)) ((b.N.length * Lib.bitLen b.g + 7) / 8) (b.N.length * Lib.bitLen b.g)).length <= 1000) : Calls Tryz.prog 101 #[.agg #[.slice fa b.fs.length fcc, vcol], .slice a bs.length c] w fun e w' => OutE W0 (bs ++ bunB b) e w' := by
  have H0 : Hid (OutB W0 w (.slice a bs.length c) bs) := ho;have HF : Hid (OwnI W0 0 (.slice fa b.fs.length fcc) (natI b.fs)) := hf;obtain ⟨t, p, hv⟩ := hc.iface
  have HCL : Hid (∀ (W : World) (a : Option Addr) (c : Nat) (L : List Int), OutB W0 W (.slice a L.length c) L -> L.length <= 1000000 -> (t = 380 /\ Calls Tryz.prog 370 #[.pointer (some ⟨p, 0, none⟩), .slice a L.length c] W fun e w' => OutE W0 (L ++ colB b.N b.g) e w') ∨ (t = 382 /\ Calls Tryz.prog 374 #[.pointer (some ⟨p, 0, none⟩), .slice a L.length c] W fun e w' => OutE W0 (L ++ colB b.N b.g) e w')) := fun W a c L hW hL => by
    rcases hc with ⟨h1, q, e, sb, vc, e2, _, hX⟩ | ⟨h1, q, e, db, q2, e2, _, hX⟩
    left;rw [hv, e2] at e;injection e with e3 e4;injection e4 with e4;injection e4 with e4;injection e4 with e4 _;subst e4;refine ⟨e3, ?_⟩;have hb := hW.bl;have hX' : SpaX W 0 p b.N.length (Lib.bitLen b.g) vc (spF b.N b.N.length) := ⟨(hb.block _ (Array.getElem?_eq_some_iff.1 hX.blk).1).trans hX.blk, (Touch.of_below (S := fun _ => False) hb).row hX.row (fun _ _ => id)⟩;refine (sparseAppend_any p _ _ vc _ a c L W hX' hW.ow hsp.1 hsp.2 hL).mono ?_;intro e w' h;unfold colB;rw [if_pos h1];exact h.out hW
    right;rw [hv, e2] at e;injection e with e3 e4;injection e4 with e4;injection e4 with e4;injection e4 with e4 _;subst e4;refine ⟨e3, ?_⟩;have hb := hW.bl;have hX' : DenX W 0 p q2 b.N.length (Lib.bitLen b.g) (packF (bitsN b.N (Lib.bitLen b.g)) ((b.N.length * Lib.bitLen b.g + 7) / 8) (b.N.length * Lib.bitLen b.g)) := ⟨(hb.block _ (Array.getElem?_eq_some_iff.1 hX.blk).1).trans hX.blk, (Touch.of_below (S := fun _ => False) hb).row hX.row (fun _ _ => id)⟩;refine (denseAppend_both p q2 _ _ _ a c L W hX' hW.ow (fun e => ?_) hpk hL).mono ?_;have h2 := hW.nw q2 e;have h3 := (World.ownsRow.lt hX.row q2 rfl).2;omega;intro e w' h;unfold colB;rw [if_neg h1];exact h.out hW
  subst hv;have HFF : Hid (∀ f ∈ b.fs, f <= 1000) := hff;obtain ⟨i0, hinf, hz0, hz1, hz2⟩ := info_parts info5;have HR0 : Hid (w.ownsRow 0 5 1 (.slice a bs.length c) bs.length (bs.map (Value.int .u8))) := ho.ow;have HBB : Hid (bunB b = [((b.fs.length : Nat) : Int) % 256] ++ byN b.fs ++ colB b.N b.g) := rfl
  have ht : t = 380 ∨ t = 382 := by
    rcases HCL.out w a c bs H0.out (by omega) with h | h
    exact .inl h.1;exact .inr h.1
  clear hf hc ho hff hsp hpk;generalize hbl : bs.length = bl at *;generalize hll : b.fs.length = ll at *;have HBL : Hid (bs.length = bl /\ b.fs.length = ll) := ⟨hbl, hll⟩;clear hbl hll;go_enter Tryz.func101, Tryz.ntmps101;go_wp2_with (at_builtin; refine wpList_append_mark rfl (.tmp 7) (.tmp 12) 66 rfl 0 5 i0 (.int .u8 0) 1 1 Tryz.underlying66 hinf hz0 hz1 hz2 rfl (by decide) _ bl (bs.map (Value.int .u8)) rfl ((HR0.out.alloc _).alloc _) ⟨w.heap.size + 1, 0, none⟩ 1 1 [.int .u8 ((ll : Int) % 256)] rfl rfl ?_ ?_ ?_ ?_ ?_ ?_ ?_)
  intro j u hu;have h1 := one_new (w.alloc (.cells #[.slice fa ll fcc, .iface t (.pointer (some ⟨p, 0, none⟩))] 163)) #[.int .u8 ((ll : Int) % 256)] 5 j u hu;rw [show (w.alloc (.cells #[.slice fa ll fcc, .iface t (.pointer (some ⟨p, 0, none⟩))] 163)).heap.size = w.heap.size + 1 by simp] at h1;exact h1;intro u hu; simp at hu; rcases hu with rfl; rfl;decide;unfold maxLen; omega;omega;simp;intro v1 w1 H1;obtain ⟨r1, g1, dd1, _, q1, p1, hv1⟩ := H1.out;have hbx : Below w.heap.size w ((w.alloc (.cells #[.slice fa ll fcc, .iface t (.pointer (some ⟨p, 0, none⟩))] 163)).alloc (.cells #[.int .u8 ((ll : Int) % 256)] 5)) := ((Below.refl _ _).alloc (Nat.le_refl _) _).alloc (by simp) _;have hA1 : AppP w (.slice a bl c) w1 v1 := AppP.pre hbx (AppP.of_mark g1 dd1 (by simp));have hO1 : OwnB w1 0 v1 (bs ++ [(ll : Int) % 256]) := OwnB.more (n := 1) (by rw [HBL.out.1]; exact r1) rfl
  have hX1 : w1.heap[w.heap.size]? = some (.cells #[.slice fa ll fcc, .iface t (.pointer (some ⟨p, 0, none⟩))] 163 (0, 0)) := (g1.block w.heap.size (by simp; omega) (fun e => by
    have := (World.ownsRow.lt HR0.out _ e.symm).2
    omega)).trans ((Below.heap_alloc _ _ _ (by simp)).trans (heap_alloc_new _ _))
  have h0 := H0.out;have HA1 : Hid (OutB W0 w1 v1 (bs ++ [(ll : Int) % 256]) /\ w1.heap[w.heap.size]? = some (.cells #[.slice fa ll fcc, .iface t (.pointer (some ⟨p, 0, none⟩))] 163 (0, 0))) := ⟨h0.app hO1 hA1, hX1⟩;have e0 : w1.cell? ⟨w.heap.size, 0, none⟩ = some (.slice fa ll fcc) := cell_of_row _ _ 0 _ 163 (0, 0) hX1;subst hv1;clear H1 r1 g1 dd1 hA1 hO1 hX1 hbx h0;go_wp2_with fail
  go_loopw [1, 17] (fun tv ti wr => ∃ (k : Nat) (ak : Option Addr) (ck : Nat), tv = .slice ak (bl + 1 + k) ck /\ ti = .int .i64 k /\ k <= ll /\ Hid (OutB W0 wr (.slice ak (bl + 1 + k) ck) (bs ++ [(ll : Int) % 256] ++ byN (b.fs.take k)) /\ wr.heap[w.heap.size]? = some (.cells #[.slice fa ll fcc, .iface t (.pointer (some ⟨p, 0, none⟩))] 163 (0, 0)))) (fun _ ti _ => ll - (intOf ti).toNat)
  case atStart => exact ⟨0, _, _, rfl, rfl, Nat.zero_le _, by rw [List.take_zero]; show OutB _ _ _ (_ ++ []) /\ _; rw [List.append_nil]; exact HA1.out⟩
  case round =>
    clear HA1 e0;obtain ⟨k, ak, ck, rfl, rfl, hk, HR⟩ := hrel;have hwl : w.heap.size < wr.heap.size := (Array.getElem?_eq_some_iff.1 HR.out.2).1;have HLL : Hid ((bs ++ [(ll : Int) % 256] ++ byN (b.fs.take k)).length = bl + 1 + k) := by show _ = _;rw [List.length_append, List.length_append, HBL.out.1];have h1 : (byN (b.fs.take k)).length = k := (by unfold byN; rw [List.length_map, List.length_take, HBL.out.2]; omega);rw [h1]; rfl
    by_cases hkl : k < ll
    · have hkL : k < b.fs.length := (by rw [HBL.out.2]; exact hkl);have hfw : OwnI wr 0 (.slice fa ll fcc) (natI b.fs) := HF.out.below HR.out.1.bl;obtain ⟨q, hq, hql, _, y0, _⟩ := hfw.atK (by rw [natI_len]; exact HBL.out.2) hkl;rw [natI_getD] at y0;subst hq;have hgk : b.fs.getD k 0 = b.fs[k] := (by simp [List.getD, hkL]);have hrg := HFF.out _ (List.getElem_mem hkL);rw [<- hgk] at hrg;have HX : Hid (bs ++ [(ll : Int) % 256] ++ byN (b.fs.take (k + 1)) = (bs ++ [(ll : Int) % 256] ++ byN (b.fs.take k)) ++ [((b.fs.getD k 0 : Nat) : Int) % 256]) := (by show _ = _;rw [byN_take hkL, List.append_assoc (bs ++ [(ll : Int) % 256])]);have HRW : Hid (wr.ownsRow 0 5 1 (.slice ak (bl + 1 + k) ck) (bl + 1 + k) ((bs ++ [(ll : Int) % 256] ++ byN (b.fs.take k)).map (Value.int .u8))) := by have h1 := HR.out.1.ow;unfold OwnB at h1;rw [HLL.out] at h1;exact h1
      generalize bs ++ [(ll : Int) % 256] ++ byN (b.fs.take k) = L0 at *;clear hgk hfw;generalize b.fs.getD k 0 = f at *;generalize hbn : bl + 1 + k = bn at *;have HBN : Hid (bl + 1 + k = bn) := hbn;have hbn2 : bn <= 902002 := (by omega);clear hbn;have bk1 : (0 : Int) <= (k : Int) := (by omega);have bk2 : (k : Int) < (ll : Int) := (by omega);go_wp2_with (at_builtin; refine wpList_append_mark rfl (.tmp 21) (.tmp 24) 66 rfl 0 5 i0 (.int .u8 0) 1 1 Tryz.underlying66 hinf hz0 hz1 hz2 rfl (by decide) _ bn (L0.map (Value.int .u8)) rfl (HRW.out.alloc _) ⟨wr.heap.size, 0, none⟩ 1 1 [.int .u8 ((f : Int) % 256)] rfl rfl ?_ ?_ ?_ ?_ ?_ ?_ ?_)
      exact one_new wr #[.int .u8 ((f : Int) % 256)] 5;intro u hu; simp at hu; rcases hu with rfl; rfl;decide;unfold maxLen; omega;omega;simp;intro v4 w4 H4;obtain ⟨r4, g4, d4, _, q4, p4, hv4⟩ := H4.out;have HN : Hid (OutB W0 w4 v4 (bs ++ [(ll : Int) % 256] ++ byN (b.fs.take (k + 1))) /\ w4.heap[w.heap.size]? = some (.cells #[.slice (some ⟨q, 0, none⟩) ll fcc, .iface t (.pointer (some ⟨p, 0, none⟩))] 163 (0, 0))) := by have ha := AppP.pre (v := .slice ak bn ck) ((Below.refl wr.heap.size wr).alloc (Nat.le_refl _) (.cells #[.int .u8 ((f : Int) % 256)] 5)) (AppP.of_mark g4 d4 (by simp));refine ⟨HR.out.1.app ?_ ha, ha.1.at_ HR.out.2 (fun e => row_ne HRW.out e HR.out.2 (by decide) rfl)⟩;rw [HX.out];refine OwnB.more (n := 1) ?_ rfl;rw [HLL.out];exact r4
      subst hv4;clear H4 r4 g4 d4 HRW HR HX y0;have hbn3 : bn + 1 = bl + 1 + (k + 1) := (by have := HBN.out; omega);rw [hbn3] at HN ⊢;clear hbn3;go_wp2;go_roundw;case rel => exact ⟨k + 1, some ⟨q4, 0, none⟩, p4, rfl, by go_num, by omega, HN⟩
      case measure => simp [intOf]; omega
    have hnk : ¬ (k : Int) < (ll : Int) := (by omega);have hkk : b.fs.take k = b.fs := List.take_of_length_le (by have := HBL.out.2; omega);have HLE : Hid (bs ++ bunB b = (bs ++ [(ll : Int) % 256] ++ byN (b.fs.take k)) ++ colB b.N b.g) := (by show _ = _;rw [HBB.out, hkk, List.append_assoc, List.append_assoc, List.append_assoc]);have e1 : wr.cell? ⟨w.heap.size, 1, none⟩ = some (.iface t (.pointer (some ⟨p, 0, none⟩))) := cell_of_row _ _ 1 _ 163 (0, 0) HR.out.2;have HQ : Hid _ := HCL.out wr ak ck (bs ++ [(ll : Int) % 256] ++ byN (b.fs.take k)) (by rw [HLL.out]; exact HR.out.1) (by rw [HLL.out]; omega);rw [HLL.out] at HQ;generalize bs ++ [(ll : Int) % 256] ++ byN (b.fs.take k) = L0 at *;clear HR hkk HCL
    rcases ht with rfl | rfl
    · have HC : Calls Tryz.prog 370 #[.pointer (some ⟨p, 0, none⟩), .slice ak (bl + 1 + k) ck] wr fun e w' => OutE W0 (L0 ++ colB b.N b.g) e w' := by
        rcases HQ.out with h | h
        exact h.2;exact absurd h.1 (by decide)
      clear HQ;go_wp2_with fail
      refine HC.mono ?_;rintro e w3 ⟨a3, c3, rfl, h3⟩;rw [<- HLE.out] at h3 ⊢;obtain ⟨n3, hn3⟩ : ∃ n3, n3 = (bs ++ bunB b).length := ⟨_, rfl⟩;rw [<- hn3] at h3 ⊢;have HN3 : Hid (n3 = (bs ++ bunB b).length) := hn3;have H3 : Hid (OutB W0 w3 (.slice a3 n3 c3) (bs ++ bunB b)) := h3;clear h3 HC hn3;go_wp2;go_ret;exact ⟨a3, c3, by rw [<- HN3.out]; rfl, by rw [<- HN3.out]; exact H3.out⟩
    have HC : Calls Tryz.prog 374 #[.pointer (some ⟨p, 0, none⟩), .slice ak (bl + 1 + k) ck] wr fun e w' => OutE W0 (L0 ++ colB b.N b.g) e w' := by
      rcases HQ.out with h | h
      exact absurd h.1 (by decide);exact h.2
    clear HQ;go_wp2_with fail
    refine HC.mono ?_;rintro e w3 ⟨a3, c3, rfl, h3⟩;rw [<- HLE.out] at h3 ⊢;obtain ⟨n3, hn3⟩ : ∃ n3, n3 = (bs ++ bunB b).length := ⟨_, rfl⟩;rw [<- hn3] at h3 ⊢;have HN3 : Hid (n3 = (bs ++ bunB b).length) := hn3;have H3 : Hid (OutB W0 w3 (.slice a3 n3 c3) (bs ++ bunB b)) := h3;clear h3 HC hn3;go_wp2;go_ret;exact ⟨a3, c3, by rw [<- HN3.out]; rfl, by rw [<- HN3.out]; exact H3.out⟩
end Go.Proofs.YtfcgnpchbcmdeaaGreat

namespace Go.Proofs.YtfcgnpchbcmdeaaGreat
open Go.RowKit
def bndB (bs : List Int) : List Int := bs.flatMap (fun x => lowL x 4)
theorem bndB_take {L : List Int} {k : Nat} (h : k < L.length) : bndB (L.take (k + 1)) = bndB (L.take k) ++ lowL (L.getD k 0) 4 := by unfold bndB;rw [List.take_succ_eq_append_getElem h, List.flatMap_append];simp [List.getD, h]
theorem bndB_len (L : List Int) : (bndB L).length = L.length * 4 := by
  induction L with
  | nil => rfl
  | cons x L ih =>
    unfold bndB at ih ⊢;rw [List.flatMap_cons, List.length_append, ih, lowL_len, List.length_cons]; omega
def knB (k : KS) : List Int := [110, ((k.d : Nat) : Int) % 256, ((k.e.cnt : Nat) : Int) % 256] ++ bndB k.e.bs
set_option maxRecDepth 100000 in
set_option maxHeartbeats 8000000 in
theorem knownAppend_num (W0 : World) (ab aw : Option Addr) (cb cw : Nat) (k : KS) (a : Option Addr) (c : Nat) (bs : List Int) (w : World) (hwd : k.e.wd = false) (hI : OwnI W0 0 (.slice ab k.e.bs.length cb) k.e.bs) (ho : OutB W0 w (.slice a bs.length c) bs) (hbl1 : k.e.bs.length <= 1000) (hr : ∀ x ∈ k.e.bs, -1000000000000 <= x /\ x <= 1000000000000) (hl : bs.length <= 900000) : Calls Tryz.prog 100 #[.agg #[.bool k.e.wd, .slice ab k.e.bs.length cb, .slice aw 0 cw, .int .i64 (k.d : Nat)], .slice a bs.length c] w fun e w' => OutE W0 (bs ++ knB k) e w' := by
  rw [hwd];have H0 : Hid (OutB W0 w (.slice a bs.length c) bs) := ho;have HI : Hid (OwnI W0 0 (.slice ab k.e.bs.length cb) k.e.bs) := hI;have HRg : Hid (∀ x ∈ k.e.bs, -1000000000000 <= x /\ x <= 1000000000000) := hr;have hcnt : k.e.cnt = k.e.bs.length := by unfold ES.cnt cntE; rw [hwd]; rfl
  have HKB : Hid (knB k = [110, ((k.d : Nat) : Int) % 256, ((k.e.bs.length : Nat) : Int) % 256] ++ bndB k.e.bs) := by show _ = _;unfold knB;rw [hcnt]
  have HCT : Hid (∀ W : World, Calls Tryz.prog 169 #[.agg #[.bool false, .slice ab k.e.bs.length cb, .slice aw 0 cw]] W fun e w' => e = .returned (.int .i64 ((k.e.bs.length : Nat) : Int)) /\ Below W.heap.size W w') := fun W => count_any false ab aw _ cb 0 cw W;obtain ⟨i0, hinf, hz0, hz1, hz2⟩ := info_parts info5;have HR0 : Hid (w.ownsRow 0 5 1 (.slice a bs.length c) bs.length (bs.map (Value.int .u8))) := ho.ow;clear hI ho hr hwd hcnt;generalize k.d = d at *;generalize hbl : bs.length = bl at *;generalize hnb : k.e.bs.length = nb at *;have HBL : Hid (bs.length = bl /\ k.e.bs.length = nb) := ⟨hbl, hnb⟩;clear hbl hnb;go_enter Tryz.func100, Tryz.ntmps100;go_upto_region 4 with fail;generalize hW1 : w.alloc (.cells #[.bool false, .slice ab nb cb, .slice aw 0 cw, .int .i64 (d : Nat)] 172) = w1;have hB1 : Below w.heap.size w w1 := by rw [<- hW1]; exact (Below.refl _ _).alloc (Nat.le_refl _) _
  have hX1 : w1.heap[w.heap.size]? = some (.cells #[.bool false, .slice ab nb cb, .slice aw 0 cw, .int .i64 (d : Nat)] 172 (0, 0)) := (by rw [<- hW1]; exact heap_alloc_new _ _);have hwl : w.heap.size < w1.heap.size := (Array.getElem?_eq_some_iff.1 hX1).1;have x0 : w1.drew.cell? ⟨w.heap.size, 0, none⟩ = some (.bool false) := cell_of_row _ _ 0 _ 172 (0, 0) hX1;have x1 : w1.drew.cell? ⟨w.heap.size, 1, none⟩ = some (.slice ab nb cb) := cell_of_row _ _ 1 _ 172 (0, 0) hX1;have x2 : w1.drew.cell? ⟨w.heap.size, 2, none⟩ = some (.slice aw 0 cw) := cell_of_row _ _ 2 _ 172 (0, 0) hX1;have x3 : w1.drew.cell? ⟨w.heap.size, 3, none⟩ = some (.int .i64 (d : Nat)) := cell_of_row _ _ 3 _ 172 (0, 0) hX1;have HX1 : Hid (w1.heap[w.heap.size]? = some (.cells #[.bool false, .slice ab nb cb, .slice aw 0 cw, .int .i64 (d : Nat)] 172 (0, 0)) /\ Below w.heap.size w w1) := ⟨hX1, hB1⟩;clear hW1 hB1 hX1
  refine wp_region_S (fun w' => w'.cell? ⟨w.heap.size, 0, none⟩ = some (.bool false) /\ w'.cell? ⟨w.heap.size, 1, none⟩ = some (.slice ab nb cb) /\ w'.cell? ⟨w.heap.size, 2, none⟩ = some (.slice aw 0 cw) /\ w'.cell? ⟨w.heap.size, 3, none⟩ = some (.int .i64 (d : Nat))) 11 (by kernel_rfl) ⟨x0, x1, x2, x3⟩ (fun hHeld => ?_);refine tkM [10, 11] 0 (v := ?_) ?_ ?_
  rotate_left;· intro w hSw;(try dsimp only at hSw);go_simp;try with_reducible rfl
  try simp only [Act.put, sA, sB, sC]
  refine tkM [9, 10, 11] 1 (v := ?_) ?_ ?_
  rotate_left;· intro w hSw;(try dsimp only at hSw);go_simp;try with_reducible rfl
  try simp only [Act.put, sA, sB, sC]
  refine tkM [3, 4, 9, 10, 11] 2 (v := ?_) ?_ ?_
  rotate_left;· intro w hSw;(try dsimp only at hSw);go_simp;try with_reducible rfl
  try simp only [Act.put, sA, sB, sC]
  refine tkM [4, 9, 10, 11] 3 (v := ?_) ?_ ?_
  rotate_left
  · intro w hSw;try obtain ⟨_, _, _, _⟩ := hSw
    (try dsimp only at hSw)
    go_simp;try with_reducible rfl
  try simp only [Act.put, sA, sB, sC]
  refine tkM [9, 10, 11] 4 (v := ?_) ?_ ?_
  rotate_left;· intro w hSw;(try dsimp only at hSw);go_simp;try with_reducible rfl
  try simp only [Act.put, sA, sB, sC]
  refine tkM [6, 7, 8, 9, 10, 11] 5 (v := ?_) ?_ ?_
  rotate_left;· intro w hSw;(try dsimp only at hSw);go_simp;try with_reducible rfl
  try simp only [Act.put, sA, sB, sC]
  refine tkM [7, 8, 9, 10, 11] 6 (v := ?_) ?_ ?_
  rotate_left
  · intro w hSw;try obtain ⟨_, _, _, _⟩ := hSw
    (try dsimp only at hSw)
    go_simp;try with_reducible rfl
  try simp only [Act.put, sA, sB, sC]
  refine wpAnyS_oneL (i := 7) (by kernel_rfl) rfl (fun KK hK => ?_);go_simp;refine (HCT.out _).mono ?_;rintro e w2 ⟨rfl, hb2⟩;have hb12 : Below w1.heap.size w1 w2 := (Below.refl w1.heap.size w1).drew.trans hb2;have y0 := (hb12.cell (p := ⟨w.heap.size, 0, none⟩) hwl).trans x0;have y1 := (hb12.cell (p := ⟨w.heap.size, 1, none⟩) hwl).trans x1;have y2 := (hb12.cell (p := ⟨w.heap.size, 2, none⟩) hwl).trans x2;have y3 := (hb12.cell (p := ⟨w.heap.size, 3, none⟩) hwl).trans x3;have hwl2 : w.heap.size < w2.heap.size := Nat.lt_of_lt_of_le hwl hb12.size;go_simp;refine hK.out _ _ ⟨y0, y1, y2, y3⟩ (fun hHeld => ?_);clear hK KK hb2;try simp only [Act.put, sA, sB, sC]
  refine tkM [9, 10, 11] 8 (v := ?_) ?_ ?_
  rotate_left;· intro w hSw;(try dsimp only at hSw);go_simp;try with_reducible rfl
  try simp only [Act.put, sA, sB, sC]
  refine wpAnyS_oneL (i := 9) (by kernel_rfl) rfl (fun KK hK => ?_);go_simp;refine hK.out _ _ ⟨(Below.cell (B := w2.heap.size) (p := ⟨w.heap.size, 0, none⟩) ((Below.refl _ _).alloc (Nat.le_refl _) _) hwl2).trans y0, (Below.cell (B := w2.heap.size) (p := ⟨w.heap.size, 1, none⟩) ((Below.refl _ _).alloc (Nat.le_refl _) _) hwl2).trans y1, (Below.cell (B := w2.heap.size) (p := ⟨w.heap.size, 2, none⟩) ((Below.refl _ _).alloc (Nat.le_refl _) _) hwl2).trans y2, (Below.cell (B := w2.heap.size) (p := ⟨w.heap.size, 3, none⟩) ((Below.refl _ _).alloc (Nat.le_refl _) _) hwl2).trans y3⟩ (fun hHeld => ?_);clear hK KK;try simp only [Act.put, sA, sB, sC]
  refine wpAnyS_oneL (i := 10) (by kernel_rfl) rfl (fun KK hK => ?_);have hbw2 : Below w.heap.size w w2 := HX1.out.2.trans (hb12.mono (Nat.le_of_lt hwl));refine step_append_mark rfl (.tmp 13) (.tmp 22) 66 rfl 0 5 i0 (.int .u8 0) 1 1 Tryz.underlying66 hinf hz0 hz1 hz2 rfl (by decide) (.slice a bl c) bl (bs.map (Value.int .u8)) (by simp [Act.eval]) (World.ownsRow.alloc (w := w2) ((Touch.of_below (S := fun _ => False) hbw2).row HR0.out (fun _ _ => id)) _) ⟨w2.heap.size, 0, none⟩ 3 3 [.int .u8 110, .int .u8 ((d : Int) % 256), .int .u8 ((nb : Int) % 256)] (by simp [Act.eval]) rfl (one_new w2 #[.int .u8 110, .int .u8 ((d : Int) % 256), .int .u8 ((nb : Int) % 256)] 5) (by intro u hu; simp at hu; rcases hu with rfl | rfl | rfl <;> rfl) (by decide) (by unfold maxLen; omega) (by omega) (by simp) ?_;intro v6 w6 H6;obtain ⟨r6, g6, dd6, _, q6, p6, hv6⟩ := H6.out
  have hb26 : Below w.heap.size w (w2.alloc (.cells #[.int .u8 110, .int .u8 ((d : Int) % 256), .int .u8 ((nb : Int) % 256)] 5)) := hbw2.alloc hbw2.size _;have hA6 : AppP w (.slice a bl c) w6 v6 := AppP.pre hb26 (AppP.of_mark g6 dd6 (Nat.le_refl _));have hO6 : OwnB w6 0 v6 (bs ++ [110, (d : Int) % 256, (nb : Int) % 256]) := OwnB.more (n := 3) (by rw [HBL.out.1]; exact r6) rfl
  have hX6 : w6.heap[w.heap.size]? = some (.cells #[.bool false, .slice ab nb cb, .slice aw 0 cw, .int .i64 (d : Nat)] 172 (0, 0)) := (g6.block w.heap.size (by simp; omega) (fun e => by
    have := (World.ownsRow.lt HR0.out _ e.symm).2
    omega)).trans ((Below.heap_alloc _ _ _ hwl2).trans ((hb12.block _ hwl).trans HX1.out.1))
  have h0 := H0.out;have HA6 : Hid (OutB W0 w6 v6 (bs ++ [110, (d : Int) % 256, (nb : Int) % 256]) /\ w6.heap[w.heap.size]? = some (.cells #[.bool false, .slice ab nb cb, .slice aw 0 cw, .int .i64 (d : Nat)] 172 (0, 0))) := ⟨h0.app hO6 hA6, hX6⟩;have z0 : w6.cell? ⟨w.heap.size, 0, none⟩ = some (.bool false) := cell_of_row _ _ 0 _ 172 (0, 0) hX6;have z1 : w6.cell? ⟨w.heap.size, 1, none⟩ = some (.slice ab nb cb) := cell_of_row _ _ 1 _ 172 (0, 0) hX6;have z2 : w6.cell? ⟨w.heap.size, 2, none⟩ = some (.slice aw 0 cw) := cell_of_row _ _ 2 _ 172 (0, 0) hX6;have z3 : w6.cell? ⟨w.heap.size, 3, none⟩ = some (.int .i64 (d : Nat)) := cell_of_row _ _ 3 _ 172 (0, 0) hX6;subst hv6;clear H6 r6 g6 dd6 hb26 hA6 hO6 hX6 h0 y0 y1 y2 y3 hbw2;refine hK.out _ _ ⟨z0, z1, z2, z3⟩ (fun hHeld => ?_);clear hK KK;try simp only [Act.put, sA, sB, sC]
  refine wpAnyS_lastL (i := 11) (by kernel_rfl) rfl (by kernel_rfl) (fun KK hK => ?_);go_simp;refine hK.out _ _ ?_;clear hK KK;try simp only [Act.put, sA, sB, sC]
  refine wpAnyS_done (by kernel_rfl) ?_ _;clear x0 x1 x2 x3 hHeld;have e1 : w6.cell? ⟨w.heap.size, 1, none⟩ = some (.slice ab nb cb) := cell_of_row _ _ 1 _ 172 (0, 0) HA6.out.2;go_wp2_with fail
  go_loopw [1, 28] (fun tv ti wr => ∃ (j : Nat) (aj : Option Addr) (cj : Nat), tv = .slice aj (bl + 3 + j * 4) cj /\ ti = .int .i64 j /\ j <= nb /\ Hid (OutB W0 wr (.slice aj (bl + 3 + j * 4) cj) (bs ++ [110, (d : Int) % 256, (nb : Int) % 256] ++ bndB (k.e.bs.take j)) /\ wr.heap[w.heap.size]? = some (.cells #[.bool false, .slice ab nb cb, .slice aw 0 cw, .int .i64 (d : Nat)] 172 (0, 0)))) (fun _ ti _ => nb - (intOf ti).toNat)
  case atStart => exact ⟨0, _, _, rfl, rfl, Nat.zero_le _, by rw [List.take_zero]; show OutB _ _ _ (_ ++ []) /\ _; rw [List.append_nil]; exact HA6.out⟩
  case round =>
    clear HA6 e1;obtain ⟨j, aj, cj, rfl, rfl, hj, HR⟩ := hrel;have hwr : w.heap.size < wr.heap.size := (Array.getElem?_eq_some_iff.1 HR.out.2).1;have HLL : Hid ((bs ++ [110, (d : Int) % 256, (nb : Int) % 256] ++ bndB (k.e.bs.take j)).length = bl + 3 + j * 4) := by show _ = _;rw [List.length_append, List.length_append, bndB_len, List.length_take, HBL.out.1, HBL.out.2, Nat.min_eq_left hj]; rfl
    by_cases hjl : j < nb
    · have hjL : j < k.e.bs.length := (by rw [HBL.out.2]; exact hjl);have hIw : OwnI wr 0 (.slice ab nb cb) k.e.bs := HI.out.below HR.out.1.bl;obtain ⟨q, hq, hql, _, y0, _⟩ := hIw.atK HBL.out.2 hjl;subst hq;have hgk : k.e.bs.getD j 0 = k.e.bs[j] := (by simp [List.getD, hjL]);have hrg := HRg.out _ (List.getElem_mem hjL);rw [<- hgk] at hrg;have HX : Hid (bs ++ [110, (d : Int) % 256, (nb : Int) % 256] ++ bndB (k.e.bs.take (j + 1)) = (bs ++ [110, (d : Int) % 256, (nb : Int) % 256] ++ bndB (k.e.bs.take j)) ++ lowL (k.e.bs.getD j 0) 4) := (by show _ = _;rw [bndB_take hjL, List.append_assoc (bs ++ _)]);generalize bs ++ [110, (d : Int) % 256, (nb : Int) % 256] ++ bndB (k.e.bs.take j) = L0 at *;clear hgk hIw;generalize k.e.bs.getD j 0 = x at *
      have HAL : Calls Tryz.prog 102 #[.slice aj (bl + 3 + j * 4) cj, .int .i64 x, .int .i64 4] wr fun e w' => AppB wr (.slice aj (bl + 3 + j * 4) cj) L0 (lowL x 4) e w' := (by have h1 := HR.out.1;rw [<- HLL.out] at h1 ⊢;exact appendLow_any aj cj 4 L0 x wr h1.ow (by omega) (by rw [HLL.out]; omega) hrg.1 hrg.2);have bk1 : (0 : Int) <= (j : Int) := (by omega);have bk2 : (j : Int) < (nb : Int) := (by omega);clear hrg hHeld z0 z1 z2 z3;go_wp2_with fail
      refine HAL.mono ?_;rintro e w3 ⟨v3, rfl, ho3, hp3⟩;have hf3 := HR.out.1.app ho3 hp3;have hx3 := hp3.1.at_ HR.out.2 (fun e => row_ne HR.out.1.ow e HR.out.2 (by decide) rfl);obtain ⟨a3, c3, hv3⟩ := ho3.form;rw [List.length_append, lowL_len, HLL.out, show bl + 3 + j * 4 + 4 = bl + 3 + (j + 1) * 4 by omega] at hv3;subst hv3;rw [<- HX.out] at hf3;have HN : Hid (OutB W0 w3 (.slice a3 (bl + 3 + (j + 1) * 4) c3) (bs ++ [110, (d : Int) % 256, (nb : Int) % 256] ++ bndB (k.e.bs.take (j + 1))) /\ w3.heap[w.heap.size]? = some (.cells #[.bool false, .slice (some ⟨q, 0, none⟩) nb cb, .slice aw 0 cw, .int .i64 (d : Nat)] 172 (0, 0))) := ⟨hf3, hx3⟩;clear HAL ho3 hp3 hf3 hx3 HR HX y0;go_wp2;go_roundw;case rel => exact ⟨j + 1, a3, c3, rfl, by go_num, by omega, HN⟩
      case measure => simp [intOf]; omega
    have hnj : ¬ (j : Int) < (nb : Int) := (by omega);have hjk : k.e.bs.take j = k.e.bs := List.take_of_length_le (by have := HBL.out.2; omega);have HF : Hid (OutB W0 wr (.slice aj (bl + 3 + j * 4) cj) (bs ++ knB k) /\ (bs ++ knB k).length = bl + 3 + j * 4) := (by have h1 := HR.out.1;have h2 := HLL.out;rw [hjk, List.append_assoc, <- HKB.out] at h1 h2;exact ⟨h1, h2⟩);have e2 : wr.cell? ⟨w.heap.size, 2, none⟩ = some (.slice aw 0 cw) := cell_of_row _ _ 2 _ 172 (0, 0) HR.out.2;clear hjk HR HLL hHeld z0 z1 z2 z3;obtain ⟨wl, hwl3⟩ : ∃ wl, wl = wr := ⟨wr, rfl⟩;subst hwl3;go_wp2_with fail
    go_loopw [1, 40] (fun tv ti wr => tv = .slice aj (bl + 3 + j * 4) cj /\ ti = .int .i64 0 /\ Hid (wl = wr)) (fun _ _ _ => 0)
    case atStart => exact ⟨rfl, rfl, rfl⟩
    case round =>
      obtain ⟨rfl, rfl, hw⟩ := hrel;have hw2 := hw.out;subst hw2;clear hw;go_wp2;go_ret;exact ⟨aj, cj, by rw [HF.out.2]; rfl, by rw [HF.out.2]; exact HF.out.1⟩
end Go.Proofs.YtfcgnpchbcmdeaaGreat

namespace Go.Proofs.YtfcgnpchbcmdeaaGreat
open Go.RowKit
def wrdB (ss : List ByteArray) : List Int := ss.flatMap (fun s => ((s.size : Nat) : Int) % 256 :: bytesL s)
theorem wrdB_take {L : List ByteArray} {k : Nat} (h : k < L.length) (d : ByteArray) : wrdB (L.take (k + 1)) = wrdB (L.take k) ++ (((L.getD k d).size : Nat) : Int) % 256 :: bytesL (L.getD k d) := by unfold wrdB;rw [List.take_succ_eq_append_getElem h, List.flatMap_append];simp [List.getD, h]
def knWB (k : KS) : List Int := [119, ((k.d : Nat) : Int) % 256, ((k.e.cnt : Nat) : Int) % 256] ++ wrdB k.e.ww
theorem OutB.own {W0 w : World} {v : Value} {bs : List Int} (h : OutB W0 w v bs) : OwnB w W0.heap.size v bs := by
  refine ⟨h.ow.1, ?_⟩
  rcases h.ow.2 with hn | ⟨g, cap, cur, e, _, r⟩
  exact .inl hn;exact .inr ⟨g, cap, cur, e, h.nw g (by rw [e]; rfl), r⟩
theorem OutB.of_own {W0 w : World} {v : Value} {bs : List Int} (hb : Below W0.heap.size W0 w) (h : OwnB w W0.heap.size v bs) : OutB W0 w v bs := by
  refine ⟨hb, ⟨h.1, ?_⟩, fun k hk => (World.ownsRow.lt h k hk).1⟩
  rcases h.2 with hn | ⟨g, cap, cur, e, _, r⟩
  exact .inl hn;exact .inr ⟨g, cap, cur, e, Nat.zero_le _, r⟩
theorem OwnS.atW {w : World} {base : Nat} {a : Option Addr} {n c : Nat} {L : List ByteArray} (h : OwnS w base (.slice a n c) L) (hn : L.length = n) {k : Nat} (hk : k < n) (d : ByteArray) : ∃ q, a = some ⟨q, 0, none⟩ /\ q < w.heap.size /\ w.cell? ⟨q, k, none⟩ = some (.string (L.getD k d)) := by
  have h' := h;subst hn
  rcases h.2 with ⟨e, h0⟩ | ⟨g, cap, cur, e, _, hh, _⟩
  omega;simp only [Value.slice.injEq, true_and] at e;obtain ⟨rfl, rfl⟩ := e;refine ⟨g, rfl, (Array.getElem?_eq_some_iff.1 hh).1, ?_⟩;rw [World.ownsRow.cellAt h' k (by omega)];simp [List.getD, hk]
theorem bytesL_lenW (b : ByteArray) : (bytesL b).length = b.size := by unfold bytesL; rw [List.length_map]; rfl
theorem strCells_bytes (s : ByteArray) : Go.Lib.strCells s = (bytesL s).map (Value.int .u8) := by unfold Go.Lib.strCells bytesL;rw [List.map_map]; rfl
set_option maxRecDepth 100000 in
set_option maxHeartbeats 8000000 in
theorem knownAppend_word (W0 : World) (ab aw : Option Addr) (cb cw : Nat) (k : KS) (a : Option Addr) (c : Nat) (bs : List Int) (w : World) (hwd : k.e.wd = true) (hI : OwnS W0 0 (.slice aw k.e.ww.length cw) k.e.ww) (ho : OutB W0 w (.slice a bs.length c) bs) (hbl1 : k.e.ww.length <= 1000) (hr : ∀ x ∈ k.e.ww, x.size <= 8) (hl : bs.length <= 900000) : Calls Tryz.prog 100 #[.agg #[.bool k.e.wd, .slice ab 0 cb, .slice aw k.e.ww.length cw, .int .i64 (k.d : Nat)], .slice a bs.length c] w fun e w' => OutE W0 (bs ++ knWB k) e w' := by
  rw [hwd];have H0 : Hid (OutB W0 w (.slice a bs.length c) bs) := ho;have HI : Hid (OwnS W0 0 (.slice aw k.e.ww.length cw) k.e.ww) := hI;have HRg : Hid (∀ x ∈ k.e.ww, x.size <= 8) := hr;have hcnt : k.e.cnt = k.e.ww.length := by unfold ES.cnt cntE; rw [hwd]; rfl
  have HKB : Hid (knWB k = [119, ((k.d : Nat) : Int) % 256, ((k.e.ww.length : Nat) : Int) % 256] ++ wrdB k.e.ww) := by show _ = _;unfold knWB;rw [hcnt]
  have HCT : Hid (∀ W : World, Calls Tryz.prog 169 #[.agg #[.bool true, .slice ab 0 cb, .slice aw k.e.ww.length cw]] W fun e w' => e = .returned (.int .i64 ((k.e.ww.length : Nat) : Int)) /\ Below W.heap.size W w') := fun W => count_any true ab aw 0 cb _ cw W;obtain ⟨i0, hinf, hz0, hz1, hz2⟩ := info_parts info5;have HR0 : Hid (w.ownsRow 0 5 1 (.slice a bs.length c) bs.length (bs.map (Value.int .u8))) := ho.ow;clear hI ho hr hwd hcnt;generalize k.d = d at *;generalize hbl : bs.length = bl at *;generalize hnb : k.e.ww.length = nb at *;have HBL : Hid (bs.length = bl /\ k.e.ww.length = nb) := ⟨hbl, hnb⟩;clear hbl hnb;go_enter Tryz.func100, Tryz.ntmps100;go_upto_region 4 with fail;generalize hW1 : w.alloc (.cells #[.bool true, .slice ab 0 cb, .slice aw nb cw, .int .i64 (d : Nat)] 172) = w1;have hB1 : Below w.heap.size w w1 := by rw [<- hW1]; exact (Below.refl _ _).alloc (Nat.le_refl _) _
  have hX1 : w1.heap[w.heap.size]? = some (.cells #[.bool true, .slice ab 0 cb, .slice aw nb cw, .int .i64 (d : Nat)] 172 (0, 0)) := (by rw [<- hW1]; exact heap_alloc_new _ _);have hwl : w.heap.size < w1.heap.size := (Array.getElem?_eq_some_iff.1 hX1).1;have x0 : w1.drew.cell? ⟨w.heap.size, 0, none⟩ = some (.bool true) := cell_of_row _ _ 0 _ 172 (0, 0) hX1;have x1 : w1.drew.cell? ⟨w.heap.size, 1, none⟩ = some (.slice ab 0 cb) := cell_of_row _ _ 1 _ 172 (0, 0) hX1;have x2 : w1.drew.cell? ⟨w.heap.size, 2, none⟩ = some (.slice aw nb cw) := cell_of_row _ _ 2 _ 172 (0, 0) hX1;have x3 : w1.drew.cell? ⟨w.heap.size, 3, none⟩ = some (.int .i64 (d : Nat)) := cell_of_row _ _ 3 _ 172 (0, 0) hX1;have HX1 : Hid (w1.heap[w.heap.size]? = some (.cells #[.bool true, .slice ab 0 cb, .slice aw nb cw, .int .i64 (d : Nat)] 172 (0, 0)) /\ Below w.heap.size w w1) := ⟨hX1, hB1⟩;clear hW1 hB1 hX1
  refine wp_region_S (fun w' => w'.cell? ⟨w.heap.size, 0, none⟩ = some (.bool true) /\ w'.cell? ⟨w.heap.size, 1, none⟩ = some (.slice ab 0 cb) /\ w'.cell? ⟨w.heap.size, 2, none⟩ = some (.slice aw nb cw) /\ w'.cell? ⟨w.heap.size, 3, none⟩ = some (.int .i64 (d : Nat))) 11 (by kernel_rfl) ⟨x0, x1, x2, x3⟩ (fun hHeld => ?_);refine tkM [10, 11] 0 (v := ?_) ?_ ?_
  rotate_left;· intro w hSw;(try dsimp only at hSw);go_simp;try with_reducible rfl
  try simp only [Act.put, sA, sB, sC]
  refine tkM [9, 10, 11] 1 (v := ?_) ?_ ?_
  rotate_left;· intro w hSw;(try dsimp only at hSw);go_simp;try with_reducible rfl
  try simp only [Act.put, sA, sB, sC]
  refine tkM [3, 4, 9, 10, 11] 2 (v := ?_) ?_ ?_
  rotate_left;· intro w hSw;(try dsimp only at hSw);go_simp;try with_reducible rfl
  try simp only [Act.put, sA, sB, sC]
  refine tkM [4, 9, 10, 11] 3 (v := ?_) ?_ ?_
  rotate_left
  · intro w hSw;try obtain ⟨_, _, _, _⟩ := hSw
    (try dsimp only at hSw)
    go_simp;try with_reducible rfl
  try simp only [Act.put, sA, sB, sC]
  refine tkM [9, 10, 11] 4 (v := ?_) ?_ ?_
  rotate_left;· intro w hSw;(try dsimp only at hSw);go_simp;try with_reducible rfl
  try simp only [Act.put, sA, sB, sC]
  refine tkM [6, 7, 8, 9, 10, 11] 5 (v := ?_) ?_ ?_
  rotate_left;· intro w hSw;(try dsimp only at hSw);go_simp;try with_reducible rfl
  try simp only [Act.put, sA, sB, sC]
  refine tkM [7, 8, 9, 10, 11] 6 (v := ?_) ?_ ?_
  rotate_left
  · intro w hSw;try obtain ⟨_, _, _, _⟩ := hSw
    (try dsimp only at hSw)
    go_simp;try with_reducible rfl
  try simp only [Act.put, sA, sB, sC]
  refine wpAnyS_oneL (i := 7) (by kernel_rfl) rfl (fun KK hK => ?_);go_simp;refine (HCT.out _).mono ?_;rintro e w2 ⟨rfl, hb2⟩;have hb12 : Below w1.heap.size w1 w2 := (Below.refl w1.heap.size w1).drew.trans hb2;have y0 := (hb12.cell (p := ⟨w.heap.size, 0, none⟩) hwl).trans x0;have y1 := (hb12.cell (p := ⟨w.heap.size, 1, none⟩) hwl).trans x1;have y2 := (hb12.cell (p := ⟨w.heap.size, 2, none⟩) hwl).trans x2;have y3 := (hb12.cell (p := ⟨w.heap.size, 3, none⟩) hwl).trans x3;have hwl2 : w.heap.size < w2.heap.size := Nat.lt_of_lt_of_le hwl hb12.size;go_simp;refine hK.out _ _ ⟨y0, y1, y2, y3⟩ (fun hHeld => ?_);clear hK KK hb2;try simp only [Act.put, sA, sB, sC]
  refine tkM [9, 10, 11] 8 (v := ?_) ?_ ?_
  rotate_left;· intro w hSw;(try dsimp only at hSw);go_simp;try with_reducible rfl
  try simp only [Act.put, sA, sB, sC]
  refine wpAnyS_oneL (i := 9) (by kernel_rfl) rfl (fun KK hK => ?_);go_simp;refine hK.out _ _ ⟨(Below.cell (B := w2.heap.size) (p := ⟨w.heap.size, 0, none⟩) ((Below.refl _ _).alloc (Nat.le_refl _) _) hwl2).trans y0, (Below.cell (B := w2.heap.size) (p := ⟨w.heap.size, 1, none⟩) ((Below.refl _ _).alloc (Nat.le_refl _) _) hwl2).trans y1, (Below.cell (B := w2.heap.size) (p := ⟨w.heap.size, 2, none⟩) ((Below.refl _ _).alloc (Nat.le_refl _) _) hwl2).trans y2, (Below.cell (B := w2.heap.size) (p := ⟨w.heap.size, 3, none⟩) ((Below.refl _ _).alloc (Nat.le_refl _) _) hwl2).trans y3⟩ (fun hHeld => ?_);clear hK KK;try simp only [Act.put, sA, sB, sC]
  refine wpAnyS_oneL (i := 10) (by kernel_rfl) rfl (fun KK hK => ?_);have hbw2 : Below w.heap.size w w2 := HX1.out.2.trans (hb12.mono (Nat.le_of_lt hwl));refine step_append_mark rfl (.tmp 13) (.tmp 22) 66 rfl 0 5 i0 (.int .u8 0) 1 1 Tryz.underlying66 hinf hz0 hz1 hz2 rfl (by decide) (.slice a bl c) bl (bs.map (Value.int .u8)) (by simp [Act.eval]) (World.ownsRow.alloc (w := w2) ((Touch.of_below (S := fun _ => False) hbw2).row HR0.out (fun _ _ => id)) _) ⟨w2.heap.size, 0, none⟩ 3 3 [.int .u8 119, .int .u8 ((d : Int) % 256), .int .u8 ((nb : Int) % 256)] (by simp [Act.eval]) rfl (one_new w2 #[.int .u8 119, .int .u8 ((d : Int) % 256), .int .u8 ((nb : Int) % 256)] 5) (by intro u hu; simp at hu; rcases hu with rfl | rfl | rfl <;> rfl) (by decide) (by unfold maxLen; omega) (by omega) (by simp) ?_;intro v6 w6 H6;obtain ⟨r6, g6, dd6, _, q6, p6, hv6⟩ := H6.out
  have hb26 : Below w.heap.size w (w2.alloc (.cells #[.int .u8 119, .int .u8 ((d : Int) % 256), .int .u8 ((nb : Int) % 256)] 5)) := hbw2.alloc hbw2.size _;have hA6 : AppP w (.slice a bl c) w6 v6 := AppP.pre hb26 (AppP.of_mark g6 dd6 (Nat.le_refl _));have hO6 : OwnB w6 0 v6 (bs ++ [119, (d : Int) % 256, (nb : Int) % 256]) := OwnB.more (n := 3) (by rw [HBL.out.1]; exact r6) rfl
  have hX6 : w6.heap[w.heap.size]? = some (.cells #[.bool true, .slice ab 0 cb, .slice aw nb cw, .int .i64 (d : Nat)] 172 (0, 0)) := (g6.block w.heap.size (by simp; omega) (fun e => by
    have := (World.ownsRow.lt HR0.out _ e.symm).2
    omega)).trans ((Below.heap_alloc _ _ _ hwl2).trans ((hb12.block _ hwl).trans HX1.out.1))
  have h0 := H0.out;have HA6 : Hid (OutB W0 w6 v6 (bs ++ [119, (d : Int) % 256, (nb : Int) % 256]) /\ w6.heap[w.heap.size]? = some (.cells #[.bool true, .slice ab 0 cb, .slice aw nb cw, .int .i64 (d : Nat)] 172 (0, 0))) := ⟨h0.app hO6 hA6, hX6⟩;have z0 : w6.cell? ⟨w.heap.size, 0, none⟩ = some (.bool true) := cell_of_row _ _ 0 _ 172 (0, 0) hX6;have z1 : w6.cell? ⟨w.heap.size, 1, none⟩ = some (.slice ab 0 cb) := cell_of_row _ _ 1 _ 172 (0, 0) hX6;have z2 : w6.cell? ⟨w.heap.size, 2, none⟩ = some (.slice aw nb cw) := cell_of_row _ _ 2 _ 172 (0, 0) hX6;have z3 : w6.cell? ⟨w.heap.size, 3, none⟩ = some (.int .i64 (d : Nat)) := cell_of_row _ _ 3 _ 172 (0, 0) hX6;subst hv6;clear H6 r6 g6 dd6 hb26 hA6 hO6 hX6 h0 y0 y1 y2 y3 hbw2;refine hK.out _ _ ⟨z0, z1, z2, z3⟩ (fun hHeld => ?_);clear hK KK;try simp only [Act.put, sA, sB, sC]
  refine wpAnyS_lastL (i := 11) (by kernel_rfl) rfl (by kernel_rfl) (fun KK hK => ?_);go_simp;refine hK.out _ _ ?_;clear hK KK;try simp only [Act.put, sA, sB, sC]
  refine wpAnyS_done (by kernel_rfl) ?_ _;clear x0 x1 x2 x3 hHeld;have e1 : w6.cell? ⟨w.heap.size, 1, none⟩ = some (.slice ab 0 cb) := cell_of_row _ _ 1 _ 172 (0, 0) HA6.out.2;clear z0 z1 z2 z3 hHeld;go_wp2_with fail
  go_loopw [1, 28] (fun tv ti wr => tv = .slice (some ⟨q6, 0, none⟩) (bl + 3) p6 /\ ti = .int .i64 0 /\ Hid (w6 = wr)) (fun _ _ _ => 0)
  case atStart => exact ⟨rfl, rfl, rfl⟩
  case round =>
    obtain ⟨rfl, rfl, hw⟩ := hrel;have hw2 := hw.out;subst hw2;clear hw;have e2 : w6.cell? ⟨w.heap.size, 2, none⟩ = some (.slice aw nb cw) := cell_of_row _ _ 2 _ 172 (0, 0) HA6.out.2;go_wp2_with fail
    go_loopw [1, 40] (fun tv ti wr => ∃ (j : Nat) (aj : Option Addr) (cj : Nat) (Lj : List Int), tv = .slice aj Lj.length cj /\ ti = .int .i64 j /\ j <= nb /\ Hid (Lj = bs ++ [119, (d : Int) % 256, (nb : Int) % 256] ++ wrdB (k.e.ww.take j)) /\ Lj.length <= bl + 3 + 9 * j /\ Hid (OutB W0 wr (.slice aj Lj.length cj) Lj /\ wr.heap[w.heap.size]? = some (.cells #[.bool true, .slice ab 0 cb, .slice aw nb cw, .int .i64 (d : Nat)] 172 (0, 0)))) (fun _ ti _ => nb - (intOf ti).toNat)
    case atStart =>
      have hl6 : (bs ++ [119, (d : Int) % 256, (nb : Int) % 256]).length = bl + 3 := (by rw [List.length_append, HBL.out.1]; rfl);refine ⟨0, some ⟨q6, 0, none⟩, p6, bs ++ [119, (d : Int) % 256, (nb : Int) % 256], by rw [hl6], rfl, Nat.zero_le _, ?_, by omega, ?_⟩;show _ = _;rw [List.take_zero]; simp [wrdB];rw [hl6]; exact HA6.out
    case round =>
      clear HA6 e2 e1;obtain ⟨j, aj, cj, Lj, rfl, rfl, hj, HLJ, hlj, HR⟩ := hrel;have hwr : w.heap.size < wr.heap.size := (Array.getElem?_eq_some_iff.1 HR.out.2).1
      by_cases hjl : j < nb
      · have hjL : j < k.e.ww.length := (by rw [HBL.out.2]; exact hjl);have hIw : OwnS wr 0 (.slice aw nb cw) k.e.ww := HI.out.below HR.out.1.bl;obtain ⟨q, hq, hql, y0⟩ := hIw.atW HBL.out.2 hjl ⟨#[]⟩;subst hq;have hrg : (k.e.ww.getD j ⟨#[]⟩).size <= 8 := HRg.out _ (by simp [List.getD, hjL]);have HX : Hid (bs ++ [119, (d : Int) % 256, (nb : Int) % 256] ++ wrdB (k.e.ww.take (j + 1)) = (Lj ++ [(((k.e.ww.getD j ⟨#[]⟩).size : Nat) : Int) % 256]) ++ bytesL (k.e.ww.getD j ⟨#[]⟩)) := by show _ = _;rw [wrdB_take hjL ⟨#[]⟩, HLJ.out];simp
        clear hIw;generalize k.e.ww.getD j ⟨#[]⟩ = x at *;obtain ⟨ll, hll⟩ : ∃ ll, ll = Lj.length := ⟨_, rfl⟩;have HLL : Hid (ll = Lj.length) := hll;rw [<- hll] at HR hlj ⊢;clear hll;have HROW : Hid (wr.ownsRow 0 5 1 (.slice aj ll cj) ll (Lj.map (Value.int .u8))) := (by have h1 := HR.out.1.ow; unfold OwnB at h1; rw [<- HLL.out] at h1; exact h1);have bk1 : (0 : Int) <= (j : Int) := (by omega);have bk2 : (j : Int) < (nb : Int) := (by omega);have HRX : Hid (x.size <= 8) := hrg;clear hrg;obtain ⟨sx, hsx⟩ : ∃ sx, sx = x.size := ⟨_, rfl⟩;have HSX : Hid (sx = x.size) := hsx;clear hsx
        go_wp2_with (at_builtin; refine wpList_append_mark rfl (.tmp 44) (.tmp 48) 66 rfl 0 5 i0 (.int .u8 0) 1 1 Tryz.underlying66 hinf hz0 hz1 hz2 rfl (by decide) _ ll (Lj.map (Value.int .u8)) rfl (HROW.out.alloc _) ⟨wr.heap.size, 0, none⟩ 1 1 [.int .u8 (((x.size : Nat) : Int) % 256)] rfl rfl (one_new wr #[.int .u8 (((x.size : Nat) : Int) % 256)] 5) (by intro u hu; simp at hu; subst hu; rfl) (by decide) (by unfold maxLen; omega) (by omega) (by simp) ?_)
        intro v4 w4 H4;obtain ⟨r4, g4, d4, _, q4, p4, hv4⟩ := H4.out;have hO4 : OwnB w4 0 v4 (Lj ++ [((x.size : Nat) : Int) % 256]) := OwnB.more (n := 1) (by rw [<- HLL.out]; exact r4) rfl;have hA4 : AppP wr (.slice aj ll cj) w4 v4 := AppP.pre ((Below.refl _ _).alloc (Nat.le_refl _) _) (AppP.of_mark g4 d4 (by simp));have hX4 := hA4.1.at_ HR.out.2 (fun e => row_ne HROW.out e HR.out.2 (by decide) rfl);have hout4 := HR.out.1.app hO4 hA4;subst hv4;have HO4 : Hid (OutB W0 w4 (.slice (some ⟨q4, 0, none⟩) (ll + 1) p4) (Lj ++ [((x.size : Nat) : Int) % 256]) /\ w4.heap[w.heap.size]? = some (.cells #[.bool true, .slice ab 0 cb, .slice (some ⟨q, 0, none⟩) nb cw, .int .i64 (d : Nat)] 172 (0, 0))) := ⟨hout4, hX4⟩
        have HRW4 : Hid (w4.ownsRow W0.heap.size 5 1 (.slice (some ⟨q4, 0, none⟩) (ll + 1) p4) (ll + 1) ((Lj ++ [((x.size : Nat) : Int) % 256]).map (Value.int .u8))) := by have h1 := hout4.own;unfold OwnB at h1;rw [List.length_append, <- HLL.out] at h1;exact h1
        have hs4 : W0.heap.size <= w4.heap.size := hout4.bl.size;have hb0 : x.size <= 8 -> True := fun _ => trivial;clear H4 r4 g4 d4 hO4 hA4 hX4 hout4 HROW HR y0 hb0;obtain ⟨L4, hL4⟩ : ∃ L4, L4 = Lj ++ [((x.size : Nat) : Int) % 256] := ⟨_, rfl⟩;rw [<- hL4] at HO4 HRW4 HX;have HL4 : Hid (L4.length = ll + 1) := (by show _ = _; rw [hL4, List.length_append, HLL.out]; rfl);clear hL4;go_wp2_with (at_builtin; refine Go.Lib.wpList_append_own_string _ rfl (.tmp 50) (.tmp 51) 66 9 rfl W0.heap.size 5 i0 Tryz.underlying66 Tryz.underlying9 hinf hz0 hz1 hz2 _ (ll + 1) (L4.map (Value.int .u8)) rfl HRW4.out x rfl (by have := HRX.out; unfold maxLen; omega) (by have := HRX.out; omega) hs4 ?_)
        intro v5 w5 r5 g5 d5;have hO5 : OwnB w5 W0.heap.size v5 (L4 ++ bytesL x) := by unfold OwnB;rw [List.length_append, HL4.out, bytesL_lenW, List.map_append, <- strCells_bytes];exact r5
        obtain ⟨a5, c5, rfl⟩ := hO5.form;have T : Touch (fun z => (Value.slice (some ⟨q4, 0, none⟩) (ll + 1) p4).ownBlock = some z) w4 w5 := (Touch.refl _ w4).grown g5 (fun k hk _ => hk);have hX5 := T.at_ HO4.out.2 (fun e => row_ne HRW4.out e HO4.out.2 (by decide) rfl);have hB5 : Below W0.heap.size W0 w5 := HO4.out.1.bl.trans (T.to_below hs4 (fun z hz => HO4.out.1.nw z hz));have HN : Hid (OutB W0 w5 (.slice a5 (L4 ++ bytesL x).length c5) (L4 ++ bytesL x) /\ w5.heap[w.heap.size]? = some (.cells #[.bool true, .slice ab 0 cb, .slice (some ⟨q, 0, none⟩) nb cw, .int .i64 (d : Nat)] 172 (0, 0))) := ⟨OutB.of_own hB5 hO5, hX5⟩;have HLN : Hid ((L4 ++ bytesL x).length <= bl + 3 + 9 * (j + 1)) := (by show _ <= _; rw [List.length_append, HL4.out, bytesL_lenW]; have := HRX.out; omega);clear r5 g5 d5 hO5 T hX5 hB5 HO4 HRW4;generalize L4 ++ bytesL x = L5 at *;go_wp2;go_roundw
        case rel => exact ⟨j + 1, a5, c5, L5, rfl, by go_num, by omega, HX.out.symm, HLN.out, HN.out⟩
        case measure => simp [intOf]; omega
      have hnj : ¬ (j : Int) < (nb : Int) := (by omega);have hjk : k.e.ww.take j = k.e.ww := List.take_of_length_le (by have := HBL.out.2; omega);have hLe : Lj = bs ++ knWB k := (by rw [HLJ.out, hjk, HKB.out, List.append_assoc]);have HF : Hid (OutB W0 wr (.slice aj Lj.length cj) Lj /\ Lj = bs ++ knWB k) := ⟨HR.out.1, hLe⟩;clear hjk hLe HLJ HR;go_wp2;go_ret;refine ⟨aj, cj, ?_, ?_⟩;rw [<- HF.out.2]; rfl;rw [<- HF.out.2]; exact HF.out.1
end Go.Proofs.YtfcgnpchbcmdeaaGreat
