import Derived.Test.YtfcgnpchbcmdeaaGreatZtax
import Derived.Test.YtfcgnpchbcmdeaaGreatZtau
namespace Go.Proofs.YtfcgnpchbcmdeaaGreat
open Go.RowKit
structure GrpK (w : World) (K : Nat -> Prop) (gb : Nat) (vf vo : Value) (G : GS) : Prop where
  blk : w.heap[gb]? = some (.cells #[vf, vo, .int .i64 (G.conf : Nat), .int .i64 (G.bins : Nat)] 351 (0, 0))
  fs : OwnI w 0 vf (natI G.fs)
  out : OwnO w 0 vo G.out
  kg : K gb
  kf : ∀ k, vf.ownBlock = some k -> K k
  ko : ∀ k, vo.ownBlock = some k -> K k
  kl : ∀ k, K k -> k < w.heap.size
def GrpW (w : World) (K : Nat -> Prop) (gb : Nat) (G : GS) : Prop := ∃ vf vo, GrpK w K gb vf vo G
theorem GrpK.touch {S : Nat -> Prop} {w w' : World} {K : Nat -> Prop} {gb : Nat} {vf vo : Value} {G : GS} (h : GrpK w K gb vf vo G) (t : Touch S w w') (hs : ∀ k, K k -> ¬ S k) : GrpK w' K gb vf vo G :=
  ⟨t.at_ h.blk (hs _ h.kg), t.row h.fs (fun k hk => hs k (h.kf k hk)), t.row h.out (fun k hk => hs k (h.ko k hk)), h.kg, h.kf, h.ko, fun k hk => Nat.lt_of_lt_of_le (h.kl k hk) t.size⟩
theorem GrpW.touch {S : Nat -> Prop} {w w' : World} {K : Nat -> Prop} {gb : Nat} {G : GS} (h : GrpW w K gb G) (t : Touch S w w') (hs : ∀ k, K k -> ¬ S k) : GrpW w' K gb G := by obtain ⟨vf, vo, h⟩ := h;exact ⟨vf, vo, h.touch t hs⟩
def orL (a b : List Bool) : List Bool := List.zipWith (fun x y => x || y) a b
def addG (G : GS) (f : Nat) (L : List Bool) (bins : Nat) : GS := ⟨G.fs ++ [f], orL G.out L, G.conf + confN G.out L, G.bins + bins⟩
theorem natI_append (a b : List Nat) : natI (a ++ b) = natI a ++ natI b := by simp [natI]
def orK (a b : List Bool) (k : Nat) : List Bool := (orL a b).take k ++ a.drop k
theorem orL_len {a b : List Bool} (h : a.length = b.length) : (orL a b).length = a.length := by simp [orL, h]
theorem orK_len {a b : List Bool} (h : a.length = b.length) {k : Nat} (hk : k <= a.length) : (orK a b k).length = a.length := by have := orL_len h;simp [orK]; omega
theorem orK_at {a b : List Bool} (h : a.length = b.length) {k : Nat} (hk : k < a.length) : (orK a b k).getD k false = a.getD k false := by have h1 := orL_len h;simp [orK, List.getD, List.getElem?_append_right, h1, Nat.min_eq_left (Nat.le_of_lt hk)]
theorem orK_set {a b : List Bool} (h : a.length = b.length) {k : Nat} (hk : k < a.length) : (orK a b k).set k (a.getD k false || b.getD k false) = orK a b (k + 1) := by have h1 := orL_len h;have hb : k < b.length := (by omega);have h2 : (orL a b)[k]'(by omega) = (a.getD k false || b.getD k false) := (by simp [orL, List.getD, hk, hb]);unfold orK;rw [List.take_succ_eq_append_getElem (by omega), h2, List.append_assoc, List.drop_eq_getElem_cons hk, List.set_append_right _ _ (by simp; omega)];have : k - (List.take k (orL a b)).length = 0 := (by simp; omega);rw [this];rfl
set_option maxRecDepth 100000 in
set_option maxHeartbeats 4000000 in
theorem add_any (K : Nat -> Prop) (gb f bins : Nat) (vf vo : Value) (va : Option Addr) (n c : Nat) (L : List Bool) (G : GS) (w : World) (hG : GrpK w K gb vf vo G) (hv : OwnO w 0 (.slice va n c) L) (hO : G.out.length = n) (hL : L.length = n) (hn : n <= 200) (hc : G.conf <= 1000) (hb : G.bins <= 1000) (hb2 : bins <= 1000) (hf : G.fs.length <= 1000) (hva : ∀ k, (Value.slice va n c).ownBlock = some k -> ¬ K k) : Calls Tryz.prog 256 #[.pointer (some ⟨gb, 0, none⟩), .int .i64 f, .slice va n c, .int .i64 bins] w fun e w' => e = .returned (.tuple #[]) /\ (∃ K', GrpW w' K' gb (addG G f L bins) /\ ∀ k, K' k -> K k ∨ w.heap.size <= k) /\ Touch K w w' := by
  obtain ⟨oa, oc, hvo⟩ := hG.out.shape;rw [hO] at hvo;subst hvo;obtain ⟨fa, fc, hvf⟩ := hG.fs.shape;rw [natI_len] at hvf;subst hvf;have hc1 : w.cell? ⟨gb, 1, none⟩ = some (.slice oa n oc) := cell_of_row _ _ 1 _ 351 (0, 0) hG.blk;have hc2 : w.drew.cell? ⟨gb, 2, none⟩ = some (.int .i64 (G.conf : Nat)) := cell_of_row _ _ 2 _ 351 (0, 0) hG.blk;have hcn := cntT_le (bothL G.out L);rw [bothL_len (by omega), hL] at hcn;have hcn2 : confN G.out L <= 200 := (by unfold confN; omega);have HCW : Hid (Calls Tryz.prog 297 #[.pointer (some ⟨gb, 0, none⟩), .slice va n c] w.drew fun e w' => e = .returned (.int .i64 (confN G.out L : Nat)) /\ w' = w.drew) := conflictsWith_any gb va oa n c oc L G.out w.drew hc1 hG.out hv hO hL hn;have HG : Hid (GrpK w K gb (.slice fa G.fs.length fc) (.slice oa n oc) G) := hG
  have HV : Hid (OwnO w 0 (.slice va n c) L /\ L.length = n /\ G.out.length = n /\ ∀ k, (Value.slice va n c).ownBlock = some k -> ¬ K k) := ⟨hv, hL, hO, hva⟩;have hfr : ∀ o, w.frozen? ⟨gb, o, none⟩ = false := fun o => frozen_of_row _ _ o _ 351 hG.blk;have hf2 : w.drew.frozen? ⟨gb, 2, none⟩ = false := hfr 2;clear hG hv hL hO hva hc1 hfr;go_enter Tryz.func256, Tryz.ntmps256
  go_upto_region 0 with fail
  refine wp_region_S (fun w' => w'.cell? ⟨gb, 2, none⟩ = some (.int .i64 (G.conf : Nat))) 10 (by kernel_rfl) hc2 (fun hHeld => ?_);refine tkL [1, 2, 3, 7, 8, 9, 10] (i := 0) (v := ?_) (hy := Or.inl ⟨by rfl, ?_⟩) (h := ?_)
  rotate_left;· intro w hSw;(try dsimp only at hSw);go_simp;try with_reducible rfl
  try simp only [Act.put, sA, sB, sC]
  refine tkL [2, 3, 7, 8, 9, 10] (i := 1) (v := ?_) (hy := Or.inl ⟨by rfl, ?_⟩) (h := ?_)
  rotate_left;· intro w hSw;(try dsimp only at hSw);go_simp;try with_reducible rfl
  try simp only [Act.put, sA, sB, sC]
  refine tkL [3, 7, 8, 9, 10] (i := 2) (v := ?_) (hy := Or.inl ⟨by rfl, ?_⟩) (h := ?_)
  rotate_left;· intro w hSw;(try dsimp only at hSw);go_simp;try with_reducible rfl
  try simp only [Act.put, sA, sB, sC]
  refine tkL [7, 8, 9, 10] (i := 3) (v := ?_) (hy := Or.inl ⟨by rfl, ?_⟩) (h := ?_)
  rotate_left;· intro w hSw;(try dsimp only at hSw);go_simp;try with_reducible rfl
  try simp only [Act.put, sA, sB, sC]
  refine tkL [6, 7, 8, 9, 10] (i := 4) (v := ?_) (hy := Or.inl ⟨by rfl, ?_⟩) (h := ?_)
  rotate_left;· intro w hSw;(try dsimp only at hSw);go_simp;try with_reducible rfl
  try simp only [Act.put, sA, sB, sC]
  refine tkL [6, 7, 8, 9, 10] (i := 5) (v := ?_) (hy := Or.inl ⟨by rfl, ?_⟩) (h := ?_)
  rotate_left;· intro w hSw;(try dsimp only at hSw);go_simp;try with_reducible rfl
  try simp only [Act.put, sA, sB, sC]
  refine wpAnyS_oneL (i := 6) (by kernel_rfl) rfl (fun KK hK => ?_);go_simp;refine (HCW.out).mono ?_;rintro e w' ⟨rfl, rfl⟩;go_simp;refine hK.out _ _ hc2 (fun hHeld => ?_);clear hK KK;try simp only [Act.put, sA, sB, sC]
  refine tkL [8, 9, 10] (i := 7) (v := ?_) (hy := Or.inl ⟨by rfl, ?_⟩) (h := ?_)
  rotate_left;· intro w hSw;(try dsimp only at hSw);go_simp;try with_reducible rfl
  try simp only [Act.put, sA, sB, sC]
  refine tkL [9, 10] (i := 8) (v := ?_) (hy := Or.inl ⟨by rfl, ?_⟩) (h := ?_)
  rotate_left;· intro w hSw;(try dsimp only at hSw);go_simp;try with_reducible rfl
  try simp only [Act.put, sA, sB, sC]
  refine tkL [10] (i := 9) (v := ?_) (hy := Or.inl ⟨by rfl, ?_⟩) (h := ?_)
  rotate_left;· intro w hSw;(try dsimp only at hSw);go_simp;try with_reducible rfl
  try simp only [Act.put, sA, sB, sC]
  refine wpAnyS_lastL (i := 10) (by kernel_rfl) rfl (by kernel_rfl) (fun KK hK => ?_);go_simp;refine hK.out _ _ ?_;clear hK KK;try simp only [Act.put, sA, sB, sC]
  refine wpAnyS_done (by kernel_rfl) ?_ _;rw [wrapI (by omega) (by omega)];obtain ⟨w1, hw1⟩ : ∃ w1, w1 = (w.setCell ⟨gb, 2, none⟩ (.int .i64 ((G.conf : Int) + (confN G.out L : Int)))).drew := ⟨_, rfl⟩;rw [<- hw1];have t1 : Touch K w w1 := by rw [hw1]; exact ((Touch.refl K w).setCell (p := ⟨gb, 2, none⟩) (fun _ => HG.out.kg) _).drew
  have hG1 : GrpK w1 K gb (.slice fa G.fs.length fc) (.slice oa n oc) { G with conf := G.conf + confN G.out L } := by rw [hw1];refine ⟨?_, ?_, ?_, HG.out.kg, HG.out.kf, HG.out.ko, fun k hk => by simpa using HG.out.kl k hk⟩;exact heap_setCell_same w gb 2 _ 351 _ HG.out.blk;exact own_put' HG.out.fs HG.out.blk (by decide);exact own_put' HG.out.out HG.out.blk (by decide)
  have HG1 : Hid (GrpK w1 K gb (.slice fa G.fs.length fc) (.slice oa n oc) { G with conf := G.conf + confN G.out L }) := hG1;have HT1 : Hid (Touch K w w1) := t1;have HKL : Hid (∀ k, K k -> k < w.heap.size) := HG.out.kl;have c0 : w1.cell? ⟨gb, 0, none⟩ = some (.slice fa G.fs.length fc) := cell_of_row _ _ 0 _ 351 (0, 0) hG1.blk;have hgl : gb < w1.heap.size := hG1.kl gb hG1.kg;have hs1 := t1.size;clear hw1 t1 hG1 HG HCW hc2 hf2 hHeld;go_wp2_with (at_builtin; refine wpList_append_int rfl (.tmp 24) (.tmp 26) rfl 0 _ (natI G.fs) f rfl (HG1.out.fs.alloc _) w1.heap.size 1 rfl ?_ ?_ ?_ ?_)
  simp [go_sem];rw [natI_len]; omega;simp;intro v3 w3 H3;obtain ⟨q1, q2, q3⟩ := H3.out;have hb3 : w3.heap[gb]? = some (.cells #[.slice fa G.fs.length fc, .slice oa n oc, .int .i64 ((G.conf + confN G.out L : Nat) : Int), .int .i64 (G.bins : Nat)] 351 (0, 0)) := (by rw [q2.block gb (by simp; omega) (fun e => row_ne HG1.out.fs e.symm HG1.out.blk (by decide) rfl)];exact (Below.heap_alloc w1 _ gb hgl).trans HG1.out.blk);have ho3 : OwnO w3 0 (.slice oa n oc) G.out := World.ownsRow.kept (HG1.out.out.alloc _) q2 (types_apart (HG1.out.fs.alloc (.cells #[.int .i64 f] 3)) (HG1.out.out.alloc (.cells #[.int .i64 f] 3)) (by decide));have t3 : Touch K w w3 := by have ta : Touch K w1 (w1.alloc (.cells #[.int .i64 f] 3)) := (Touch.refl K w1).alloc _;exact HT1.out.trans (ta.grown q2 (fun k hk _ => HG1.out.kf k hk))
  obtain ⟨fa3, fc3, hv3⟩ := q1.shape;rw [List.length_append, natI_len] at hv3;simp only [List.length_cons, List.length_nil, Nat.zero_add] at hv3;subst hv3;have hg3 : gb < w3.heap.size := (Array.getElem?_eq_some_iff.1 hb3).1;have HB3 : Hid (w3.heap[gb]? = some (.cells #[.slice fa G.fs.length fc, .slice oa n oc, .int .i64 ((G.conf + confN G.out L : Nat) : Int), .int .i64 (G.bins : Nat)] 351 (0, 0)) /\ OwnO w3 0 (.slice oa n oc) G.out /\ Touch K w w3 /\ OwnI w3 0 (.slice fa3 (G.fs.length + 1) fc3) (natI G.fs ++ [(f : Int)])) := ⟨hb3, ho3, t3, q1⟩
  have HK3 : Hid (∀ k, (Value.slice fa3 (G.fs.length + 1) fc3).ownBlock = some k -> K k ∨ w.heap.size <= k) := fun k hk => by
    rcases q3 with e | e
    exact .inl (HG1.out.kf k (e ▸ hk));rw [e.1] at hk;injection hk with hk;exact .inr (by rw [<- hk]; omega)
  have HKG : Hid (K gb /\ ∀ k, (Value.slice oa n oc).ownBlock = some k -> K k) := ⟨HG1.out.kg, HG1.out.ko⟩;have c30 : w3.cell? ⟨gb, 0, none⟩ = some (.slice fa G.fs.length fc) := cell_of_row _ _ 0 _ 351 (0, 0) hb3;have f30 : w3.frozen? ⟨gb, 0, none⟩ = false := frozen_of_row _ _ 0 _ 351 hb3;have c33 : w3.cell? ⟨gb, 3, none⟩ = some (.int .i64 (G.bins : Nat)) := cell_of_row _ _ 3 _ 351 (0, 0) hb3;have f33 : w3.frozen? ⟨gb, 3, none⟩ = false := frozen_of_row _ _ 3 _ 351 hb3;clear H3 q1 q2 q3 hb3 ho3 t3 HG1 HT1 c0;go_wp2_with fail
  go_loopw [40] (fun ti wr => ∃ k : Nat, ti = .int .i64 k /\ k <= n /\ Hid (wr.heap[gb]? = some (.cells #[.slice fa3 (G.fs.length + 1) fc3, .slice oa n oc, .int .i64 ((G.conf + confN G.out L : Nat) : Int), .int .i64 ((G.bins : Int) + (bins : Int))] 351 (0, 0)) /\ OwnO wr 0 (.slice oa n oc) (orK G.out L k) /\ Touch K w wr /\ OwnI wr 0 (.slice fa3 (G.fs.length + 1) fc3) (natI G.fs ++ [(f : Int)]))) (fun ti _ => n - (intOf ti).toNat)
  case atStart =>
    obtain ⟨p1, p2, p3, p4⟩ := HB3.out;refine ⟨0, rfl, Nat.zero_le _, ?_, ?_, ?_, ?_⟩;exact heap_setCell_same _ gb 3 _ 351 _ (heap_setCell_same _ gb 0 _ 351 _ p1);have e : orK G.out L 0 = G.out := (by simp [orK]);rw [e];exact own_put' (own_put' p2 p1 (by decide)) (heap_setCell_same _ gb 0 _ 351 _ p1) (by decide);exact (p3.setCell (p := ⟨gb, 0, none⟩) (fun _ => HKG.out.1) _).setCell (p := ⟨gb, 3, none⟩) (fun _ => HKG.out.1) _;exact own_put' (own_put' p4 p1 (by decide)) (heap_setCell_same _ gb 0 _ 351 _ p1) (by decide)
  case round =>
    clear HB3 c30 f30 c33 f33;obtain ⟨k, rfl, hk, HR⟩ := hrel
    by_cases hkn : k < n
    · obtain ⟨hblk, hout, ht, hfs⟩ := HR.out;have hlen : G.out.length = L.length := (by have := HV.out; omega);obtain ⟨q, hoa, hql, _, d1, fq⟩ := hout.atK (k := k) (by rw [orK_len hlen (by have := HV.out; omega)]; exact HV.out.2.2.1) hkn;subst hoa;have hL2 : OwnO wr 0 (.slice va n c) L := ht.row HV.out.1 HV.out.2.2.2;obtain ⟨q2, hva2, hql2, _, d2, _⟩ := hL2.atK HV.out.2.1 hkn;subst hva2;rw [orK_at hlen (by have := HV.out; omega)] at d1;have c1 : wr.drew.cell? ⟨gb, 1, none⟩ = some (.slice (some ⟨q, 0, none⟩) n oc) := cell_of_row _ _ 1 _ 351 (0, 0) hblk;have HSET : Hid ((orK G.out L k).set k (G.out.getD k false || L.getD k false) = orK G.out L (k + 1)) := orK_set hlen (by have := HV.out; omega);have HLN : Hid (n = (orK G.out L k).length) := by rw [orK_len hlen (by have := HV.out; omega)]; exact HV.out.2.2.1.symm
      have hgq : gb ≠ q := fun e => by
        rcases hout.2 with ⟨e2, _⟩ | ⟨g, cap, cur, e2, _, hh, _⟩
        · cases e2
        injection e2 with e2;injection e2 with e2;injection e2 with e2;rw [e, e2, hh] at hblk;simp at hblk
      have HBF : Hid (wr.heap[gb]? = some (.cells #[.slice fa3 (G.fs.length + 1) fc3, .slice (some ⟨q, 0, none⟩) n oc, .int .i64 ((G.conf + confN G.out L : Nat) : Int), .int .i64 ((G.bins : Int) + (bins : Int))] 351 (0, 0)) /\ OwnO wr 0 (.slice (some ⟨q, 0, none⟩) n oc) (orK G.out L k) /\ Touch K w wr /\ OwnI wr 0 (.slice fa3 (G.fs.length + 1) fc3) (natI G.fs ++ [(f : Int)])) := ⟨hblk, hout, ht, hfs⟩;have d1' : wr.drew.cell? ⟨q, k, none⟩ = some (.bool (G.out.getD k false)) := d1;have fq' : wr.drew.frozen? ⟨q, k, none⟩ = false := fq;have bk1 : (0 : Int) <= (k : Int) := (by omega);have bk2 : (k : Int) < (n : Int) := by omega
      have HNXT : Hid (∀ z, z = (G.out.getD k false || L.getD k false) -> (wr.setCell ⟨q, k, none⟩ (.bool z)).drew.heap[gb]? = some (.cells #[.slice fa3 (G.fs.length + 1) fc3, .slice (some ⟨q, 0, none⟩) n oc, .int .i64 ((G.conf + confN G.out L : Nat) : Int), .int .i64 ((G.bins : Int) + (bins : Int))] 351 (0, 0)) /\ OwnO (wr.setCell ⟨q, k, none⟩ (.bool z)).drew 0 (.slice (some ⟨q, 0, none⟩) n oc) (orK G.out L (k + 1)) /\ Touch K w (wr.setCell ⟨q, k, none⟩ (.bool z)).drew /\ OwnI (wr.setCell ⟨q, k, none⟩ (.bool z)).drew 0 (.slice fa3 (G.fs.length + 1) fc3) (natI G.fs ++ [(f : Int)])) := by
        rintro z rfl;obtain ⟨p1, p2⟩ := hout.put (k := k) HLN.out (G.out.getD k false || L.getD k false);rw [HSET.out] at p1;refine ⟨?_, p1, (ht.setCell (p := ⟨q, k, none⟩) (fun _ => HKG.out.2 q rfl) _).drew, ?_⟩;exact (p2.block gb (Array.getElem?_eq_some_iff.1 hblk).1 (fun e => hgq (by injection e))).trans hblk;exact World.ownsRow.drew (OwnI.kept hfs p2 (types_apart hout hfs (by decide)))
      clear HR hblk hout ht hfs hL2 d1 fq HSET HLN HBF;generalize L.getD k false = b at *;generalize G.out.getD k false = d at *
      cases d with
      | true =>
        go_upto_region 6 with fail
        refine wp_region_S (fun w' => w'.cell? ⟨gb, 1, none⟩ = some (.slice (some ⟨q, 0, none⟩) n oc) /\ w'.cell? ⟨q, k, none⟩ = some (.bool true)) 16 (by kernel_rfl) ⟨c1, d1'⟩ (fun hHeld => ?_);refine tkL [1, 2, 3, 15, 16] (i := 0) (v := ?_) (hy := Or.inl ⟨by rfl, ?_⟩) (h := ?_)
        rotate_left;· intro w hSw;(try dsimp only at hSw);go_simp;try with_reducible rfl
        try simp only [Act.put, sA, sB, sC]
        refine tkL [2, 3, 15, 16] (i := 1) (v := ?_) (hy := Or.inl ⟨by rfl, ?_⟩) (h := ?_)
        rotate_left;· intro w hSw;(try dsimp only at hSw);go_simp;try with_reducible rfl
        try simp only [Act.put, sA, sB, sC]
        refine tkL [3, 15, 16] (i := 2) (v := ?_) (hy := Or.inl ⟨by rfl, ?_⟩) (h := ?_)
        rotate_left;· intro w hSw;(try dsimp only at hSw);go_simp;try with_reducible rfl
        try simp only [Act.put, sA, sB, sC]
        refine tkL [15, 16] (i := 3) (v := ?_) (hy := Or.inl ⟨by rfl, ?_⟩) (h := ?_)
        rotate_left
        · intro w hSw;try obtain ⟨_, _⟩ := hSw
          (try dsimp only at hSw)
          go_simp;try with_reducible rfl
        try simp only [Act.put, sA, sB, sC]
        refine tkL [15, 16] (i := 4) (v := ?_) (hy := Or.inl ⟨by rfl, ?_⟩) (h := ?_)
        rotate_left;· intro w hSw;(try dsimp only at hSw);go_simp;try with_reducible rfl
        try simp only [Act.put, sA, sB, sC]
        refine tkL [6, 7, 8, 10, 11, 12, 13, 14, 15, 16] (i := 5) (v := ?_) (hy := Or.inl ⟨by rfl, ?_⟩) (h := ?_)
        rotate_left;· intro w hSw;(try dsimp only at hSw);go_simp;try with_reducible rfl
        try simp only [Act.put, sA, sB, sC]
        refine tkL [7, 8, 10, 11, 12, 13, 14, 15, 16] (i := 6) (v := ?_) (hy := Or.inl ⟨by rfl, ?_⟩) (h := ?_)
        rotate_left;· intro w hSw;(try dsimp only at hSw);go_simp;try with_reducible rfl
        try simp only [Act.put, sA, sB, sC]
        refine tkL [8, 10, 11, 12, 13, 14, 15, 16] (i := 7) (v := ?_) (hy := Or.inl ⟨by rfl, ?_⟩) (h := ?_)
        rotate_left;· intro w hSw;(try dsimp only at hSw);go_simp;try with_reducible rfl
        try simp only [Act.put, sA, sB, sC]
        refine tkL [10, 11, 12, 13, 14, 15, 16] (i := 8) (v := ?_) (hy := Or.inl ⟨by rfl, ?_⟩) (h := ?_)
        rotate_left
        · intro w hSw;try obtain ⟨_, _⟩ := hSw
          (try dsimp only at hSw)
          go_simp;try with_reducible rfl
        try simp only [Act.put, sA, sB, sC]
        refine tkL [10, 11, 12, 13, 14, 15, 16] (i := 9) (v := ?_) (hy := Or.inl ⟨by rfl, ?_⟩) (h := ?_)
        rotate_left;· intro w hSw;(try dsimp only at hSw);go_simp;try with_reducible rfl
        try simp only [Act.put, sA, sB, sC]
        refine tkL [11, 12, 13, 14, 15, 16] (i := 10) (v := ?_) (hy := Or.inl ⟨by rfl, ?_⟩) (h := ?_)
        rotate_left;· intro w hSw;(try dsimp only at hSw);go_simp;try with_reducible rfl
        try simp only [Act.put, sA, sB, sC]
        refine tkL [12, 13, 14, 15, 16] (i := 11) (v := ?_) (hy := Or.inl ⟨by rfl, ?_⟩) (h := ?_)
        rotate_left
        · intro w hSw;try obtain ⟨_, _⟩ := hSw
          (try dsimp only at hSw)
          go_simp;try with_reducible rfl
        try simp only [Act.put, sA, sB, sC]
        refine tkL [13, 14, 15, 16] (i := 12) (v := ?_) (hy := Or.inl ⟨by rfl, ?_⟩) (h := ?_)
        rotate_left;· intro w hSw;(try dsimp only at hSw);go_simp;try with_reducible rfl
        try simp only [Act.put, sA, sB, sC]
        refine wpAnyS_takeL [14, 15, 16] (i := 13) (v := undef) rfl (by kernel_rfl) (by kernel_rfl) (by kernel_rfl) (by kernel_rfl) (by kernel_rfl) (fun _ _ _ h => h) (Or.inr ⟨by rfl, rfl⟩) (by assumption) ?_;try simp only [Act.put, sA, sB, sC]
        refine tkL [15, 16] (i := 14) (v := ?_) (hy := Or.inl ⟨by rfl, ?_⟩) (h := ?_)
        rotate_left;· intro w hSw;(try dsimp only at hSw);go_simp;try with_reducible rfl
        try simp only [Act.put, sA, sB, sC]
        refine tkL [16] (i := 15) (v := ?_) (hy := Or.inl ⟨by rfl, ?_⟩) (h := ?_)
        rotate_left;· intro w hSw;(try dsimp only at hSw);go_simp;try with_reducible rfl
        try simp only [Act.put, sA, sB, sC]
        refine wpAnyS_lastL (i := 16) (by kernel_rfl) rfl (by kernel_rfl) (fun KK hK => ?_);go_simp;refine hK.out _ _ ?_;clear hK KK;try simp only [Act.put, sA, sB, sC]
        refine wpAnyS_done (by kernel_rfl) ?_ _;have HF := HNXT.out true (by simp);have HFF : Hid _ := HF;clear HF HNXT hHeld c1 d1' fq';go_wp2
        go_roundw
        case rel => exact ⟨k + 1, by go_num, by omega, HFF⟩
        case measure => simp [intOf]; omega
      | false =>
        go_upto_region 6 with fail
        refine wp_region_S (fun w' => w'.cell? ⟨gb, 1, none⟩ = some (.slice (some ⟨q, 0, none⟩) n oc) /\ w'.cell? ⟨q, k, none⟩ = some (.bool false)) 16 (by kernel_rfl) ⟨c1, d1'⟩ (fun hHeld => ?_);refine tkL [1, 2, 3, 15, 16] (i := 0) (v := ?_) (hy := Or.inl ⟨by rfl, ?_⟩) (h := ?_)
        rotate_left;· intro w hSw;(try dsimp only at hSw);go_simp;try with_reducible rfl
        try simp only [Act.put, sA, sB, sC]
        refine tkL [2, 3, 15, 16] (i := 1) (v := ?_) (hy := Or.inl ⟨by rfl, ?_⟩) (h := ?_)
        rotate_left;· intro w hSw;(try dsimp only at hSw);go_simp;try with_reducible rfl
        try simp only [Act.put, sA, sB, sC]
        refine tkL [3, 15, 16] (i := 2) (v := ?_) (hy := Or.inl ⟨by rfl, ?_⟩) (h := ?_)
        rotate_left;· intro w hSw;(try dsimp only at hSw);go_simp;try with_reducible rfl
        try simp only [Act.put, sA, sB, sC]
        refine tkL [15, 16] (i := 3) (v := ?_) (hy := Or.inl ⟨by rfl, ?_⟩) (h := ?_)
        rotate_left
        · intro w hSw;try obtain ⟨_, _⟩ := hSw
          (try dsimp only at hSw)
          go_simp;try with_reducible rfl
        try simp only [Act.put, sA, sB, sC]
        refine tkL [15, 16] (i := 4) (v := ?_) (hy := Or.inl ⟨by rfl, ?_⟩) (h := ?_)
        rotate_left;· intro w hSw;(try dsimp only at hSw);go_simp;try with_reducible rfl
        try simp only [Act.put, sA, sB, sC]
        refine tkL [6, 7, 8, 10, 11, 12, 13, 14, 15, 16] (i := 5) (v := ?_) (hy := Or.inl ⟨by rfl, ?_⟩) (h := ?_)
        rotate_left;· intro w hSw;(try dsimp only at hSw);go_simp;try with_reducible rfl
        try simp only [Act.put, sA, sB, sC]
        refine tkL [7, 8, 10, 11, 12, 13, 14, 15, 16] (i := 6) (v := ?_) (hy := Or.inl ⟨by rfl, ?_⟩) (h := ?_)
        rotate_left;· intro w hSw;(try dsimp only at hSw);go_simp;try with_reducible rfl
        try simp only [Act.put, sA, sB, sC]
        refine tkL [8, 10, 11, 12, 13, 14, 15, 16] (i := 7) (v := ?_) (hy := Or.inl ⟨by rfl, ?_⟩) (h := ?_)
        rotate_left;· intro w hSw;(try dsimp only at hSw);go_simp;try with_reducible rfl
        try simp only [Act.put, sA, sB, sC]
        refine tkL [10, 11, 12, 13, 14, 15, 16] (i := 8) (v := ?_) (hy := Or.inl ⟨by rfl, ?_⟩) (h := ?_)
        rotate_left
        · intro w hSw;try obtain ⟨_, _⟩ := hSw
          (try dsimp only at hSw)
          go_simp;try with_reducible rfl
        try simp only [Act.put, sA, sB, sC]
        refine tkL [10, 11, 12, 13, 14, 15, 16] (i := 9) (v := ?_) (hy := Or.inl ⟨by rfl, ?_⟩) (h := ?_)
        rotate_left;· intro w hSw;(try dsimp only at hSw);go_simp;try with_reducible rfl
        try simp only [Act.put, sA, sB, sC]
        refine tkL [11, 12, 13, 14, 15, 16] (i := 10) (v := ?_) (hy := Or.inl ⟨by rfl, ?_⟩) (h := ?_)
        rotate_left;· intro w hSw;(try dsimp only at hSw);go_simp;try with_reducible rfl
        try simp only [Act.put, sA, sB, sC]
        refine tkL [12, 13, 14, 15, 16] (i := 11) (v := ?_) (hy := Or.inl ⟨by rfl, ?_⟩) (h := ?_)
        rotate_left
        · intro w hSw;try obtain ⟨_, _⟩ := hSw
          (try dsimp only at hSw)
          go_simp;try with_reducible rfl
        try simp only [Act.put, sA, sB, sC]
        refine tkL [13, 14, 15, 16] (i := 12) (v := ?_) (hy := Or.inl ⟨by rfl, ?_⟩) (h := ?_)
        rotate_left;· intro w hSw;(try dsimp only at hSw);go_simp;try with_reducible rfl
        try simp only [Act.put, sA, sB, sC]
        refine tkL [14, 15, 16] (i := 13) (v := ?_) (hy := Or.inl ⟨by rfl, ?_⟩) (h := ?_)
        rotate_left;· intro w hSw;(try dsimp only at hSw);go_simp;try with_reducible rfl
        try simp only [Act.put, sA, sB, sC]
        refine tkL [15, 16] (i := 14) (v := ?_) (hy := Or.inl ⟨by rfl, ?_⟩) (h := ?_)
        rotate_left;· intro w hSw;(try dsimp only at hSw);go_simp;try with_reducible rfl
        try simp only [Act.put, sA, sB, sC]
        refine tkL [16] (i := 15) (v := ?_) (hy := Or.inl ⟨by rfl, ?_⟩) (h := ?_)
        rotate_left;· intro w hSw;(try dsimp only at hSw);go_simp;try with_reducible rfl
        try simp only [Act.put, sA, sB, sC]
        refine wpAnyS_lastL (i := 16) (by kernel_rfl) rfl (by kernel_rfl) (fun KK hK => ?_);go_simp;refine hK.out _ _ ?_;clear hK KK;try simp only [Act.put, sA, sB, sC]
        refine wpAnyS_done (by kernel_rfl) ?_ _;have HF := HNXT.out b (by simp);have HFF : Hid _ := HF;clear HF HNXT hHeld c1 d1' fq';go_wp2
        go_roundw
        case rel => exact ⟨k + 1, by go_num, by omega, HFF⟩
        case measure => simp [intOf]; omega
    · have hnk : ¬ (k : Int) < (n : Int) := by omega
      have HF : Hid ((∃ K', GrpW wr K' gb (addG G f L bins) /\ ∀ k, K' k -> K k ∨ w.heap.size <= k) /\ Touch K w wr) := by
        obtain ⟨hblk, hout, ht, hfs⟩ := HR.out;have hlen : G.out.length = L.length := by have := HV.out; omega
        have e : orK G.out L k = orL G.out L := (by have := orL_len hlen;unfold orK;rw [List.take_of_length_le (by have := HV.out; omega), List.drop_eq_nil_of_le (by have := HV.out; omega), List.append_nil]);rw [e] at hout;refine ⟨⟨fun k => K k ∨ (Value.slice fa3 (G.fs.length + 1) fc3).ownBlock = some k, ⟨_, _, ⟨hblk, ?_, hout, .inl HKG.out.1, fun k hk => .inr hk, fun k hk => .inl (HKG.out.2 k hk), fun k hk => ?_⟩⟩, fun k hk => ?_⟩, ht⟩;show OwnI wr 0 _ (natI (G.fs ++ [f]));rw [natI_append]; exact hfs
        · rcases hk with hk | hk
          exact Nat.lt_of_lt_of_le (HKL.out k hk) ht.size;exact (World.ownsRow.lt hfs k hk).2
        · rcases hk with hk | hk
          exact .inl hk;exact HK3.out k hk
      clear HR;go_wp2
      go_end0
      exact ⟨rfl, HF.out.1, HF.out.2⟩
end Go.Proofs.YtfcgnpchbcmdeaaGreat

namespace Go.Proofs.YtfcgnpchbcmdeaaGreat
open Go.RowKit
def g0S : GS := ⟨[], [], 0, 0⟩
def ptrV (b : Nat) : Value := .pointer (some ⟨b, 0, none⟩)
structure GrpsX (w : World) (vG : Value) (gbs : List Nat) (Ks : Nat -> Nat -> Prop) (Gs : List GS) : Prop where
  row : w.ownsRow 0 313 1 vG Gs.length (gbs.map ptrV)
  len : gbs.length = Gs.length
  each : ∀ i, i < Gs.length -> GrpW w (Ks i) (gbs.getD i 0) (Gs.getD i g0S)
  apart : ∀ i j, i < Gs.length -> j < Gs.length -> i ≠ j -> ∀ k, Ks i k -> ¬ Ks j k
def roomG (L : List Bool) (bins budget : Nat) (G : GS) : Bool := decide (G.conf + confN G.out L <= budget) && decide (G.bins + bins <= 40)
structure GOk (n : Nat) (G : GS) : Prop where
  out : G.out.length = n
  conf : G.conf <= 1000
  bins : G.bins <= 1000
  fs : G.fs.length <= 1000
theorem GrpsX.at {w : World} {vG : Value} {gbs : List Nat} {Ks : Nat -> Nat -> Prop} {Gs : List GS} (h : GrpsX w vG gbs Ks Gs) {i : Nat} (hi : i < Gs.length) : ∃ q c, vG = .slice (some ⟨q, 0, none⟩) Gs.length c /\ q < w.heap.size /\ w.cell? ⟨q, i, none⟩ = some (ptrV (gbs.getD i 0)) := by
  have hr := h.row
  rcases h.row.2 with ⟨_, h0⟩ | ⟨g, cap, cur, e, hb, hh, hnc, _⟩
  omega;subst e;refine ⟨g, cap, rfl, (Array.getElem?_eq_some_iff.1 hh).1, ?_⟩;rw [World.ownsRow.cellAt hr i (by omega)];have := h.len;simp [List.getD, show i < gbs.length by omega]
theorem GrpsX.form {w : World} {vG : Value} {gbs : List Nat} {Ks : Nat -> Nat -> Prop} {Gs : List GS} (h : GrpsX w vG gbs Ks Gs) : ∃ a c, vG = .slice a Gs.length c := by
  rcases h.row.2 with ⟨rfl, h0⟩ | ⟨q, p, cur, rfl, _⟩
  exact ⟨none, 0, by rw [h0]⟩;exact ⟨_, _, rfl⟩
def fwrV (gbs : List Nat) (m : Nat) (i : Nat) : Value := if i < m then ptrV (gbs.getD i 0) else .pointer none
set_option maxRecDepth 100000 in
set_option maxHeartbeats 4000000 in
theorem firstWithRoom_any (ga va : Option Addr) (gc n c bins budget : Nat) (gbs : List Nat) (Ks : Nat -> Nat -> Prop) (Gs : List GS) (L : List Bool) (w : World) (hG : GrpsX w (.slice ga Gs.length gc) gbs Ks Gs) (hok : ∀ G ∈ Gs, GOk n G) (hv : OwnO w 0 (.slice va n c) L) (hL : L.length = n) (hn : n <= 200) (hb : bins <= 1000) (hgl : Gs.length <= 1000) : Calls Tryz.prog 255 #[.slice ga Gs.length gc, .slice va n c, .int .i64 bins, .int .i64 budget] w fun e w' => e = .returned (fwrV gbs Gs.length (Gs.findIdx (roomG L bins budget))) /\ Below w.heap.size w w' := by
  have HG : Hid (GrpsX w (.slice ga Gs.length gc) gbs Ks Gs) := hG;have HOK : Hid (∀ G ∈ Gs, GOk n G) := hok;have HV : Hid (OwnO w 0 (.slice va n c) L /\ L.length = n) := ⟨hv, hL⟩;obtain ⟨m, hm⟩ : ∃ m, m = Gs.length := ⟨_, rfl⟩;have HM : Hid (m = Gs.length) := hm;rw [<- hm] at hgl ⊢;clear hG hok hv hL hm;go_enter Tryz.func255, Tryz.ntmps255
  go_wp2_with fail
  go_loopw [13] (fun ti wr => ∃ k : Nat, ti = .int .i64 k /\ k <= m /\ Hid (∀ j, j < k -> roomG L bins budget (Gs.getD j g0S) = false) /\ ∃ d, wr = w.drewN d) (fun ti _ => m - (intOf ti).toNat)
  case atStart => exact ⟨0, rfl, Nat.zero_le _, fun j hj => by omega, 0, rfl⟩
  case round =>
    obtain ⟨k, rfl, hk, HN, d, rfl⟩ := hrel
    by_cases hkm : k < m
    · have hkl : k < Gs.length := (by rw [<- HM.out]; exact hkm);obtain ⟨q, gc', hga, hql, hcell⟩ := HG.out.at hkl;injection hga with hga _ hgc;subst hga hgc;obtain ⟨vf, vo, hK⟩ := HG.out.each k hkl;have hGk := HOK.out _ (show Gs.getD k g0S ∈ Gs by simp [List.getD, hkl]);have HDEF : Hid (roomG L bins budget (Gs.getD k g0S) = (decide ((Gs.getD k g0S).conf + confN (Gs.getD k g0S).out L <= budget) && decide ((Gs.getD k g0S).bins + bins <= 40))) := rfl
      have HFI : Hid (roomG L bins budget (Gs.getD k g0S) = true -> Gs.findIdx (roomG L bins budget) = k) := fun ht => by
        have e : Gs.getD k g0S = Gs[k] := (by simp [List.getD, hkl]);rw [e] at ht;rw [List.findIdx_eq hkl];refine ⟨ht, fun j hj => ?_⟩;have := HN.out j hj
        rwa [show Gs.getD j g0S = Gs[j]'(by omega) by simp [List.getD, show j < Gs.length by omega]] at this
      have HNX : Hid (roomG L bins budget (Gs.getD k g0S) = false -> ∀ j, j < k + 1 -> roomG L bins budget (Gs.getD j g0S) = false) := fun hf j hj => by
        by_cases e : j = k
        rw [e]; exact hf;exact HN.out j (by omega)
      generalize Gs.getD k g0S = G at *;obtain ⟨gb, hgb⟩ : ∃ gb, gb = gbs.getD k 0 := ⟨_, rfl⟩;have HGB : Hid (ptrV gb = ptrV (gbs.getD k 0)) := (by show _ = _; rw [hgb]);rw [<- hgb] at hK hcell;clear hgb;obtain ⟨oa, oc, hvo⟩ := hK.out.shape;rw [hGk.out] at hvo;subst hvo;have c1 : w.cell? ⟨gb, 1, none⟩ = some (.slice oa n oc) := cell_of_row _ _ 1 _ 351 (0, 0) hK.blk;have c2 : w.cell? ⟨gb, 2, none⟩ = some (.int .i64 (G.conf : Nat)) := cell_of_row _ _ 2 _ 351 (0, 0) hK.blk;have c3 : w.cell? ⟨gb, 3, none⟩ = some (.int .i64 (G.bins : Nat)) := cell_of_row _ _ 3 _ 351 (0, 0) hK.blk;have hcn := cntT_le (bothL G.out L);rw [bothL_len (by have := HV.out.2; have := hGk.out; omega), HV.out.2] at hcn;have hcn2 : confN G.out L <= 200 := (by unfold confN; omega);have hq1 := hGk.conf;have hq2 := hGk.bins
      have HCW : Hid (∀ e, Calls Tryz.prog 297 #[.pointer (some ⟨gb, 0, none⟩), .slice va n c] (w.drewN e) fun e' w' => e' = .returned (.int .i64 (confN G.out L : Nat)) /\ w' = w.drewN e) := fun e => conflictsWith_any gb va oa n c oc L G.out (w.drewN e) c1 hK.out HV.out.1 hGk.out HV.out.2 hn;clear hK hGk hcn c1;generalize confN G.out L = cf at *;generalize G.conf = gcf at *;generalize G.bins = gbn at *;unfold ptrV at hcell;have bk1 : (0 : Int) <= (k : Int) := (by omega);have bk2 : (k : Int) < (m : Int) := by omega
      by_cases h1 : gcf + cf <= budget
      · have g1 : decide ((gcf : Int) + (cf : Int) <= (budget : Int)) = true := by simp; omega
        by_cases h2 : gbn + bins <= 40
        · have g2 : decide ((gbn : Int) + (bins : Int) <= 40) = true := (by simp; omega);have HR : Hid (Gs.findIdx (roomG L bins budget) = k) := HFI.out (by rw [HDEF.out]; simp [h1, h2]);clear HFI HDEF h1 h2;go_upto_region 4 with fail
          go_quiet (first | (go_at_call 297; exact (HCW.out _).mono (fun _ _ h => ⟨h.1, _, h.2⟩)))
          go_wp2
          go_ret
          refine ⟨?_, below_drewN (Below.refl _ _) _⟩;rw [HR.out];unfold fwrV;rw [if_pos hkm, <- HGB.out];rfl
        · have g2 : decide ((gbn : Int) + (bins : Int) <= 40) = false := (by simp; omega);have HR : Hid (∀ j, j < k + 1 -> roomG L bins budget (Gs.getD j g0S) = false) := HNX.out (by rw [HDEF.out]; simp [h1, h2]);clear HFI HDEF h1 h2 HN HNX;go_upto_region 4 with fail
          go_quiet (first | (go_at_call 297; exact (HCW.out _).mono (fun _ _ h => ⟨h.1, _, h.2⟩)))
          go_wp2
          go_roundw
          case rel => exact ⟨k + 1, by go_num, by omega, HR, _, rfl⟩
          case measure => simp [intOf]; omega
      · have g1 : decide ((gcf : Int) + (cf : Int) <= (budget : Int)) = false := (by simp; omega);have HR : Hid (∀ j, j < k + 1 -> roomG L bins budget (Gs.getD j g0S) = false) := HNX.out (by rw [HDEF.out]; simp [h1]);clear HFI HDEF h1 HN HNX;go_upto_region 4 with fail
        go_quiet (first | (go_at_call 297; exact (HCW.out _).mono (fun _ _ h => ⟨h.1, _, h.2⟩)))
        go_wp2
        go_roundw
        case rel => exact ⟨k + 1, by go_num, by omega, HR, _, rfl⟩
        case measure => simp [intOf]; omega
    · have hnk : ¬ (k : Int) < (m : Int) := by omega
      have HR : Hid (¬ Gs.findIdx (roomG L bins budget) < m) := fun h => by
        rw [HM.out] at h;have h1 := List.findIdx_getElem (w := h);have := HN.out (Gs.findIdx (roomG L bins budget)) (by have := HM.out; omega);rw [show Gs.getD (Gs.findIdx (roomG L bins budget)) g0S = Gs[Gs.findIdx (roomG L bins budget)]'h by simp [List.getD, h]] at this;rw [h1] at this
        cases this
      clear HN;go_wp2
      go_ret
      refine ⟨?_, below_drewN (Below.refl _ _) _⟩;unfold fwrV;rw [if_neg HR.out];rfl
end Go.Proofs.YtfcgnpchbcmdeaaGreat

namespace Go.Proofs.YtfcgnpchbcmdeaaGreat
open Go.RowKit Go.Lib Go.Sort
structure OutsX (w : World) (vO : Value) (vs : List Value) (Os : List (List Bool)) : Prop where
  row : w.ownsRow 0 101 1 vO Os.length vs
  each : ∀ i, i < Os.length -> OwnO w 0 (vs.getD i (.slice none 0 0)) (Os.getD i [])
theorem OutsX.below {w w' : World} {vO : Value} {vs : List Value} {Os : List (List Bool)} (h : OutsX w vO vs Os) (hb : Below w.heap.size w w') : OutsX w' vO vs Os :=
  ⟨(Touch.of_below (S := fun _ => False) hb).row h.row (fun _ _ => id), fun i hi => (h.each i hi).below hb⟩
theorem OutsX.at {w : World} {vO : Value} {vs : List Value} {Os : List (List Bool)} (h : OutsX w vO vs Os) {i : Nat} (hi : i < Os.length) : ∃ q c, vO = .slice (some ⟨q, 0, none⟩) Os.length c /\ q < w.heap.size /\ w.cell? ⟨q, i, none⟩ = some (vs.getD i (.slice none 0 0)) := by
  have hr := h.row
  rcases h.row.2 with ⟨_, h0⟩ | ⟨g, cap, cur, e, hb, hh, hnc, _⟩
  omega;subst e;refine ⟨g, cap, rfl, (Array.getElem?_eq_some_iff.1 hh).1, ?_⟩;rw [World.ownsRow.cellAt hr i (by omega)];have := hr.1;simp [List.getD, show i < vs.length by omega]
set_option maxRecDepth 100000 in
set_option maxHeartbeats 4000000 in
theorem byOut_any (ob q qc n f g : Nat) (vs : List Value) (Os : List (List Bool)) (w : World) (hO : OutsX w (.slice (some ⟨q, 0, none⟩) Os.length qc) vs Os) (hl : ∀ O ∈ Os, O.length = n) (hn : n <= 200) (hb : w.cell? ⟨ob, 0, none⟩ = some (.slice (some ⟨q, 0, none⟩) Os.length qc)) (hf : f < Os.length) (hg : g < Os.length) : Calls Tryz.prog 295 #[.int .i64 f, .int .i64 g, .pointer (some ⟨ob, 0, none⟩)] w fun e w' => e = .returned (.int .i64 (Lib.compareInt (cntT (Os.getD g []) : Nat) (cntT (Os.getD f []) : Nat))) /\ ∃ m, w' = w.drewN m := by
  obtain ⟨q1, c1, e1, _, d1⟩ := hO.at hf;injection e1 with e1 _ _;injection e1 with e1;injection e1 with e1 _;subst e1;obtain ⟨q2, c2, e2, _, d2⟩ := hO.at hg;injection e2 with e2 _ _;injection e2 with e2;injection e2 with e2 _;subst e2;have o1 := hO.each f hf;have o2 := hO.each g hg;have l1 := hl _ (show Os.getD f [] ∈ Os by simp [List.getD, hf]);have l2 := hl _ (show Os.getD g [] ∈ Os by simp [List.getD, hg]);generalize Os.getD f [] = F at *;generalize Os.getD g [] = G at *;generalize vs.getD f (.slice none 0 0) = v1 at *;generalize vs.getD g (.slice none 0 0) = v2 at *;obtain ⟨a1, b1, rfl⟩ := o1.shape;obtain ⟨a2, b2, rfl⟩ := o2.shape;rw [l1] at o1 d1;rw [l2] at o2 d2;have H1 : Hid (∀ e, Calls Tryz.prog 296 #[.slice a1 n b1] (w.drewN e) fun e' w' => e' = .returned (.int .i64 (cntT F : Nat)) /\ w' = w.drewN e) := fun e => cnt_any a1 n b1 F (w.drewN e) o1 l1 hn
  have H2 : Hid (∀ e, Calls Tryz.prog 296 #[.slice a2 n b2] (w.drewN e) fun e' w' => e' = .returned (.int .i64 (cntT G : Nat)) /\ w' = w.drewN e) := fun e => cnt_any a2 n b2 G (w.drewN e) o2 l2 hn;have H3 : Hid (∀ e, Calls Tryz.prog 151 #[.int .i64 (cntT G : Nat), .int .i64 (cntT F : Nat)] (w.drewN e) fun e' w' => e' = .returned (.int .i64 (Lib.compareInt (cntT G : Nat) (cntT F : Nat))) /\ w' = w.drewN e) := fun e => Tryz.cmp_Compare_int _ _ (w.drewN e);generalize Lib.compareInt (cntT G : Nat) (cntT F : Nat) = r at *;generalize cntT F = cF at *;generalize cntT G = cG at *;generalize Os.length = m at *;have b1' : (0 : Int) <= (f : Int) := (by omega);have b2' : (f : Int) < (m : Int) := (by omega);have b3' : (0 : Int) <= (g : Int) := (by omega);have b4' : (g : Int) < (m : Int) := (by omega);clear hO o1 o2 l1 l2 hl hf hg;go_enter Tryz.func295, Tryz.ntmps295
  go_upto_region 1 with fail
  go_quiet (first | (go_at_call_of 296 (a2); exact (H2.out _).mono (fun _ _ h => ⟨h.1, _, h.2⟩)) | (go_at_call_of 296 (a1); exact (H1.out _).mono (fun _ _ h => ⟨h.1, _, h.2⟩)) | (go_at_call 151; exact (H3.out _).mono (fun _ _ h => ⟨h.1, _, h.2⟩)))
  go_wp2
  go_ret
  exact ⟨rfl, _, rfl⟩
end Go.Proofs.YtfcgnpchbcmdeaaGreat

namespace Go.Proofs.YtfcgnpchbcmdeaaGreat
open Go.RowKit Go.Lib Go.Sort
def encF {m : Nat} (x : Fin m) : Value := .int .i64 ((x.val : Nat) : Int)
def cmpF {m : Nat} (Os : List (List Bool)) (x y : Fin m) : Int := Lib.compareInt (cntT (Os.getD y.val []) : Nat) (cntT (Os.getD x.val []) : Nat)
theorem oneF {m : Nat} : OneCell (encF (m := m)) := fun _ => rfl
set_option maxRecDepth 100000 in
set_option maxHeartbeats 2000000 in
theorem stable_any (m blk cap ob : Nat) (d : Array (Fin (m + 1))) (w : World) (hm : m + 1 <= 4) (hd : d.size = m + 1) (Os : List (List Bool)) (hcmp : CmpReads (α := Fin (m + 1)) Tryz.prog 295 #[.pointer (some ⟨ob, 0, none⟩)] encF (cmpF Os) blk 0 (m + 1) w) (hH : Holds encF w blk 0 d) :
    Calls Tryz.prog 294 #[.slice (some ⟨blk, 0, none⟩) (m + 1) cap, .func (.func 295) #[] #[.pointer (some ⟨ob, 0, none⟩)]] w fun e w' => e = .returned (.tuple #[]) /\ ∃ n, w' = (putRow encF w blk 0 (Sort.insertionSort (ltOf (cmpF Os)) d 0 (m + 1))).drewN n := by
  have HI : Hid (Calls Tryz.prog 346 #[.slice (some ⟨blk, 0, none⟩) (m + 1) cap, .int .i64 0, .int .i64 ((m + 1 : Nat) : Int), .func (.func 295) #[] #[.pointer (some ⟨ob, 0, none⟩)]] w fun e w' => e = .returned (.tuple #[]) /\ ∃ n, w' = (putRow encF w blk 0 (Sort.insertionSort (ltOf (cmpF Os)) d 0 (m + 1))).drewN n) := (by have := Tryz.insertionSortCmpFunc_one encF oneF (cmpF Os) 295 #[.pointer (some ⟨ob, 0, none⟩)] blk 0 cap 0 (m + 1) d w (enters_of Tryz.func295 (by kernel_rfl) rfl) (by rw [hd]; exact hcmp) hH (Nat.zero_le _) (by omega) (by omega);rw [hd] at this;exact this);generalize putRow encF w blk 0 (Sort.insertionSort (ltOf (cmpF Os)) d 0 (m + 1)) = w2 at *
  have HS : Hid (Calls Tryz.prog 329 #[.slice (some ⟨blk, 0, none⟩) (m + 1) cap, .int .i64 ((m + 1 : Nat) : Int), .func (.func 295) #[] #[.pointer (some ⟨ob, 0, none⟩)]] w fun e w' => e = .returned (.tuple #[]) /\ ∃ n, w' = w2.drewN n) := by
    clear hcmp hH hd;have hb1 : ¬ (20 : Int) <= (m : Int) + 1 := (by omega);have hb2 : ¬ (20 : Int) < (m : Int) + 1 := (by omega);go_enter Tryz.func329, Tryz.ntmps329
    go_wp2_with fail
    go_loopw [7, 8] (fun ta tb wr => ta = .int .i64 0 /\ tb = .int .i64 20 /\ wr = w) (fun _ _ _ => 0)
    case atStart => exact ⟨rfl, rfl, rfl⟩
    case round =>
      obtain ⟨rfl, rfl, rfl⟩ := hrel;go_wp2_with fail
      refine (HI.out).mono ?_;rintro e w3 ⟨rfl, n3, rfl⟩;go_wp2_with fail
      go_loopw [6] (fun tb wr => tb = .int .i64 20 /\ wr = w2.drewN n3) (fun _ _ => 0)
      case atStart => exact ⟨rfl, rfl⟩
      case round =>
        obtain ⟨rfl, rfl⟩ := hrel;go_wp2
        go_end0
        exact ⟨rfl, _, rfl⟩
  clear HI hcmp hH hd;go_enter Tryz.func294, Tryz.ntmps294
  go_wp2_with fail
  refine (HS.out).mono ?_;rintro e w3 ⟨rfl, n3, rfl⟩;go_wp2
  go_end0
  exact ⟨rfl, _, rfl⟩
theorem touch_sort {α : Type} [Inhabited α] (enc : α -> Value) (w : World) (blk off m : Nat) (dk : Array α) (os : Array Obj) : Touch (fun k => k = blk) w (sortWorld enc w blk off m dk os) := by refine ⟨rfl, rfl, rfl, ?_, fun k hk hne => ?_⟩;unfold sortWorld; simp;unfold sortWorld;rw [Go.Sort.heap_grow_old _ _ (by simpa using hk)];have : blk ≠ k := fun e => hne e.symm;simp [Go.Sort.putRow, Go.Sort.mapBlock, Go.Sort.ahead, Array.getElem?_modify, this]
theorem touch_put {α : Type} [Inhabited α] (enc : α -> Value) (w : World) (blk off : Nat) (dk : Array α) : Touch (fun k => k = blk) w (putRow enc w blk off dk) := by refine ⟨rfl, rfl, rfl, ?_, fun k hk hne => ?_⟩;simp [Go.Sort.putRow, Go.Sort.mapBlock];have : blk ≠ k := fun e => hne e.symm;simp [Go.Sort.putRow, Go.Sort.mapBlock, Array.getElem?_modify, this]
theorem OutsX.touch {S : Nat -> Prop} {w w' : World} {vO : Value} {vs : List Value} {Os : List (List Bool)} (h : OutsX w vO vs Os) (t : Touch S w w') (hs : ∀ k cur ty, w.heap[k]? = some (.cells cur ty (0, 0)) -> ty = 101 ∨ ty = 4 -> ¬ S k) : OutsX w' vO vs Os :=
  ⟨t.row h.row (fun k hk => by obtain ⟨cur, hc⟩ := row_type h.row hk; exact hs k _ _ hc (.inl rfl)), fun i hi => t.row (h.each i hi) (fun k hk => by obtain ⟨cur, hc⟩ := row_type (h.each i hi) hk; exact hs k _ _ hc (.inr rfl))⟩
theorem own_putRow {w : World} {base g cap n m : Nat} {zs : List Int} {D : Array (Fin (m + 1))} (h : OwnI w base (.slice (some ⟨g, 0, none⟩) n cap) zs) (hz : zs.length = n) (hD : D.size = n) : OwnI (putRow encF w g 0 D) base (.slice (some ⟨g, 0, none⟩) n cap) (D.toList.map (fun x => ((x.val : Nat) : Int))) := by
  rcases h.2 with ⟨e, _⟩ | ⟨g', cap', cur, e, hb, hg, hnc, hcm, hcs, htake⟩
  simp at e;simp only [Value.slice.injEq, Option.some.injEq, Addr.mk.injEq, and_true] at e;obtain ⟨rfl, _, rfl⟩ := e;have hh : (putRow encF w g 0 D).heap[g]? = some (.cells (Go.Sort.putCells encF 0 D cur) 3 (0, 0)) := (by simp [Go.Sort.putRow, Go.Sort.mapBlock, Array.getElem?_modify, hg, Go.Sort.onCells]);have hl : (D.toList.map (fun x => ((x.val : Nat) : Int))).length = n := (by simp [hD]);refine ⟨by rw [List.length_map]; omega, .inr ⟨g, cap, _, by rw [hl], hb, hh, by rw [hl]; omega, hcm, by simp [Go.Sort.putCells, hcs], ?_⟩⟩;rw [hl, Nat.mul_one];apply List.ext_getElem?;intro j
  by_cases hj : j < n
  rw [List.getElem?_take_of_lt hj, Array.getElem?_toList];have h1 : j < cur.size := (by omega);have h2 : j < D.size := (by omega);simp [Go.Sort.putCells, h1, h2, encF];rw [List.getElem?_take_eq_none (by omega), List.getElem?_eq_none (by simp; omega)]
def idxF (m : Nat) : Array (Fin (m + 1)) := Array.ofFn (fun i => i)
def ordF (m : Nat) (Os : List (List Bool)) : List Nat := (Sort.insertionSort (ltOf (cmpF (m := m + 1) Os)) (idxF m) 0 (m + 1)).toList.map (fun x => x.val)
theorem cmpReads (m blk ob q qc n : Nat) (vs : List Value) (Os : List (List Bool)) (w : World) (hOl : Os.length = m + 1) (hO : OutsX w (.slice (some ⟨q, 0, none⟩) Os.length qc) vs Os) (hl : ∀ O ∈ Os, O.length = n) (hn : n <= 200) (hb : w.heap[ob]? = some (.cells #[.slice (some ⟨q, 0, none⟩) Os.length qc] 309 (0, 0))) (hblk : ∃ cur, w.heap[blk]? = some (.cells cur 3 (0, 0))) : CmpReads (α := Fin (m + 1)) Tryz.prog 295 #[.pointer (some ⟨ob, 0, none⟩)] encF (cmpF Os) blk 0 (m + 1) w := by
  intro mm os dk _ x y;have t := touch_sort (encF (m := m + 1)) w blk 0 mm dk os;obtain ⟨cur, hcur⟩ := hblk;refine byOut_any ob q qc n x.val y.val vs Os _ (hO.touch t ?_) hl hn ?_ (by have := x.isLt; omega) (by have := y.isLt; omega)
  · rintro k c ty hk hty rfl;rw [hcur] at hk;simp at hk
    rcases hty with e | e <;> rw [e] at hk <;> simp at hk
  have := t.at_ hb (fun e => by rw [e, hcur] at hb; simp at hb);exact cell_of_row _ _ 0 _ 309 (0, 0) this
theorem insSize {α : Type} [Inhabited α] (lt : α -> α -> Bool) (h : SWO lt) (d : Array α) (n : Nat) (hd : d.size = n) : (Sort.insertionSort lt d 0 n).size = n := by have := (Sort.insertionSort_holds (lt := lt) h d 0 n (Nat.zero_le _) (by omega)).1;obtain ⟨h1, _⟩ := this;omega
end Go.Proofs.YtfcgnpchbcmdeaaGreat

namespace Go.Proofs.YtfcgnpchbcmdeaaGreat
open Go.RowKit Go.Lib Go.Sort
theorem ltF {m : Nat} (Os : List (List Bool)) (x y : Fin m) : ltOf (cmpF Os) x y = decide (cntT (Os.getD y.val []) < cntT (Os.getD x.val [])) := by
  unfold ltOf cmpF Lib.compareInt;generalize cntT (Os.getD y.val []) = a;generalize cntT (Os.getD x.val []) = b
  by_cases h1 : a < b
  simp [h1]
  · by_cases h3 : b < a <;> simp [h1, h3]
theorem swoF {m : Nat} (Os : List (List Bool)) : SWO (ltOf (cmpF (m := m) Os)) where
  irrefl x := by rw [ltF]; simp
  trans x y z h1 h2 := by rw [ltF] at *; simp at *; omega
  ntrans x y z h1 h2 := by rw [ltF] at *; simp at *; omega
theorem idxF_size (m : Nat) : (idxF m).size = m + 1 := by simp [idxF]
theorem ordF_len (m : Nat) (Os : List (List Bool)) : (ordF m Os).length = m + 1 := by unfold ordF;rw [List.length_map, Array.length_toList, insSize _ (swoF Os) _ _ (idxF_size m)]
theorem ordF_lt (m : Nat) (Os : List (List Bool)) : ∀ f ∈ ordF m Os, f < m + 1 := by intro f hf;unfold ordF at hf;obtain ⟨x, _, rfl⟩ := List.mem_map.1 hf;exact x.isLt
set_option maxRecDepth 100000 in
set_option maxHeartbeats 4000000 in
theorem byStandingOut_any (m q qc n : Nat) (vs : List Value) (Os : List (List Bool)) (w : World) (hm : m + 1 <= 4) (hOl : Os.length = m + 1) (hO : OutsX w (.slice (some ⟨q, 0, none⟩) (m + 1) qc) vs Os) (hl : ∀ O ∈ Os, O.length = n) (hn : n <= 200) : Calls Tryz.prog 254 #[.slice (some ⟨q, 0, none⟩) (m + 1) qc] w fun e w' => ∃ v, e = .returned v /\ OwnI w' w.heap.size v (natI (ordF m Os)) /\ Below w.heap.size w w' := by
  have HO : Hid (OutsX w (.slice (some ⟨q, 0, none⟩) (m + 1) qc) vs Os /\ Os.length = m + 1 /\ ∀ O ∈ Os, O.length = n) := ⟨hO, hOl, hl⟩;have hmk := make_ints (m + 1) (by omega);have hmk2 : ∀ W : World, (Instr.makeSlice 25 (.int .i64 ((m : Int) + 1)) (.int .i64 ((m : Int) + 1))).run Tryz.prog W = .ok (.slice (some ⟨W.heap.size, 0, none⟩) (m + 1) (m + 1)) (W.alloc (.cells (madeCells #[.int .i64 0] (m + 1)) 3)) := hmk;clear hO hOl hl hmk;go_enter Tryz.func254, Tryz.ntmps254
  go_wp2_with fail
  go_loopw [10] (fun ti wr => ∃ k : Nat, ti = .int .i64 k /\ k <= m + 1 /\ Hid (OwnI wr (w.heap.size + 1) (.slice (some ⟨w.heap.size + 1, 0, none⟩) (m + 1) (m + 1)) (fillI (fun i => (i : Int)) (m + 1) k)) /\ Hid (Below (w.heap.size + 1) (w.alloc (.cells #[.slice (some ⟨q, 0, none⟩) (m + 1) qc] 309)) wr)) (fun ti _ => m + 1 - (intOf ti).toNat)
  case atStart =>
    refine ⟨0, rfl, Nat.zero_le _, ?_, ?_⟩
    · rw [fillI_zero];have := made_ints (m + 1) (w.alloc (.cells #[.slice (some ⟨q, 0, none⟩) (m + 1) qc] 309)) (w.heap.size + 1) (by omega) (by simp);show OwnI _ _ _ _
      simpa using this
    exact (Below.refl _ _).alloc (by simp) _
  case round =>
    clear hmk2;obtain ⟨k, rfl, hk, HI, HB⟩ := hrel;have hsz := HB.out.size;simp at hsz
    by_cases hkm : k < m + 1
    · have hfl := fillI_len (fun i => (i : Int)) (show k <= m + 1 by omega);have HSET : Hid ((fillI (fun i => (i : Int)) (m + 1) k).set k (k : Int) = fillI (fun i => (i : Int)) (m + 1) (k + 1)) := fillI_set (fun i => (i : Int)) hkm;have HFL : Hid (m + 1 = (fillI (fun i => (i : Int)) (m + 1) k).length) := hfl.symm;obtain ⟨cf1, cf2⟩ := HI.out.cellK hfl.symm hkm;clear hfl;generalize fillI (fun i => (i : Int)) (m + 1) k = F at *;generalize F.getD k 0 = z0 at *;have bk1 : (0 : Int) <= (k : Int) := (by omega);have bk2 : (k : Int) < (m : Int) + 1 := (by omega);go_wp2
      go_roundw
      case rel =>
        refine ⟨k + 1, by go_num, by omega, ?_, ?_⟩;rw [<- HSET.out];exact (HI.out.put HFL.out _).1;exact HB.out.setCell (Nat.le_refl _) _
      case measure => simp [intOf]; omega
    · have hnk : ¬ (k : Int) < (m : Int) + 1 := (by omega);have hbx : wr.heap[w.heap.size]? = some (.cells #[.slice (some ⟨q, 0, none⟩) (m + 1) qc] 309 (0, 0)) := (HB.out.block w.heap.size (by omega)).trans (heap_alloc_new _ _);have hbw : Below w.heap.size w wr := ((Below.refl _ _).alloc (Nat.le_refl _) _).trans (HB.out.mono (by omega));have hI : OwnI wr (w.heap.size + 1) (.slice (some ⟨w.heap.size + 1, 0, none⟩) (m + 1) (m + 1)) (fillI (fun i => (i : Int)) (m + 1) (m + 1)) := (by have : k = m + 1 := (by omega);subst this;exact HI.out);have hfl := fillI_len (fun i => (i : Int)) (Nat.le_refl (m + 1));have hH : Holds encF wr (w.heap.size + 1) 0 (idxF m) := by intro j hj;rw [idxF_size] at hj;rw [Nat.zero_add];obtain ⟨p1, p2⟩ := hI.cellK hfl.symm hj;refine ⟨?_, p2⟩;rw [p1, fillI_full];have : (idxF m)[j]! = ⟨j, hj⟩ := (by simp [idxF, hj]);rw [this];simp [encF, List.getD, hj]
      have hOw : OutsX wr (.slice (some ⟨q, 0, none⟩) Os.length qc) vs Os := by rw [HO.out.2.1]; exact HO.out.1.below hbw
      have hcm := cmpReads m (w.heap.size + 1) w.heap.size q qc n vs Os wr HO.out.2.1 hOw HO.out.2.2 hn (by rw [HO.out.2.1]; exact hbx) (by
        obtain ⟨cur, hc⟩ := row_type hI (k := w.heap.size + 1) rfl
        exact ⟨cur, hc⟩)
      have HST : Hid (Calls Tryz.prog 294 #[.slice (some ⟨w.heap.size + 1, 0, none⟩) (m + 1) (m + 1), .func (.func 295) #[] #[.pointer (some ⟨w.heap.size, 0, none⟩)]] wr fun e w' => e = .returned (.tuple #[]) /\ OwnI w' w.heap.size (.slice (some ⟨w.heap.size + 1, 0, none⟩) (m + 1) (m + 1)) (natI (ordF m Os)) /\ Below w.heap.size w w') := by
        refine (stable_any m (w.heap.size + 1) (m + 1) w.heap.size (idxF m) wr hm (idxF_size m) Os hcm hH).mono ?_;rintro e w' ⟨rfl, d, rfl⟩;have hp := own_putRow (D := Sort.insertionSort (ltOf (cmpF (m := m + 1) Os)) (idxF m) 0 (m + 1)) hI hfl (insSize _ (swoF Os) _ _ (idxF_size m));have ht := touch_put (encF (m := m + 1)) wr (w.heap.size + 1) 0 (Sort.insertionSort (ltOf (cmpF (m := m + 1) Os)) (idxF m) 0 (m + 1));refine ⟨rfl, ?_, ?_⟩;have e : natI (ordF m Os) = (Sort.insertionSort (ltOf (cmpF (m := m + 1) Os)) (idxF m) 0 (m + 1)).toList.map (fun x => ((x.val : Nat) : Int)) := (by simp [natI, ordF]);rw [e];exact (OwnI.below (OwnI.mono hp (by omega)) (below_drewN (Below.refl _ _) d))
        refine below_drewN ?_ d;exact ⟨ht.os.trans hbw.os, ht.tape.trans hbw.tape, ht.output.trans hbw.output, Nat.le_trans hbw.size ht.size, fun k hk => (ht.block k (by omega) (by omega)).trans (hbw.block k hk)⟩
      clear hbx hbw hI hfl hH hOw hcm HI HB;go_wp2_with fail
      refine HST.out.mono ?_;rintro e w2 ⟨rfl, ho, hb⟩;have HF : Hid (OwnI w2 w.heap.size (.slice (some ⟨w.heap.size + 1, 0, none⟩) (m + 1) (m + 1)) (natI (ordF m Os)) /\ Below w.heap.size w w2) := ⟨ho, hb⟩;clear ho hb;go_wp2
      go_ret
      exact ⟨_, rfl, HF.out.1, HF.out.2⟩
end Go.Proofs.YtfcgnpchbcmdeaaGreat

namespace Go.Proofs.YtfcgnpchbcmdeaaGreat
open Go.RowKit
structure KS where
  e : ES
  d : Nat
def k0S : KS := ⟨⟨false, [], []⟩, 0⟩
def KS.many (k : KS) : Nat := k.e.cnt + 2
def cellsKn (k : KS) (v : Value × Value) : List Value := [.bool k.e.wd, v.1, v.2, .int .i64 (k.d : Nat)]
def flatKn : List KS -> List (Value × Value) -> List Value
  | [], _ => []
  | _ :: _, [] => []
  | k :: Ks, v :: vs => cellsKn k v ++ flatKn Ks vs
def vv0 : Value × Value := (.slice none 0 0, .slice none 0 0)
theorem flatKn_get : ∀ (Ks : List KS) (vs : List (Value × Value)), vs.length = Ks.length -> ∀ i, i < Ks.length -> ∀ c, c < 4 -> (flatKn Ks vs)[i * 4 + c]? = (cellsKn (Ks.getD i k0S) (vs.getD i vv0))[c]?
  | [], _, _, i, h => by simp at h
  | k :: Ks, [], h, _, _ => by simp at h
  | k :: Ks, v :: vs, _, 0, _ => fun c hc => by simp only [flatKn];rw [show 0 * 4 + c = c by omega, List.getElem?_append_left (by simpa [cellsKn] using hc)]; rfl
  | k :: Ks, v :: vs, h, i + 1, hi => fun c hc => by simp only [flatKn];rw [List.getElem?_append_right (by simp [cellsKn]; omega), show (i + 1) * 4 + c - (cellsKn k v).length = i * 4 + c by simp [cellsKn]; omega];exact flatKn_get Ks vs (by simpa using h) i (by simpa using hi) c hc
structure KnsX (w : World) (vK : Value) (vs : List (Value × Value)) (Ks : List KS) : Prop where
  row : w.ownsRow 0 172 4 vK Ks.length (flatKn Ks vs)
  len : vs.length = Ks.length
  each : ∀ i, i < Ks.length -> OwnI w 0 (vs.getD i vv0).1 (Ks.getD i k0S).e.bs /\ OwnS w 0 (vs.getD i vv0).2 (Ks.getD i k0S).e.ww
theorem KnsX.touch {S : Nat -> Prop} {w w' : World} {vK : Value} {vs : List (Value × Value)} {Ks : List KS} (h : KnsX w vK vs Ks) (t : Touch S w w') (hs : ∀ k cur ty, w.heap[k]? = some (.cells cur ty (0, 0)) -> ty = 172 ∨ ty = 3 ∨ ty = 9 -> ¬ S k) : KnsX w' vK vs Ks :=
  ⟨t.row h.row (fun k hk => by obtain ⟨cur, hc⟩ := row_type h.row hk; exact hs k _ _ hc (.inl rfl)), h.len, fun i hi => ⟨t.row (h.each i hi).1 (fun k hk => by obtain ⟨cur, hc⟩ := row_type (h.each i hi).1 hk; exact hs k _ _ hc (.inr (.inl rfl))), t.row (h.each i hi).2 (fun k hk => by obtain ⟨cur, hc⟩ := row_type (h.each i hi).2 hk; exact hs k _ _ hc (.inr (.inr rfl)))⟩⟩
theorem KnsX.below {w w' : World} {vK : Value} {vs : List (Value × Value)} {Ks : List KS} (h : KnsX w vK vs Ks) (hb : Below w.heap.size w w') : KnsX w' vK vs Ks :=
  ⟨(Touch.of_below (S := fun _ => False) hb).row h.row (fun _ _ => id), h.len, fun i hi => ⟨(h.each i hi).1.below hb, (h.each i hi).2.below hb⟩⟩
theorem KnsX.at {w : World} {vK : Value} {vs : List (Value × Value)} {Ks : List KS} (h : KnsX w vK vs Ks) {i : Nat} (hi : i < Ks.length) : ∃ q c ab cb aw cw, vK = .slice (some ⟨q, 0, none⟩) Ks.length c /\ q < w.heap.size /\ w.cell? ⟨q, i * 4, none⟩ = some (.bool (Ks.getD i k0S).e.wd) /\ w.cell? ⟨q, i * 4 + 1, none⟩ = some (.slice ab (Ks.getD i k0S).e.bs.length cb) /\ w.cell? ⟨q, i * 4 + 2, none⟩ = some (.slice aw (Ks.getD i k0S).e.ww.length cw) /\ w.cell? ⟨q, i * 4 + 3, none⟩ = some (.int .i64 ((Ks.getD i k0S).d : Nat)) /\ OwnI w 0 (.slice ab (Ks.getD i k0S).e.bs.length cb) (Ks.getD i k0S).e.bs /\ OwnS w 0 (.slice aw (Ks.getD i k0S).e.ww.length cw) (Ks.getD i k0S).e.ww := by
  have hr := h.row
  rcases h.row.2 with ⟨_, h0⟩ | ⟨g, cap, cur, e, hb, hh, hnc, _⟩
  omega
  · subst e;obtain ⟨e1, e2⟩ := h.each i hi;obtain ⟨ab, cb, hab⟩ := e1.shape;obtain ⟨aw, cw, haw⟩ := e2.form;rw [hab] at e1;rw [haw] at e2
    have key : ∀ c u, c < 4 -> (cellsKn (Ks.getD i k0S) (vs.getD i vv0))[c]? = some u -> w.cell? ⟨g, i * 4 + c, none⟩ = some u := fun c u hc hu => by rw [World.ownsRow.cellAt hr (i * 4 + c) (by omega)];exact (flatKn_get Ks vs h.len i hi c hc).trans hu
    refine ⟨g, cap, ab, cb, aw, cw, rfl, (Array.getElem?_eq_some_iff.1 hh).1, key 0 _ (by omega) rfl, ?_, ?_, key 3 _ (by omega) rfl, e1, e2⟩;rw [<- hab]; exact key 1 _ (by omega) rfl;rw [<- haw]; exact key 2 _ (by omega) rfl
structure GrpsY (w : World) (base : Nat) (vG : Value) (gbs : List Nat) (Ks : Nat -> Nat -> Prop) (Gs : List GS) : Prop where
  x : GrpsX w vG gbs Ks Gs
  rk : ∀ i, i < Gs.length -> ∀ k, vG.ownBlock = some k -> ¬ Ks i k
  rb : ∀ k, vG.ownBlock = some k -> base <= k
  kb : ∀ i, i < Gs.length -> ∀ k, Ks i k -> base <= k
theorem GrpsX.touch {S : Nat -> Prop} {w w' : World} {vG : Value} {gbs : List Nat} {Ks : Nat -> Nat -> Prop} {Gs : List GS} (h : GrpsX w vG gbs Ks Gs) (t : Touch S w w') (hr : ∀ k, vG.ownBlock = some k -> ¬ S k) (hs : ∀ i, i < Gs.length -> ∀ k, Ks i k -> ¬ S k) : GrpsX w' vG gbs Ks Gs :=
  ⟨t.row h.row hr, h.len, fun i hi => (h.each i hi).touch t (hs i hi), h.apart⟩
theorem GrpsY.touch {S : Nat -> Prop} {w w' : World} {base : Nat} {vG : Value} {gbs : List Nat} {Ks : Nat -> Nat -> Prop} {Gs : List GS} (h : GrpsY w base vG gbs Ks Gs) (t : Touch S w w') (hs : ∀ k, base <= k -> ¬ S k) : GrpsY w' base vG gbs Ks Gs :=
  ⟨h.x.touch t (fun k hk => hs k (h.rb k hk)) (fun i hi k hk => hs k (h.kb i hi k hk)), h.rk, h.rb, h.kb⟩
theorem GrpsY.put {w w' : World} {base i : Nat} {vG : Value} {gbs : List Nat} {Ks : Nat -> Nat -> Prop} {Gs : List GS} {K' : Nat -> Prop} {G' : GS} (h : GrpsY w base vG gbs Ks Gs) (hi : i < Gs.length) (t : Touch (Ks i) w w') (hg : GrpW w' K' (gbs.getD i 0) G') (hk : ∀ k, K' k -> Ks i k ∨ w.heap.size <= k) (hbase : base <= w.heap.size) : GrpsY w' base vG gbs (fun j => if j = i then K' else Ks j) (Gs.set i G') := by
  have hlt : ∀ j, j < Gs.length -> ∀ k, Ks j k -> k < w.heap.size := fun j hj k hk => by obtain ⟨vf, vo, hG⟩ := h.x.each j hj;exact hG.kl k hk
  refine ⟨⟨?_, ?_, fun j hj => ?_, fun a b ha hb hab k => ?_⟩, fun j hj k hrk => ?_, h.rb, fun j hj k => ?_⟩;rw [List.length_set]; exact t.row h.x.row (fun k hk => h.rk i hi k hk);rw [List.length_set]; exact h.x.len
  · rw [List.length_set] at hj
    by_cases e : j = i
    subst e;simp only [if_true];have : (Gs.set j G').getD j g0S = G' := (by simp [List.getD, hj]);rw [this]; exact hg;simp only [if_neg e];have : (Gs.set i G').getD j g0S = Gs.getD j g0S := (by simp [List.getD, Ne.symm e]);rw [this];exact (h.x.each j hj).touch t (fun k hk => h.x.apart j i hj hi e k hk)
  · rw [List.length_set] at ha hb
    by_cases ea : a = i
    · have eb : b ≠ i := fun e => hab (ea.trans e.symm);simp only [if_pos ea, if_neg eb];intro h1 h2
      rcases hk k h1 with h3 | h3
      exact h.x.apart i b hi hb (fun e => eb e.symm) k h3 h2;have := hlt b hb k h2; omega
    · by_cases eb : b = i
      · simp only [if_neg ea, if_pos eb];intro h1 h2
        rcases hk k h2 with h3 | h3
        exact h.x.apart a i ha hi ea k h1 h3;have := hlt a ha k h1; omega
      simp only [if_neg ea, if_neg eb];exact h.x.apart a b ha hb hab k
  · rw [List.length_set] at hj
    by_cases e : j = i
    · simp only [if_pos e];intro h1
      rcases hk k h1 with h3 | h3
      exact h.rk i hi k hrk h3;have := (World.ownsRow.lt h.x.row k hrk).2; omega
    simp only [if_neg e];exact h.rk j hj k hrk
  · rw [List.length_set] at hj
    by_cases e : j = i
    · simp only [if_pos e];intro h1
      rcases hk k h1 with h3 | h3
      exact h.kb i hi k h3;omega
    simp only [if_neg e];exact h.kb j hj k
theorem GrpsY.snoc {w w' : World} {base gb : Nat} {vG vG' : Value} {gbs : List Nat} {Ks : Nat -> Nat -> Prop} {Gs : List GS} {K' : Nat -> Prop} {G' : GS} (h : GrpsY w base vG gbs Ks Gs) (hr : w'.ownsRow 0 313 1 vG' (Gs.length + 1) (gbs.map ptrV ++ [ptrV gb])) (hg : w.grownBy w' vG.ownBlock) (hd : vG'.ownBlock = vG.ownBlock ∨ ∃ N, vG'.ownBlock = some N /\ w.heap.size <= N) (hG : GrpW w K' gb G') (hk : ∀ i, i < Gs.length -> ∀ k, Ks i k -> ¬ K' k) (hkr : ∀ k, vG.ownBlock = some k -> ¬ K' k) (hkb : ∀ k, K' k -> base <= k) (hbase : base <= w.heap.size) : GrpsY w' base vG' (gbs ++ [gb]) (fun j => if j = Gs.length then K' else Ks j) (Gs ++ [G']) := by
  have hlt : ∀ j, j < Gs.length -> ∀ k, Ks j k -> k < w.heap.size := fun j hj k hk => by obtain ⟨vf, vo, hG⟩ := h.x.each j hj;exact hG.kl k hk
  have hltK : ∀ k, K' k -> k < w.heap.size := fun k hk => by obtain ⟨vf, vo, hG⟩ := hG;exact hG.kl k hk
  have t : Touch (fun k => vG.ownBlock = some k) w w' := (Touch.refl _ w).grown hg (fun k hk _ => hk);have hlen := h.x.len;refine ⟨⟨?_, ?_, fun j hj => ?_, fun a b ha hb hab k => ?_⟩, fun j hj k hrk => ?_, fun k hrk => ?_, fun j hj k => ?_⟩;rw [List.length_append, List.map_append]; exact hr;simp [hlen]
  · rw [List.length_append] at hj;simp at hj
    by_cases e : j = Gs.length
    subst e;simp only [if_true];have e1 : (Gs ++ [G']).getD Gs.length g0S = G' := (by simp [List.getD]);have e2 : (gbs ++ [gb]).getD Gs.length 0 = gb := (by simp [List.getD, <- hlen]);rw [e1, e2];exact hG.touch t (fun k hk hr => hkr k hr hk);have hj2 : j < Gs.length := (by omega);simp only [if_neg e];have e1 : (Gs ++ [G']).getD j g0S = Gs.getD j g0S := (by simp [List.getD, List.getElem?_append_left hj2]);have e2 : (gbs ++ [gb]).getD j 0 = gbs.getD j 0 := (by simp [List.getD, List.getElem?_append_left (show j < gbs.length by omega)]);rw [e1, e2];exact (h.x.each j hj2).touch t (fun k hk hr => h.rk j hj2 k hr hk)
  · rw [List.length_append] at ha hb;simp at ha hb
    by_cases ea : a = Gs.length
    have eb : b ≠ Gs.length := fun e => hab (ea.trans e.symm);simp only [if_pos ea, if_neg eb];intro h1 h2;exact hk b (by omega) k h2 h1
    · by_cases eb : b = Gs.length
      simp only [if_neg ea, if_pos eb];intro h1 h2;exact hk a (by omega) k h1 h2;simp only [if_neg ea, if_neg eb];exact h.x.apart a b (by omega) (by omega) hab k
  · rw [List.length_append] at hj;simp at hj
    rcases hd with e1 | ⟨N, e1, e2⟩
    · rw [e1] at hrk
      by_cases e : j = Gs.length
      simp only [if_pos e]; exact hkr k hrk;simp only [if_neg e]; exact h.rk j (by omega) k hrk
    · rw [e1] at hrk;injection hrk with hrk;subst hrk
      by_cases e : j = Gs.length
      simp only [if_pos e]; intro h1; have := hltK _ h1; omega;simp only [if_neg e]; intro h1; have := hlt j (by omega) _ h1; omega
  · rcases hd with e1 | ⟨N, e1, e2⟩
    rw [e1] at hrk; exact h.rb k hrk;rw [e1] at hrk;injection hrk with hrk;omega
  · rw [List.length_append] at hj;simp at hj
    by_cases e : j = Gs.length
    simp only [if_pos e]; exact hkb k;simp only [if_neg e]; exact h.kb j (by omega) k
end Go.Proofs.YtfcgnpchbcmdeaaGreat
