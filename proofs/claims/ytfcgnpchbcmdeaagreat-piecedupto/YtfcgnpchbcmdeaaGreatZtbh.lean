import Derived.Test.YtfcgnpchbcmdeaaGreatZtbg
import Derived.Lib.SlBytesConst
import Derived.Test.YtfcgnpchbcmdeaaGreatZtbf
import Derived.Test.YtfcgnpchbcmdeaaGreatZtau
namespace Go.Proofs.YtfcgnpchbcmdeaaGreat
open Go.RowKit
theorem freeze_heap (W : World) (q k : Nat) : (W.freeze ⟨q, k, none⟩ 1).heap.size = W.heap.size /\ (∀ j, j ≠ q -> (W.freeze ⟨q, k, none⟩ 1).heap[j]? = W.heap[j]?) := by unfold World.freeze;rw [if_neg (by decide)];refine ⟨by simp, fun j hj => ?_⟩;simp [Array.getElem?_modify, Ne.symm hj]
theorem freeze_touch (W : World) (q k : Nat) : Touch (fun j => j = q) W (W.freeze ⟨q, k, none⟩ 1) := by
  obtain ⟨h1, h2⟩ := freeze_heap W q k;refine ⟨?_, ?_, ?_, by omega, fun j _ hj => h2 j hj⟩
  all_goals (unfold World.freeze; rw [if_neg (by decide)])
theorem freeze_block (W : World) (q : Nat) (C : Array Value) (ty : Nat) (k : Nat) (h : W.heap[q]? = some (.cells C ty (0, 0))) : (W.freeze ⟨q, k, none⟩ 1).heap[q]? = some (.cells C ty (k, k + 1)) := by unfold World.freeze;rw [if_neg (by decide)];simp [Array.getElem?_modify, h]
theorem conv_mark (W : World) (q n c : Nat) (C : Array Value) (h : W.heap[q]? = some (.cells C 5 (0, 0))) : (convert 66 66 (.slice (some ⟨q, 0, none⟩) n c)).run Tryz.prog W = .ok (.slice (some ⟨q, 0, none⟩) n c) (W.freeze ⟨q, C.size, none⟩ 1) := by have hsh : W.shape? q = some (5, C.size) := (by unfold World.shape?;rw [h]);have ht : Tryz.prog.underlying 66 = some (.slice 5) := Tryz.underlying66;have he : Tryz.prog.underlying 5 = some (.int .u8) := (by kernel_rfl);simp [convert, run_underlying ht, run_underlying he, markStringish, hsh]
end Go.Proofs.YtfcgnpchbcmdeaaGreat

namespace Go.Proofs.YtfcgnpchbcmdeaaGreat
open Go.RowKit
theorem step_append_full {ops : Array Oper} {o : Oper} {a : Act} {w : World} {K : Act -> World -> Prop} {Q : Exit -> Act -> World -> Prop} {E : Prop} (hg : o.guard = none) (s x : Operand) (ho : o.op = .call { callee := .builtin .append, args := #[s, x], argTypes := #[66, 66] }) (b0 b1 : Nat) (x0 x1 y0 y1 : Int) (m0 m1 : Nat × Nat) (hs : a.eval s = .slice (some ⟨b0, 0, none⟩) 2 2) (hx : a.eval x = .slice (some ⟨b1, 0, none⟩) 2 2) (h0 : w.heap[b0]? = some (.cells #[.int .u8 x0, .int .u8 x1] 5 m0)) (h1 : w.heap[b1]? = some (.cells #[.int .u8 y0, .int .u8 y1] 5 m1)) (h : ∀ v' w', Hid (OwnB w' 0 v' [x0, x1, y0, y1] /\ v'.ownBlock = some w.heap.size /\ Below w.heap.size w w' /\ ∃ g cap, v' = .slice (some ⟨g, 0, none⟩) 4 cap) -> K (a.put o.dst v') w') : if Region.wanted o (yielded ops a.tmps) = true then Oper.wp Tryz.prog o a w K Q else E := by
  have hw : Region.wanted o (yielded ops a.tmps) = true := (by simp [Region.wanted, hg]);rw [if_pos hw];obtain ⟨i0, hinf, hz0, hz1, hz2⟩ := info_parts info5
  have hc : ∀ (b : Nat) (u0 u1 : Value) (m : Nat × Nat), w.heap[b]? = some (.cells #[u0, u1] 5 m) -> ∀ j u, ([u0, u1] : List Value)[j]? = some u -> w.cell? ((⟨b, 0, none⟩ : Addr).add j) = some u := fun b u0 u1 m hb j u hu => by
    match j, hu with
    | 0, hu => simp at hu; subst hu; simp [Addr.add, World.cell?, hb]
    | 1, hu => simp at hu; subst hu; simp [Addr.add, World.cell?, hb]
    | j + 2, hu => simp at hu
  have hr := run_append_grow (P := Tryz.prog) (w := w) 66 o.type 5 i0 _ Tryz.underlying66 hinf hz0 ⟨b0, 0, none⟩ 2 2 [.int .u8 x0, .int .u8 x1] (by rw [hz1]; rfl) (hc b0 _ _ m0 h0) ⟨b1, 0, none⟩ 2 2 [.int .u8 y0, .int .u8 y1] (by rw [hz1]; rfl) (hc b1 _ _ m1 h1) (by decide) (by decide) (by rw [hz2]; decide);have hge := grownCap_ge w 4 2 5;have hle := grownCap_le_maxLen w 4 2 5 (by decide);unfold Oper.wp;simp only [execOp, ho, resolve, invoke, builtin, Sem.run_bind, Sem.run_pure, Result.andThen_ok, List.map_toArray, List.map_cons, List.map_nil, hs, hx, hr];refine h _ _ ⟨⟨rfl, .inr ⟨w.heap.size, grownCap w (2 + 2) 2 5, _, rfl, Nat.zero_le _, heap_alloc_new _ _, ?_⟩⟩, rfl, (Below.refl _ w).drew.alloc (Nat.le_refl _) _, _, _, rfl⟩;refine ⟨hge, hle, ?_, ?_⟩
  rw [Array.size_append, Array.size_append, size_zeroCells];show 2 + 2 + _ = _;simp only [Value.cells];show 2 + 2 + (grownCap w 4 2 5 - 4) * 1 = grownCap w 4 2 5 * 1;omega;simp
end Go.Proofs.YtfcgnpchbcmdeaaGreat

namespace Go.Proofs.YtfcgnpchbcmdeaaGreat
open Go.RowKit
def xB (x : XS) : List Int := [((x.row : Nat) : Int) % 256, ((x.f : Nat) : Int) % 256, ((x.bin : Nat) : Int) % 256]
def knA (k : KS) : List Int := if k.e.wd = true then knWB k else knB k
def outF (D : DSS) (X : List XS) : List Int := [71, 82, (((D.bs.getD 0 b0S).N.length : Nat) : Int) % 256, ((D.ks.length : Nat) : Int) % 256] ++ D.ks.flatMap knA ++ [((D.bs.length : Nat) : Int) % 256] ++ D.bs.flatMap bunB ++ lowL (X.length : Nat) 2 ++ X.flatMap xB
def bytesF (D : DSS) (X : List XS) : List Int := outF D X ++ lowL (crcR (outF D X)) 4
def BunOk (b : BS) : Prop := b.fs.length <= 1000 /\ (∀ f ∈ b.fs, f <= 1000) /\ ((spF b.N b.N.length).length <= 1000 /\ ∀ x ∈ spF b.N b.N.length, x.1 <= 1000 /\ x.2 <= 1000) /\ (packF (bitsN b.N (Lib.bitLen b.g)) ((b.N.length * Lib.bitLen b.g + 7) / 8) (b.N.length * Lib.bitLen b.g)).length <= 1000 /\ (bunB b).length <= 5000
def KnOk (k : KS) : Prop := (k.e.wd = false /\ k.e.ww = [] /\ k.e.bs.length <= 1000 /\ ∀ x ∈ k.e.bs, -1000000000000 <= x /\ x <= 1000000000000) ∨ (k.e.wd = true /\ k.e.bs = [] /\ k.e.ww.length <= 1000 /\ ∀ x ∈ k.e.ww, x.size <= 8)
theorem flat_take {α : Type} (f : α -> List Int) (L : List α) (d : α) {k : Nat} (h : k < L.length) : (L.take (k + 1)).flatMap f = (L.take k).flatMap f ++ f (L.getD k d) := by rw [List.take_succ_eq_append_getElem h, List.flatMap_append];simp [List.getD, h]
def x0S : XS := ⟨0, 0, 0⟩
theorem flatX_get : ∀ (L : List XS) (i : Nat), i < L.length -> ∀ c, c < 3 -> (flatX L)[i * 3 + c]? = (cellsX (L.getD i x0S))[c]?
  | [], i, h => by simp at h
  | x :: L, 0, _ => fun c hc => by simp only [flatX];rw [show 0 * 3 + c = c by omega, List.getElem?_append_left (by simpa [cellsX] using hc)]; rfl
  | x :: L, i + 1, h => fun c hc => by simp only [flatX];rw [List.getElem?_append_right (by simp [cellsX]; omega), show (i + 1) * 3 + c - (cellsX x).length = i * 3 + c by simp [cellsX]; omega];exact flatX_get L i (by simpa using h) c hc
theorem OwnX.atK {w : World} {a : Option Addr} {n c : Nat} {L : List XS} (h : OwnX w 0 (.slice a n c) L) (hn : L.length = n) {k : Nat} (hk : k < n) : ∃ q, a = some ⟨q, 0, none⟩ /\ q < w.heap.size /\ w.cell? ⟨q, k * 3, none⟩ = some (.int .i64 ((L.getD k x0S).row : Nat)) /\ w.cell? ⟨q, k * 3 + 1, none⟩ = some (.int .i64 ((L.getD k x0S).f : Nat)) /\ w.cell? ⟨q, k * 3 + 2, none⟩ = some (.int .i64 ((L.getD k x0S).bin : Nat)) := by
  subst hn;have h' := h
  rcases h'.2 with ⟨e, h0⟩ | ⟨g, cap, cur, e, _, hh, hnc, _⟩
  omega
  · injection e with e1 e2 e3;subst e1;have hr : w.ownsRow 0 184 3 (.slice (some ⟨g, 0, none⟩) L.length c) L.length (flatX L) := h
    have key : ∀ o u, o < 3 -> (cellsX (L.getD k x0S))[o]? = some u -> w.cell? ⟨g, k * 3 + o, none⟩ = some u := fun o u ho hu => by rw [World.ownsRow.cellAt hr (k * 3 + o) (by omega)];exact (flatX_get L k hk o ho).trans hu
    exact ⟨g, rfl, (Array.getElem?_eq_some_iff.1 hh).1, key 0 _ (by omega) rfl, key 1 _ (by omega) rfl, key 2 _ (by omega) rfl⟩
theorem wrdB_len {ss : List ByteArray} (h : ∀ x ∈ ss, x.size <= 8) : (wrdB ss).length <= 9 * ss.length := by
  induction ss with
  | nil => simp [wrdB]
  | cons x ss ih =>
    have h1 := ih (fun y hy => h y (by simp [hy]));have h2 := h x (by simp);unfold wrdB at h1 ⊢;rw [List.flatMap_cons, List.length_append, List.length_cons, bytesL_lenW, List.length_cons];omega
theorem knA_len {k : KS} (h : KnOk k) : (knA k).length <= 9003 := by
  unfold knA
  rcases h with ⟨h1, _, h2, _⟩ | ⟨h1, _, h2, h3⟩
  rw [h1, if_neg (by decide)];unfold knB;rw [List.length_append, bndB_len];simp;omega;rw [h1, if_pos rfl];unfold knWB;have := wrdB_len h3;rw [List.length_append];simp;omega
set_option maxRecDepth 100000 in
set_option maxHeartbeats 8000000 in
theorem bytes_any (db : Nat) (vK vB vX : Value) (kvs bvs : List (Value × Value)) (X : List XS) (D : DSS) (w : World) (h : MadeX w db vK vB vX kvs bvs X D) (h0 : 0 < D.bs.length) (hks : ∀ K ∈ D.ks, KnOk K) (hkl : D.ks.length <= 4) (hbs : ∀ b ∈ D.bs, BunOk b) (hbl : D.bs.length <= 4) (hxl : X.length <= 4000) (hby : ∀ b ∈ outF D X, 0 <= b /\ b < 256) : Calls Tryz.prog 60 #[.pointer (some ⟨db, 0, none⟩)] w fun e w' => e = .returned (.string (strOfNums (bytesF D X))) /\ Below w.heap.size w w' := by
  obtain ⟨ka, kc, rfl⟩ := h.kn.form;have d0 : w.cell? ⟨db, 0, none⟩ = some (.slice ka D.ks.length kc) := cell_of_row _ _ 0 _ 168 (0, 0) h.ds.blk;have hdl : db < w.heap.size := (Array.getElem?_eq_some_iff.1 h.ds.blk).1;have HM : Hid (MadeX w db (.slice ka D.ks.length kc) vB vX kvs bvs X D) := h;obtain ⟨i0, hinf, hz0, hz1, hz2⟩ := info_parts info5;have HRO : Hid (∀ W : World, Below w.heap.size w W -> Calls Tryz.prog 51 #[.pointer (some ⟨db, 0, none⟩)] W fun e w' => e = .returned (.int .i64 ((D.bs.getD 0 b0S).N.length : Nat)) /\ Below W.heap.size W w') := fun W hW => dsRows_any db _ vB vX bvs D.bs X W (HM.out.ds.below hW) h0;have HKS : Hid ((∀ K ∈ D.ks, KnOk K) /\ (∀ b ∈ D.bs, BunOk b) /\ (∀ b ∈ outF D X, 0 <= b /\ b < 256)) := ⟨hks, hbs, hby⟩
  clear h hks hbs hby
  generalize hnr : (D.bs.getD 0 b0S).N.length = nr at *;generalize hnk : D.ks.length = nk at *;have HNN : Hid ((D.bs.getD 0 b0S).N.length = nr /\ D.ks.length = nk) := ⟨hnr, hnk⟩;clear hnr hnk;go_enter Tryz.func60, Tryz.ntmps60
  go_upto_region 1 with fail
  go_cut [3] (fun v wx => ∃ a c, v = .slice a 4 c /\ Hid (OutB w wx (.slice a 4 c) [71, 82, (nr : Int) % 256, (nk : Int) % 256]))
  case first =>
    refine wp_region_S (fun w' => w'.cell? ⟨db, 0, none⟩ = some (.slice ka nk kc)) 13 (by kernel_rfl) d0 (fun hHeld => ?_);refine tkL [3, 4, 11, 12, 13] (i := 2) (v := ?_) (hy := Or.inl ⟨by rfl, ?_⟩) (h := ?_)
    rotate_left;· intro w hSw;(try dsimp only at hSw);go_simp;try with_reducible rfl
    try simp only [Act.put, sA, sB, sC]
    refine tkL [6, 7, 8, 9, 10, 11, 12, 13] (i := 5) (v := ?_) (hy := Or.inl ⟨by rfl, ?_⟩) (h := ?_)
    rotate_left;· intro w hSw;(try dsimp only at hSw);go_simp;try with_reducible rfl
    try simp only [Act.put, sA, sB, sC]
    refine tkL [7, 8, 9, 10, 11, 12, 13] (i := 6) (v := ?_) (hy := Or.inl ⟨by rfl, ?_⟩) (h := ?_)
    rotate_left;· intro w hSw;(try dsimp only at hSw);go_simp;try with_reducible rfl
    try simp only [Act.put, sA, sB, sC]
    refine tkL [8, 9, 10, 11, 12, 13] (i := 7) (v := ?_) (hy := Or.inl ⟨by rfl, ?_⟩) (h := ?_)
    rotate_left;· intro w hSw;(try dsimp only at hSw);go_simp;try with_reducible rfl
    try simp only [Act.put, sA, sB, sC]
    refine tkL [9, 10, 11, 12, 13] (i := 8) (v := ?_) (hy := Or.inl ⟨by rfl, ?_⟩) (h := ?_)
    rotate_left;· intro w hSw;(try dsimp only at hSw);go_simp;try with_reducible rfl
    try simp only [Act.put, sA, sB, sC]
    refine tkL [10, 11, 12, 13] (i := 9) (v := ?_) (hy := Or.inl ⟨by rfl, ?_⟩) (h := ?_)
    rotate_left;· intro w hSw;(try dsimp only at hSw);go_simp;try with_reducible rfl
    try simp only [Act.put, sA, sB, sC]
    refine tkL [11, 12, 13] (i := 10) (v := ?_) (hy := Or.inl ⟨by rfl, ?_⟩) (h := ?_)
    rotate_left;· intro w hSw;(try dsimp only at hSw);go_simp;try with_reducible rfl
    try simp only [Act.put, sA, sB, sC]
    have hx0 : Below w.heap.size w w.drew := (Below.refl _ w).drew;generalize w.drew = x0 at *;refine wpAnyS_two (i := 0) (j := 3) (by kernel_rfl) rfl rfl (fun KK hK => ?_) (fun KK hK => ?_)
    · skip
      go_simp;generalize hV : World.alloc x0 (.cells #[.int .u8 71, .int .u8 82] 5) = x1;have hx1 : Below w.heap.size w x1 := (by rw [<- hV]; exact hx0.alloc hx0.size _);have hL1 : x1.heap[x0.heap.size]? = some (.cells #[.int .u8 71, .int .u8 82] 5 (0, 0)) := (by rw [<- hV]; exact heap_alloc_new _ _);have hlL1 : w.heap.size <= x0.heap.size := hx0.size;clear hV;refine hK.out _ _ ((hx1.cell (p := ⟨db, 0, none⟩) hdl).trans d0) (fun hHeld => ?_);clear hK KK;try simp only [Act.put, sA, sB, sC]
      refine wpAnyS_two (i := 1) (j := 3) (by kernel_rfl) rfl rfl (fun KK hK => ?_) (fun KK hK => ?_)
      · skip
        have hcv : (convert 66 66 (.slice (some ⟨x0.heap.size, 0, none⟩) 2 2)).run Tryz.prog x1 = .ok (.slice (some ⟨x0.heap.size, 0, none⟩) 2 2) (World.freeze x1 ⟨x0.heap.size, 2, none⟩ 1) := conv_mark x1 x0.heap.size 2 2 _ hL1;go_simp;generalize hV : World.freeze x1 ⟨x0.heap.size, 2, none⟩ 1 = x2;have hx2 : Below w.heap.size w x2 := (by rw [<- hV]; exact hx1.trans ((freeze_touch x1 x0.heap.size 2).to_below hx1.size (fun q hq => by rw [hq]; exact hlL1)));have hL2 : x2.heap[x0.heap.size]? = some (.cells #[.int .u8 71, .int .u8 82] 5 (2, 3)) := (by rw [<- hV]; exact freeze_block x1 x0.heap.size _ 5 2 hL1);clear hV hcv;refine hK.out _ _ ((hx2.cell (p := ⟨db, 0, none⟩) hdl).trans d0) (fun hHeld => ?_);clear hK KK;try simp only [Act.put, sA, sB, sC]
        refine wpAnyS_oneL (i := 3) (by kernel_rfl) rfl (fun KK hK => ?_);go_simp;refine (HRO.out _ hx2).mono ?_;rintro e x3 ⟨rfl, hbc⟩;have hx3 : Below w.heap.size w x3 := hx2.trans (hbc.mono hx2.size);have hL3 : x3.heap[x0.heap.size]? = some (.cells #[.int .u8 71, .int .u8 82] 5 (2, 3)) := (hbc.block _ (Array.getElem?_eq_some_iff.1 hL2).1).trans hL2;clear hbc;go_simp;refine hK.out _ _ ((hx3.cell (p := ⟨db, 0, none⟩) hdl).trans d0) (fun hHeld => ?_);clear hK KK;try simp only [Act.put, sA, sB, sC]
        refine tkL [11, 12, 13] (i := 4) (v := ?_) (hy := Or.inl ⟨by rfl, ?_⟩) (h := ?_)
        rotate_left;· intro w hSw;(try dsimp only at hSw);go_simp;try with_reducible rfl
        try simp only [Act.put, sA, sB, sC]
        refine wpAnyS_oneL (i := 11) (by kernel_rfl) rfl (fun KK hK => ?_);go_simp;generalize hV : World.alloc x3 (.cells #[.int .u8 (IntKind.u8.wrap (nr : Int)), .int .u8 (IntKind.u8.wrap (nk : Int))] 5) = x4;have hx4 : Below w.heap.size w x4 := (by rw [<- hV]; exact hx3.alloc hx3.size _);have hR4 : x4.heap[x3.heap.size]? = some (.cells #[.int .u8 (IntKind.u8.wrap (nr : Int)), .int .u8 (IntKind.u8.wrap (nk : Int))] 5 (0, 0)) := (by rw [<- hV]; exact heap_alloc_new _ _);have hlR4 : w.heap.size <= x3.heap.size := hx3.size;have hL4 : x4.heap[x0.heap.size]? = some (.cells #[.int .u8 71, .int .u8 82] 5 (2, 3)) := (by rw [<- hV]; exact (Below.heap_alloc _ _ _ (Array.getElem?_eq_some_iff.1 hL3).1).trans hL3);have hne : x0.heap.size ≠ x3.heap.size := (by have := (Array.getElem?_eq_some_iff.1 hL3).1; omega);clear hV
        refine hK.out _ _ ((hx4.cell (p := ⟨db, 0, none⟩) hdl).trans d0) (fun hHeld => ?_);clear hK KK;try simp only [Act.put, sA, sB, sC]
        refine wpAnyS_oneL (i := 12) (by kernel_rfl) rfl (fun KK hK => ?_);refine step_append_full rfl (.tmp 11) (.tmp 21) rfl (x0.heap.size) (x3.heap.size) 71 82 (IntKind.u8.wrap (nr : Int)) (IntKind.u8.wrap (nk : Int)) (2, 3) (0, 0) (by simp [Act.eval]) (by simp [Act.eval]) hL4 hR4 ?_;intro v6 w6 H6;obtain ⟨o6, k6, b6, q6, p6, hv6⟩ := H6.out;have hx5 : Below w.heap.size w w6 := hx4.trans (b6.mono hx4.size);have HO6 : Hid (OutB w w6 v6 [71, 82, (nr : Int) % 256, (nk : Int) % 256]) := ⟨hx5, o6, fun k hk => by rw [k6] at hk; injection hk with hk; rw [<- hk]; exact hx4.size⟩;subst hv6;clear H6 o6 k6 b6;refine hK.out _ _ ((hx5.cell (p := ⟨db, 0, none⟩) hdl).trans d0) (fun hHeld => ?_);clear hK KK;try simp only [Act.put, sA, sB, sC]
        refine wpAnyS_lastL (i := 13) (by kernel_rfl) rfl (by kernel_rfl) (fun KK hK => ?_);go_simp;refine hK.out _ _ ?_;clear hK KK;try simp only [Act.put, sA, sB, sC]
        
        refine wpAnyS_done (by kernel_rfl) ?_ _;go_wp2
        go_meet
        exact ⟨_, _, rfl, HO6.out⟩
      · skip
        go_simp;refine (HRO.out _ hx1).mono ?_;rintro e x2 ⟨rfl, hbc⟩;have hx2 : Below w.heap.size w x2 := hx1.trans (hbc.mono hx1.size);have hL2 : x2.heap[x0.heap.size]? = some (.cells #[.int .u8 71, .int .u8 82] 5 (0, 0)) := (hbc.block _ (Array.getElem?_eq_some_iff.1 hL1).1).trans hL1;clear hbc;go_simp;refine hK.out _ _ ((hx2.cell (p := ⟨db, 0, none⟩) hdl).trans d0) (fun hHeld => ?_);clear hK KK;try simp only [Act.put, sA, sB, sC]
        refine tkL [11, 12, 13] (i := 4) (v := ?_) (hy := Or.inl ⟨by rfl, ?_⟩) (h := ?_)
        rotate_left;· intro w hSw;(try dsimp only at hSw);go_simp;try with_reducible rfl
        try simp only [Act.put, sA, sB, sC]
        refine wpAnyS_two (i := 1) (j := 11) (by kernel_rfl) rfl rfl (fun KK hK => ?_) (fun KK hK => ?_)
        · skip
          have hcv : (convert 66 66 (.slice (some ⟨x0.heap.size, 0, none⟩) 2 2)).run Tryz.prog x2 = .ok (.slice (some ⟨x0.heap.size, 0, none⟩) 2 2) (World.freeze x2 ⟨x0.heap.size, 2, none⟩ 1) := conv_mark x2 x0.heap.size 2 2 _ hL2;go_simp;generalize hV : World.freeze x2 ⟨x0.heap.size, 2, none⟩ 1 = x3;have hx3 : Below w.heap.size w x3 := (by rw [<- hV]; exact hx2.trans ((freeze_touch x2 x0.heap.size 2).to_below hx2.size (fun q hq => by rw [hq]; exact hlL1)));have hL3 : x3.heap[x0.heap.size]? = some (.cells #[.int .u8 71, .int .u8 82] 5 (2, 3)) := (by rw [<- hV]; exact freeze_block x2 x0.heap.size _ 5 2 hL2);clear hV hcv;refine hK.out _ _ ((hx3.cell (p := ⟨db, 0, none⟩) hdl).trans d0) (fun hHeld => ?_);clear hK KK;try simp only [Act.put, sA, sB, sC]
          refine wpAnyS_oneL (i := 11) (by kernel_rfl) rfl (fun KK hK => ?_);go_simp;generalize hV : World.alloc x3 (.cells #[.int .u8 (IntKind.u8.wrap (nr : Int)), .int .u8 (IntKind.u8.wrap (nk : Int))] 5) = x4;have hx4 : Below w.heap.size w x4 := (by rw [<- hV]; exact hx3.alloc hx3.size _);have hR4 : x4.heap[x3.heap.size]? = some (.cells #[.int .u8 (IntKind.u8.wrap (nr : Int)), .int .u8 (IntKind.u8.wrap (nk : Int))] 5 (0, 0)) := (by rw [<- hV]; exact heap_alloc_new _ _);have hlR4 : w.heap.size <= x3.heap.size := hx3.size;have hL4 : x4.heap[x0.heap.size]? = some (.cells #[.int .u8 71, .int .u8 82] 5 (2, 3)) := (by rw [<- hV]; exact (Below.heap_alloc _ _ _ (Array.getElem?_eq_some_iff.1 hL3).1).trans hL3);have hne : x0.heap.size ≠ x3.heap.size := (by have := (Array.getElem?_eq_some_iff.1 hL3).1; omega);clear hV
          refine hK.out _ _ ((hx4.cell (p := ⟨db, 0, none⟩) hdl).trans d0) (fun hHeld => ?_);clear hK KK;try simp only [Act.put, sA, sB, sC]
          refine wpAnyS_oneL (i := 12) (by kernel_rfl) rfl (fun KK hK => ?_);refine step_append_full rfl (.tmp 11) (.tmp 21) rfl (x0.heap.size) (x3.heap.size) 71 82 (IntKind.u8.wrap (nr : Int)) (IntKind.u8.wrap (nk : Int)) (2, 3) (0, 0) (by simp [Act.eval]) (by simp [Act.eval]) hL4 hR4 ?_;intro v6 w6 H6;obtain ⟨o6, k6, b6, q6, p6, hv6⟩ := H6.out;have hx5 : Below w.heap.size w w6 := hx4.trans (b6.mono hx4.size);have HO6 : Hid (OutB w w6 v6 [71, 82, (nr : Int) % 256, (nk : Int) % 256]) := ⟨hx5, o6, fun k hk => by rw [k6] at hk; injection hk with hk; rw [<- hk]; exact hx4.size⟩;subst hv6;clear H6 o6 k6 b6;refine hK.out _ _ ((hx5.cell (p := ⟨db, 0, none⟩) hdl).trans d0) (fun hHeld => ?_);clear hK KK;try simp only [Act.put, sA, sB, sC]
          refine wpAnyS_lastL (i := 13) (by kernel_rfl) rfl (by kernel_rfl) (fun KK hK => ?_);go_simp;refine hK.out _ _ ?_;clear hK KK;try simp only [Act.put, sA, sB, sC]
          
          refine wpAnyS_done (by kernel_rfl) ?_ _;go_wp2
          go_meet
          exact ⟨_, _, rfl, HO6.out⟩
        · skip
          go_simp;generalize hV : World.alloc x2 (.cells #[.int .u8 (IntKind.u8.wrap (nr : Int)), .int .u8 (IntKind.u8.wrap (nk : Int))] 5) = x3;have hx3 : Below w.heap.size w x3 := (by rw [<- hV]; exact hx2.alloc hx2.size _);have hR3 : x3.heap[x2.heap.size]? = some (.cells #[.int .u8 (IntKind.u8.wrap (nr : Int)), .int .u8 (IntKind.u8.wrap (nk : Int))] 5 (0, 0)) := (by rw [<- hV]; exact heap_alloc_new _ _);have hlR3 : w.heap.size <= x2.heap.size := hx2.size;have hL3 : x3.heap[x0.heap.size]? = some (.cells #[.int .u8 71, .int .u8 82] 5 (0, 0)) := (by rw [<- hV]; exact (Below.heap_alloc _ _ _ (Array.getElem?_eq_some_iff.1 hL2).1).trans hL2);have hne : x0.heap.size ≠ x2.heap.size := (by have := (Array.getElem?_eq_some_iff.1 hL2).1; omega);clear hV;refine hK.out _ _ ((hx3.cell (p := ⟨db, 0, none⟩) hdl).trans d0) (fun hHeld => ?_);clear hK KK;try simp only [Act.put, sA, sB, sC]
          refine wpAnyS_oneL (i := 1) (by kernel_rfl) rfl (fun KK hK => ?_);have hcv : (convert 66 66 (.slice (some ⟨x0.heap.size, 0, none⟩) 2 2)).run Tryz.prog x3 = .ok (.slice (some ⟨x0.heap.size, 0, none⟩) 2 2) (World.freeze x3 ⟨x0.heap.size, 2, none⟩ 1) := conv_mark x3 x0.heap.size 2 2 _ hL3;go_simp;generalize hV : World.freeze x3 ⟨x0.heap.size, 2, none⟩ 1 = x4;have hx4 : Below w.heap.size w x4 := (by rw [<- hV]; exact hx3.trans ((freeze_touch x3 x0.heap.size 2).to_below hx3.size (fun q hq => by rw [hq]; exact hlL1)));have hL4 : x4.heap[x0.heap.size]? = some (.cells #[.int .u8 71, .int .u8 82] 5 (2, 3)) := by rw [<- hV]; exact freeze_block x3 x0.heap.size _ 5 2 hL3
          have hR4 : x4.heap[x2.heap.size]? = some (.cells #[.int .u8 (IntKind.u8.wrap (nr : Int)), .int .u8 (IntKind.u8.wrap (nk : Int))] 5 (0, 0)) := (by rw [<- hV]; exact (freeze_touch x3 x0.heap.size 2).at_ hR3 (fun e => hne e.symm));clear hV hcv;refine hK.out _ _ ((hx4.cell (p := ⟨db, 0, none⟩) hdl).trans d0) (fun hHeld => ?_);clear hK KK;try simp only [Act.put, sA, sB, sC]
          refine wpAnyS_oneL (i := 12) (by kernel_rfl) rfl (fun KK hK => ?_);refine step_append_full rfl (.tmp 11) (.tmp 21) rfl (x0.heap.size) (x2.heap.size) 71 82 (IntKind.u8.wrap (nr : Int)) (IntKind.u8.wrap (nk : Int)) (2, 3) (0, 0) (by simp [Act.eval]) (by simp [Act.eval]) hL4 hR4 ?_;intro v6 w6 H6;obtain ⟨o6, k6, b6, q6, p6, hv6⟩ := H6.out;have hx5 : Below w.heap.size w w6 := hx4.trans (b6.mono hx4.size);have HO6 : Hid (OutB w w6 v6 [71, 82, (nr : Int) % 256, (nk : Int) % 256]) := ⟨hx5, o6, fun k hk => by rw [k6] at hk; injection hk with hk; rw [<- hk]; exact hx4.size⟩;subst hv6;clear H6 o6 k6 b6;refine hK.out _ _ ((hx5.cell (p := ⟨db, 0, none⟩) hdl).trans d0) (fun hHeld => ?_);clear hK KK;try simp only [Act.put, sA, sB, sC]
          refine wpAnyS_lastL (i := 13) (by kernel_rfl) rfl (by kernel_rfl) (fun KK hK => ?_);go_simp;refine hK.out _ _ ?_;clear hK KK;try simp only [Act.put, sA, sB, sC]
          
          refine wpAnyS_done (by kernel_rfl) ?_ _;go_wp2
          go_meet
          exact ⟨_, _, rfl, HO6.out⟩
    · skip
      go_simp;refine (HRO.out _ hx0).mono ?_;rintro e x1 ⟨rfl, hbc⟩;have hx1 : Below w.heap.size w x1 := hx0.trans (hbc.mono hx0.size);clear hbc;go_simp;refine hK.out _ _ ((hx1.cell (p := ⟨db, 0, none⟩) hdl).trans d0) (fun hHeld => ?_);clear hK KK;try simp only [Act.put, sA, sB, sC]
      refine tkL [11, 12, 13] (i := 4) (v := ?_) (hy := Or.inl ⟨by rfl, ?_⟩) (h := ?_)
      rotate_left;· intro w hSw;(try dsimp only at hSw);go_simp;try with_reducible rfl
      try simp only [Act.put, sA, sB, sC]
      refine wpAnyS_two (i := 0) (j := 11) (by kernel_rfl) rfl rfl (fun KK hK => ?_) (fun KK hK => ?_)
      · skip
        go_simp;generalize hV : World.alloc x1 (.cells #[.int .u8 71, .int .u8 82] 5) = x2;have hx2 : Below w.heap.size w x2 := (by rw [<- hV]; exact hx1.alloc hx1.size _);have hL2 : x2.heap[x1.heap.size]? = some (.cells #[.int .u8 71, .int .u8 82] 5 (0, 0)) := (by rw [<- hV]; exact heap_alloc_new _ _);have hlL2 : w.heap.size <= x1.heap.size := hx1.size;clear hV;refine hK.out _ _ ((hx2.cell (p := ⟨db, 0, none⟩) hdl).trans d0) (fun hHeld => ?_);clear hK KK;try simp only [Act.put, sA, sB, sC]
        refine wpAnyS_two (i := 1) (j := 11) (by kernel_rfl) rfl rfl (fun KK hK => ?_) (fun KK hK => ?_)
        · skip
          have hcv : (convert 66 66 (.slice (some ⟨x1.heap.size, 0, none⟩) 2 2)).run Tryz.prog x2 = .ok (.slice (some ⟨x1.heap.size, 0, none⟩) 2 2) (World.freeze x2 ⟨x1.heap.size, 2, none⟩ 1) := conv_mark x2 x1.heap.size 2 2 _ hL2;go_simp;generalize hV : World.freeze x2 ⟨x1.heap.size, 2, none⟩ 1 = x3;have hx3 : Below w.heap.size w x3 := (by rw [<- hV]; exact hx2.trans ((freeze_touch x2 x1.heap.size 2).to_below hx2.size (fun q hq => by rw [hq]; exact hlL2)));have hL3 : x3.heap[x1.heap.size]? = some (.cells #[.int .u8 71, .int .u8 82] 5 (2, 3)) := (by rw [<- hV]; exact freeze_block x2 x1.heap.size _ 5 2 hL2);clear hV hcv;refine hK.out _ _ ((hx3.cell (p := ⟨db, 0, none⟩) hdl).trans d0) (fun hHeld => ?_);clear hK KK;try simp only [Act.put, sA, sB, sC]
          refine wpAnyS_oneL (i := 11) (by kernel_rfl) rfl (fun KK hK => ?_);go_simp;generalize hV : World.alloc x3 (.cells #[.int .u8 (IntKind.u8.wrap (nr : Int)), .int .u8 (IntKind.u8.wrap (nk : Int))] 5) = x4;have hx4 : Below w.heap.size w x4 := (by rw [<- hV]; exact hx3.alloc hx3.size _);have hR4 : x4.heap[x3.heap.size]? = some (.cells #[.int .u8 (IntKind.u8.wrap (nr : Int)), .int .u8 (IntKind.u8.wrap (nk : Int))] 5 (0, 0)) := (by rw [<- hV]; exact heap_alloc_new _ _);have hlR4 : w.heap.size <= x3.heap.size := hx3.size;have hL4 : x4.heap[x1.heap.size]? = some (.cells #[.int .u8 71, .int .u8 82] 5 (2, 3)) := (by rw [<- hV]; exact (Below.heap_alloc _ _ _ (Array.getElem?_eq_some_iff.1 hL3).1).trans hL3);have hne : x1.heap.size ≠ x3.heap.size := (by have := (Array.getElem?_eq_some_iff.1 hL3).1; omega);clear hV
          refine hK.out _ _ ((hx4.cell (p := ⟨db, 0, none⟩) hdl).trans d0) (fun hHeld => ?_);clear hK KK;try simp only [Act.put, sA, sB, sC]
          refine wpAnyS_oneL (i := 12) (by kernel_rfl) rfl (fun KK hK => ?_);refine step_append_full rfl (.tmp 11) (.tmp 21) rfl (x1.heap.size) (x3.heap.size) 71 82 (IntKind.u8.wrap (nr : Int)) (IntKind.u8.wrap (nk : Int)) (2, 3) (0, 0) (by simp [Act.eval]) (by simp [Act.eval]) hL4 hR4 ?_;intro v6 w6 H6;obtain ⟨o6, k6, b6, q6, p6, hv6⟩ := H6.out;have hx5 : Below w.heap.size w w6 := hx4.trans (b6.mono hx4.size);have HO6 : Hid (OutB w w6 v6 [71, 82, (nr : Int) % 256, (nk : Int) % 256]) := ⟨hx5, o6, fun k hk => by rw [k6] at hk; injection hk with hk; rw [<- hk]; exact hx4.size⟩;subst hv6;clear H6 o6 k6 b6;refine hK.out _ _ ((hx5.cell (p := ⟨db, 0, none⟩) hdl).trans d0) (fun hHeld => ?_);clear hK KK;try simp only [Act.put, sA, sB, sC]
          refine wpAnyS_lastL (i := 13) (by kernel_rfl) rfl (by kernel_rfl) (fun KK hK => ?_);go_simp;refine hK.out _ _ ?_;clear hK KK;try simp only [Act.put, sA, sB, sC]
          
          refine wpAnyS_done (by kernel_rfl) ?_ _;go_wp2
          go_meet
          exact ⟨_, _, rfl, HO6.out⟩
        · skip
          go_simp;generalize hV : World.alloc x2 (.cells #[.int .u8 (IntKind.u8.wrap (nr : Int)), .int .u8 (IntKind.u8.wrap (nk : Int))] 5) = x3;have hx3 : Below w.heap.size w x3 := (by rw [<- hV]; exact hx2.alloc hx2.size _);have hR3 : x3.heap[x2.heap.size]? = some (.cells #[.int .u8 (IntKind.u8.wrap (nr : Int)), .int .u8 (IntKind.u8.wrap (nk : Int))] 5 (0, 0)) := (by rw [<- hV]; exact heap_alloc_new _ _);have hlR3 : w.heap.size <= x2.heap.size := hx2.size;have hL3 : x3.heap[x1.heap.size]? = some (.cells #[.int .u8 71, .int .u8 82] 5 (0, 0)) := (by rw [<- hV]; exact (Below.heap_alloc _ _ _ (Array.getElem?_eq_some_iff.1 hL2).1).trans hL2);have hne : x1.heap.size ≠ x2.heap.size := (by have := (Array.getElem?_eq_some_iff.1 hL2).1; omega);clear hV;refine hK.out _ _ ((hx3.cell (p := ⟨db, 0, none⟩) hdl).trans d0) (fun hHeld => ?_);clear hK KK;try simp only [Act.put, sA, sB, sC]
          refine wpAnyS_oneL (i := 1) (by kernel_rfl) rfl (fun KK hK => ?_);have hcv : (convert 66 66 (.slice (some ⟨x1.heap.size, 0, none⟩) 2 2)).run Tryz.prog x3 = .ok (.slice (some ⟨x1.heap.size, 0, none⟩) 2 2) (World.freeze x3 ⟨x1.heap.size, 2, none⟩ 1) := conv_mark x3 x1.heap.size 2 2 _ hL3;go_simp;generalize hV : World.freeze x3 ⟨x1.heap.size, 2, none⟩ 1 = x4;have hx4 : Below w.heap.size w x4 := (by rw [<- hV]; exact hx3.trans ((freeze_touch x3 x1.heap.size 2).to_below hx3.size (fun q hq => by rw [hq]; exact hlL2)));have hL4 : x4.heap[x1.heap.size]? = some (.cells #[.int .u8 71, .int .u8 82] 5 (2, 3)) := by rw [<- hV]; exact freeze_block x3 x1.heap.size _ 5 2 hL3
          have hR4 : x4.heap[x2.heap.size]? = some (.cells #[.int .u8 (IntKind.u8.wrap (nr : Int)), .int .u8 (IntKind.u8.wrap (nk : Int))] 5 (0, 0)) := (by rw [<- hV]; exact (freeze_touch x3 x1.heap.size 2).at_ hR3 (fun e => hne e.symm));clear hV hcv;refine hK.out _ _ ((hx4.cell (p := ⟨db, 0, none⟩) hdl).trans d0) (fun hHeld => ?_);clear hK KK;try simp only [Act.put, sA, sB, sC]
          refine wpAnyS_oneL (i := 12) (by kernel_rfl) rfl (fun KK hK => ?_);refine step_append_full rfl (.tmp 11) (.tmp 21) rfl (x1.heap.size) (x2.heap.size) 71 82 (IntKind.u8.wrap (nr : Int)) (IntKind.u8.wrap (nk : Int)) (2, 3) (0, 0) (by simp [Act.eval]) (by simp [Act.eval]) hL4 hR4 ?_;intro v6 w6 H6;obtain ⟨o6, k6, b6, q6, p6, hv6⟩ := H6.out;have hx5 : Below w.heap.size w w6 := hx4.trans (b6.mono hx4.size);have HO6 : Hid (OutB w w6 v6 [71, 82, (nr : Int) % 256, (nk : Int) % 256]) := ⟨hx5, o6, fun k hk => by rw [k6] at hk; injection hk with hk; rw [<- hk]; exact hx4.size⟩;subst hv6;clear H6 o6 k6 b6;refine hK.out _ _ ((hx5.cell (p := ⟨db, 0, none⟩) hdl).trans d0) (fun hHeld => ?_);clear hK KK;try simp only [Act.put, sA, sB, sC]
          refine wpAnyS_lastL (i := 13) (by kernel_rfl) rfl (by kernel_rfl) (fun KK hK => ?_);go_simp;refine hK.out _ _ ?_;clear hK KK;try simp only [Act.put, sA, sB, sC]
          
          refine wpAnyS_done (by kernel_rfl) ?_ _;go_wp2
          go_meet
          exact ⟨_, _, rfl, HO6.out⟩
      · skip
        go_simp;generalize hV : World.alloc x1 (.cells #[.int .u8 (IntKind.u8.wrap (nr : Int)), .int .u8 (IntKind.u8.wrap (nk : Int))] 5) = x2;have hx2 : Below w.heap.size w x2 := (by rw [<- hV]; exact hx1.alloc hx1.size _);have hR2 : x2.heap[x1.heap.size]? = some (.cells #[.int .u8 (IntKind.u8.wrap (nr : Int)), .int .u8 (IntKind.u8.wrap (nk : Int))] 5 (0, 0)) := (by rw [<- hV]; exact heap_alloc_new _ _);have hlR2 : w.heap.size <= x1.heap.size := hx1.size;clear hV;refine hK.out _ _ ((hx2.cell (p := ⟨db, 0, none⟩) hdl).trans d0) (fun hHeld => ?_);clear hK KK;try simp only [Act.put, sA, sB, sC]
        refine wpAnyS_oneL (i := 0) (by kernel_rfl) rfl (fun KK hK => ?_);go_simp;generalize hV : World.alloc x2 (.cells #[.int .u8 71, .int .u8 82] 5) = x3;have hx3 : Below w.heap.size w x3 := (by rw [<- hV]; exact hx2.alloc hx2.size _);have hL3 : x3.heap[x2.heap.size]? = some (.cells #[.int .u8 71, .int .u8 82] 5 (0, 0)) := (by rw [<- hV]; exact heap_alloc_new _ _);have hlL3 : w.heap.size <= x2.heap.size := hx2.size;have hR3 : x3.heap[x1.heap.size]? = some (.cells #[.int .u8 (IntKind.u8.wrap (nr : Int)), .int .u8 (IntKind.u8.wrap (nk : Int))] 5 (0, 0)) := (by rw [<- hV]; exact (Below.heap_alloc _ _ _ (Array.getElem?_eq_some_iff.1 hR2).1).trans hR2);have hne : x2.heap.size ≠ x1.heap.size := (by have := (Array.getElem?_eq_some_iff.1 hR2).1; omega);clear hV;refine hK.out _ _ ((hx3.cell (p := ⟨db, 0, none⟩) hdl).trans d0) (fun hHeld => ?_);clear hK KK
        try simp only [Act.put, sA, sB, sC]
        refine wpAnyS_oneL (i := 1) (by kernel_rfl) rfl (fun KK hK => ?_);have hcv : (convert 66 66 (.slice (some ⟨x2.heap.size, 0, none⟩) 2 2)).run Tryz.prog x3 = .ok (.slice (some ⟨x2.heap.size, 0, none⟩) 2 2) (World.freeze x3 ⟨x2.heap.size, 2, none⟩ 1) := conv_mark x3 x2.heap.size 2 2 _ hL3;go_simp;generalize hV : World.freeze x3 ⟨x2.heap.size, 2, none⟩ 1 = x4;have hx4 : Below w.heap.size w x4 := (by rw [<- hV]; exact hx3.trans ((freeze_touch x3 x2.heap.size 2).to_below hx3.size (fun q hq => by rw [hq]; exact hlL3)));have hL4 : x4.heap[x2.heap.size]? = some (.cells #[.int .u8 71, .int .u8 82] 5 (2, 3)) := by rw [<- hV]; exact freeze_block x3 x2.heap.size _ 5 2 hL3
        have hR4 : x4.heap[x1.heap.size]? = some (.cells #[.int .u8 (IntKind.u8.wrap (nr : Int)), .int .u8 (IntKind.u8.wrap (nk : Int))] 5 (0, 0)) := (by rw [<- hV]; exact (freeze_touch x3 x2.heap.size 2).at_ hR3 (fun e => hne e.symm));clear hV hcv;refine hK.out _ _ ((hx4.cell (p := ⟨db, 0, none⟩) hdl).trans d0) (fun hHeld => ?_);clear hK KK;try simp only [Act.put, sA, sB, sC]
        refine wpAnyS_oneL (i := 12) (by kernel_rfl) rfl (fun KK hK => ?_);refine step_append_full rfl (.tmp 11) (.tmp 21) rfl (x2.heap.size) (x1.heap.size) 71 82 (IntKind.u8.wrap (nr : Int)) (IntKind.u8.wrap (nk : Int)) (2, 3) (0, 0) (by simp [Act.eval]) (by simp [Act.eval]) hL4 hR4 ?_;intro v6 w6 H6;obtain ⟨o6, k6, b6, q6, p6, hv6⟩ := H6.out;have hx5 : Below w.heap.size w w6 := hx4.trans (b6.mono hx4.size);have HO6 : Hid (OutB w w6 v6 [71, 82, (nr : Int) % 256, (nk : Int) % 256]) := ⟨hx5, o6, fun k hk => by rw [k6] at hk; injection hk with hk; rw [<- hk]; exact hx4.size⟩;subst hv6;clear H6 o6 k6 b6;refine hK.out _ _ ((hx5.cell (p := ⟨db, 0, none⟩) hdl).trans d0) (fun hHeld => ?_);clear hK KK;try simp only [Act.put, sA, sB, sC]
        refine wpAnyS_lastL (i := 13) (by kernel_rfl) rfl (by kernel_rfl) (fun KK hK => ?_);go_simp;refine hK.out _ _ ?_;clear hK KK;try simp only [Act.put, sA, sB, sC]
        
        refine wpAnyS_done (by kernel_rfl) ?_ _;go_wp2
        go_meet
        exact ⟨_, _, rfl, HO6.out⟩
  case rest =>
    obtain ⟨a0, c0, rfl, HO⟩ := hcut;have q0 := (HO.out.bl.cell (p := ⟨db, 0, none⟩) hdl).trans d0;go_wp2_with fail
    go_loopw [3, 28] (fun tv ti wr => ∃ (k : Nat) (a : Option Addr) (c n : Nat), tv = .slice a n c /\ ti = .int .i64 k /\ k <= nk /\ n <= 4 + k * 9003 /\ Hid (OutB w wr (.slice a n c) ([71, 82, (nr : Int) % 256, (nk : Int) % 256] ++ (D.ks.take k).flatMap knA) /\ ([71, 82, (nr : Int) % 256, (nk : Int) % 256] ++ (D.ks.take k).flatMap knA).length = n)) (fun _ ti _ => nk - (intOf ti).toNat)
    case atStart => exact ⟨0, a0, c0, 4, rfl, rfl, Nat.zero_le _, by omega, by rw [List.take_zero]; exact ⟨HO.out, rfl⟩⟩
    case round =>
      clear HO q0;obtain ⟨k, a, c, n, rfl, rfl, hk, hn, HR⟩ := hrel
      by_cases hkl2 : k < nk
      · have hkL : k < D.ks.length := (by rw [HNN.out.2]; exact hkl2);obtain ⟨q, cc, ab, cb, aw, cw, hv, hql, k0, k1, k2, k3, hI, hS⟩ := HM.out.kn.at hkL;have hka : ka = some ⟨q, 0, none⟩ := (by injection hv);subst hka;have hKm : KnOk (D.ks.getD k k0S) := (by have : D.ks.getD k k0S = D.ks[k] := (by simp [List.getD, hkL]);rw [this]; exact HKS.out.1 _ (List.getElem_mem hkL));have HKm : Hid (KnOk (D.ks.getD k k0S)) := hKm;have hbw := HR.out.1.bl;have e0 := (hbw.cell (p := ⟨q, k * 4, none⟩) hql).trans k0;have e1 := (hbw.cell (p := ⟨q, k * 4 + 1, none⟩) hql).trans k1;have e2 := (hbw.cell (p := ⟨q, k * 4 + 2, none⟩) hql).trans k2;have e3 := (hbw.cell (p := ⟨q, k * 4 + 3, none⟩) hql).trans k3
        have HX : Hid ([71, 82, (nr : Int) % 256, (nk : Int) % 256] ++ (D.ks.take (k + 1)).flatMap knA = ([71, 82, (nr : Int) % 256, (nk : Int) % 256] ++ (D.ks.take k).flatMap knA) ++ knA (D.ks.getD k k0S)) := (by show _ = _;rw [flat_take knA D.ks k0S hkL, List.append_assoc]);have HKL : Hid ((knA (D.ks.getD k k0S)).length <= 9003) := knA_len hKm
        have HKA : Hid (∀ (W : World) (L : List Int), OutB w W (.slice a L.length c) L -> L.length <= 900000 -> Calls Tryz.prog 100 #[.agg #[.bool (D.ks.getD k k0S).e.wd, .slice ab (D.ks.getD k k0S).e.bs.length cb, .slice aw (D.ks.getD k k0S).e.ww.length cw, .int .i64 ((D.ks.getD k k0S).d : Nat)], .slice a L.length c] W fun e w' => OutE w (L ++ knA (D.ks.getD k k0S)) e w') := fun W L hW hL => by
          rcases hKm with hKm | hKm
          have h1 := knownAppend_num w ab aw cb cw (D.ks.getD k k0S) a c L W hKm.1 hI hW hKm.2.2.1 hKm.2.2.2 hL;have e1 : knA (D.ks.getD k k0S) = knB (D.ks.getD k k0S) := (by unfold knA; rw [hKm.1]; rfl);rw [e1, hKm.2.1];exact h1;have h1 := knownAppend_word w ab aw cb cw (D.ks.getD k k0S) a c L W hKm.1 hS hW hKm.2.2.1 hKm.2.2.2 hL;have e1 : knA (D.ks.getD k k0S) = knWB (D.ks.getD k k0S) := (by unfold knA; rw [hKm.1]; rfl);rw [e1, hKm.2.1];exact h1
        clear hKm k0 k1 k2 k3 hI hS hv hbw;generalize D.ks.getD k k0S = Kk at *;generalize [71, 82, (nr : Int) % 256, (nk : Int) % 256] ++ (D.ks.take k).flatMap knA = L0 at *;have bk1 : (0 : Int) <= (k : Int) := (by omega);have bk2 : (k : Int) < (nk : Int) := (by omega);generalize Kk.e.wd = wdk at *;generalize Kk.e.ww.length = nwk at *;generalize Kk.e.bs.length = nb at *;generalize Kk.d = dd at *;go_wp2_with fail
        have hW := HR.out.1.below ((Below.refl wr.heap.size wr).alloc (Nat.le_refl _) (.cells #[.bool wdk, .slice ab nb cb, .slice aw nwk cw, .int .i64 (dd : Nat)] 172));have hC := HKA.out _ L0 (by rw [HR.out.2]; exact hW) (by rw [HR.out.2]; omega);rw [HR.out.2] at hC;refine hC.mono ?_;rintro e w3 ⟨a3, c3, rfl, h3⟩;rw [<- HX.out] at h3 ⊢;obtain ⟨n3, hn3⟩ : ∃ n3, n3 = ([71, 82, (nr : Int) % 256, (nk : Int) % 256] ++ (D.ks.take (k + 1)).flatMap knA).length := ⟨_, rfl⟩;have hn4 : n3 <= 4 + (k + 1) * 9003 := (by rw [hn3, HX.out, List.length_append, HR.out.2];have := HKL.out;omega);rw [<- hn3] at h3 ⊢;have HN : Hid (OutB w w3 (.slice a3 n3 c3) ([71, 82, (nr : Int) % 256, (nk : Int) % 256] ++ (D.ks.take (k + 1)).flatMap knA) /\ ([71, 82, (nr : Int) % 256, (nk : Int) % 256] ++ (D.ks.take (k + 1)).flatMap knA).length = n3) := ⟨h3, hn3.symm⟩;clear h3 hn3 hC hW HKA HX HR e0 e1 e2 e3;go_wp2
        go_roundw
        case rel => exact ⟨k + 1, a3, c3, n3, rfl, by go_num, by omega, hn4, HN⟩
        case measure => simp [intOf]; omega
      · have hnk : ¬ (k : Int) < (nk : Int) := (by omega);have htk : D.ks.take k = D.ks := List.take_of_length_le (by have := HNN.out.2; omega);rw [htk] at HR;obtain ⟨ba, bc, hvB⟩ := HM.out.ds.bn.form;subst hvB;have HOF : Hid (outF D X = ([71, 82, (nr : Int) % 256, (nk : Int) % 256] ++ D.ks.flatMap knA) ++ [((D.bs.length : Nat) : Int) % 256] ++ D.bs.flatMap bunB ++ lowL (X.length : Nat) 2 ++ X.flatMap xB) := by show _ = _;unfold outF;rw [HNN.out.1, HNN.out.2]
        generalize hnb : D.bs.length = nb at *;have HNB : Hid (D.bs.length = nb) := hnb;have HBLB : Hid (nb <= 4) := hbl;clear hnb htk hbl;have d1 : w.cell? ⟨db, 1, none⟩ = some (.slice ba nb bc) := cell_of_row _ _ 1 _ 168 (0, 0) HM.out.ds.blk;have e1 := (HR.out.1.bl.cell (p := ⟨db, 1, none⟩) hdl).trans d1;have hwl : db < wr.heap.size := Nat.lt_of_lt_of_le hdl HR.out.1.bl.size;generalize [71, 82, (nr : Int) % 256, (nk : Int) % 256] ++ D.ks.flatMap knA = L1 at *;have HRW : Hid (wr.ownsRow 0 5 1 (.slice a n c) n (L1.map (Value.int .u8))) := by have h1 := HR.out.1.ow;unfold OwnB at h1;rw [HR.out.2] at h1;exact h1
        have hn2 : n <= 36016 := (by omega);go_wp2_with (at_builtin; refine wpList_append_mark rfl (.tmp 36) (.tmp 43) 66 rfl 0 5 i0 (.int .u8 0) 1 1 Tryz.underlying66 hinf hz0 hz1 hz2 rfl (by decide) _ n (L1.map (Value.int .u8)) rfl (HRW.out.alloc _) ⟨wr.heap.size, 0, none⟩ 1 1 [.int .u8 ((nb : Int) % 256)] rfl rfl ?_ ?_ ?_ ?_ ?_ ?_ ?_)
        all_goals try first | exact one_new wr #[.int .u8 ((nb : Int) % 256)] 5 | (intro u hu; simp at hu; rcases hu with rfl; rfl) | exact Nat.zero_le _ | rfl | decide | (unfold maxLen; omega) | omega
        intro v4 w4 H4;obtain ⟨r4, g4, d4, _, q4, p4, hv4⟩ := H4.out;have HO4 : Hid (OutB w w4 v4 (L1 ++ [(nb : Int) % 256]) /\ (L1 ++ [(nb : Int) % 256]).length = n + 1) := (by refine ⟨HR.out.1.app ?_ (AppP.pre ((Below.refl wr.heap.size wr).alloc (Nat.le_refl _) _) (AppP.of_mark g4 d4 (by simp))), by rw [List.length_append, HR.out.2]; rfl⟩;refine OwnB.more (n := 1) ?_ rfl;rw [HR.out.2];exact r4);have e14 := (HO4.out.1.bl.cell (p := ⟨db, 1, none⟩) hdl).trans d1;subst hv4;clear H4 r4 g4 d4 HRW HR e1 hn;generalize L1 ++ [(nb : Int) % 256] = L2 at *;obtain ⟨wl, hwl3⟩ : ∃ wl, wl = wr := ⟨wr, rfl⟩;subst hwl3;go_wp2_with fail
        go_loopw [3, 50] (fun tv ti wr => ∃ (j : Nat) (a : Option Addr) (c n : Nat), tv = .slice a n c /\ ti = .int .i64 j /\ j <= nb /\ n <= 36017 + j * 5000 /\ Hid (OutB w wr (.slice a n c) (L2 ++ (D.bs.take j).flatMap bunB) /\ (L2 ++ (D.bs.take j).flatMap bunB).length = n)) (fun _ ti _ => nb - (intOf ti).toNat)
        case atStart => exact ⟨0, _, _, n + 1, rfl, rfl, Nat.zero_le _, by omega, by rw [List.take_zero]; show OutB _ _ _ (L2 ++ []) /\ (L2 ++ []).length = _; rw [List.append_nil]; exact HO4.out⟩
        case round =>
          clear HO4 e14;obtain ⟨j, a, c, n, rfl, rfl, hj, hn, HR⟩ := hrel;have hjb : j <= 4 := Nat.le_trans hj HBLB.out
          by_cases hjl : j < nb
          · have hjL : j < D.bs.length := (by rw [HNB.out]; exact hjl);obtain ⟨q, cc, hv, hql, k0, k1⟩ := HM.out.ds.bn.at hjL;have hka : ba = some ⟨q, 0, none⟩ := (by injection hv);subst hka;have hBm : BunOk (D.bs.getD j b0S) := (by have : D.bs.getD j b0S = D.bs[j] := (by simp [List.getD, hjL]);rw [this]; exact HKS.out.2.1 _ (List.getElem_mem hjL));obtain ⟨hI, hcol⟩ := HM.out.ds.bn.each j hjL;obtain ⟨fa, fcc, hvf⟩ := hI.shape;obtain ⟨ct, cp, hvc⟩ := hcol.iface;rw [natI_len] at hvf;rw [hvf] at k0 hI;rw [hvc] at k1 hcol;have hbw := HR.out.1.bl;have e0 := (hbw.cell (p := ⟨q, j * 2, none⟩) hql).trans k0;have e1 := (hbw.cell (p := ⟨q, j * 2 + 1, none⟩) hql).trans k1;have HX : Hid (L2 ++ (D.bs.take (j + 1)).flatMap bunB = (L2 ++ (D.bs.take j).flatMap bunB) ++ bunB (D.bs.getD j b0S)) := by show _ = _;rw [flat_take bunB D.bs b0S hjL, List.append_assoc]
            have HKL : Hid ((bunB (D.bs.getD j b0S)).length <= 5000) := hBm.2.2.2.2
            have HKA : Hid (∀ (W : World) (L : List Int), OutB w W (.slice a L.length c) L -> L.length <= 900000 -> Calls Tryz.prog 101 #[.agg #[.slice fa (D.bs.getD j b0S).fs.length fcc, .iface ct (.pointer (some ⟨cp, 0, none⟩))], .slice a L.length c] W fun e w' => OutE w (L ++ bunB (D.bs.getD j b0S)) e w') := fun W L hW hL =>
              bundleAppend_any w fa fcc (D.bs.getD j b0S) _ a c L W hI hcol hW hBm.1 hBm.2.1 hL hBm.2.2.1 hBm.2.2.2.1
            clear hBm k0 k1 hI hcol hv hbw hvf hvc;generalize D.bs.getD j b0S = Bk at *;generalize L2 ++ (D.bs.take j).flatMap bunB = L0 at *;generalize Bk.fs.length = nf at *;have bk1 : (0 : Int) <= (j : Int) := (by omega);have bk2 : (j : Int) < (nb : Int) := (by omega);go_wp2_with fail
            have hW := HR.out.1.below ((Below.refl wr.heap.size wr).alloc (Nat.le_refl _) (.cells #[.slice fa nf fcc, .iface ct (.pointer (some ⟨cp, 0, none⟩))] 163));have hC := HKA.out _ L0 (by rw [HR.out.2]; exact hW) (by rw [HR.out.2]; have := HBLB.out; omega);rw [HR.out.2] at hC;refine hC.mono ?_;rintro e w3 ⟨a3, c3, rfl, h3⟩;rw [<- HX.out] at h3 ⊢;obtain ⟨n3, hn3⟩ : ∃ n3, n3 = (L2 ++ (D.bs.take (j + 1)).flatMap bunB).length := ⟨_, rfl⟩;have hn4 : n3 <= 36017 + (j + 1) * 5000 := (by rw [hn3, HX.out, List.length_append, HR.out.2];have := HKL.out;omega);rw [<- hn3] at h3 ⊢;have HN : Hid (OutB w w3 (.slice a3 n3 c3) (L2 ++ (D.bs.take (j + 1)).flatMap bunB) /\ (L2 ++ (D.bs.take (j + 1)).flatMap bunB).length = n3) := ⟨h3, hn3.symm⟩;clear h3 hn3 hC hW HKA HX HR e0 e1;go_wp2
            go_roundw
            case rel => exact ⟨j + 1, a3, c3, n3, rfl, by go_num, by omega, hn4, HN⟩
            case measure => simp [intOf]; omega
          · have hnj : ¬ (j : Int) < (nb : Int) := (by omega);have htk : D.bs.take j = D.bs := List.take_of_length_le (by have := HNB.out; omega);rw [htk] at HR;obtain ⟨xa, xc, hvX⟩ := HM.out.ds.xn.shape;subst hvX;have d2 : w.cell? ⟨db, 2, none⟩ = some (.slice xa X.length xc) := cell_of_row _ _ 2 _ 168 (0, 0) HM.out.ds.blk;have e2 := (HR.out.1.bl.cell (p := ⟨db, 2, none⟩) hdl).trans d2;have hn2 : n <= 56017 := (by omega);have HOG : Hid (outF D X = (L2 ++ D.bs.flatMap bunB ++ lowL (X.length : Nat) 2) ++ X.flatMap xB) := HOF.out;generalize hL3 : L2 ++ D.bs.flatMap bunB = L3 at *
            have HAL : Calls Tryz.prog 102 #[.slice a n c, .int .i64 (X.length : Nat), .int .i64 2] wr fun e w' => OutE w (L3 ++ lowL (X.length : Nat) 2) e w' := (by have h1 := HR.out.1;rw [<- HR.out.2] at h1 ⊢;exact (appendLow_any a c 2 L3 (X.length : Nat) wr h1.ow (by omega) (by rw [HR.out.2]; omega) (by omega) (by omega)).mono (fun e w' h => h.out h1));clear htk hL3 HOF;generalize hxn : X.length = xn at *;have HXN : Hid (X.length = xn) := hxn;clear hxn;go_wp2_with fail
            refine HAL.mono ?_;rintro e w5 ⟨a5, c5, rfl, h5⟩;obtain ⟨n5, hn5⟩ : ∃ n5, n5 = (L3 ++ lowL (xn : Nat) 2).length := ⟨_, rfl⟩;have hn6 : n5 = n + 2 := (by rw [hn5, List.length_append, lowL_len, HR.out.2]);have hn7 : n5 <= 56019 := (by omega);rw [<- hn5] at h5 ⊢;have HO5 : Hid (OutB w w5 (.slice a5 n5 c5) (L3 ++ lowL (xn : Nat) 2) /\ (L3 ++ lowL (xn : Nat) 2).length = n5) := ⟨h5, hn5.symm⟩;have e5 := (h5.bl.cell (p := ⟨db, 2, none⟩) hdl).trans d2;clear h5 hn5 hn6 HAL HR e2 hn;generalize L3 ++ lowL (xn : Nat) 2 = L5 at *;obtain ⟨wm, hwm⟩ : ∃ wm, wm = wr := ⟨wr, rfl⟩;subst hwm;go_wp2_with fail
            go_loopw [3, 70] (fun tv ti wr => ∃ (r : Nat) (a : Option Addr) (c n : Nat), tv = .slice a n c /\ ti = .int .i64 r /\ r <= xn /\ n = n5 + r * 3 /\ Hid (OutB w wr (.slice a n c) (L5 ++ (X.take r).flatMap xB) /\ (L5 ++ (X.take r).flatMap xB).length = n)) (fun _ ti _ => xn - (intOf ti).toNat)
            case atStart => exact ⟨0, _, _, n5, rfl, rfl, Nat.zero_le _, rfl, by rw [List.take_zero]; show OutB _ _ _ (L5 ++ []) /\ (L5 ++ []).length = _; rw [List.append_nil]; exact HO5.out⟩
            case round =>
              clear HO5 e5;obtain ⟨r, a, c, n, rfl, rfl, hr, hn, HR⟩ := hrel
              by_cases hrl : r < xn
              · have hrL : r < X.length := (by rw [HXN.out]; exact hrl);obtain ⟨q, hq, hql, k0, k1, k2⟩ := OwnX.atK HM.out.ds.xn HXN.out hrl;subst hq;have hbw := HR.out.1.bl;have e0 := (hbw.cell (p := ⟨q, r * 3, none⟩) hql).trans k0;have e1 := (hbw.cell (p := ⟨q, r * 3 + 1, none⟩) hql).trans k1;have e2 := (hbw.cell (p := ⟨q, r * 3 + 2, none⟩) hql).trans k2;have HX : Hid (L5 ++ (X.take (r + 1)).flatMap xB = (L5 ++ (X.take r).flatMap xB) ++ [(((X.getD r x0S).row : Nat) : Int) % 256, (((X.getD r x0S).f : Nat) : Int) % 256, (((X.getD r x0S).bin : Nat) : Int) % 256]) := (by show _ = _;rw [flat_take xB X x0S hrL, List.append_assoc]; rfl);clear k0 k1 k2 hbw;generalize L5 ++ (X.take r).flatMap xB = L0 at *;generalize (X.getD r x0S).row = y0 at *;generalize (X.getD r x0S).f = y1 at *;generalize (X.getD r x0S).bin = y2 at *
                have HRW : Hid (wr.ownsRow 0 5 1 (.slice a n c) n (L0.map (Value.int .u8))) := (by have h1 := HR.out.1.ow;unfold OwnB at h1;rw [HR.out.2] at h1;exact h1);have HNE : Hid (n = n5 + r * 3) := hn;have hn9 : n <= 70000 := (by omega);clear hn;have bk1 : (0 : Int) <= (r : Int) := (by omega);have bk2 : (r : Int) < (xn : Int) := (by omega);go_wp2_with (at_builtin; refine wpList_append_mark rfl (.tmp 74) (.tmp 84) 66 rfl 0 5 i0 (.int .u8 0) 1 1 Tryz.underlying66 hinf hz0 hz1 hz2 rfl (by decide) _ n (L0.map (Value.int .u8)) rfl ((HRW.out.alloc _).alloc _) ⟨wr.heap.size + 1, 0, none⟩ 3 3 [.int .u8 ((y0 : Int) % 256), .int .u8 ((y1 : Int) % 256), .int .u8 ((y2 : Int) % 256)] rfl rfl ?_ ?_ ?_ ?_ ?_ ?_ ?_)
                intro j u hu;have h1 := one_new (wr.alloc (.cells #[.int .i64 (y0 : Nat), .int .i64 (y1 : Nat), .int .i64 (y2 : Nat)] 184)) #[.int .u8 ((y0 : Int) % 256), .int .u8 ((y1 : Int) % 256), .int .u8 ((y2 : Int) % 256)] 5 j u hu;rw [show (wr.alloc (.cells #[.int .i64 (y0 : Nat), .int .i64 (y1 : Nat), .int .i64 (y2 : Nat)] 184)).heap.size = wr.heap.size + 1 by simp] at h1;exact h1
                · intro u hu; simp at hu; rcases hu with rfl | rfl | rfl <;> rfl
                decide;unfold maxLen; omega;omega;simp;intro v7 w7 H7;obtain ⟨r7, g7, d7, _, q7, p7, hv7⟩ := H7.out;have HN : Hid (OutB w w7 v7 (L5 ++ (X.take (r + 1)).flatMap xB) /\ (L5 ++ (X.take (r + 1)).flatMap xB).length = n + 3) := (by have hbx : Below wr.heap.size wr ((wr.alloc (.cells #[.int .i64 (y0 : Nat), .int .i64 (y1 : Nat), .int .i64 (y2 : Nat)] 184)).alloc (.cells #[.int .u8 ((y0 : Int) % 256), .int .u8 ((y1 : Int) % 256), .int .u8 ((y2 : Int) % 256)] 5)) := ((Below.refl _ _).alloc (Nat.le_refl _) _).alloc (by simp) _;rw [HX.out];refine ⟨HR.out.1.app ?_ (AppP.pre hbx (AppP.of_mark g7 d7 (by simp))), by rw [List.length_append, HR.out.2]; rfl⟩;refine OwnB.more (n := 3) ?_ rfl;rw [HR.out.2];exact r7);subst hv7;clear H7 r7 g7 d7 HRW HR HX e0 e1 e2;go_wp2
                go_roundw
                case rel => exact ⟨r + 1, some ⟨q7, 0, none⟩, p7, n + 3, rfl, by go_num, by omega, by have := HNE.out; omega, HN⟩
                case measure => simp [intOf]; omega
              · have hnr2 : ¬ (r : Int) < (xn : Int) := (by omega);have htk : X.take r = X := List.take_of_length_le (by have := HXN.out; omega);rw [htk, <- HOG.out] at HR;have hn9 : n <= 70000 := by omega
                have HCS : Calls Tryz.prog 103 #[.slice a n c] wr fun e w' => e = .returned (.int .u32 (crcR (outF D X))) /\ w' = wr := (by have h1 := HR.out.1.ow;rw [<- HR.out.2] at h1 ⊢;exact checksum_any a c (outF D X) wr h1 (by rw [HR.out.2]; omega) HKS.out.2.2);have hz := bits_in .xor 4294967295 (crcF (outF D X));have hz' : 0 <= crcR (outF D X) /\ crcR (outF D X) < 4294967296 := hz;have HBF : Hid (bytesF D X = outF D X ++ lowL (crcR (outF D X)) 4) := rfl;have HAL : Calls Tryz.prog 102 #[.slice a n c, .int .i64 (crcR (outF D X)), .int .i64 4] wr fun e w' => OutE w (outF D X ++ lowL (crcR (outF D X)) 4) e w' := by have h1 := HR.out.1;rw [<- HR.out.2] at h1 ⊢;exact (appendLow_any a c 4 (outF D X) (crcR (outF D X)) wr h1.ow (by omega) (by rw [HR.out.2]; omega) (by omega) (by omega)).mono (fun e w' h => h.out h1)
                rw [<- HBF.out] at HAL;clear htk hz hn HBF;generalize crcR (outF D X) = z at *;obtain ⟨hz1', hz2'⟩ := hz';go_wp2_with fail
                refine HCS.mono ?_;rintro e w8 ⟨rfl, hw8⟩;obtain rfl := hw8.symm;clear HCS;go_wp2_with fail
                refine HAL.mono ?_;rintro e w9 ⟨a9, c9, rfl, h9⟩;have hcv := conv_any w9 0 (.slice a9 (bytesF D X).length c9) (bytesF D X) h9.ow;have HB9 : Hid (Below w.heap.size w w9) := h9.bl;generalize (bytesF D X).length = n9 at *;clear h9 HAL HR;go_wp2
                go_ret
                exact ⟨rfl, HB9.out⟩
end Go.Proofs.YtfcgnpchbcmdeaaGreat

namespace Go.Proofs.YtfcgnpchbcmdeaaGreat
open Go.RowKit
theorem gBytes_any (gb db : Nat) (vK vB vX : Value) (kvs bvs : List (Value × Value)) (X : List XS) (D : DSS) (w : World) (hg : w.heap[gb]? = some (.cells #[.pointer (some ⟨db, 0, none⟩)] 110 (0, 0))) (h : MadeX w db vK vB vX kvs bvs X D) (h0 : 0 < D.bs.length) (hks : ∀ K ∈ D.ks, KnOk K) (hkl : D.ks.length <= 4) (hbs : ∀ b ∈ D.bs, BunOk b) (hbl : D.bs.length <= 4) (hxl : X.length <= 4000) (hby : ∀ b ∈ outF D X, 0 <= b /\ b < 256) : Calls Tryz.prog 34 #[.pointer (some ⟨gb, 0, none⟩)] w fun e w' => e = .returned (.string (strOfNums (bytesF D X))) /\ Below w.heap.size w w' := by
  have g0 : w.cell? ⟨gb, 0, none⟩ = some (.pointer (some ⟨db, 0, none⟩)) := cell_of_row _ _ 0 _ 110 (0, 0) hg
  have HB := bytes_any db vK vB vX kvs bvs X D w h h0 hks hkl hbs hbl hxl hby
  clear hg h h0 hks hkl hbs hbl hxl hby
  generalize strOfNums (bytesF D X) = sb at *;go_enter Tryz.func34, Tryz.ntmps34
  go_wp2_with fail
  refine HB.mono ?_;rintro e w2 ⟨rfl, hb⟩;have H2 : Hid (Below w.heap.size w w2) := hb;clear hb;go_wp2
  go_ret
  exact ⟨rfl, H2.out⟩
theorem shapeWidth_any (n d : Int) (w : World) : Calls Tryz.prog 330 #[.agg #[.int .i64 n, .int .i64 d]] w fun e w' => e = .returned (.int .i64 d) /\ Below w.heap.size w w' := by
  go_enter Tryz.func330, Tryz.ntmps330
  go_wp2
  go_ret
  exact ⟨rfl, (Below.refl _ _).alloc (Nat.le_refl _) _⟩
end Go.Proofs.YtfcgnpchbcmdeaaGreat

namespace Go.Proofs.YtfcgnpchbcmdeaaGreat
open Go.RowKit
theorem lowB_bit {f : Nat -> Nat} (hf : ∀ t, f t <= 1) (b : Nat) : ∀ c r, r < c -> lowB f b c / 2 ^ r % 2 = f (b + r)
  | 0, r, h => by omega
  | c + 1, r, h => by
    simp only [lowB]
    by_cases e : r = c
    subst e;have h1 := lowB_lt hf b r;have h2 := hf (b + r);rw [Nat.add_mul_div_right _ _ (Nat.two_pow_pos r), Nat.div_eq_of_lt h1];omega;have hr : r < c := (by omega);have ih := lowB_bit hf b c r hr;have h3 : f (b + c) * 2 ^ c = f (b + c) * 2 ^ (c - r - 1) * 2 * 2 ^ r := (by have : (2 : Nat) ^ c = 2 ^ (c - r - 1) * 2 * 2 ^ r := (by rw [Nat.mul_assoc, <- Nat.pow_succ', <- Nat.pow_add];congr 1;omega);rw [this];simp only [Nat.mul_assoc]);rw [h3, Nat.add_mul_div_right _ _ (Nat.two_pow_pos r)];omega
theorem byteF_bit {f : Nat -> Nat} (hf : ∀ t, f t <= 1) {T t : Nat} (h : t < T) : byteF f T (t / 8) / 2 ^ (t % 8) % 2 = f t := by unfold byteF;rw [lowB_bit hf _ _ _ (by omega)];congr 1;omega
theorem lowB_num {f : Nat -> Nat} (n b : Nat) : ∀ c, (∀ i, i < c -> f (b + i) = n / 2 ^ i % 2) -> lowB f b c = n % 2 ^ c
  | 0, _ => by simp [lowB, Nat.mod_one]
  | c + 1, h => by simp only [lowB];rw [lowB_num n b c (fun i hi => h i (by omega)), h c (by omega), Nat.mod_pow_succ, Nat.mul_comm (2 ^ c)]
theorem bitsN_row (N : List Nat) {d row : Nat} (h : N.getD row 0 < 2 ^ d) : lowB (bitsN N d) (row * d) d = N.getD row 0 := by rw [lowB_num (N.getD row 0) (row * d) d (fun i hi => ?_), Nat.mod_eq_of_lt h];unfold bitsN;have e1 : (row * d + i) / d = row := (by rw [Nat.mul_comm, Nat.mul_add_div (by omega), Nat.div_eq_of_lt hi, Nat.add_zero]);have e2 : (row * d + i) % d = i := (by rw [Nat.mul_comm, Nat.mul_add_mod, Nat.mod_eq_of_lt hi]);rw [e1, e2]
end Go.Proofs.YtfcgnpchbcmdeaaGreat

namespace Go.Proofs.YtfcgnpchbcmdeaaGreat
open Go.RowKit
theorem wraps_i64 (n : Int) (h₀ : 0 <= n) (h₁ : n < 2 ^ 8) : IntKind.i64.wrap n = n := wrapI (by omega) (by omega)
theorem bitsI64 (a b : Nat) (ha : a < 256) (hb : b < 256) : bits .or .i64 a b = ((a ||| b : Nat) : Int) := (bits_nat .i64 8 (by decide) wraps_i64 a b (by omega) (by omega)).2
set_option maxRecDepth 100000 in
set_option maxHeartbeats 4000000 in
theorem denseAt_any (db q n d nb T row : Nat) (f : Nat -> Nat) (w : World) (hD : DenX w 0 db q n d (packF f nb T)) (hf : ∀ t, f t <= 1) (hd : d <= 6) (hrow : row * d + d <= T) (hT : T <= 8 * nb) (hT2 : T <= 2000) : Calls Tryz.prog 323 #[.pointer (some ⟨db, 0, none⟩), .int .i64 (row : Nat)] w fun e w' => e = .returned (.int .i64 (lowB f (row * d) d : Nat)) /\ Below w.heap.size w w' := by
  have HD : Hid (DenX w 0 db q n d (packF f nb T)) := hD;have HF : Hid (∀ t, f t <= 1) := hf;have hnl := packF_len f nb T;have b0 : w.cell? ⟨db, 0, none⟩ = some (.int .i64 (n : Nat)) := cell_of_row _ _ 0 _ 396 (0, 0) hD.blk;have b1 : w.cell? ⟨db, 1, none⟩ = some (.int .i64 (d : Nat)) := cell_of_row _ _ 1 _ 396 (0, 0) hD.blk;have b2 : w.cell? ⟨db, 2, none⟩ = some (.slice (some ⟨q, 0, none⟩) nb nb) := by have h1 := cell_of_row _ _ 2 _ 396 (0, 0) hD.blk;rw [hnl] at h1;exact h1
  have hdl : db < w.heap.size := (Array.getElem?_eq_some_iff.1 hD.blk).1;have HW : Hid (∀ (n d : Int) (W : World), Calls Tryz.prog 330 #[.agg #[.int .i64 n, .int .i64 d]] W fun e w' => e = .returned (.int .i64 d) /\ Below W.heap.size W w') := shapeWidth_any;obtain ⟨P, hP⟩ : ∃ P, P = row * d := ⟨_, rfl⟩;have q0 : (row : Int) * (d : Int) = (P : Int) := (by rw [hP]; simp);rw [<- hP] at hrow ⊢;have q0w : IntKind.i64.wrap (P : Int) = (P : Int) := wrapI (by omega) (by omega);have HPL : Hid (packF f nb T = packF f nb T /\ (packF f nb T).length = nb) := ⟨rfl, hnl⟩;clear hD hf hP hnl;go_enter Tryz.func323, Tryz.ntmps323
  go_wp2_with fail
  refine (HW.out _ _ _).mono ?_;rintro e w1 ⟨rfl, hb1⟩;have c0 := (hb1.cell (p := ⟨db, 0, none⟩) hdl).trans b0;have c1 := (hb1.cell (p := ⟨db, 1, none⟩) hdl).trans b1;have hl1 : db < w1.heap.size := Nat.lt_of_lt_of_le hdl hb1.size;have HB1 : Hid (Below w.heap.size w w1) := hb1;clear hb1;go_wp2_with fail
  refine (HW.out _ _ _).mono ?_;rintro e w2 ⟨rfl, hb2⟩;have HB2 : Hid (Below w.heap.size w w2) := HB1.out.trans (hb2.mono HB1.out.size);clear hb2 c0 c1 hl1 HB1;have c2 := (HB2.out.cell (p := ⟨db, 2, none⟩) hdl).trans b2;go_wp2_with fail
  go_loopw [5, 21] (fun tn ti wr => ∃ (i m : Nat), tn = .int .i64 (m : Nat) /\ ti = .int .i64 i /\ i <= d /\ Hid (m = lowB f P i) /\ Hid (w2 = wr)) (fun _ ti _ => d - (intOf ti).toNat)
  case atStart => exact ⟨0, 0, rfl, rfl, Nat.zero_le _, rfl, rfl⟩
  case round =>
    obtain ⟨i, m, rfl, rfl, hi, HMm, hw⟩ := hrel;have hw2 := hw.out;subst hw2;clear hw
    by_cases hid : i < d
    · obtain ⟨T1, hT1⟩ : ∃ T1, T1 = P + i := ⟨_, rfl⟩;obtain ⟨J, hJ⟩ : ∃ J, J = T1 / 8 := ⟨_, rfl⟩;obtain ⟨R, hR⟩ : ∃ R, R = T1 % 8 := ⟨_, rfl⟩;have hJn : J < nb := (by omega);have hbk : (packF f nb T).getD J 0 = ((byteF f T J : Nat) : Int) := packF_getD f T hJn;obtain ⟨q', hq', hql, cf⟩ := HD.out.row.atK rfl (k := J) (by rw [HPL.out.2]; exact hJn);have hqq : q' = q := (by injection hq' with h1; injection h1 with h1 _; exact h1.symm);subst hqq;rw [hbk] at cf;have cf2 := (HB2.out.cell (p := ⟨q', J, none⟩) hql).trans cf;obtain ⟨y, hy⟩ : ∃ y, y = byteF f T J := ⟨_, rfl⟩;have hy256 : y < 256 := (by rw [hy]; exact byteF_lt HF.out T J);rw [<- hy] at cf2;obtain ⟨bt, hbt⟩ : ∃ bt, bt = f T1 := ⟨_, rfl⟩;have hbit : y / 2 ^ R % 2 = bt := (by rw [hy, hJ, hR, hbt]; exact byteF_bit HF.out (by omega));have hb1 : bt <= 1 := by rw [hbt]; exact HF.out _
      have hm2 : m < 2 ^ i := (by rw [HMm.out]; exact lowB_lt HF.out _ _);have h2i : (2 : Nat) ^ i <= 2 ^ 5 := Nat.pow_le_pow_right (by decide) (by omega);obtain ⟨z, hz⟩ : ∃ z, z = bt * 2 ^ i := ⟨_, rfl⟩;have hz1 : bt * 2 ^ i <= 1 * 2 ^ i := Nat.mul_le_mul_right _ hb1;have hz256 : z < 256 := by omega
      have HNX : Hid (m + z = lowB f P (i + 1)) := by show m + z = lowB f P i + f (P + i) * 2 ^ i;rw [<- HMm.out, hz, hbt, hT1]
      have q1 : (P : Int) + (i : Int) = (T1 : Int) := (by omega);have q2 : (T1 : Int).tdiv 8 = (J : Int) := (by rw [Int.tdiv_eq_ediv_of_nonneg (by omega)]; omega);have q3 : (T1 : Int) / 8 = (J : Int) := (by omega);have q4 : (T1 : Int).tmod 8 = (R : Int) := (by rw [Int.tmod_eq_emod_of_nonneg (by omega)]; omega);have q5 : (T1 : Int) % 8 = (R : Int) := by omega
      have q6 : bits BinOp.and IntKind.u8 ((y : Int) / 2 ^ R) 1 = (bt : Int) := (by have e : ((y : Int) / 2 ^ R) = ((y / 2 ^ R : Nat) : Int) := (by simp);rw [e];have h1 := (bitsU8 (y / 2 ^ R) 1 (Nat.lt_of_le_of_lt (Nat.div_le_self _ _) hy256) (by decide)).1;rw [and_one] at h1;rw [show ((1 : Nat) : Int) = 1 from rfl] at h1;rw [h1, hbit]);have q7 : IntKind.i64.wrap (T1 : Int) = (T1 : Int) := wrapI (by omega) (by omega);have q8 : IntKind.i64.wrap (J : Int) = (J : Int) := wrapI (by omega) (by omega);have q9 : IntKind.i64.wrap ((bt : Int) * 2 ^ i) = (z : Int) := (by have e : ((bt : Int) * 2 ^ i) = (z : Int) := (by rw [hz]; simp);rw [e];exact wrapI (by omega) (by omega));have q10 : bits BinOp.or IntKind.i64 (m : Int) (z : Int) = ((m + z : Nat) : Int) := by rw [bitsI64 m z (by omega) hz256, hz, or_bit hm2]
      obtain ⟨u, hu⟩ : ∃ u, u = m + z := ⟨_, rfl⟩;rw [<- hu] at q10 HNX;have br1 : (0 : Int) <= (R : Int) := (by omega);have br2 : (R : Int) <= 8 := (by omega);have bi1 : (0 : Int) <= (i : Int) := (by omega);have bi2 : (i : Int) < (d : Int) := (by omega);have bi3 : (i : Int) <= 64 := (by omega);have bj1 : (0 : Int) <= (J : Int) := (by omega);have bj2 : (J : Int) < (nb : Int) := (by omega);clear hz1 hbit hm2 h2i hz hu hy hbt hJ hR hT1 hbk cf HMm hq';go_wp2
      go_roundw
      case rel => exact ⟨i + 1, u, rfl, by go_num, by omega, HNX, True.intro⟩
      case measure => simp [intOf]; omega
    · have hnd : ¬ (i : Int) < (d : Int) := (by omega);have hid2 : i = d := (by omega);have HF2 : Hid (m = lowB f P d) := (by rw [<- hid2]; exact HMm);clear hid2 HMm;go_wp2
      go_ret
      rw [<- HF2.out];exact ⟨rfl, HB2.out⟩
end Go.Proofs.YtfcgnpchbcmdeaaGreat
