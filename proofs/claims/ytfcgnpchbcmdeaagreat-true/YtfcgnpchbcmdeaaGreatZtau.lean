/-
  The contract of endRow.
-/
import Derived.Test.YtfcgnpchbcmdeaaGreatZtas
namespace Go.Proofs.YtfcgnpchbcmdeaaGreat
open Go.RowKit

theorem info3' : (Tryz.prog.info? 3).map (fun i => (i.zero, i.size, i.bytes)) = some (some (.int .i64 0), 1, 8) := by kernel_rfl

/-- Behind an append of one and a store into the block that names the list. -/
theorem put_touch {w w2 : World} {o : Obj} {v u : Value} (hg : (w.alloc o).drew.grownBy w2 v.ownBlock) (b : Nat) {j : Nat} : Touch (fun k => k = b ∨ v.ownBlock = some k) w (w2.setCell ⟨b, j, none⟩ u) :=
  ((((Touch.refl (fun k => k = b ∨ v.ownBlock = some k) w).alloc o).drew).grown hg (fun _ e _ => .inr e)).setCell (p := ⟨b, j, none⟩) (fun _ => .inl rfl) u
theorem put_new {w w2 : World} {o : Obj} {v v' : Value} (hd : v'.ownBlock = v.ownBlock ∨ v'.ownBlock = some (w.alloc o).drew.heap.size ∧ Below (w.alloc o).drew.heap.size (w.alloc o).drew w2) : v'.ownBlock = v.ownBlock ∨ ∃ k, v'.ownBlock = some k ∧ w.heap.size ≤ k := by
  rcases hd with h | ⟨h, _⟩
  · exact .inl h
  · exact .inr ⟨_, h, by simp⟩
theorem Touch.trans2 {S S' : Nat → Prop} {a b c : World} (h : Touch S a b) (k : Touch S' b c) (hs : ∀ z, S' z → S z ∨ a.heap.size ≤ z) : Touch S a c :=
  ⟨k.os.trans h.os, k.tape.trans h.tape, k.output.trans h.output, Nat.le_trans h.size k.size, fun i hi hn => (k.block i (Nat.lt_of_lt_of_le hi h.size) (fun e => by rcases hs i e with e1 | e1; exact hn e1; omega)).trans (h.block i hi hn)⟩
theorem own_put {w : World} {ty size n b j ty' : Nat} {v u : Value} {xs : List Value} {cur : Array Value} (h : w.ownsRow 0 ty size v n xs) (hb : w.heap[b]? = some (.cells cur ty' (0, 0))) (hne : ty ≠ ty') : (w.setCell ⟨b, j, none⟩ u).ownsRow 0 ty size v n xs :=
  ((Touch.refl (fun k => k = b) w).setCell (p := ⟨b, j, none⟩) (fun _ => rfl) u).row h (fun _ hk e => row_ne h hk hb hne e)

theorem OwnV.form {w : World} {base : Nat} {v : Value} {L : List VS} (h : OwnV w base v L) : ∃ a c, v = .slice a L.length c := by
  rcases h.2 with ⟨rfl, h0⟩ | ⟨q, p, cur, rfl, _⟩
  · exact ⟨none, 0, by rw [h0]⟩
  · exact ⟨_, _, rfl⟩
theorem flatV_get : ∀ (L : List VS) (k : Nat), k < L.length → ∀ c, c < 3 → (flatV L)[k * 3 + c]? = (cellsV (L.getD k emptyV))[c]?
  | [], k, h => by simp at h
  | e :: L, 0, _ => fun c hc => by
    simp only [flatV]
    rw [show 0 * 3 + c = c by omega, List.getElem?_append_left (by simpa [cellsV] using hc)]; rfl
  | e :: L, k + 1, h => fun c hc => by
    simp only [flatV]
    rw [List.getElem?_append_right (by simp [cellsV]; omega), show (k + 1) * 3 + c - (cellsV e).length = k * 3 + c by simp [cellsV]; omega]
    exact flatV_get L k (by simpa using h) c hc
/-- A value of a row. -/
theorem OwnV.at {w : World} {base : Nat} {a : Option Addr} {m cap : Nat} {L : List VS} (h : OwnV w base (.slice a m cap) L) {k : Nat} (hk : k < L.length) :
    ∃ q, a = some ⟨q, 0, none⟩ ∧ q < w.heap.size ∧ w.cell? ⟨q, k * 3, none⟩ = some (.bool (L.getD k emptyV).miss) ∧ w.cell? ⟨q, k * 3 + 1, none⟩ = some (.int .i64 (L.getD k emptyV).num) ∧ w.cell? ⟨q, k * 3 + 2, none⟩ = some (.string (L.getD k emptyV).word) := by
  have h' := h
  rcases h.2 with ⟨e, h0⟩ | ⟨q, p, cur, e, _⟩
  · omega
  · injection e with e1 e2 e3
    subst e1 e2 e3
    have key : ∀ c u, c < 3 → (cellsV (L.getD k emptyV))[c]? = some u → w.cell? ⟨q, k * 3 + c, none⟩ = some u := fun c u hc hu => by
      have := World.ownsRow.cells h' (g := q) rfl (k * 3 + c) u ((flatV_get L k hk c hc).trans hu)
      have hadd : (⟨q, 0, none⟩ : Addr).add (k * 3 + c) = ⟨q, k * 3 + c, none⟩ := by unfold Addr.add; split <;> simp_all
      rw [hadd] at this
      exact this
    exact ⟨q, rfl, (World.ownsRow.lt h' q rfl).2, key 0 _ (by omega) rfl, key 1 _ (by omega) rfl, key 2 _ (by omega) rfl⟩
theorem OwnV.more {w : World} {base : Nat} {v : Value} {L : List VS} {x : VS} (h : w.ownsRow base 308 3 v (L.length + 1) (flatV L ++ cellsV x)) : OwnV w base v (L ++ [x]) := by
  unfold OwnV
  rw [flatV_append, List.length_append]
  simpa [flatV] using h

/-- The first k columns have got the row. -/
def colsK (s : RS) (k : Nat) : RS := { s with ws := s.ws ++ [s.wt], cols := fun i => if i < k then s.cols i ++ [s.row.getD i emptyV] else s.cols i }
theorem colsK_zero (s : RS) : colsK s 0 = { s with ws := s.ws ++ [s.wt] } := by
  unfold colsK
  have : (fun i => if i < 0 then s.cols i ++ [s.row.getD i emptyV] else s.cols i) = s.cols := by funext i; rw [if_neg (by omega)]
  rw [this]
theorem colsK_succ (s : RS) (k : Nat) : { colsK s k with cols := upd (colsK s k).cols k (s.cols k ++ [s.row.getD k emptyV]) } = colsK s (k + 1) := by
  unfold colsK
  have : upd (fun i => if i < k then s.cols i ++ [s.row.getD i emptyV] else s.cols i) k (s.cols k ++ [s.row.getD k emptyV]) = fun i => if i < k + 1 then s.cols i ++ [s.row.getD i emptyV] else s.cols i := by
    funext i
    by_cases e : i = k
    · subst e; rw [upd_same, if_pos (by omega)]
    · rw [upd_ne _ _ e]
      by_cases c : i < k
      · rw [if_pos c, if_pos (by omega)]
      · rw [if_neg c, if_neg (by omega)]
  simp only [this]
theorem cl_put {w : World} {cb n i : Nat} {vc : Nat → Value} (h : ∃ cur : Array Value, w.heap[cb]? = some (.cells cur 251 (0, 0)) ∧ cur.size = n ∧ ∀ j, j < n → cur[j]? = some (vc j)) (hi : i < n) (v : Value) :
    ∃ cur : Array Value, (w.setCell ⟨cb, i, none⟩ v).heap[cb]? = some (.cells cur 251 (0, 0)) ∧ cur.size = n ∧ ∀ j, j < n → cur[j]? = some (upd vc i v j) := by
  obtain ⟨cur, a1, a2, a3⟩ := h
  refine ⟨_, heap_setCell_same w cb i _ 251 v a1, by simp [a2], fun j hj => ?_⟩
  by_cases e : j = i
  · subst e
    rw [Array.getElem?_setIfInBounds_self_of_lt (by omega), upd_same]
  · rw [Array.getElem?_setIfInBounds_ne (fun k => e k.symm), upd_ne _ _ e]; exact a3 j hj
theorem colsK_at (s : RS) (k : Nat) : (colsK s k).cols k = s.cols k := by unfold colsK; simp

section
variable {w : World} {K M : Nat → Prop} {rb fb cb n : Nat} {wd : Nat → Bool} {sc ct : Nat → Int} {bins size : Int} {s : RS} {vW vr wv : Value} {vc : Nat → Value}

set_option maxRecDepth 100000 in
set_option maxHeartbeats 4000000 in
theorem endRow_any (hX : RdX w K M rb fb cb n wd sc ct bins size s vW vr wv vc) (hrow : s.row.length = n) (hn : n ≤ 4) (hws : s.ws.length ≤ 200) (hcs : ∀ i, i < n → (s.cols i).length ≤ 200) :
    Calls Tryz.prog 222 #[.pointer (some ⟨rb, 0, none⟩)] w fun e w' => e = .returned (.tuple #[]) ∧ Left w K M rb fb cb n wd sc ct bins size { s with ws := s.ws ++ [s.wt], cols := fun i => if i < n then s.cols i ++ [s.row.getD i emptyV] else s.cols i, wt := 0, fl := false, row := [] } w' := by
  obtain ⟨i3, inf3, iz0, iz1, iz2⟩ := info_parts info3'
  obtain ⟨i8, inf8, jz0, jz1, jz2⟩ := info_parts info308
  obtain ⟨ar, cr, hvr⟩ := hX.or.form
  rw [hrow] at hvr
  subst hvr
  obtain ⟨_, c1, c2, c3, c4, c5⟩ := hX.rd.head
  have cf := hX.rd.part.2.2.2.2.2.2
  have HX : Hid (RdX w K M rb fb cb n wd sc ct bins size s vW (.slice ar n cr) wv vc) := hX
  have HOW : Hid (OwnI w 0 vW s.ws) := hX.ow
  clear hX
  go_enter Tryz.func222, Tryz.ntmps222
  go_upto_region 0 with fail
  refine wp_region_S (fun w' => w'.cell? ⟨rb, 1, none⟩ = some vW ∧ w'.cell? ⟨rb, 3, none⟩ = some (.int .i64 s.wt)) 15 (by kernel_rfl) ⟨c1, c3⟩ (fun hHeld => ?_)
  refine wpAnyS_take [12, 13, 14, 15] (i := 0) (v := ?_) rfl (by kernel_rfl) (by kernel_rfl) (by kernel_rfl) (by kernel_rfl) (by kernel_rfl) (fun _ _ _ h => h) (Or.inl ⟨by rfl, ?_⟩) (by assumption) ?_
  rotate_left
  · intro w hSw
    (try dsimp only at hSw)
    go_simp
    try with_reducible rfl
  try simp only [Act.put]
  try simp only [List.setIfInBounds_toArray]
  try simp only [List.set_cons_succ]
  try simp only [List.set_cons_zero]
  refine wpAnyS_take [2, 3, 4, 5, 11, 12, 13, 14, 15] (i := 1) (v := ?_) rfl (by kernel_rfl) (by kernel_rfl) (by kernel_rfl) (by kernel_rfl) (by kernel_rfl) (fun _ _ _ h => h) (Or.inl ⟨by rfl, ?_⟩) (by assumption) ?_
  rotate_left
  · intro w hSw
    (try dsimp only at hSw)
    go_simp
    try with_reducible rfl
  try simp only [Act.put]
  try simp only [List.setIfInBounds_toArray]
  try simp only [List.set_cons_succ]
  try simp only [List.set_cons_zero]
  refine wpAnyS_take [3, 4, 5, 11, 12, 13, 14, 15] (i := 2) (v := ?_) rfl (by kernel_rfl) (by kernel_rfl) (by kernel_rfl) (by kernel_rfl) (by kernel_rfl) (fun _ _ _ h => h) (Or.inl ⟨by rfl, ?_⟩) (by assumption) ?_
  rotate_left
  · intro w hSw
    (try dsimp only at hSw)
    go_simp
    try with_reducible rfl
  try simp only [Act.put]
  try simp only [List.setIfInBounds_toArray]
  try simp only [List.set_cons_succ]
  try simp only [List.set_cons_zero]
  refine wpAnyS_take [4, 5, 11, 12, 13, 14, 15] (i := 3) (v := ?_) rfl (by kernel_rfl) (by kernel_rfl) (by kernel_rfl) (by kernel_rfl) (by kernel_rfl) (fun _ _ _ h => h) (Or.inl ⟨by rfl, ?_⟩) (by assumption) ?_
  rotate_left
  · intro w hSw
    (try dsimp only at hSw)
    go_simp
    try with_reducible rfl
  try simp only [Act.put]
  try simp only [List.setIfInBounds_toArray]
  try simp only [List.set_cons_succ]
  try simp only [List.set_cons_zero]
  refine wpAnyS_take [5, 11, 12, 13, 14, 15] (i := 4) (v := ?_) rfl (by kernel_rfl) (by kernel_rfl) (by kernel_rfl) (by kernel_rfl) (by kernel_rfl) (fun _ _ _ h => h) (Or.inl ⟨by rfl, ?_⟩) (by assumption) ?_
  rotate_left
  · intro w hSw
    (try dsimp only at hSw)
    go_simp
    try with_reducible rfl
  try simp only [Act.put]
  try simp only [List.setIfInBounds_toArray]
  try simp only [List.set_cons_succ]
  try simp only [List.set_cons_zero]
  refine wpAnyS_take [11, 12, 13, 14, 15] (i := 5) (v := ?_) rfl (by kernel_rfl) (by kernel_rfl) (by kernel_rfl) (by kernel_rfl) (by kernel_rfl) (fun _ _ _ h => h) (Or.inl ⟨by rfl, ?_⟩) (by assumption) ?_
  rotate_left
  · intro w hSw
    try obtain ⟨_, _⟩ := hSw
    (try dsimp only at hSw)
    go_simp
    try with_reducible rfl
  try simp only [Act.put]
  try simp only [List.setIfInBounds_toArray]
  try simp only [List.set_cons_succ]
  try simp only [List.set_cons_zero]
  refine wpAnyS_take [7, 8, 9, 10, 11, 12, 13, 14, 15] (i := 6) (v := ?_) rfl (by kernel_rfl) (by kernel_rfl) (by kernel_rfl) (by kernel_rfl) (by kernel_rfl) (fun _ _ _ h => h) (Or.inl ⟨by rfl, ?_⟩) (by assumption) ?_
  rotate_left
  · intro w hSw
    (try dsimp only at hSw)
    go_simp
    try with_reducible rfl
  try simp only [Act.put]
  try simp only [List.setIfInBounds_toArray]
  try simp only [List.set_cons_succ]
  try simp only [List.set_cons_zero]
  refine wpAnyS_take [8, 9, 10, 11, 12, 13, 14, 15] (i := 7) (v := ?_) rfl (by kernel_rfl) (by kernel_rfl) (by kernel_rfl) (by kernel_rfl) (by kernel_rfl) (fun _ _ _ h => h) (Or.inl ⟨by rfl, ?_⟩) (by assumption) ?_
  rotate_left
  · intro w hSw
    (try dsimp only at hSw)
    go_simp
    try with_reducible rfl
  try simp only [Act.put]
  try simp only [List.setIfInBounds_toArray]
  try simp only [List.set_cons_succ]
  try simp only [List.set_cons_zero]
  refine wpAnyS_take [9, 10, 11, 12, 13, 14, 15] (i := 8) (v := ?_) rfl (by kernel_rfl) (by kernel_rfl) (by kernel_rfl) (by kernel_rfl) (by kernel_rfl) (fun _ _ _ h => h) (Or.inl ⟨by rfl, ?_⟩) (by assumption) ?_
  rotate_left
  · intro w hSw
    (try dsimp only at hSw)
    go_simp
    try with_reducible rfl
  try simp only [Act.put]
  try simp only [List.setIfInBounds_toArray]
  try simp only [List.set_cons_succ]
  try simp only [List.set_cons_zero]
  refine wpAnyS_take [10, 11, 12, 13, 14, 15] (i := 9) (v := ?_) rfl (by kernel_rfl) (by kernel_rfl) (by kernel_rfl) (by kernel_rfl) (by kernel_rfl) (fun _ _ _ h => h) (Or.inl ⟨by rfl, ?_⟩) (by assumption) ?_
  rotate_left
  · intro w hSw
    try obtain ⟨_, _⟩ := hSw
    (try dsimp only at hSw)
    go_simp
    try with_reducible rfl
  try simp only [Act.put]
  try simp only [List.setIfInBounds_toArray]
  try simp only [List.set_cons_succ]
  try simp only [List.set_cons_zero]
  refine wpAnyS_one (i := 10) (by kernel_rfl) rfl (fun KK hK => ?_)
  go_simp
  refine hK.out _ _ ⟨by go_keep, by go_keep⟩ (fun hHeld => ?_)
  clear hK KK
  try simp only [Act.put]
  try simp only [List.setIfInBounds_toArray]
  try simp only [List.set_cons_succ]
  try simp only [List.set_cons_zero]
  refine wpAnyS_one (i := 11) (by kernel_rfl) rfl (fun KK hK => ?_)
  refine step_append_mark rfl (.tmp 9) (.tmp 14) 25 rfl 0 3 i3 (.int .i64 0) 1 8 Tryz.underlying25 inf3 iz0 iz1 iz2 rfl (by decide) vW s.ws.length (s.ws.map (Value.int .i64)) (by simp [Act.eval]) (World.ownsRow.alloc HOW.out _) ⟨w.heap.size, 0, none⟩ 1 1 [.int .i64 s.wt] (by simp [Act.eval]) rfl (one_new w #[.int .i64 s.wt] 3) (by intro u hu; simp only [List.mem_cons, List.not_mem_nil, or_false] at hu; rcases hu with rfl; rfl) (by decide) (by unfold maxLen; omega) (by omega) (by simp) ?_
  intro v2 w2 hX2
  obtain ⟨ho, hg, hd, _, q2, p2, rfl⟩ := hX2.out
  have hb2 : RB w2 rb (.slice (some ⟨fb, 0, none⟩) n n) vW (.slice (some ⟨cb, 0, none⟩) n n) s.wt s.fl (.slice ar n cr) { s.p with wv := wv } := RB.grown (w := w.drew.alloc (.cells #[.int .i64 s.wt] 3)) ((Below.heap_alloc w _ rb HX.out.rd.lt).trans HX.out.rd) hg (fun e => row_ne HX.out.ow e.symm HX.out.rd (by decide) rfl)
  have e1 : w2.cell? ⟨rb, 1, none⟩ = some vW := hb2.head.2.1
  have e3 : w2.cell? ⟨rb, 3, none⟩ = some (.int .i64 s.wt) := hb2.head.2.2.2.1
  have ef : ∀ o, w2.frozen? ⟨rb, o, none⟩ = false := hb2.part.2.2.2.2.2.2
  have HP1 := HX.out.putW (w' := w2.setCell ⟨rb, 1, none⟩ (.slice (some ⟨q2, 0, none⟩) (s.ws.length + 1) p2)) (vW' := .slice (some ⟨q2, 0, none⟩) (s.ws.length + 1) p2) (ws' := s.ws ++ [s.wt]) (wt := s.wt) (fl := s.fl) (put_touch hg rb) (hb2.setVW _) (OwnI.more (own_put ho hb2 (by decide))) (put_new hd)
  have HP : Hid _ := HP1
  clear HP1 ho hg hd hX2 hb2
  refine hK.out _ _ ⟨e1, e3⟩ (fun hHeld => ?_)
  clear hK KK
  try simp only [Act.put]
  try simp only [List.setIfInBounds_toArray]
  try simp only [List.set_cons_succ]
  try simp only [List.set_cons_zero]
  refine wpAnyS_take [13, 14, 15] (i := 12) (v := ?_) rfl (by kernel_rfl) (by kernel_rfl) (by kernel_rfl) (by kernel_rfl) (by kernel_rfl) (fun _ _ _ h => h) (Or.inl ⟨by rfl, ?_⟩) (by assumption) ?_
  rotate_left
  · intro w hSw
    (try dsimp only at hSw)
    go_simp
    try with_reducible rfl
  try simp only [Act.put]
  try simp only [List.setIfInBounds_toArray]
  try simp only [List.set_cons_succ]
  try simp only [List.set_cons_zero]
  refine wpAnyS_take [14, 15] (i := 13) (v := ?_) rfl (by kernel_rfl) (by kernel_rfl) (by kernel_rfl) (by kernel_rfl) (by kernel_rfl) (fun _ _ _ h => h) (Or.inl ⟨by rfl, ?_⟩) (by assumption) ?_
  rotate_left
  · intro w hSw
    (try dsimp only at hSw)
    go_simp
    try with_reducible rfl
  try simp only [Act.put]
  try simp only [List.setIfInBounds_toArray]
  try simp only [List.set_cons_succ]
  try simp only [List.set_cons_zero]
  refine wpAnyS_take [15] (i := 14) (v := ?_) rfl (by kernel_rfl) (by kernel_rfl) (by kernel_rfl) (by kernel_rfl) (by kernel_rfl) (fun _ _ _ h => h) (Or.inl ⟨by rfl, ?_⟩) (by assumption) ?_
  rotate_left
  · intro w hSw
    (try dsimp only at hSw)
    go_simp
    try with_reducible rfl
  try simp only [Act.put]
  try simp only [List.setIfInBounds_toArray]
  try simp only [List.set_cons_succ]
  try simp only [List.set_cons_zero]
  refine wpAnyS_last (i := 15) (by kernel_rfl) rfl (by kernel_rfl) (fun KK hK => ?_)
  go_simp
  refine hK.out _ _ ?_
  clear hK KK
  try simp only [Act.put]
  try simp only [List.setIfInBounds_toArray]
  try simp only [List.set_cons_succ]
  try simp only [List.set_cons_zero]
  refine wpAnyS_done (by kernel_rfl) ?_ _

  have HP3 : Hid (RdX (w2.setCell ⟨rb, 1, none⟩ (.slice (some ⟨q2, 0, none⟩) (s.ws.length + 1) p2)) K (fun k => M k ∨ (Value.slice (some ⟨q2, 0, none⟩) (s.ws.length + 1) p2).ownBlock = some k) rb fb cb n wd sc ct bins size (colsK s 0) (.slice (some ⟨q2, 0, none⟩) (s.ws.length + 1) p2) (.slice ar n cr) wv vc ∧ (∀ k, (M k ∨ (Value.slice (some ⟨q2, 0, none⟩) (s.ws.length + 1) p2).ownBlock = some k) → M k ∨ w.heap.size ≤ k) ∧ Touch M w (w2.setCell ⟨rb, 1, none⟩ (.slice (some ⟨q2, 0, none⟩) (s.ws.length + 1) p2))) := by rw [colsK_zero]; exact HP.out
  have d5 : (w2.setCell ⟨rb, 1, none⟩ (.slice (some ⟨q2, 0, none⟩) (s.ws.length + 1) p2)).cell? ⟨rb, 5, none⟩ = some (.slice ar n cr) := HP3.out.1.rd.head.2.2.2.2.2
  generalize w2.setCell ⟨rb, 1, none⟩ (.slice (some ⟨q2, 0, none⟩) (s.ws.length + 1) p2) = w3 at *
  have hM3 : ∃ M3 : Nat → Prop, M3 = (fun k => M k ∨ (Value.slice (some ⟨q2, 0, none⟩) (s.ws.length + 1) p2).ownBlock = some k) := ⟨_, rfl⟩
  obtain ⟨M3, hM3⟩ := hM3
  have HPM : Hid ((∀ k, M3 k → M k ∨ w.heap.size ≤ k) ∧ Touch M w w3) := by rw [hM3]; exact HP3.out.2
  rw [← hM3] at HP3
  clear hM3
  generalize Value.slice (some ⟨q2, 0, none⟩) (s.ws.length + 1) p2 = vW3 at *
  clear HP e1 e3 ef c1 c2 c3 c4 c5 cf HOW hHeld
  go_wp2_with fail
  go_loopw [24] (fun ti wr => ∃ (k : Nat) (vc' : Nat → Value) (Mk : Nat → Prop), k ≤ n ∧ ti = .int .i64 k ∧ Hid (RdX wr K Mk rb fb cb n wd sc ct bins size (colsK s k) vW3 (.slice ar n cr) wv vc') ∧ Hid ((∀ k, Mk k → M k ∨ w.heap.size ≤ k) ∧ Touch M w wr)) (fun ti _ => n - (intOf ti).toNat)
  case atStart => exact ⟨0, vc, M3, Nat.zero_le _, rfl, HP3.out.1, HPM.out⟩
  case round =>
    obtain ⟨k, vk, Mk, hk, rfl, HXk, HMk⟩ := hrel
    by_cases hlt : k < n
    · obtain ⟨q, rfl, hql, r0, r1, r2⟩ := HXk.out.or.at (k := k) (by show k < s.row.length; omega)
      have HRW : Hid ((colsK s k).row.getD k emptyV = s.row.getD k emptyV) := rfl
      rw [HRW.out] at r0 r1 r2
      generalize hx : s.row.getD k emptyV = x at *
      have bk1 : (0 : Int) ≤ (k : Int) := by omega
      have bk2 : (k : Int) < (n : Int) := by omega
      go_upto_region 4 with fail
      have hb4 : Below wr.heap.size wr (wr.alloc (.cells #[.bool x.miss, .int .i64 x.num, .string x.word] 308)) := (Below.refl _ _).alloc (Nat.le_refl _) _
      have HX4 : Hid (RdX (wr.alloc (.cells #[.bool x.miss, .int .i64 x.num, .string x.word] 308)) K Mk rb fb cb n wd sc ct bins size (colsK s k) vW3 (.slice (some ⟨q, 0, none⟩) n cr) wv vk) := HXk.out.touch (Touch.of_below (S := fun _ => False) hb4) (fun _ _ => id)
      have HT4 : Hid (Touch M w (wr.alloc (.cells #[.bool x.miss, .int .i64 x.num, .string x.word] 308))) := HMk.out.2.below hb4
      have HBX : Hid ((vk k).ownBlock ≠ some wr.heap.size) := fun e => by have := (World.ownsRow.lt (HXk.out.oc k hlt) _ e).2; omega
      have HSZ : Hid (wr.heap.size < (wr.alloc (.cells #[.bool x.miss, .int .i64 x.num, .string x.word] 308)).heap.size) := show _ < _ by simp
      have HCK : Hid (OwnV (wr.alloc (.cells #[.bool x.miss, .int .i64 x.num, .string x.word] 308)) 0 (vk k) (s.cols k)) := by have := HX4.out.oc k hlt; rw [colsK_at] at this; exact this
      have x0 : (wr.alloc (.cells #[.bool x.miss, .int .i64 x.num, .string x.word] 308)).cell? ⟨wr.heap.size, 0, none⟩ = some (.bool x.miss) := cell_of_row _ _ 0 _ 308 (0, 0) (heap_alloc_new wr _)
      have x1 : (wr.alloc (.cells #[.bool x.miss, .int .i64 x.num, .string x.word] 308)).cell? ⟨wr.heap.size, 1, none⟩ = some (.int .i64 x.num) := cell_of_row _ _ 1 _ 308 (0, 0) (heap_alloc_new wr _)
      have x2 : (wr.alloc (.cells #[.bool x.miss, .int .i64 x.num, .string x.word] 308)).cell? ⟨wr.heap.size, 2, none⟩ = some (.string x.word) := cell_of_row _ _ 2 _ 308 (0, 0) (heap_alloc_new wr _)
      have hck := hcs k hlt
      clear hb4
      generalize wr.alloc (.cells #[.bool x.miss, .int .i64 x.num, .string x.word] 308) = w4 at *
      have y2 : w4.cell? ⟨rb, 2, none⟩ = some (.slice (some ⟨cb, 0, none⟩) n n) := HX4.out.rd.head.2.2.1
      have y4 : w4.cell? ⟨cb, k, none⟩ = some (vk k) := by
        obtain ⟨cur, a1, _, a3⟩ := HX4.out.cl
        exact (cell_of_row w4 cb k cur 251 (0, 0) a1).trans (a3 k hlt)
      refine wp_region_S (fun w' => w'.cell? ⟨rb, 2, none⟩ = some (.slice (some ⟨cb, 0, none⟩) n n) ∧ w'.cell? ⟨cb, k, none⟩ = some (vk k) ∧ w'.cell? ⟨wr.heap.size, 0, none⟩ = some (.bool x.miss) ∧ w'.cell? ⟨wr.heap.size, 1, none⟩ = some (.int .i64 x.num) ∧ w'.cell? ⟨wr.heap.size, 2, none⟩ = some (.string x.word)) 18 (by kernel_rfl) ⟨y2, y4, x0, x1, x2⟩ (fun hHeld => ?_)
      refine wpAnyS_take [1, 2, 3, 4, 17, 18] (i := 0) (v := ?_) rfl (by kernel_rfl) (by kernel_rfl) (by kernel_rfl) (by kernel_rfl) (by kernel_rfl) (fun _ _ _ h => h) (Or.inl ⟨by rfl, ?_⟩) (by assumption) ?_
      rotate_left
      · intro w hSw
        (try dsimp only at hSw)
        go_simp
        try with_reducible rfl
      try simp only [Act.put]
      try simp only [List.setIfInBounds_toArray]
      try simp only [List.set_cons_succ]
      try simp only [List.set_cons_zero]
      refine wpAnyS_take [2, 3, 4, 17, 18] (i := 1) (v := ?_) rfl (by kernel_rfl) (by kernel_rfl) (by kernel_rfl) (by kernel_rfl) (by kernel_rfl) (fun _ _ _ h => h) (Or.inl ⟨by rfl, ?_⟩) (by assumption) ?_
      rotate_left
      · intro w hSw
        (try dsimp only at hSw)
        go_simp
        try with_reducible rfl
      try simp only [Act.put]
      try simp only [List.setIfInBounds_toArray]
      try simp only [List.set_cons_succ]
      try simp only [List.set_cons_zero]
      refine wpAnyS_take [3, 4, 17, 18] (i := 2) (v := ?_) rfl (by kernel_rfl) (by kernel_rfl) (by kernel_rfl) (by kernel_rfl) (by kernel_rfl) (fun _ _ _ h => h) (Or.inl ⟨by rfl, ?_⟩) (by assumption) ?_
      rotate_left
      · intro w hSw
        (try dsimp only at hSw)
        go_simp
        try with_reducible rfl
      try simp only [Act.put]
      try simp only [List.setIfInBounds_toArray]
      try simp only [List.set_cons_succ]
      try simp only [List.set_cons_zero]
      refine wpAnyS_take [4, 17, 18] (i := 3) (v := ?_) rfl (by kernel_rfl) (by kernel_rfl) (by kernel_rfl) (by kernel_rfl) (by kernel_rfl) (fun _ _ _ h => h) (Or.inl ⟨by rfl, ?_⟩) (by assumption) ?_
      rotate_left
      · intro w hSw
        (try dsimp only at hSw)
        go_simp
        try with_reducible rfl
      try simp only [Act.put]
      try simp only [List.setIfInBounds_toArray]
      try simp only [List.set_cons_succ]
      try simp only [List.set_cons_zero]
      refine wpAnyS_take [17, 18] (i := 4) (v := ?_) rfl (by kernel_rfl) (by kernel_rfl) (by kernel_rfl) (by kernel_rfl) (by kernel_rfl) (fun _ _ _ h => h) (Or.inl ⟨by rfl, ?_⟩) (by assumption) ?_
      rotate_left
      · intro w hSw
        try obtain ⟨_, _, _, _, _⟩ := hSw
        (try dsimp only at hSw)
        go_simp
        try with_reducible rfl
      try simp only [Act.put]
      try simp only [List.setIfInBounds_toArray]
      try simp only [List.set_cons_succ]
      try simp only [List.set_cons_zero]
      refine wpAnyS_take [17, 18] (i := 5) (v := ?_) rfl (by kernel_rfl) (by kernel_rfl) (by kernel_rfl) (by kernel_rfl) (by kernel_rfl) (fun _ _ _ h => h) (Or.inl ⟨by rfl, ?_⟩) (by assumption) ?_
      rotate_left
      · intro w hSw
        (try dsimp only at hSw)
        go_simp
        try with_reducible rfl
      try simp only [Act.put]
      try simp only [List.setIfInBounds_toArray]
      try simp only [List.set_cons_succ]
      try simp only [List.set_cons_zero]
      refine wpAnyS_take [7, 8, 9, 10, 12, 13, 16, 17, 18] (i := 6) (v := ?_) rfl (by kernel_rfl) (by kernel_rfl) (by kernel_rfl) (by kernel_rfl) (by kernel_rfl) (fun _ _ _ h => h) (Or.inl ⟨by rfl, ?_⟩) (by assumption) ?_
      rotate_left
      · intro w hSw
        (try dsimp only at hSw)
        go_simp
        try with_reducible rfl
      try simp only [Act.put]
      try simp only [List.setIfInBounds_toArray]
      try simp only [List.set_cons_succ]
      try simp only [List.set_cons_zero]
      refine wpAnyS_take [8, 9, 10, 12, 13, 16, 17, 18] (i := 7) (v := ?_) rfl (by kernel_rfl) (by kernel_rfl) (by kernel_rfl) (by kernel_rfl) (by kernel_rfl) (fun _ _ _ h => h) (Or.inl ⟨by rfl, ?_⟩) (by assumption) ?_
      rotate_left
      · intro w hSw
        (try dsimp only at hSw)
        go_simp
        try with_reducible rfl
      try simp only [Act.put]
      try simp only [List.setIfInBounds_toArray]
      try simp only [List.set_cons_succ]
      try simp only [List.set_cons_zero]
      refine wpAnyS_take [9, 10, 12, 13, 16, 17, 18] (i := 8) (v := ?_) rfl (by kernel_rfl) (by kernel_rfl) (by kernel_rfl) (by kernel_rfl) (by kernel_rfl) (fun _ _ _ h => h) (Or.inl ⟨by rfl, ?_⟩) (by assumption) ?_
      rotate_left
      · intro w hSw
        (try dsimp only at hSw)
        go_simp
        try with_reducible rfl
      try simp only [Act.put]
      try simp only [List.setIfInBounds_toArray]
      try simp only [List.set_cons_succ]
      try simp only [List.set_cons_zero]
      refine wpAnyS_take [10, 12, 13, 16, 17, 18] (i := 9) (v := ?_) rfl (by kernel_rfl) (by kernel_rfl) (by kernel_rfl) (by kernel_rfl) (by kernel_rfl) (fun _ _ _ h => h) (Or.inl ⟨by rfl, ?_⟩) (by assumption) ?_
      rotate_left
      · intro w hSw
        (try dsimp only at hSw)
        go_simp
        try with_reducible rfl
      try simp only [Act.put]
      try simp only [List.setIfInBounds_toArray]
      try simp only [List.set_cons_succ]
      try simp only [List.set_cons_zero]
      refine wpAnyS_take [12, 13, 16, 17, 18] (i := 10) (v := ?_) rfl (by kernel_rfl) (by kernel_rfl) (by kernel_rfl) (by kernel_rfl) (by kernel_rfl) (fun _ _ _ h => h) (Or.inl ⟨by rfl, ?_⟩) (by assumption) ?_
      rotate_left
      · intro w hSw
        try obtain ⟨_, _, _, _, _⟩ := hSw
        (try dsimp only at hSw)
        go_simp
        try with_reducible rfl
      try simp only [Act.put]
      try simp only [List.setIfInBounds_toArray]
      try simp only [List.set_cons_succ]
      try simp only [List.set_cons_zero]
      refine wpAnyS_take [12, 13, 16, 17, 18] (i := 11) (v := ?_) rfl (by kernel_rfl) (by kernel_rfl) (by kernel_rfl) (by kernel_rfl) (by kernel_rfl) (fun _ _ _ h => h) (Or.inl ⟨by rfl, ?_⟩) (by assumption) ?_
      rotate_left
      · intro w hSw
        (try dsimp only at hSw)
        go_simp
        try with_reducible rfl
      try simp only [Act.put]
      try simp only [List.setIfInBounds_toArray]
      try simp only [List.set_cons_succ]
      try simp only [List.set_cons_zero]
      refine wpAnyS_take [13, 16, 17, 18] (i := 12) (v := ?_) rfl (by kernel_rfl) (by kernel_rfl) (by kernel_rfl) (by kernel_rfl) (by kernel_rfl) (fun _ _ _ h => h) (Or.inl ⟨by rfl, ?_⟩) (by assumption) ?_
      rotate_left
      · intro w hSw
        (try dsimp only at hSw)
        go_simp
        try with_reducible rfl
      try simp only [Act.put]
      try simp only [List.setIfInBounds_toArray]
      try simp only [List.set_cons_succ]
      try simp only [List.set_cons_zero]
      refine wpAnyS_take [16, 17, 18] (i := 13) (v := ?_) rfl (by kernel_rfl) (by kernel_rfl) (by kernel_rfl) (by kernel_rfl) (by kernel_rfl) (fun _ _ _ h => h) (Or.inl ⟨by rfl, ?_⟩) (by assumption) ?_
      rotate_left
      · intro w hSw
        try obtain ⟨_, _, _, _, _⟩ := hSw
        (try dsimp only at hSw)
        go_simp
        try with_reducible rfl
      try simp only [Act.put]
      try simp only [List.setIfInBounds_toArray]
      try simp only [List.set_cons_succ]
      try simp only [List.set_cons_zero]
      refine wpAnyS_take [15, 16, 17, 18] (i := 14) (v := ?_) rfl (by kernel_rfl) (by kernel_rfl) (by kernel_rfl) (by kernel_rfl) (by kernel_rfl) (fun _ _ _ h => h) (Or.inl ⟨by rfl, ?_⟩) (by assumption) ?_
      rotate_left
      · intro w hSw
        try obtain ⟨_, _, _, _, _⟩ := hSw
        (try dsimp only at hSw)
        go_simp
        try with_reducible rfl
      try simp only [Act.put]
      try simp only [List.setIfInBounds_toArray]
      try simp only [List.set_cons_succ]
      try simp only [List.set_cons_zero]
      refine wpAnyS_one (i := 15) (by kernel_rfl) rfl (fun KK hK => ?_)
      go_simp
      refine hK.out _ _ ⟨by go_keep, by go_keep, by go_keep, by go_keep, by go_keep⟩ (fun hHeld => ?_)
      clear hK KK
      try simp only [Act.put]
      try simp only [List.setIfInBounds_toArray]
      try simp only [List.set_cons_succ]
      try simp only [List.set_cons_zero]
      refine wpAnyS_one (i := 16) (by kernel_rfl) rfl (fun KK hK => ?_)
      refine step_append_mark rfl (.tmp 42) (.tmp 44) 251 rfl 0 308 i8 (.agg #[.bool false, .int .i64 0, .string ⟨#[]⟩]) 3 32 Tryz.underlying251 inf8 jz0 jz1 jz2 rfl (by decide) (vk k) (s.cols k).length (flatV (s.cols k)) (by simp [Act.eval]) (World.ownsRow.alloc HCK.out _) ⟨w4.heap.size, 0, none⟩ 1 1 (cellsV x) (by simp [Act.eval]) rfl (one_new w4 #[.bool x.miss, .int .i64 x.num, .string x.word] 308) (by intro u hu; simp only [cellsV, List.mem_cons, List.not_mem_nil, or_false] at hu; rcases hu with rfl | rfl | rfl <;> rfl) (by decide) (by unfold maxLen; omega) (by omega) (by simp) ?_
      intro v5 w5 hX5
      obtain ⟨ho, hg, hd, _, q5, p5, rfl⟩ := hX5.out
      have hcl5 : ∃ cur : Array Value, w5.heap[cb]? = some (.cells cur 251 (0, 0)) ∧ cur.size = n ∧ ∀ j, j < n → cur[j]? = some (vk j) := by
        obtain ⟨cur, a1, a2, a3⟩ := HX4.out.cl
        refine ⟨cur, ?_, a2, a3⟩
        rw [hg.block cb (by simp; have := HX4.out.ml cb HX4.out.mc; omega) (fun e => row_ne (HX4.out.oc k hlt) e.symm a1 (by decide) rfl)]
        exact (Below.heap_alloc w4 _ cb (HX4.out.ml cb HX4.out.mc)).trans a1
      have e2 : w5.cell? ⟨rb, 2, none⟩ = some (.slice (some ⟨cb, 0, none⟩) n n) := (RB.grown (w := w4.drew.alloc (.cells #[.bool x.miss, .int .i64 x.num, .string x.word] 308)) ((Below.heap_alloc w4 _ rb HX4.out.rd.lt).trans HX4.out.rd) hg (fun e => row_ne (HX4.out.oc k hlt) e.symm HX4.out.rd (by decide) rfl)).head.2.2.1
      obtain ⟨cu5, cu1, cu2, cu3⟩ := hcl5
      have e4 : w5.cell? ⟨cb, k, none⟩ = some (vk k) := (cell_of_row w5 cb k cu5 251 (0, 0) cu1).trans (cu3 k hlt)
      have ef5 : ∀ o, w5.frozen? ⟨cb, o, none⟩ = false := fun o => frozen_of_row w5 cb o cu5 251 cu1
      have hbx : wr.heap.size < w4.heap.size := HSZ.out
      have hbk : ∀ o, w5.cell? ⟨wr.heap.size, o, none⟩ = w4.cell? ⟨wr.heap.size, o, none⟩ := fun o => (World.cell?_of_block (w := w4.drew.alloc (.cells #[.bool x.miss, .int .i64 x.num, .string x.word] 308)) (a := ⟨wr.heap.size, o, none⟩) (hg.block _ (by simp; omega) (fun e => HBX.out e.symm))).trans (Below.cell (B := w4.heap.size) (w := w4) (p := ⟨wr.heap.size, o, none⟩) (((Below.refl _ _).drew).alloc (by simp) _) hbx)
      have HP : Hid _ := HX4.out.putCol (w' := w5.setCell ⟨cb, k, none⟩ (.slice (some ⟨q5, 0, none⟩) ((s.cols k).length + 1) p5)) (v' := .slice (some ⟨q5, 0, none⟩) ((s.cols k).length + 1) p5) (col' := s.cols k ++ [x]) hlt (put_touch hg cb) (cl_put ⟨cu5, cu1, cu2, cu3⟩ hlt _) (OwnV.more (own_put ho cu1 (by decide))) (put_new hd)
      rw [← hx, colsK_succ] at HP
      clear ho hg hd hX5
      refine hK.out _ _ ⟨e2, e4, (hbk _).trans x0, (hbk _).trans x1, (hbk _).trans x2⟩ (fun hHeld => ?_)
      clear hK KK
      try simp only [Act.put]
      try simp only [List.setIfInBounds_toArray]
      try simp only [List.set_cons_succ]
      try simp only [List.set_cons_zero]
      refine wpAnyS_take [18] (i := 17) (v := ?_) rfl (by kernel_rfl) (by kernel_rfl) (by kernel_rfl) (by kernel_rfl) (by kernel_rfl) (fun _ _ _ h => h) (Or.inl ⟨by rfl, ?_⟩) (by assumption) ?_
      rotate_left
      · intro w hSw
        (try dsimp only at hSw)
        go_simp
        try with_reducible rfl
      try simp only [Act.put]
      try simp only [List.setIfInBounds_toArray]
      try simp only [List.set_cons_succ]
      try simp only [List.set_cons_zero]
      refine wpAnyS_last (i := 18) (by kernel_rfl) rfl (by kernel_rfl) (fun KK hK => ?_)
      go_simp
      refine hK.out _ _ ?_
      clear hK KK
      try simp only [Act.put]
      try simp only [List.setIfInBounds_toArray]
      try simp only [List.set_cons_succ]
      try simp only [List.set_cons_zero]
      refine wpAnyS_done (by kernel_rfl) ?_ _

      go_wp2
      go_roundw
      case rel => exact ⟨k + 1, _, _, by omega, by go_num, HP.out.1, fun z hz => (by rcases HP.out.2.1 z hz with h1 | h1; exact HMk.out.1 z h1; exact .inr (by have := HT4.out.size; omega)), HT4.out.trans2 HP.out.2.2 HMk.out.1⟩
      case measure => simp [intOf]; omega
    · obtain rfl : k = n := by omega
      have g3 := HXk.out.rd.head
      have gf := HXk.out.rd.part.2.2.2.2.2.2
      obtain ⟨_, _, _, g3, g4, g5⟩ := g3
      have HF : Hid _ := HXk.out.putRow (w' := ((wr.setCell ⟨rb, 3, none⟩ (.int .i64 0)).setCell ⟨rb, 4, none⟩ (.bool false)).setCell ⟨rb, 5, none⟩ (.slice none 0 0)) (vr' := .slice none 0 0) (row' := []) (p := s.p) (bs := s.bs) (wv' := wv) (wt := 0) (fl := false)
        ((((Touch.refl (fun z => z = rb ∨ (Value.slice ar k cr).ownBlock = some z) wr).setCell (p := ⟨rb, 3, none⟩) (fun _ => .inl rfl) (.int .i64 0)).setCell (p := ⟨rb, 4, none⟩) (fun _ => .inl rfl) (.bool false)).setCell (p := ⟨rb, 5, none⟩) (fun _ => .inl rfl) (.slice none 0 0))
        (((HXk.out.rd.setWt 0).setFl false).setVr (.slice none 0 0)) (OwnV.nil _ _) (.inr (.inl rfl))
        (own_put (own_put (own_put HXk.out.ob HXk.out.rd (by decide)) (HXk.out.rd.setWt 0) (by decide)) ((HXk.out.rd.setWt 0).setFl false) (by decide)) (.inr rfl)
      have HS : Hid (({ colsK s k with row := [], p := s.p, bs := s.bs, wt := 0, fl := false } : RS) = { s with ws := s.ws ++ [s.wt], cols := fun i => if i < k then s.cols i ++ [s.row.getD i emptyV] else s.cols i, wt := 0, fl := false, row := [] }) := rfl
      go_wp2
      go_end0
      refine ⟨rfl, ⟨_, ⟨_, _, _, _, HF.out.1⟩, fun z hz => ?_⟩, HMk.out.2.trans2 HF.out.2.2 HMk.out.1⟩
      rcases HF.out.2.1 z hz with h1 | h1
      · exact HMk.out.1 z h1
      · exact .inr (by have := HMk.out.2.size; omega)
end
end Go.Proofs.YtfcgnpchbcmdeaaGreat
