import Derived.Test.YtfcgnpchbcmdeaaGreatZpav
import Derived.Test.YtfcgnpchbcmdeaaGreatZpaw
import Derived.Laws.BitsLemmas
import Derived.Test.YtfcgnpchbcmdeaaGreatZpau
namespace Go.Proofs.YtfcgnpchbcmdeaaGreat
set_option maxHeartbeats 1000000
open Go.RowKit
def OwnS (w : World) (base : Nat) (v : Value) (ss : List ByteArray) : Prop := w.ownsRow base 9 1 v ss.length (ss.map Value.string)
theorem OwnS.nil (w : World) (base : Nat) : OwnS w base (.slice none 0 0) [] := World.ownsRow_nil w base 9 1
structure ES where
  wd : Bool
  bs : List Int
  ww : List ByteArray
def ES.cnt (e : ES) : Nat := cntE e.wd e.bs.length e.ww.length
def EdgM (w : World) (base : Nat) (v : Value) (e : ES) : Prop := ∃ vb vw, v = .agg #[.bool e.wd, vb, vw] /\ OwnI w base vb e.bs /\ OwnS w base vw e.ww
def binS (e : ES) (v : VS) : Nat := if v.miss = true then e.cnt + 1 else if e.wd = true then e.ww.findIdx (fun y => decide (y = v.word)) else e.bs.countP (fun b => decide (b < v.num))
theorem OwnS.below {w w' : World} {base : Nat} {v : Value} {L : List ByteArray} (h : OwnS w base v L) (hb : Below w.heap.size w w') : OwnS w' base v L := (Touch.of_below (S := fun _ => False) hb).row h (fun _ _ => id)
theorem EdgM.below {w w' : World} {base : Nat} {v : Value} {e : ES} (h : EdgM w base v e) (hb : Below w.heap.size w w') : EdgM w' base v e := by obtain ⟨vb, vw, h1, h2, h3⟩ := h;exact ⟨vb, vw, h1, h2.below hb, h3.below hb⟩
theorem OwnI.shape {w : World} {base : Nat} {v : Value} {L : List Int} (h : OwnI w base v L) : ∃ a c, v = .slice a L.length c := by
  rcases h.2 with ⟨rfl, h0⟩ | ⟨q, p, cur, rfl, _⟩
  exact ⟨none, 0, by rw [h0]⟩;exact ⟨_, _, rfl⟩
theorem OwnS.form {w : World} {base : Nat} {v : Value} {L : List ByteArray} (h : OwnS w base v L) : ∃ a c, v = .slice a L.length c := by
  rcases h.2 with ⟨rfl, h0⟩ | ⟨q, p, cur, rfl, _⟩
  exact ⟨none, 0, by rw [h0]⟩;exact ⟨_, _, rfl⟩
theorem EdgM.form {w : World} {base : Nat} {v : Value} {e : ES} (h : EdgM w base v e) : ∃ ab cb aw cw, v = .agg #[.bool e.wd, .slice ab e.bs.length cb, .slice aw e.ww.length cw] /\ OwnI w base (.slice ab e.bs.length cb) e.bs /\ OwnS w base (.slice aw e.ww.length cw) e.ww := by obtain ⟨vb, vw, h1, h2, h3⟩ := h;obtain ⟨ab, cb, rfl⟩ := h2.shape;obtain ⟨aw, cw, rfl⟩ := h3.form;exact ⟨ab, cb, aw, cw, h1, h2, h3⟩
theorem search_any (a : Option Addr) (c base : Nat) (bs : List Int) (x : Int) (w : World) (h : OwnI w base (.slice a bs.length c) bs) (hs : bs.Pairwise (· <= ·)) (hl : bs.length <= 1000000) : Calls Tryz.prog 275 #[.slice a bs.length c, .int .i64 x] w fun e w' => (∃ f, e = .returned (.tuple #[.int .i64 (bs.countP (fun b => decide (b < x)) : Nat), .bool f])) /\ Below w.heap.size w w' := by
  have h' := h
  rcases h.2 with ⟨e, h0⟩ | ⟨g, cap, cur, e, _, hh, hnc, _⟩
  rw [h0];refine (Tryz.slices_BinarySearch_int_empty a c x w).mono ?_;rintro e w' ⟨rfl, rfl⟩;have : bs = [] := List.length_eq_zero_iff.1 h0;subst this;exact ⟨⟨false, rfl⟩, Below.refl _ _⟩;injection e with e1 e2 e3;subst e1 e3;refine (Tryz.slices_BinarySearch_int g 0 bs.length c bs x w (Nat.le_refl _) (by omega) (fun j hj => ?_) (by rw [List.take_length]; exact hs)).mono ?_;rw [Nat.zero_add, World.ownsRow.cellAt h' j (by omega)];simp [List.getD, hj];rintro e w' ⟨rfl, q, rfl⟩;rw [List.take_length];exact ⟨⟨_, rfl⟩, below_drewN (Below.refl _ _) q⟩
theorem binOfNumber_any (v x : Value) (base : Nat) (e : ES) (s : VS) (w : World) (h : EdgM w base v e) (hs : e.bs.Pairwise (· <= ·)) (hl : e.bs.length <= 1000000) (hx : x = .agg #[.bool s.miss, .int .i64 s.num, .string s.word]) : Calls Tryz.prog 218 #[v, x] w fun r w' => r = .returned (.int .i64 (e.bs.countP (fun b => decide (b < s.num)) : Nat)) /\ Below w.heap.size w w' := by
  obtain ⟨ab, cb, aw, cw, rfl, hb, _⟩ := h.form;subst hx;have HS : Hid (∀ W : World, Below w.heap.size w W -> Calls Tryz.prog 275 #[.slice ab e.bs.length cb, .int .i64 s.num] W fun r w' => (∃ f, r = .returned (.tuple #[.int .i64 (e.bs.countP (fun b => decide (b < s.num)) : Nat), .bool f])) /\ Below W.heap.size W w') := fun W hW => search_any ab cb base e.bs s.num W (hb.below hW) hs hl;clear h hb hs;generalize e.bs.countP (fun b => decide (b < s.num)) = r at *;generalize e.bs.length = n at *;go_enter Tryz.func218, Tryz.ntmps218;go_wp2_with fail
  refine (HS.out _ (((Below.refl _ _).alloc (Nat.le_refl _) _).alloc (by simp) _)).mono ?_;rintro q w1 ⟨⟨f, rfl⟩, hb1⟩;have hb2 : Below w.heap.size w w1 := (((Below.refl _ _).alloc (Nat.le_refl _) _).alloc (by simp) _).trans (hb1.mono (by simp; omega));clear hb1;go_wp2;go_ret;exact ⟨rfl, hb2⟩
theorem idx_find : ∀ (ss : List ByteArray) (x : ByteArray) (i : Nat), (if 0 <= Lib.idxFromS ss x i then Lib.idxFromS ss x i else ((i + ss.length : Nat) : Int)) = ((i + ss.findIdx (fun y => decide (y = x)) : Nat) : Int)
  | [], x, i => by simp [Lib.idxFromS]
  | z :: ss, x, i => by
    have ih := idx_find ss x (i + 1)
    by_cases e : z = x
    subst e; simp [Lib.idxFromS, List.findIdx_cons];simp only [Lib.idxFromS, List.findIdx_cons, e, decide_false, cond_false, List.length_cons, if_false];rw [show i + (ss.length + 1) = i + 1 + ss.length by omega, show i + (ss.findIdx (fun y => decide (y = x)) + 1) = i + 1 + ss.findIdx (fun y => decide (y = x)) by omega];exact ih
theorem index_any (a : Option Addr) (c base : Nat) (ss : List ByteArray) (x : ByteArray) (w : World) (h : OwnS w base (.slice a ss.length c) ss) (hl : ss.length <= 1000000) : Calls Tryz.prog 267 #[.slice a ss.length c, .string x] w fun e w' => e = .returned (.int .i64 (Lib.idxOfS ss x)) /\ w' = w := by
  have h' := h
  rcases h.2 with ⟨e, h0⟩ | ⟨g, cap, cur, e, _, hh, hnc, _⟩
  rw [h0];have : ss = [] := List.length_eq_zero_iff.1 h0;subst this;exact Tryz.slices_Index_string_empty a c x w;injection e with e1 e2 e3;subst e1 e3
  have := Tryz.slices_Index_string g 0 ss.length c ss x w (Nat.le_refl _) (by omega) (fun j hj => by
    rw [Nat.zero_add, World.ownsRow.cellAt h' j (by omega)]
    simp [List.getD, hj])
  rw [List.take_length] at this;exact this
theorem binOfWord_any (v x : Value) (base : Nat) (e : ES) (s : VS) (w : World) (h : EdgM w base v e) (hl : e.ww.length <= 1000000) (hx : x = .agg #[.bool s.miss, .int .i64 s.num, .string s.word]) : Calls Tryz.prog 213 #[v, x] w fun r w' => r = .returned (.int .i64 (e.ww.findIdx (fun y => decide (y = s.word)) : Nat)) /\ Below w.heap.size w w' := by
  obtain ⟨ab, cb, aw, cw, rfl, _, hb⟩ := h.form;subst hx;have HS : Hid (∀ W : World, Below w.heap.size w W -> Calls Tryz.prog 267 #[.slice aw e.ww.length cw, .string s.word] W fun r w' => r = .returned (.int .i64 (Lib.idxOfS e.ww s.word)) /\ w' = W) := fun W hW => index_any aw cw base e.ww s.word W (hb.below hW) hl;have hid := idx_find e.ww s.word 0;simp only [Nat.zero_add] at hid;have HI : Hid ((if 0 <= Lib.idxOfS e.ww s.word then Lib.idxOfS e.ww s.word else (e.ww.length : Int)) = ((e.ww.findIdx (fun y => decide (y = s.word)) : Nat) : Int)) := hid;clear h hb hid;generalize e.ww.findIdx (fun y => decide (y = s.word)) = r at *;generalize Lib.idxOfS e.ww s.word = d at *;generalize e.ww.length = n at *
  by_cases hd : 0 <= d
  · have hd2 : ¬ d < 0 := (by omega);have HR : Hid (d = (r : Int)) := (by have := HI.out; rw [if_pos hd] at this; exact this);clear HI;go_enter Tryz.func213, Tryz.ntmps213;go_wp2_with fail
    refine (HS.out _ (((Below.refl _ _).alloc (Nat.le_refl _) _).alloc (by simp) _)).mono ?_;rintro q w1 ⟨rfl, rfl⟩;go_wp2;go_ret;exact ⟨by rw [HR.out]; rfl, (((Below.refl _ _).alloc (Nat.le_refl _) _).alloc (by simp) _)⟩
  have hd2 : d < 0 := (by omega);have HR : Hid ((n : Int) = (r : Int)) := (by have := HI.out; rw [if_neg hd] at this; exact this);clear HI;go_enter Tryz.func213, Tryz.ntmps213;go_wp2_with fail
  refine (HS.out _ (((Below.refl _ _).alloc (Nat.le_refl _) _).alloc (by simp) _)).mono ?_;rintro q w1 ⟨rfl, rfl⟩;go_wp2;go_ret;exact ⟨by rw [HR.out]; rfl, (((Below.refl _ _).alloc (Nat.le_refl _) _).alloc (by simp) _)⟩
structure EdgOk (e : ES) : Prop where
  rise : e.bs.Pairwise (· <= ·)
  lb : e.bs.length <= 1000
  lw : e.ww.length <= 1000
theorem bin_any (v x : Value) (base k3 : Nat) (e : ES) (s : VS) (w : World) (h : EdgM w base v e) (hk : EdgOk e) (hx : x = .agg #[.bool s.miss, .int .i64 s.num, .string s.word]) (hc : w.cell? ⟨k3, 0, none⟩ = some (.func (.func (if e.wd = true then 213 else 218)) #[] #[])) (hkl : k3 < w.heap.size) : Calls Tryz.prog 266 #[v, x, .pointer (some ⟨k3, 0, none⟩)] w fun r w' => r = .returned (.int .i64 (binS e s : Nat)) /\ Below w.heap.size w w' := by
  obtain ⟨ab, cb, aw, cw, hv, _, _⟩ := h.form
  have HM : Hid (∀ W : World, Calls Tryz.prog 191 #[v] W fun r w' => r = .returned (.int .i64 ((e.cnt : Nat) + 1)) /\ Below W.heap.size W w') := fun W => by rw [hv];exact missing_any e.wd ab aw _ cb _ cw W (by have := hk.lb; have := hk.lw; unfold cntE; split <;> omega)
  have HN : Hid (∀ W : World, Below w.heap.size w W -> Calls Tryz.prog 218 #[v, x] W fun r w' => r = .returned (.int .i64 (e.bs.countP (fun b => decide (b < s.num)) : Nat)) /\ Below W.heap.size W w') := fun W hW => binOfNumber_any v x base e s W (h.below hW) hk.rise (by have := hk.lb; omega) hx;have HW : Hid (∀ W : World, Below w.heap.size w W -> Calls Tryz.prog 213 #[v, x] W fun r w' => r = .returned (.int .i64 (e.ww.findIdx (fun y => decide (y = s.word)) : Nat)) /\ Below W.heap.size W w') := fun W hW => binOfWord_any v x base e s W (h.below hW) (by have := hk.lw; omega) hx;have HB : Hid (binS e s = if s.miss = true then e.cnt + 1 else if e.wd = true then e.ww.findIdx (fun y => decide (y = s.word)) else e.bs.countP (fun b => decide (b < s.num))) := rfl;subst hv hx;clear h hk;obtain ⟨sm, sn, sw⟩ := s;simp only at HM HN HW HB ⊢
  generalize e.ww.findIdx (fun y => decide (y = sw)) = r1 at *;generalize e.bs.countP (fun b => decide (b < sn)) = r2 at *;generalize binS e ⟨sm, sn, sw⟩ = r at *;generalize e.cnt = cn at *;obtain ⟨ew, eb, es⟩ := e;simp only at HM HN HW HB hc ⊢;generalize eb.length = nb at *;generalize es.length = nw at *
  cases sm with
  | true =>
    have HB2 : Hid (r = cn + 1) := (by have := HB.out; rw [if_pos rfl] at this; exact this);clear HB HN HW;go_enter Tryz.func266, Tryz.ntmps266;go_wp2_with fail
    refine (HM.out _).mono ?_;rintro q w1 ⟨rfl, hb1⟩;have hb2 : Below w.heap.size w w1 := (((Below.refl _ _).alloc (Nat.le_refl _) _).alloc (by simp) _).trans (hb1.mono (by simp; omega));clear hb1;go_wp2;go_ret;exact ⟨by rw [HB2.out]; rfl, hb2⟩
  | false =>
    have hB := HB.out;rw [if_neg (by decide)] at hB;clear HB HM
    cases ew with
    | true =>
      have HB2 : Hid (r = r1) := (by rw [if_pos rfl] at hB; exact hB);rw [if_pos rfl] at hc;clear hB HN;go_enter Tryz.func266, Tryz.ntmps266;go_wp2_with fail
      refine (HW.out _ (((Below.refl _ _).alloc (Nat.le_refl _) _).alloc (by simp) _)).mono ?_;rintro q w1 ⟨rfl, hb1⟩;have hb2 : Below w.heap.size w w1 := (((Below.refl _ _).alloc (Nat.le_refl _) _).alloc (by simp) _).trans (hb1.mono (by simp; omega));clear hb1;go_wp2;go_ret;exact ⟨by rw [HB2.out]; rfl, hb2⟩
    | false =>
      have HB2 : Hid (r = r2) := (by rw [if_neg (by decide)] at hB; exact hB);rw [if_neg (by decide)] at hc;clear hB HW;go_enter Tryz.func266, Tryz.ntmps266;go_wp2_with fail
      refine (HN.out _ (((Below.refl _ _).alloc (Nat.le_refl _) _).alloc (by simp) _)).mono ?_;rintro q w1 ⟨rfl, hb1⟩;have hb2 : Below w.heap.size w w1 := (((Below.refl _ _).alloc (Nat.le_refl _) _).alloc (by simp) _).trans (hb1.mono (by simp; omega));clear hb1;go_wp2;go_ret;exact ⟨by rw [HB2.out]; rfl, hb2⟩
end Go.Proofs.YtfcgnpchbcmdeaaGreat

namespace Go.Proofs.YtfcgnpchbcmdeaaGreat
open Go.RowKit
theorem made_one (u : Value) (n : Nat) : (madeCells #[u] n).toList = List.replicate n u := by apply List.ext_getElem;simp [madeCells];intro i h1 h2;simp [madeCells, Nat.mod_one]
theorem make_ints (n : Nat) (hn : n <= 1000000) (W : World) : (Instr.makeSlice 25 (.int .i64 (n : Int)) (.int .i64 (n : Int))).run Tryz.prog W = .ok (.slice (some ⟨W.heap.size, 0, none⟩) n n) (W.alloc (.cells (madeCells #[.int .i64 0] n) 3)) := by obtain ⟨i0, hinf, hz0, hz1, hz2⟩ := info_parts info3;have := run_make (P := Tryz.prog) W 25 3 i0 _ Tryz.underlying25 hinf hz0 .i64 .i64 (n : Int) (n : Int) (by omega) (by omega) (by rw [hz2]; omega) (by omega);rw [hz1] at this;rw [this, Int.toNat_natCast, Nat.mul_one];rfl
theorem made_ints (n : Nat) (W : World) (base : Nat) (hn : n <= 1000000) (hb : base <= W.heap.size) : OwnI (W.alloc (.cells (madeCells #[.int .i64 0] n) 3)) base (.slice (some ⟨W.heap.size, 0, none⟩) n n) (List.replicate n 0) := by
  have := World.ownsRow_lit (base := base) (size := 1) (e := 3) W (madeCells #[.int .i64 0] n) n hb (by unfold maxLen; omega) (by simp [madeCells]);rw [made_one] at this;unfold OwnI
  simpa using this
theorem OwnI.put {w : World} {base g cap n k : Nat} {zs : List Int} (h : OwnI w base (.slice (some ⟨g, 0, none⟩) n cap) zs) (hn : n = zs.length) (z : Int) : OwnI (w.setCell ⟨g, k, none⟩ (.int .i64 z)) base (.slice (some ⟨g, 0, none⟩) n cap) (zs.set k z) /\ w.grownBy (w.setCell ⟨g, k, none⟩ (.int .i64 z)) (some g) := by subst hn;obtain ⟨h1, h2⟩ := World.ownsRow.stored h k (.int .i64 z);refine ⟨?_, h2⟩;unfold OwnI;rw [List.length_set, List.map_set];exact h1
theorem OwnI.cellK {w : World} {base g cap n k : Nat} {zs : List Int} (h : OwnI w base (.slice (some ⟨g, 0, none⟩) n cap) zs) (hn : n = zs.length) (hk : k < n) : w.cell? ⟨g, k, none⟩ = some (.int .i64 (zs.getD k 0)) /\ w.frozen? ⟨g, k, none⟩ = false := by subst hn;refine ⟨?_, World.ownsRow.frozenAt h k⟩;rw [World.ownsRow.cellAt h k (by omega)];simp [List.getD, hk]
def fillI (f : Nat -> Int) (n k : Nat) : List Int := (List.range k).map f ++ List.replicate (n - k) 0
theorem fillI_len (f : Nat -> Int) {n k : Nat} (h : k <= n) : (fillI f n k).length = n := by simp [fillI]; omega
theorem fillI_zero (f : Nat -> Int) (n : Nat) : fillI f n 0 = List.replicate n 0 := by simp [fillI]
theorem fillI_full (f : Nat -> Int) (n : Nat) : fillI f n n = (List.range n).map f := by simp [fillI]
theorem fillI_set (f : Nat -> Int) {n k : Nat} (h : k < n) : (fillI f n k).set k (f k) = fillI f n (k + 1) := by unfold fillI;rw [show n - k = n - (k + 1) + 1 by omega, List.replicate_succ, List.set_append_right _ _ (by simp), List.length_map, List.length_range, Nat.sub_self, List.set_cons_zero, List.range_succ, List.map_append, List.append_assoc];rfl
theorem range_getD {α β : Type} (g : α -> β) (d : α) (L : List α) : (List.range L.length).map (fun i => g (L.getD i d)) = L.map g := by apply List.ext_getElem;simp;intro i h1 h2;simp at h1;simp [List.getD, h1]
set_option maxRecDepth 100000 in
set_option maxHeartbeats 4000000 in
theorem bins_any (v0 v1 ve : Value) (base k3 : Nat) (va : Option Addr) (n cap : Nat) (e : ES) (L : List VS) (w : World) (hE : EdgM w base ve e) (hk : EdgOk e) (hv : OwnV w 0 (.slice va n cap) L) (hL : L.length = n) (hn : n <= 200) (hf0 : ∃ f c, v0 = .func f #[] c) (hf1 : ∃ f c, v1 = .func f #[] c) (hc : w.cell? ⟨k3, 0, none⟩ = some (.func (.func (if e.wd = true then 213 else 218)) #[] #[])) (hkl : k3 < w.heap.size) : Calls Tryz.prog 156 #[.agg #[v0, v1, .func (.func 266) #[] #[.pointer (some ⟨k3, 0, none⟩)]], ve, .slice va n cap] w fun r w' => ∃ v, r = .returned v /\ OwnI w' w.heap.size v (L.map (fun x => ((binS e x : Nat) : Int))) /\ Below w.heap.size w w' := by
  obtain ⟨ab, cb, aw, cw, hve, _, _⟩ := hE.form;have HBIN : Hid (∀ (W : World) (s : VS), Below w.heap.size w W -> Calls Tryz.prog 266 #[ve, .agg #[.bool s.miss, .int .i64 s.num, .string s.word], .pointer (some ⟨k3, 0, none⟩)] W fun r w' => r = .returned (.int .i64 (binS e s : Nat)) /\ Below W.heap.size W w') := fun W s hW => bin_any ve _ base k3 e s W (hE.below hW) hk rfl ((hW.cell (p := ⟨k3, 0, none⟩) hkl).trans hc) (Nat.lt_of_lt_of_le hkl hW.size);have HV : Hid (OwnV w 0 (.slice va n cap) L) := hv;have HLL : Hid (L.length = n) := hL;have hmk := make_ints n (by omega);obtain ⟨f0, g0, rfl⟩ := hf0;obtain ⟨f1, g1, rfl⟩ := hf1;have HFIN : Hid (L.map (fun x => ((binS e x : Nat) : Int)) = fillI (fun i => ((binS e (L.getD i emptyV) : Nat) : Int)) n n) := by show _ = _;rw [fillI_full, <- hL, range_getD (fun x => ((binS e x : Nat) : Int)) emptyV L]
  subst hve;clear hE hv hk hc hkl hL;generalize e.bs.length = nb at *;generalize e.ww.length = nw at *;generalize e.wd = ew at *;obtain ⟨w2, hw2⟩ : ∃ w2, w2 = (w.alloc (.cells #[.func f0 #[] g0, .func f1 #[] g1, .func (.func 266) #[] #[.pointer (some ⟨k3, 0, none⟩)]] 263)).alloc (.cells #[.bool ew, .slice ab nb cb, .slice aw nw cw] 170) := ⟨_, rfl⟩;have HB2 : Hid (Below w.heap.size w w2) := (by show Below _ _ _;rw [hw2];exact ((Below.refl _ _).alloc (Nat.le_refl _) _).alloc (by simp) _);have hs2 : w2.heap.size = w.heap.size + 1 + 1 := (by rw [hw2]; simp);go_enter Tryz.func156, Tryz.ntmps156;go_wp2_with fail
  go_loopw [15] (fun ti wr => ∃ k : Nat, ti = .int .i64 k /\ k <= n /\ Hid (OwnI wr (w.heap.size + 1 + 1) (.slice (some ⟨w.heap.size + 1 + 1, 0, none⟩) n n) (fillI (fun i => ((binS e (L.getD i emptyV) : Nat) : Int)) n k)) /\ Hid (Below (w.heap.size + 1 + 1) w2 wr)) (fun ti _ => n - (intOf ti).toNat)
  case atStart =>
    refine ⟨0, rfl, Nat.zero_le _, ?_, ?_⟩;rw [fillI_zero];have := made_ints n w2 (w.heap.size + 1 + 1) (by omega) (by omega);rw [hs2, hw2] at this;exact this;show Below _ _ _;rw [hw2];exact (Below.refl _ _).alloc (by simp) _
  case round =>
    clear hmk;obtain ⟨k, rfl, hk, HO, HBL⟩ := hrel;have hbel := HBL.out;have hsz := hbel.size;rw [hs2] at hsz;have d0 : wr.cell? ⟨w.heap.size, 2, none⟩ = some (.func (.func 266) #[] #[.pointer (some ⟨k3, 0, none⟩)]) := (hbel.cell (p := ⟨w.heap.size, 2, none⟩) (by show w.heap.size < _; omega)).trans (by rw [hw2]; simp [go_sem]);have d1 : wr.cell? ⟨w.heap.size + 1, 0, none⟩ = some (.bool ew) := (hbel.cell (p := ⟨w.heap.size + 1, 0, none⟩) (by show w.heap.size + 1 < _; omega)).trans (by rw [hw2]; simp [go_sem]);have d2 : wr.cell? ⟨w.heap.size + 1, 1, none⟩ = some (.slice ab nb cb) := (hbel.cell (p := ⟨w.heap.size + 1, 1, none⟩) (by show w.heap.size + 1 < _; omega)).trans (by rw [hw2]; simp [go_sem])
    have d3 : wr.cell? ⟨w.heap.size + 1, 2, none⟩ = some (.slice aw nw cw) := (hbel.cell (p := ⟨w.heap.size + 1, 2, none⟩) (by show w.heap.size + 1 < _; omega)).trans (by rw [hw2]; simp [go_sem])
    by_cases hkn : k < n
    · have hkL : k < L.length := (by rw [HLL.out]; exact hkn);obtain ⟨q, rfl, hql, c0, c1, c2⟩ := HV.out.at hkL;have hbw : Below w.heap.size w wr := HB2.out.trans (hbel.mono (by omega));have a0 := (hbw.cell (p := ⟨q, k * 3, none⟩) hql).trans c0;have a1 := (hbw.cell (p := ⟨q, k * 3 + 1, none⟩) hql).trans c1;have a2 := (hbw.cell (p := ⟨q, k * 3 + 2, none⟩) hql).trans c2;have hfl := fillI_len (fun i => ((binS e (L.getD i emptyV) : Nat) : Int)) (show k <= n by omega);have hset := fillI_set (fun i => ((binS e (L.getD i emptyV) : Nat) : Int)) hkn;have HSET : Hid ((fillI (fun i => ((binS e (L.getD i emptyV) : Nat) : Int)) n k).set k ((binS e (L.getD k emptyV) : Nat) : Int) = fillI (fun i => ((binS e (L.getD i emptyV) : Nat) : Int)) n (k + 1)) := hset;have HFL : Hid (n = (fillI (fun i => ((binS e (L.getD i emptyV) : Nat) : Int)) n k).length) := hfl.symm;clear c0 c1 c2 hset hfl
      generalize L.getD k emptyV = x at *;obtain ⟨xm, xn, xw⟩ := x;simp only at a0 a1 a2;have bk1 : (0 : Int) <= (k : Int) := (by omega);have bk2 : (k : Int) < (n : Int) := (by omega);have HBW : Hid (Below w.heap.size w wr) := hbw;have HHB : Hid (Below (w.heap.size + 1 + 1) w2 wr) := hbel;clear hbw hbel hw2 HBL;have hlt0 : w.heap.size < wr.heap.size := (by omega);have hlt1 : w.heap.size + 1 < wr.heap.size := (by omega);go_wp2_with fail
      refine (HBIN.out _ ⟨xm, xn, xw⟩ (HBW.out.alloc (by omega) _)).mono ?_;rintro r w3 ⟨rfl, hb3⟩;have hs3 := hb3.size;simp at hs3;have HO3 : Hid (OwnI w3 (w.heap.size + 1 + 1) (.slice (some ⟨w.heap.size + 1 + 1, 0, none⟩) n n) (fillI (fun i => ((binS e (L.getD i emptyV) : Nat) : Int)) n k)) := (HO.out.alloc _).below hb3;have hcf := HO3.out.cellK HFL.out hkn;obtain ⟨cf1, cf2⟩ := hcf;have hbf : Below (w.heap.size + 1 + 1) w2 w3 := HHB.out.trans ((((Below.refl _ _).alloc (by omega) _)).trans (hb3.mono (by simp; omega)));have HBF : Hid (Below (w.heap.size + 1 + 1) w2 w3) := hbf;clear hb3 hbf HO HBIN HBW HHB;generalize (fillI (fun i => ((binS e (L.getD i emptyV) : Nat) : Int)) n k) = F at *;generalize binS e ⟨xm, xn, xw⟩ = r at *;generalize F.getD k 0 = z0 at *;go_wp2;go_roundw
      case rel =>
        refine ⟨k + 1, by go_num, by omega, ?_, ?_⟩;rw [<- HSET.out];exact (HO3.out.put HFL.out _).1;exact HBF.out.setCell (Nat.le_refl _) _
      case measure => simp [intOf]; omega
    have hnk : ¬ (k : Int) < (n : Int) := (by omega);have HF : Hid (OwnI wr w.heap.size (.slice (some ⟨w.heap.size + 1 + 1, 0, none⟩) n n) (L.map (fun x => ((binS e x : Nat) : Int))) /\ Below w.heap.size w wr) := (by rw [HFIN.out];have : k = n := (by omega);subst this;exact ⟨HO.out.mono (by omega), HB2.out.trans (hbel.mono (by omega))⟩);clear HO hw2 HBL hbel;go_wp2;go_ret;exact ⟨_, rfl, HF.out.1, HF.out.2⟩
end Go.Proofs.YtfcgnpchbcmdeaaGreat

namespace Go.Proofs.YtfcgnpchbcmdeaaGreat
set_option maxRecDepth 100000
set_option maxHeartbeats 2000000
open Go.RowKit
def natI (B : List Nat) : List Int := B.map (fun n : Nat => (n : Int))
theorem ne_nat (x d : Nat) : (((x : Int) != (d : Int))) = decide (x ≠ d) := by
  by_cases h : x = d
  subst h; simp;have : (x : Int) ≠ (d : Int) := (by omega);rw [bne_iff_ne.2 this]; simp [h]
theorem natI_len (B : List Nat) : (natI B).length = B.length := by simp [natI]
theorem natI_getD (B : List Nat) (k : Nat) : (natI B).getD k 0 = ((B.getD k 0 : Nat) : Int) := by
  simp only [natI, List.getD, List.getElem?_map]
  cases B[k]? <;> rfl
theorem OwnI.atK {w : World} {base : Nat} {a : Option Addr} {n c : Nat} {zs : List Int} (h : OwnI w base (.slice a n c) zs) (hn : zs.length = n) {k : Nat} (hk : k < n) : ∃ q, a = some ⟨q, 0, none⟩ /\ q < w.heap.size /\ base <= q /\ w.cell? ⟨q, k, none⟩ = some (.int .i64 (zs.getD k 0)) /\ w.frozen? ⟨q, k, none⟩ = false := by
  rcases h.2 with ⟨e, h0⟩ | ⟨g, cap, cur, e, hb, hh, hnc, _⟩
  omega;injection e with e1 e2 e3;subst e1 e3 hn;have := OwnI.cellK h rfl hk;exact ⟨g, rfl, (Array.getElem?_eq_some_iff.1 hh).1, hb, this.1, this.2⟩
def OwnO (w : World) (base : Nat) (v : Value) (bs : List Bool) : Prop := w.ownsRow base 4 1 v bs.length (bs.map Value.bool)
theorem info4 : (Tryz.prog.info? 4).map (fun i => (i.zero, i.size, i.bytes)) = some (some (.bool false), 1, 1) := by kernel_rfl
theorem OwnO.below {w w' : World} {base : Nat} {v : Value} {L : List Bool} (h : OwnO w base v L) (hb : Below w.heap.size w w') : OwnO w' base v L := (Touch.of_below (S := fun _ => False) hb).row h (fun _ _ => id)
theorem OwnO.alloc {w : World} {base : Nat} {v : Value} {zs : List Bool} (h : OwnO w base v zs) (o : Obj) : OwnO (w.alloc o) base v zs := World.ownsRow.alloc h o
theorem OwnO.mono {w : World} {b b' : Nat} {v : Value} {L : List Bool} (h : OwnO w b' v L) (hb : b <= b') : OwnO w b v L := by
  refine ⟨h.1, ?_⟩
  rcases h.2 with hn | ⟨g, cap, cur, e, hg, r⟩
  exact .inl hn;exact .inr ⟨g, cap, cur, e, Nat.le_trans hb hg, r⟩
theorem OwnO.shape {w : World} {base : Nat} {v : Value} {L : List Bool} (h : OwnO w base v L) : ∃ a c, v = .slice a L.length c := by
  rcases h.2 with ⟨rfl, h0⟩ | ⟨q, p, cur, rfl, _⟩
  exact ⟨none, 0, by rw [h0]⟩;exact ⟨_, _, rfl⟩
theorem OwnO.put {w : World} {base g cap n k : Nat} {zs : List Bool} (h : OwnO w base (.slice (some ⟨g, 0, none⟩) n cap) zs) (hn : n = zs.length) (z : Bool) : OwnO (w.setCell ⟨g, k, none⟩ (.bool z)) base (.slice (some ⟨g, 0, none⟩) n cap) (zs.set k z) /\ w.grownBy (w.setCell ⟨g, k, none⟩ (.bool z)) (some g) := by subst hn;obtain ⟨h1, h2⟩ := World.ownsRow.stored h k (.bool z);refine ⟨?_, h2⟩;unfold OwnO;rw [List.length_set, List.map_set];exact h1
theorem OwnO.atK {w : World} {base : Nat} {a : Option Addr} {n c : Nat} {zs : List Bool} (h : OwnO w base (.slice a n c) zs) (hn : zs.length = n) {k : Nat} (hk : k < n) : ∃ q, a = some ⟨q, 0, none⟩ /\ q < w.heap.size /\ base <= q /\ w.cell? ⟨q, k, none⟩ = some (.bool (zs.getD k false)) /\ w.frozen? ⟨q, k, none⟩ = false := by
  rcases h.2 with ⟨e, h0⟩ | ⟨g, cap, cur, e, hb, hh, hnc, _⟩
  omega;injection e with e1 e2 e3;subst e1 e3 hn;refine ⟨g, rfl, (Array.getElem?_eq_some_iff.1 hh).1, hb, ?_, World.ownsRow.frozenAt h k⟩;rw [World.ownsRow.cellAt h k (by omega)];simp [List.getD, hk]
theorem make_flags (n : Nat) (hn : n <= 1000000) (W : World) : (Instr.makeSlice 101 (.int .i64 (n : Int)) (.int .i64 (n : Int))).run Tryz.prog W = .ok (.slice (some ⟨W.heap.size, 0, none⟩) n n) (W.alloc (.cells (madeCells #[.bool false] n) 4)) := by obtain ⟨i0, hinf, hz0, hz1, hz2⟩ := info_parts info4;have := run_make (P := Tryz.prog) W 101 4 i0 _ Tryz.underlying101 hinf hz0 .i64 .i64 (n : Int) (n : Int) (by omega) (by omega) (by rw [hz2]; omega) (by omega);rw [hz1] at this;rw [this, Int.toNat_natCast, Nat.mul_one];rfl
theorem made_flags (n : Nat) (W : World) (base : Nat) (hn : n <= 1000000) (hb : base <= W.heap.size) : OwnO (W.alloc (.cells (madeCells #[.bool false] n) 4)) base (.slice (some ⟨W.heap.size, 0, none⟩) n n) (List.replicate n false) := by
  have := World.ownsRow_lit (base := base) (size := 1) (e := 4) W (madeCells #[.bool false] n) n hb (by unfold maxLen; omega) (by simp [madeCells]);rw [made_one] at this;unfold OwnO
  simpa using this
def fillO (f : Nat -> Bool) (n k : Nat) : List Bool := (List.range k).map f ++ List.replicate (n - k) false
theorem fillO_len (f : Nat -> Bool) {n k : Nat} (h : k <= n) : (fillO f n k).length = n := by simp [fillO]; omega
theorem fillO_zero (f : Nat -> Bool) (n : Nat) : fillO f n 0 = List.replicate n false := by simp [fillO]
theorem fillO_full (f : Nat -> Bool) (n : Nat) : fillO f n n = (List.range n).map f := by simp [fillO]
theorem fillO_set (f : Nat -> Bool) {n k : Nat} (h : k < n) : (fillO f n k).set k (f k) = fillO f n (k + 1) := by unfold fillO;rw [show n - k = n - (k + 1) + 1 by omega, List.replicate_succ, List.set_append_right _ _ (by simp), List.length_map, List.length_range, Nat.sub_self, List.set_cons_zero, List.range_succ, List.map_append, List.append_assoc];rfl
def outsOf (B : List Nat) (d : Nat) : List Bool := B.map (fun b => decide (b ≠ d))
theorem standingOut_any (va : Option Addr) (n c d : Nat) (B : List Nat) (w : World) (hv : OwnI w 0 (.slice va n c) (natI B)) (hB : B.length = n) (hn : n <= 200) : Calls Tryz.prog 205 #[.slice va n c, .int .i64 d] w fun e w' => ∃ v, e = .returned v /\ OwnO w' w.heap.size v (outsOf B d) /\ Below w.heap.size w w' := by
  have HV : Hid (OwnI w 0 (.slice va n c) (natI B)) := hv;have HB : Hid (B.length = n) := hB;have hmk := make_flags n (by omega);have HFIN : Hid (outsOf B d = fillO (fun i => decide (B.getD i 0 ≠ d)) n n) := (by show _ = _;rw [fillO_full, <- hB, outsOf, range_getD (fun b => decide (b ≠ d)) 0 B]);clear hv hB;go_enter Tryz.func205, Tryz.ntmps205;go_wp2_with fail
  go_loopw [13] (fun ti wr => ∃ k : Nat, ti = .int .i64 k /\ k <= n /\ Hid (OwnO wr w.heap.size (.slice (some ⟨w.heap.size, 0, none⟩) n n) (fillO (fun i => decide (B.getD i 0 ≠ d)) n k)) /\ Below w.heap.size w wr) (fun ti _ => n - (intOf ti).toNat)
  case atStart => exact ⟨0, rfl, Nat.zero_le _, by rw [fillO_zero]; exact made_flags n w w.heap.size (by omega) (Nat.le_refl _), (Below.refl _ _).alloc (Nat.le_refl _) _⟩
  case round =>
    clear hmk;obtain ⟨k, rfl, hk, HO, hbel⟩ := hrel;have hsz := hbel.size
    by_cases hkn : k < n
    · obtain ⟨q, rfl, hql, _, hc, _⟩ := HV.out.atK (by rw [natI_len]; exact HB.out) hkn;have a0 := (hbel.cell (p := ⟨q, k, none⟩) hql).trans hc;rw [natI_getD] at a0;have hfl := fillO_len (fun i => decide (B.getD i 0 ≠ d)) (show k <= n by omega);have HFL : Hid ((fillO (fun i => decide (B.getD i 0 ≠ d)) n k).length = n) := hfl;have HSET : Hid ((fillO (fun i => decide (B.getD i 0 ≠ d)) n k).set k (decide (B.getD k 0 ≠ d)) = fillO (fun i => decide (B.getD i 0 ≠ d)) n (k + 1)) := fillO_set (fun i => decide (B.getD i 0 ≠ d)) hkn;obtain ⟨q2, hq2, hql2, _, hc2, hf2⟩ := HO.out.atK hfl hkn;injection hq2 with hq2;injection hq2 with hq2 _;subst hq2;have HOO : Hid (OwnO wr w.heap.size (.slice (some ⟨w.heap.size, 0, none⟩) n n) (fillO (fun i => decide (B.getD i 0 ≠ d)) n k)) := HO;generalize fillO (fun i => decide (B.getD i 0 ≠ d)) n k = F at *;generalize F.getD k false = z0 at *
      generalize B.getD k 0 = x at *;have bk1 : (0 : Int) <= (k : Int) := (by omega);have bk2 : (k : Int) < (n : Int) := (by omega);clear hfl hc HO;go_wp2;go_roundw
      case rel =>
        refine ⟨k + 1, by go_num, by omega, ?_, ?_⟩;rw [<- HSET.out];rw [ne_nat];exact (HOO.out.put (k := k) HFL.out.symm (decide (x ≠ d))).1;exact hbel.setCell (Nat.le_refl _) _
      case measure => simp [intOf]; omega
    have hnk : ¬ (k : Int) < (n : Int) := (by omega);have HF : Hid (OwnO wr w.heap.size (.slice (some ⟨w.heap.size, 0, none⟩) n n) (outsOf B d)) := (by rw [HFIN.out];have : k = n := (by omega);subst this;exact HO.out);clear HO;go_wp2;go_ret;exact ⟨_, rfl, HF.out, hbel⟩
def cntsOf (B : List Nat) (h : Nat) : List Int := (List.range h).map (fun b => ((B.count b : Nat) : Int))
theorem cntsOf_len (B : List Nat) (h : Nat) : (cntsOf B h).length = h := by simp [cntsOf]
theorem cntsOf_nil (h : Nat) : cntsOf [] h = List.replicate h 0 := by apply List.ext_getElem;simp [cntsOf];intro i h1 h2; simp [cntsOf]
theorem cntsOf_snoc (B : List Nat) {b h : Nat} (hb : b < h) : (cntsOf B h).set b ((cntsOf B h).getD b 0 + 1) = cntsOf (B ++ [b]) h := by
  apply List.ext_getElem;simp [cntsOf];intro i h1 h2;simp only [cntsOf, List.length_map, List.length_range] at h2;simp only [cntsOf, List.getElem_set, List.getElem_map, List.getElem_range, List.count_append, List.getD, List.getElem?_map, List.getElem?_range hb, Option.map_some, Option.getD_some]
  by_cases e : b = i
  subst e; simp;simp [e]
theorem cntsOf_in (B : List Nat) (h b : Nat) : 0 <= (cntsOf B h).getD b 0 /\ (cntsOf B h).getD b 0 <= B.length := by
  simp only [cntsOf, List.getD, List.getElem?_map]
  by_cases e : b < h
  rw [List.getElem?_range e];simp only [Option.map_some, Option.getD_some];have := List.count_le_length (a := b) (l := B);omega;rw [List.getElem?_eq_none (by simpa using e)];simp
def mostF (B : List Nat) (h : Nat) : Int := Lib.idxOf (cntsOf B h) (Lib.maxOf (cntsOf B h))
theorem mostFrequent_any (va : Option Addr) (n c h : Nat) (B : List Nat) (w : World) (hv : OwnI w 0 (.slice va n c) (natI B)) (hB : B.length = n) (hn : n <= 200) (hh : ∀ b ∈ B, b < h) (h0 : 0 < h) (h1 : h <= 1000) : Calls Tryz.prog 204 #[.slice va n c, .int .i64 h] w fun e w' => e = .returned (.int .i64 (mostF B h)) /\ Below w.heap.size w w' := by
  have HV : Hid (OwnI w 0 (.slice va n c) (natI B)) := hv;have HB : Hid (B.length = n) := hB;have HH : Hid (∀ b ∈ B, b < h) := hh;have hmk := make_ints h (by omega);clear hv hB hh;go_enter Tryz.func204, Tryz.ntmps204;go_wp2_with fail
  go_loopw [12] (fun ti wr => ∃ k : Nat, ti = .int .i64 k /\ k <= n /\ Hid (OwnI wr w.heap.size (.slice (some ⟨w.heap.size, 0, none⟩) h h) (cntsOf (B.take k) h)) /\ Below w.heap.size w wr) (fun ti _ => n - (intOf ti).toNat)
  case atStart => exact ⟨0, rfl, Nat.zero_le _, by rw [List.take_zero, cntsOf_nil]; exact made_ints h w w.heap.size (by omega) (Nat.le_refl _), (Below.refl _ _).alloc (Nat.le_refl _) _⟩
  case round =>
    clear hmk;obtain ⟨k, rfl, hk, HO, hbel⟩ := hrel;have hsz := hbel.size
    by_cases hkn : k < n
    · obtain ⟨q, rfl, hql, _, hc, _⟩ := HV.out.atK (by rw [natI_len]; exact HB.out) hkn;have a0 := (hbel.cell (p := ⟨q, k, none⟩) hql).trans hc;rw [natI_getD] at a0;have hkB : k < B.length := by rw [HB.out]; exact hkn
      have hbh : B.getD k 0 < h := (by have : B.getD k 0 = B[k] := (by simp [List.getD, hkB]);rw [this]; exact HH.out _ (List.getElem_mem hkB));have htk : B.take (k + 1) = B.take k ++ [B.getD k 0] := (by rw [List.take_succ_eq_append_getElem hkB]; simp [List.getD, hkB]);have HSET : Hid ((cntsOf (B.take k) h).set (B.getD k 0) ((cntsOf (B.take k) h).getD (B.getD k 0) 0 + 1) = cntsOf (B.take (k + 1)) h) := by show _ = _;rw [htk, cntsOf_snoc _ hbh]
      have hin := cntsOf_in (B.take k) h (B.getD k 0);have hle : ((B.take k).length : Int) <= 200 := (by simp; omega);obtain ⟨q2, hq2, _, _, hc2, hf2⟩ := HO.out.atK (cntsOf_len _ _) hbh;injection hq2 with hq2;injection hq2 with hq2 _;subst hq2;obtain ⟨i1, i2⟩ := hin;have HOO : Hid (OwnI wr w.heap.size (.slice (some ⟨w.heap.size, 0, none⟩) h h) (cntsOf (B.take k) h)) := HO;have HFL : Hid (h = (cntsOf (B.take k) h).length) := (cntsOf_len _ _).symm;generalize cntsOf (B.take k) h = F at *;generalize B.getD k 0 = x at *;generalize F.getD x 0 = z0 at *;have i3 : z0 <= 200 := (by omega);have bk1 : (0 : Int) <= (k : Int) := (by omega);have bk2 : (k : Int) < (n : Int) := (by omega);have bx1 : (0 : Int) <= (x : Int) := (by omega);have bx2 : (x : Int) < (h : Int) := (by omega);clear hc HO htk i2 hle;go_wp2;go_roundw
      case rel =>
        refine ⟨k + 1, by go_num, by omega, ?_, ?_⟩;rw [<- HSET.out];exact (HOO.out.put (k := x) HFL.out (z0 + 1)).1;exact hbel.setCell (Nat.le_refl _) _
      case measure => simp [intOf]; omega
    have hnk : ¬ (k : Int) < (n : Int) := (by omega);have hO : OwnI wr w.heap.size (.slice (some ⟨w.heap.size, 0, none⟩) h h) (cntsOf B h) := by have := HO.out;rw [List.take_of_length_le (by have := HB.out; omega)] at this;exact this
    have HMAX : Hid (Calls Tryz.prog 253 #[.slice (some ⟨w.heap.size, 0, none⟩) h h] wr fun e w' => e = .returned (.int .i64 (Lib.maxOf (cntsOf B h))) /\ w' = wr) := by have := Tryz.slices_Max_int w.heap.size 0 h h (cntsOf B h) wr h0 (by rw [cntsOf_len]; exact Nat.le_refl _) (by omega) (fun j hj => by rw [Nat.zero_add]; exact (hO.cellK (cntsOf_len _ _).symm (by rw [cntsOf_len] at hj; exact hj)).1);rw [List.take_of_length_le (by rw [cntsOf_len]; exact Nat.le_refl _)] at this;exact this
    have HIDX : Hid (Calls Tryz.prog 252 #[.slice (some ⟨w.heap.size, 0, none⟩) h h, .int .i64 (Lib.maxOf (cntsOf B h))] wr fun e w' => e = .returned (.int .i64 (mostF B h)) /\ w' = wr) := (by have := Tryz.slices_Index_int w.heap.size 0 h h (cntsOf B h) (Lib.maxOf (cntsOf B h)) wr (by rw [cntsOf_len]; exact Nat.le_refl _) (by omega) (fun j hj => by rw [Nat.zero_add]; exact (hO.cellK (cntsOf_len _ _).symm (by rw [cntsOf_len] at hj; exact hj)).1);rw [List.take_of_length_le (by rw [cntsOf_len]; exact Nat.le_refl _)] at this;exact this);clear HO hO;generalize Lib.maxOf (cntsOf B h) = mx at *;go_wp2_with fail
    refine HMAX.out.mono ?_;rintro e w1 ⟨rfl, rfl⟩;go_wp2_with fail
    refine HIDX.out.mono ?_;rintro e w1 ⟨rfl, rfl⟩;go_wp2;go_ret;exact ⟨rfl, hbel⟩
def cntT (L : List Bool) : Nat := L.count true
theorem cntT_snoc (L : List Bool) (b : Bool) : cntT (L ++ [b]) = cntT L + (if b = true then 1 else 0) := by simp [cntT, List.count_append]; cases b <;> simp
theorem take_snocB (L : List Bool) {r : Nat} (h : r < L.length) : L.take (r + 1) = L.take r ++ [L.getD r false] := by rw [List.take_succ_eq_append_getElem h]; simp [List.getD, h]
theorem cnt_any (va : Option Addr) (n c : Nat) (L : List Bool) (w : World) (hv : OwnO w 0 (.slice va n c) L) (hL : L.length = n) (hn : n <= 200) : Calls Tryz.prog 296 #[.slice va n c] w fun e w' => e = .returned (.int .i64 (cntT L : Nat)) /\ w' = w := by
  have HV : Hid (OwnO w 0 (.slice va n c) L) := hv;have HL : Hid (L.length = n) := hL;clear hv hL;go_enter Tryz.func296, Tryz.ntmps296;go_wp2_with fail
  go_loop [8, 3] (fun ti tn => ∃ k : Nat, ti = .int .i64 k /\ k <= n /\ tn = .int .i64 (cntT (L.take k) : Nat) /\ cntT (L.take k) <= k) (fun ti _ => n - (intOf ti).toNat)
  case atStart => exact ⟨0, rfl, Nat.zero_le _, rfl, Nat.le_refl _⟩
  case round =>
    obtain ⟨k, rfl, hk, rfl, hkc⟩ := hrel
    by_cases hkn : k < n
    · obtain ⟨q, rfl, hql, _, a0, _⟩ := HV.out.atK HL.out hkn;have hs := cntT_snoc (L.take k) (L.getD k false);rw [<- take_snocB L (by rw [HL.out]; exact hkn)] at hs;have HS : Hid (cntT (L.take (k + 1)) = cntT (L.take k) + (if L.getD k false = true then 1 else 0)) := hs;clear hs;generalize cntT (L.take k) = t at *;generalize L.getD k false = b at *;have bk1 : (0 : Int) <= (k : Int) := (by omega);have bk2 : (k : Int) < (n : Int) := by omega
      cases b with
      | true =>
        have HS2 : Hid (cntT (L.take (k + 1)) = t + 1) := (by have := HS.out; rw [if_pos rfl] at this; exact this);clear HS;go_wp2;go_roundw;case rel => exact ⟨k + 1, by go_num, by omega, by rw [HS2.out]; go_num, by rw [HS2.out]; omega⟩
        case measure => simp [intOf]; omega
      | false =>
        have HS2 : Hid (cntT (L.take (k + 1)) = t) := (by have := HS.out; rw [if_neg (by decide)] at this; exact this);clear HS;go_wp2;go_roundw;case rel => exact ⟨k + 1, by go_num, by omega, by rw [HS2.out], by rw [HS2.out]; omega⟩
        case measure => simp [intOf]; omega
    have hnk : ¬ (k : Int) < (n : Int) := (by omega);have HF : Hid (cntT (L.take k) = cntT L) := (by show _ = _; rw [List.take_of_length_le (by have := HL.out; omega)]);generalize cntT (L.take k) = t at *;go_wp2;go_ret;exact ⟨by rw [HF.out]; rfl, rfl⟩
end Go.Proofs.YtfcgnpchbcmdeaaGreat

namespace Go.Proofs.YtfcgnpchbcmdeaaGreat
open Go.RowKit
def lowB (f : Nat -> Nat) (b : Nat) : Nat -> Nat
  | 0 => 0
  | c + 1 => lowB f b c + f (b + c) * 2 ^ c
theorem lowB_lt {f : Nat -> Nat} (hf : ∀ t, f t <= 1) (b : Nat) : ∀ c, lowB f b c < 2 ^ c
  | 0 => by simp [lowB]
  | c + 1 => by have := lowB_lt hf b c;have h1 : f (b + c) * 2 ^ c <= 1 * 2 ^ c := Nat.mul_le_mul_right _ (hf _);simp only [lowB, Nat.pow_succ];omega
def byteF (f : Nat -> Nat) (T j : Nat) : Nat := lowB f (8 * j) (min 8 (T - 8 * j))
theorem byteF_lt {f : Nat -> Nat} (hf : ∀ t, f t <= 1) (T j : Nat) : byteF f T j < 256 := by have h := lowB_lt hf (8 * j) (min 8 (T - 8 * j));have : (2 : Nat) ^ (min 8 (T - 8 * j)) <= 2 ^ 8 := Nat.pow_le_pow_right (by decide) (by omega);unfold byteF;omega
theorem byteF_at (f : Nat -> Nat) (T : Nat) : byteF f (T + 1) (T / 8) = byteF f T (T / 8) + f T * 2 ^ (T % 8) := by unfold byteF;have e1 : min 8 (T - 8 * (T / 8)) = T % 8 := (by omega);have e2 : min 8 (T + 1 - 8 * (T / 8)) = T % 8 + 1 := (by omega);rw [e1, e2];simp only [lowB];rw [show 8 * (T / 8) + T % 8 = T by omega]
theorem byteF_here {f : Nat -> Nat} (hf : ∀ t, f t <= 1) (T : Nat) : byteF f T (T / 8) < 2 ^ (T % 8) := by unfold byteF;have e1 : min 8 (T - 8 * (T / 8)) = T % 8 := (by omega);rw [e1];exact lowB_lt hf _ _
theorem byteF_else (f : Nat -> Nat) (T : Nat) {j : Nat} (h : j ≠ T / 8) : byteF f (T + 1) j = byteF f T j := by unfold byteF;have : min 8 (T + 1 - 8 * j) = min 8 (T - 8 * j) := (by omega);rw [this]
def packF (f : Nat -> Nat) (nb T : Nat) : List Int := (List.range nb).map (fun j => ((byteF f T j : Nat) : Int))
theorem packF_len (f : Nat -> Nat) (nb T : Nat) : (packF f nb T).length = nb := by simp [packF]
theorem packF_getD (f : Nat -> Nat) {nb j : Nat} (T : Nat) (h : j < nb) : (packF f nb T).getD j 0 = ((byteF f T j : Nat) : Int) := by simp [packF, List.getD, h]
theorem packF_zero (f : Nat -> Nat) (nb : Nat) : packF f nb 0 = List.replicate nb 0 := by apply List.ext_getElem;simp [packF];intro i h1 h2;simp [packF, byteF, lowB]
theorem packF_set (f : Nat -> Nat) (nb T : Nat) : (packF f nb T).set (T / 8) ((byteF f (T + 1) (T / 8) : Nat) : Int) = packF f nb (T + 1) := by
  apply List.ext_getElem;simp [packF];intro i h1 h2;simp only [packF, List.getElem_set, List.getElem_map, List.getElem_range]
  by_cases e : T / 8 = i
  rw [if_pos e, <- e];rw [if_neg e, byteF_else f T (fun h => e h.symm)]
theorem wraps_u8 (n : Int) (h₀ : 0 <= n) (h₁ : n < 2 ^ 8) : IntKind.u8.wrap n = n := by simp [IntKind.wrap, IntKind.bits, IntKind.signed]; omega
theorem bitsU8 (a b : Nat) (ha : a < 256) (hb : b < 256) : bits .and .u8 a b = ((a &&& b : Nat) : Int) /\ bits .or .u8 a b = ((a ||| b : Nat) : Int) := bits_nat .u8 8 (by decide) wraps_u8 a b (by omega) (by omega)
theorem and_one (a : Nat) : a &&& 1 = a % 2 := Nat.and_one_is_mod a
theorem or_bit {x b k : Nat} (hx : x < 2 ^ k) : x ||| (b * 2 ^ k) = x + b * 2 ^ k := by have := Nat.two_pow_add_eq_or_of_lt hx b;rw [Nat.or_comm, Nat.mul_comm b, <- this];omega
end Go.Proofs.YtfcgnpchbcmdeaaGreat

namespace Go.Proofs.YtfcgnpchbcmdeaaGreat
open Go.RowKit
structure GS where
  fs : List Nat
  out : List Bool
  conf : Nat
  bins : Nat
def bothL (a b : List Bool) : List Bool := List.zipWith (fun x y => x && y) a b
def confN (a b : List Bool) : Nat := cntT (bothL a b)
theorem bothL_len {a b : List Bool} (h : a.length = b.length) : (bothL a b).length = b.length := by simp [bothL, h]
theorem bothL_getD {a b : List Bool} (h : a.length = b.length) {k : Nat} (hk : k < b.length) : (bothL a b).getD k false = (a.getD k false && b.getD k false) := by have h1 : k < a.length := (by omega);simp [bothL, List.getD, List.getElem?_zipWith, h1, hk]
theorem cntT_le (L : List Bool) : cntT L <= L.length := List.count_le_length
set_option maxRecDepth 100000 in
set_option maxHeartbeats 2000000 in
theorem conflictsWith_any (gb : Nat) (va oa : Option Addr) (n c oc : Nat) (L O : List Bool) (w : World) (hg : w.cell? ⟨gb, 1, none⟩ = some (.slice oa n oc)) (ho : OwnO w 0 (.slice oa n oc) O) (hv : OwnO w 0 (.slice va n c) L) (hO : O.length = n) (hL : L.length = n) (hn : n <= 200) : Calls Tryz.prog 297 #[.pointer (some ⟨gb, 0, none⟩), .slice va n c] w fun e w' => e = .returned (.int .i64 (confN O L : Nat)) /\ w' = w := by
  have HV : Hid (OwnO w 0 (.slice va n c) L) := hv;have HO : Hid (OwnO w 0 (.slice oa n oc) O) := ho;have HL : Hid (L.length = n /\ O.length = n) := ⟨hL, hO⟩;have hlen := bothL_len (a := O) (b := L) (by omega);have HZ : Hid ((bothL O L).length = n) := (by rw [hlen]; exact hL);clear hv hL ho hO hlen;go_enter Tryz.func297, Tryz.ntmps297;go_wp2_with fail
  go_loop [10, 5] (fun ti tn => ∃ k : Nat, ti = .int .i64 k /\ k <= n /\ tn = .int .i64 (cntT ((bothL O L).take k) : Nat) /\ cntT ((bothL O L).take k) <= k) (fun ti _ => n - (intOf ti).toNat)
  case atStart => exact ⟨0, rfl, Nat.zero_le _, rfl, Nat.le_refl _⟩
  case round =>
    obtain ⟨k, rfl, hk, rfl, hkc⟩ := hrel
    by_cases hkn : k < n
    · obtain ⟨q, rfl, hql, _, a0, _⟩ := HV.out.atK HL.out.1 hkn;obtain ⟨q2, rfl, hql2, _, a1, _⟩ := HO.out.atK HL.out.2 hkn;have hs := cntT_snoc ((bothL O L).take k) ((bothL O L).getD k false);rw [<- take_snocB _ (by rw [HZ.out]; exact hkn), bothL_getD (by have := HL.out; omega) (by have := HL.out; omega)] at hs;have HS : Hid (cntT ((bothL O L).take (k + 1)) = cntT ((bothL O L).take k) + (if (O.getD k false && L.getD k false) = true then 1 else 0)) := hs;clear hs;generalize cntT ((bothL O L).take k) = t at *;generalize L.getD k false = b at *;generalize O.getD k false = d at *;have bk1 : (0 : Int) <= (k : Int) := (by omega);have bk2 : (k : Int) < (n : Int) := by omega
      cases b with
      | true =>
        cases d with
        | true =>
          have HS2 : Hid (cntT ((bothL O L).take (k + 1)) = t + 1) := (by have := HS.out; rw [if_pos (by decide)] at this; exact this);clear HS;go_wp2;go_roundw;case rel => exact ⟨k + 1, by go_num, by omega, by rw [HS2.out]; go_num, by rw [HS2.out]; omega⟩
          case measure => simp [intOf]; omega
        | false =>
          have HS2 : Hid (cntT ((bothL O L).take (k + 1)) = t) := (by have := HS.out; rw [if_neg (by decide)] at this; exact this);clear HS;go_wp2;go_roundw;case rel => exact ⟨k + 1, by go_num, by omega, by rw [HS2.out], by rw [HS2.out]; omega⟩
          case measure => simp [intOf]; omega
      | false =>
        have HS2 : Hid (cntT ((bothL O L).take (k + 1)) = t) := (by have := HS.out; rw [Bool.and_false, if_neg (by decide)] at this; exact this);clear HS;go_wp2;go_roundw;case rel => exact ⟨k + 1, by go_num, by omega, by rw [HS2.out], by rw [HS2.out]; omega⟩
        case measure => simp [intOf]; omega
    have hnk : ¬ (k : Int) < (n : Int) := (by omega);have HF : Hid (cntT ((bothL O L).take k) = confN O L) := (by show _ = _; rw [List.take_of_length_le (by have := HZ.out; omega)]; rfl);generalize cntT ((bothL O L).take k) = t at *;go_wp2;go_ret;exact ⟨by rw [HF.out]; rfl, rfl⟩
end Go.Proofs.YtfcgnpchbcmdeaaGreat

namespace Go.Proofs.YtfcgnpchbcmdeaaGreat
open Go.RowKit
structure GrpK (w : World) (K : Nat -> Prop) (gb : Nat) (vf vo : Value) (G : GS) : Prop where
  blk : w.heap[gb]? = some (.cells #[vf, vo, .int .i64 (G.conf : Nat), .int .i64 (G.bins : Nat)] 351 (0, 0))
  fs : OwnI w 0 vf (natI G.fs)
  out : OwnO w 0 vo G.out
  kg : K gb
  kf : ∀ k, vf.ownBlock = some k -> K k
  ko : ∀ k, vo.ownBlock = some k -> K k
  kl : ∀ k, K k -> k < w.heap.size
def GrpW (w : World) (K : Nat -> Prop) (gb : Nat) (G : GS) : Prop := ∃ vf vo, GrpK w K gb vf vo G
theorem GrpK.touch {S : Nat -> Prop} {w w' : World} {K : Nat -> Prop} {gb : Nat} {vf vo : Value} {G : GS} (h : GrpK w K gb vf vo G) (t : Touch S w w') (hs : ∀ k, K k -> ¬ S k) : GrpK w' K gb vf vo G :=
  ⟨t.at_ h.blk (hs _ h.kg), t.row h.fs (fun k hk => hs k (h.kf k hk)), t.row h.out (fun k hk => hs k (h.ko k hk)), h.kg, h.kf, h.ko, fun k hk => Nat.lt_of_lt_of_le (h.kl k hk) t.size⟩
theorem GrpW.touch {S : Nat -> Prop} {w w' : World} {K : Nat -> Prop} {gb : Nat} {G : GS} (h : GrpW w K gb G) (t : Touch S w w') (hs : ∀ k, K k -> ¬ S k) : GrpW w' K gb G := by obtain ⟨vf, vo, h⟩ := h;exact ⟨vf, vo, h.touch t hs⟩
def orL (a b : List Bool) : List Bool := List.zipWith (fun x y => x || y) a b
def addG (G : GS) (f : Nat) (L : List Bool) (bins : Nat) : GS := ⟨G.fs ++ [f], orL G.out L, G.conf + confN G.out L, G.bins + bins⟩
theorem natI_append (a b : List Nat) : natI (a ++ b) = natI a ++ natI b := by simp [natI]
def orK (a b : List Bool) (k : Nat) : List Bool := (orL a b).take k ++ a.drop k
theorem orL_len {a b : List Bool} (h : a.length = b.length) : (orL a b).length = a.length := by simp [orL, h]
theorem orK_len {a b : List Bool} (h : a.length = b.length) {k : Nat} (hk : k <= a.length) : (orK a b k).length = a.length := by have := orL_len h;simp [orK]; omega
theorem orK_at {a b : List Bool} (h : a.length = b.length) {k : Nat} (hk : k < a.length) : (orK a b k).getD k false = a.getD k false := by have h1 := orL_len h;simp [orK, List.getD, List.getElem?_append_right, h1, Nat.min_eq_left (Nat.le_of_lt hk)]
theorem orK_set {a b : List Bool} (h : a.length = b.length) {k : Nat} (hk : k < a.length) : (orK a b k).set k (a.getD k false || b.getD k false) = orK a b (k + 1) := by have h1 := orL_len h;have hb : k < b.length := (by omega);have h2 : (orL a b)[k]'(by omega) = (a.getD k false || b.getD k false) := (by simp [orL, List.getD, hk, hb]);unfold orK;rw [List.take_succ_eq_append_getElem (by omega), h2, List.append_assoc, List.drop_eq_getElem_cons hk, List.set_append_right _ _ (by simp; omega)];have : k - (List.take k (orL a b)).length = 0 := (by simp; omega);rw [this];rfl
set_option maxRecDepth 100000 in
set_option maxHeartbeats 4000000 in
theorem add_any (K : Nat -> Prop) (gb f bins : Nat) (vf vo : Value) (va : Option Addr) (n c : Nat) (L : List Bool) (G : GS) (w : World) (hG : GrpK w K gb vf vo G) (hv : OwnO w 0 (.slice va n c) L) (hO : G.out.length = n) (hL : L.length = n) (hn : n <= 200) (hc : G.conf <= 1000) (hb : G.bins <= 1000) (hb2 : bins <= 1000) (hf : G.fs.length <= 1000) (hva : ∀ k, (Value.slice va n c).ownBlock = some k -> ¬ K k) : Calls Tryz.prog 256 #[.pointer (some ⟨gb, 0, none⟩), .int .i64 f, .slice va n c, .int .i64 bins] w fun e w' => e = .returned (.tuple #[]) /\ (∃ K', GrpW w' K' gb (addG G f L bins) /\ ∀ k, K' k -> K k ∨ w.heap.size <= k) /\ Touch K w w' := by
  obtain ⟨oa, oc, hvo⟩ := hG.out.shape;rw [hO] at hvo;subst hvo;obtain ⟨fa, fc, hvf⟩ := hG.fs.shape;rw [natI_len] at hvf;subst hvf;have hc1 : w.cell? ⟨gb, 1, none⟩ = some (.slice oa n oc) := cell_of_row _ _ 1 _ 351 (0, 0) hG.blk;have hc2 : w.drew.cell? ⟨gb, 2, none⟩ = some (.int .i64 (G.conf : Nat)) := cell_of_row _ _ 2 _ 351 (0, 0) hG.blk;have hcn := cntT_le (bothL G.out L);rw [bothL_len (by omega), hL] at hcn;have hcn2 : confN G.out L <= 200 := (by unfold confN; omega);have HCW : Hid (Calls Tryz.prog 297 #[.pointer (some ⟨gb, 0, none⟩), .slice va n c] w.drew fun e w' => e = .returned (.int .i64 (confN G.out L : Nat)) /\ w' = w.drew) := conflictsWith_any gb va oa n c oc L G.out w.drew hc1 hG.out hv hO hL hn;have HG : Hid (GrpK w K gb (.slice fa G.fs.length fc) (.slice oa n oc) G) := hG
  have HV : Hid (OwnO w 0 (.slice va n c) L /\ L.length = n /\ G.out.length = n /\ ∀ k, (Value.slice va n c).ownBlock = some k -> ¬ K k) := ⟨hv, hL, hO, hva⟩;have hfr : ∀ o, w.frozen? ⟨gb, o, none⟩ = false := fun o => frozen_of_row _ _ o _ 351 hG.blk;have hf2 : w.drew.frozen? ⟨gb, 2, none⟩ = false := hfr 2;clear hG hv hL hO hva hc1 hfr;go_enter Tryz.func256, Tryz.ntmps256;go_upto_region 0 with fail;refine wp_region_S (fun w' => w'.cell? ⟨gb, 2, none⟩ = some (.int .i64 (G.conf : Nat))) 10 (by kernel_rfl) hc2 (fun hHeld => ?_);refine tkM [1, 2, 3, 7, 8, 9, 10] 0 (v := ?_) ?_ ?_
  rotate_left;· intro w hSw;(try dsimp only at hSw);go_simp;try with_reducible rfl
  try simp only [Act.put, sA, sB, sC]
  refine tkM [2, 3, 7, 8, 9, 10] 1 (v := ?_) ?_ ?_
  rotate_left;· intro w hSw;(try dsimp only at hSw);go_simp;try with_reducible rfl
  try simp only [Act.put, sA, sB, sC]
  refine tkM [3, 7, 8, 9, 10] 2 (v := ?_) ?_ ?_
  rotate_left;· intro w hSw;(try dsimp only at hSw);go_simp;try with_reducible rfl
  try simp only [Act.put, sA, sB, sC]
  refine tkM [7, 8, 9, 10] 3 (v := ?_) ?_ ?_
  rotate_left;· intro w hSw;(try dsimp only at hSw);go_simp;try with_reducible rfl
  try simp only [Act.put, sA, sB, sC]
  refine tkM [6, 7, 8, 9, 10] 4 (v := ?_) ?_ ?_
  rotate_left;· intro w hSw;(try dsimp only at hSw);go_simp;try with_reducible rfl
  try simp only [Act.put, sA, sB, sC]
  refine tkM [6, 7, 8, 9, 10] 5 (v := ?_) ?_ ?_
  rotate_left;· intro w hSw;(try dsimp only at hSw);go_simp;try with_reducible rfl
  try simp only [Act.put, sA, sB, sC]
  refine wpAnyS_oneL (i := 6) (by kernel_rfl) rfl (fun KK hK => ?_);go_simp;refine (HCW.out).mono ?_;rintro e w' ⟨rfl, rfl⟩;go_simp;refine hK.out _ _ hc2 (fun hHeld => ?_);clear hK KK;try simp only [Act.put, sA, sB, sC]
  refine tkM [8, 9, 10] 7 (v := ?_) ?_ ?_
  rotate_left;· intro w hSw;(try dsimp only at hSw);go_simp;try with_reducible rfl
  try simp only [Act.put, sA, sB, sC]
  refine tkM [9, 10] 8 (v := ?_) ?_ ?_
  rotate_left;· intro w hSw;(try dsimp only at hSw);go_simp;try with_reducible rfl
  try simp only [Act.put, sA, sB, sC]
  refine tkM [10] 9 (v := ?_) ?_ ?_
  rotate_left;· intro w hSw;(try dsimp only at hSw);go_simp;try with_reducible rfl
  try simp only [Act.put, sA, sB, sC]
  refine wpAnyS_lastL (i := 10) (by kernel_rfl) rfl (by kernel_rfl) (fun KK hK => ?_);go_simp;refine hK.out _ _ ?_;clear hK KK;try simp only [Act.put, sA, sB, sC]
  refine wpAnyS_done (by kernel_rfl) ?_ _;rw [wrapI (by omega) (by omega)];obtain ⟨w1, hw1⟩ : ∃ w1, w1 = (w.setCell ⟨gb, 2, none⟩ (.int .i64 ((G.conf : Int) + (confN G.out L : Int)))).drew := ⟨_, rfl⟩;rw [<- hw1];have t1 : Touch K w w1 := by rw [hw1]; exact ((Touch.refl K w).setCell (p := ⟨gb, 2, none⟩) (fun _ => HG.out.kg) _).drew
  have hG1 : GrpK w1 K gb (.slice fa G.fs.length fc) (.slice oa n oc) { G with conf := G.conf + confN G.out L } := by rw [hw1];refine ⟨?_, ?_, ?_, HG.out.kg, HG.out.kf, HG.out.ko, fun k hk => by simpa using HG.out.kl k hk⟩;exact heap_setCell_same w gb 2 _ 351 _ HG.out.blk;exact own_put' HG.out.fs HG.out.blk (by decide);exact own_put' HG.out.out HG.out.blk (by decide)
  have HG1 : Hid (GrpK w1 K gb (.slice fa G.fs.length fc) (.slice oa n oc) { G with conf := G.conf + confN G.out L }) := hG1;have HT1 : Hid (Touch K w w1) := t1;have HKL : Hid (∀ k, K k -> k < w.heap.size) := HG.out.kl;have c0 : w1.cell? ⟨gb, 0, none⟩ = some (.slice fa G.fs.length fc) := cell_of_row _ _ 0 _ 351 (0, 0) hG1.blk;have hgl : gb < w1.heap.size := hG1.kl gb hG1.kg;have hs1 := t1.size;clear hw1 t1 hG1 HG HCW hc2 hf2 hHeld;go_wp2_with (at_builtin; refine wpList_append_int rfl (.tmp 24) (.tmp 26) rfl 0 _ (natI G.fs) f rfl (HG1.out.fs.alloc _) w1.heap.size 1 rfl ?_ ?_ ?_ ?_)
  · simp [go_sem]
  rw [natI_len]; omega;simp;intro v3 w3 H3;obtain ⟨q1, q2, q3⟩ := H3.out;have hb3 : w3.heap[gb]? = some (.cells #[.slice fa G.fs.length fc, .slice oa n oc, .int .i64 ((G.conf + confN G.out L : Nat) : Int), .int .i64 (G.bins : Nat)] 351 (0, 0)) := (by rw [q2.block gb (by simp; omega) (fun e => row_ne HG1.out.fs e.symm HG1.out.blk (by decide) rfl)];exact (Below.heap_alloc w1 _ gb hgl).trans HG1.out.blk);have ho3 : OwnO w3 0 (.slice oa n oc) G.out := World.ownsRow.kept (HG1.out.out.alloc _) q2 (types_apart (HG1.out.fs.alloc (.cells #[.int .i64 f] 3)) (HG1.out.out.alloc (.cells #[.int .i64 f] 3)) (by decide));have t3 : Touch K w w3 := by have ta : Touch K w1 (w1.alloc (.cells #[.int .i64 f] 3)) := (Touch.refl K w1).alloc _;exact HT1.out.trans (ta.grown q2 (fun k hk _ => HG1.out.kf k hk))
  obtain ⟨fa3, fc3, hv3⟩ := q1.shape;rw [List.length_append, natI_len] at hv3;simp only [List.length_cons, List.length_nil, Nat.zero_add] at hv3;subst hv3;have hg3 : gb < w3.heap.size := (Array.getElem?_eq_some_iff.1 hb3).1;have HB3 : Hid (w3.heap[gb]? = some (.cells #[.slice fa G.fs.length fc, .slice oa n oc, .int .i64 ((G.conf + confN G.out L : Nat) : Int), .int .i64 (G.bins : Nat)] 351 (0, 0)) /\ OwnO w3 0 (.slice oa n oc) G.out /\ Touch K w w3 /\ OwnI w3 0 (.slice fa3 (G.fs.length + 1) fc3) (natI G.fs ++ [(f : Int)])) := ⟨hb3, ho3, t3, q1⟩
  have HK3 : Hid (∀ k, (Value.slice fa3 (G.fs.length + 1) fc3).ownBlock = some k -> K k ∨ w.heap.size <= k) := fun k hk => by
    rcases q3 with e | e
    exact .inl (HG1.out.kf k (e ▸ hk));rw [e.1] at hk;injection hk with hk;exact .inr (by rw [<- hk]; omega)
  have HKG : Hid (K gb /\ ∀ k, (Value.slice oa n oc).ownBlock = some k -> K k) := ⟨HG1.out.kg, HG1.out.ko⟩;have c30 : w3.cell? ⟨gb, 0, none⟩ = some (.slice fa G.fs.length fc) := cell_of_row _ _ 0 _ 351 (0, 0) hb3;have f30 : w3.frozen? ⟨gb, 0, none⟩ = false := frozen_of_row _ _ 0 _ 351 hb3;have c33 : w3.cell? ⟨gb, 3, none⟩ = some (.int .i64 (G.bins : Nat)) := cell_of_row _ _ 3 _ 351 (0, 0) hb3;have f33 : w3.frozen? ⟨gb, 3, none⟩ = false := frozen_of_row _ _ 3 _ 351 hb3;clear H3 q1 q2 q3 hb3 ho3 t3 HG1 HT1 c0;go_wp2_with fail
  go_loopw [40] (fun ti wr => ∃ k : Nat, ti = .int .i64 k /\ k <= n /\ Hid (wr.heap[gb]? = some (.cells #[.slice fa3 (G.fs.length + 1) fc3, .slice oa n oc, .int .i64 ((G.conf + confN G.out L : Nat) : Int), .int .i64 ((G.bins : Int) + (bins : Int))] 351 (0, 0)) /\ OwnO wr 0 (.slice oa n oc) (orK G.out L k) /\ Touch K w wr /\ OwnI wr 0 (.slice fa3 (G.fs.length + 1) fc3) (natI G.fs ++ [(f : Int)]))) (fun ti _ => n - (intOf ti).toNat)
  case atStart =>
    obtain ⟨p1, p2, p3, p4⟩ := HB3.out;refine ⟨0, rfl, Nat.zero_le _, ?_, ?_, ?_, ?_⟩;exact heap_setCell_same _ gb 3 _ 351 _ (heap_setCell_same _ gb 0 _ 351 _ p1);have e : orK G.out L 0 = G.out := (by simp [orK]);rw [e];exact own_put' (own_put' p2 p1 (by decide)) (heap_setCell_same _ gb 0 _ 351 _ p1) (by decide);exact (p3.setCell (p := ⟨gb, 0, none⟩) (fun _ => HKG.out.1) _).setCell (p := ⟨gb, 3, none⟩) (fun _ => HKG.out.1) _;exact own_put' (own_put' p4 p1 (by decide)) (heap_setCell_same _ gb 0 _ 351 _ p1) (by decide)
  case round =>
    clear HB3 c30 f30 c33 f33;obtain ⟨k, rfl, hk, HR⟩ := hrel
    by_cases hkn : k < n
    · obtain ⟨hblk, hout, ht, hfs⟩ := HR.out;have hlen : G.out.length = L.length := (by have := HV.out; omega);obtain ⟨q, hoa, hql, _, d1, fq⟩ := hout.atK (k := k) (by rw [orK_len hlen (by have := HV.out; omega)]; exact HV.out.2.2.1) hkn;subst hoa;have hL2 : OwnO wr 0 (.slice va n c) L := ht.row HV.out.1 HV.out.2.2.2;obtain ⟨q2, hva2, hql2, _, d2, _⟩ := hL2.atK HV.out.2.1 hkn;subst hva2;rw [orK_at hlen (by have := HV.out; omega)] at d1;have c1 : wr.drew.cell? ⟨gb, 1, none⟩ = some (.slice (some ⟨q, 0, none⟩) n oc) := cell_of_row _ _ 1 _ 351 (0, 0) hblk;have HSET : Hid ((orK G.out L k).set k (G.out.getD k false || L.getD k false) = orK G.out L (k + 1)) := orK_set hlen (by have := HV.out; omega);have HLN : Hid (n = (orK G.out L k).length) := by rw [orK_len hlen (by have := HV.out; omega)]; exact HV.out.2.2.1.symm
      have hgq : gb ≠ q := fun e => by
        rcases hout.2 with ⟨e2, _⟩ | ⟨g, cap, cur, e2, _, hh, _⟩
        · cases e2
        injection e2 with e2;injection e2 with e2;injection e2 with e2;rw [e, e2, hh] at hblk;simp at hblk
      have HBF : Hid (wr.heap[gb]? = some (.cells #[.slice fa3 (G.fs.length + 1) fc3, .slice (some ⟨q, 0, none⟩) n oc, .int .i64 ((G.conf + confN G.out L : Nat) : Int), .int .i64 ((G.bins : Int) + (bins : Int))] 351 (0, 0)) /\ OwnO wr 0 (.slice (some ⟨q, 0, none⟩) n oc) (orK G.out L k) /\ Touch K w wr /\ OwnI wr 0 (.slice fa3 (G.fs.length + 1) fc3) (natI G.fs ++ [(f : Int)])) := ⟨hblk, hout, ht, hfs⟩;have d1' : wr.drew.cell? ⟨q, k, none⟩ = some (.bool (G.out.getD k false)) := d1;have fq' : wr.drew.frozen? ⟨q, k, none⟩ = false := fq;have bk1 : (0 : Int) <= (k : Int) := (by omega);have bk2 : (k : Int) < (n : Int) := by omega
      have HNXT : Hid (∀ z, z = (G.out.getD k false || L.getD k false) -> (wr.setCell ⟨q, k, none⟩ (.bool z)).drew.heap[gb]? = some (.cells #[.slice fa3 (G.fs.length + 1) fc3, .slice (some ⟨q, 0, none⟩) n oc, .int .i64 ((G.conf + confN G.out L : Nat) : Int), .int .i64 ((G.bins : Int) + (bins : Int))] 351 (0, 0)) /\ OwnO (wr.setCell ⟨q, k, none⟩ (.bool z)).drew 0 (.slice (some ⟨q, 0, none⟩) n oc) (orK G.out L (k + 1)) /\ Touch K w (wr.setCell ⟨q, k, none⟩ (.bool z)).drew /\ OwnI (wr.setCell ⟨q, k, none⟩ (.bool z)).drew 0 (.slice fa3 (G.fs.length + 1) fc3) (natI G.fs ++ [(f : Int)])) := by
        rintro z rfl;obtain ⟨p1, p2⟩ := hout.put (k := k) HLN.out (G.out.getD k false || L.getD k false);rw [HSET.out] at p1;refine ⟨?_, p1, (ht.setCell (p := ⟨q, k, none⟩) (fun _ => HKG.out.2 q rfl) _).drew, ?_⟩;exact (p2.block gb (Array.getElem?_eq_some_iff.1 hblk).1 (fun e => hgq (by injection e))).trans hblk;exact World.ownsRow.drew (OwnI.kept hfs p2 (types_apart hout hfs (by decide)))
      clear HR hblk hout ht hfs hL2 d1 fq HSET HLN HBF;generalize L.getD k false = b at *;generalize G.out.getD k false = d at *
      cases d with
      | true =>
        go_upto_region 6 with fail;refine wp_region_S (fun w' => w'.cell? ⟨gb, 1, none⟩ = some (.slice (some ⟨q, 0, none⟩) n oc) /\ w'.cell? ⟨q, k, none⟩ = some (.bool true)) 16 (by kernel_rfl) ⟨c1, d1'⟩ (fun hHeld => ?_);refine tkM [1, 2, 3, 15, 16] 0 (v := ?_) ?_ ?_
        rotate_left;· intro w hSw;(try dsimp only at hSw);go_simp;try with_reducible rfl
        try simp only [Act.put, sA, sB, sC]
        refine tkM [2, 3, 15, 16] 1 (v := ?_) ?_ ?_
        rotate_left;· intro w hSw;(try dsimp only at hSw);go_simp;try with_reducible rfl
        try simp only [Act.put, sA, sB, sC]
        refine tkM [3, 15, 16] 2 (v := ?_) ?_ ?_
        rotate_left;· intro w hSw;(try dsimp only at hSw);go_simp;try with_reducible rfl
        try simp only [Act.put, sA, sB, sC]
        refine tkM [15, 16] 3 (v := ?_) ?_ ?_
        rotate_left
        · intro w hSw;try obtain ⟨_, _⟩ := hSw
          (try dsimp only at hSw)
          go_simp;try with_reducible rfl
        try simp only [Act.put, sA, sB, sC]
        refine tkM [15, 16] 4 (v := ?_) ?_ ?_
        rotate_left;· intro w hSw;(try dsimp only at hSw);go_simp;try with_reducible rfl
        try simp only [Act.put, sA, sB, sC]
        refine tkM [6, 7, 8, 10, 11, 12, 13, 14, 15, 16] 5 (v := ?_) ?_ ?_
        rotate_left;· intro w hSw;(try dsimp only at hSw);go_simp;try with_reducible rfl
        try simp only [Act.put, sA, sB, sC]
        refine tkM [7, 8, 10, 11, 12, 13, 14, 15, 16] 6 (v := ?_) ?_ ?_
        rotate_left;· intro w hSw;(try dsimp only at hSw);go_simp;try with_reducible rfl
        try simp only [Act.put, sA, sB, sC]
        refine tkM [8, 10, 11, 12, 13, 14, 15, 16] 7 (v := ?_) ?_ ?_
        rotate_left;· intro w hSw;(try dsimp only at hSw);go_simp;try with_reducible rfl
        try simp only [Act.put, sA, sB, sC]
        refine tkM [10, 11, 12, 13, 14, 15, 16] 8 (v := ?_) ?_ ?_
        rotate_left
        · intro w hSw;try obtain ⟨_, _⟩ := hSw
          (try dsimp only at hSw)
          go_simp;try with_reducible rfl
        try simp only [Act.put, sA, sB, sC]
        refine tkM [10, 11, 12, 13, 14, 15, 16] 9 (v := ?_) ?_ ?_
        rotate_left;· intro w hSw;(try dsimp only at hSw);go_simp;try with_reducible rfl
        try simp only [Act.put, sA, sB, sC]
        refine tkM [11, 12, 13, 14, 15, 16] 10 (v := ?_) ?_ ?_
        rotate_left;· intro w hSw;(try dsimp only at hSw);go_simp;try with_reducible rfl
        try simp only [Act.put, sA, sB, sC]
        refine tkM [12, 13, 14, 15, 16] 11 (v := ?_) ?_ ?_
        rotate_left
        · intro w hSw;try obtain ⟨_, _⟩ := hSw
          (try dsimp only at hSw)
          go_simp;try with_reducible rfl
        try simp only [Act.put, sA, sB, sC]
        refine tkM [13, 14, 15, 16] 12 (v := ?_) ?_ ?_
        rotate_left;· intro w hSw;(try dsimp only at hSw);go_simp;try with_reducible rfl
        try simp only [Act.put, sA, sB, sC]
        refine wpAnyS_takeL [14, 15, 16] (i := 13) (v := undef) rfl (by kernel_rfl) (by kernel_rfl) (by kernel_rfl) (by kernel_rfl) (by kernel_rfl) (fun _ _ _ h => h) (Or.inr ⟨by rfl, rfl⟩) (by assumption) ?_;try simp only [Act.put, sA, sB, sC]
        refine tkM [15, 16] 14 (v := ?_) ?_ ?_
        rotate_left;· intro w hSw;(try dsimp only at hSw);go_simp;try with_reducible rfl
        try simp only [Act.put, sA, sB, sC]
        refine tkM [16] 15 (v := ?_) ?_ ?_
        rotate_left;· intro w hSw;(try dsimp only at hSw);go_simp;try with_reducible rfl
        try simp only [Act.put, sA, sB, sC]
        refine wpAnyS_lastL (i := 16) (by kernel_rfl) rfl (by kernel_rfl) (fun KK hK => ?_);go_simp;refine hK.out _ _ ?_;clear hK KK;try simp only [Act.put, sA, sB, sC]
        refine wpAnyS_done (by kernel_rfl) ?_ _;have HF := HNXT.out true (by simp);have HFF : Hid _ := HF;clear HF HNXT hHeld c1 d1' fq';go_wp2;go_roundw;case rel => exact ⟨k + 1, by go_num, by omega, HFF⟩
        case measure => simp [intOf]; omega
      | false =>
        go_upto_region 6 with fail;refine wp_region_S (fun w' => w'.cell? ⟨gb, 1, none⟩ = some (.slice (some ⟨q, 0, none⟩) n oc) /\ w'.cell? ⟨q, k, none⟩ = some (.bool false)) 16 (by kernel_rfl) ⟨c1, d1'⟩ (fun hHeld => ?_);refine tkM [1, 2, 3, 15, 16] 0 (v := ?_) ?_ ?_
        rotate_left;· intro w hSw;(try dsimp only at hSw);go_simp;try with_reducible rfl
        try simp only [Act.put, sA, sB, sC]
        refine tkM [2, 3, 15, 16] 1 (v := ?_) ?_ ?_
        rotate_left;· intro w hSw;(try dsimp only at hSw);go_simp;try with_reducible rfl
        try simp only [Act.put, sA, sB, sC]
        refine tkM [3, 15, 16] 2 (v := ?_) ?_ ?_
        rotate_left;· intro w hSw;(try dsimp only at hSw);go_simp;try with_reducible rfl
        try simp only [Act.put, sA, sB, sC]
        refine tkM [15, 16] 3 (v := ?_) ?_ ?_
        rotate_left
        · intro w hSw;try obtain ⟨_, _⟩ := hSw
          (try dsimp only at hSw)
          go_simp;try with_reducible rfl
        try simp only [Act.put, sA, sB, sC]
        refine tkM [15, 16] 4 (v := ?_) ?_ ?_
        rotate_left;· intro w hSw;(try dsimp only at hSw);go_simp;try with_reducible rfl
        try simp only [Act.put, sA, sB, sC]
        refine tkM [6, 7, 8, 10, 11, 12, 13, 14, 15, 16] 5 (v := ?_) ?_ ?_
        rotate_left;· intro w hSw;(try dsimp only at hSw);go_simp;try with_reducible rfl
        try simp only [Act.put, sA, sB, sC]
        refine tkM [7, 8, 10, 11, 12, 13, 14, 15, 16] 6 (v := ?_) ?_ ?_
        rotate_left;· intro w hSw;(try dsimp only at hSw);go_simp;try with_reducible rfl
        try simp only [Act.put, sA, sB, sC]
        refine tkM [8, 10, 11, 12, 13, 14, 15, 16] 7 (v := ?_) ?_ ?_
        rotate_left;· intro w hSw;(try dsimp only at hSw);go_simp;try with_reducible rfl
        try simp only [Act.put, sA, sB, sC]
        refine tkM [10, 11, 12, 13, 14, 15, 16] 8 (v := ?_) ?_ ?_
        rotate_left
        · intro w hSw;try obtain ⟨_, _⟩ := hSw
          (try dsimp only at hSw)
          go_simp;try with_reducible rfl
        try simp only [Act.put, sA, sB, sC]
        refine tkM [10, 11, 12, 13, 14, 15, 16] 9 (v := ?_) ?_ ?_
        rotate_left;· intro w hSw;(try dsimp only at hSw);go_simp;try with_reducible rfl
        try simp only [Act.put, sA, sB, sC]
        refine tkM [11, 12, 13, 14, 15, 16] 10 (v := ?_) ?_ ?_
        rotate_left;· intro w hSw;(try dsimp only at hSw);go_simp;try with_reducible rfl
        try simp only [Act.put, sA, sB, sC]
        refine tkM [12, 13, 14, 15, 16] 11 (v := ?_) ?_ ?_
        rotate_left
        · intro w hSw;try obtain ⟨_, _⟩ := hSw
          (try dsimp only at hSw)
          go_simp;try with_reducible rfl
        try simp only [Act.put, sA, sB, sC]
        refine tkM [13, 14, 15, 16] 12 (v := ?_) ?_ ?_
        rotate_left;· intro w hSw;(try dsimp only at hSw);go_simp;try with_reducible rfl
        try simp only [Act.put, sA, sB, sC]
        refine tkM [14, 15, 16] 13 (v := ?_) ?_ ?_
        rotate_left;· intro w hSw;(try dsimp only at hSw);go_simp;try with_reducible rfl
        try simp only [Act.put, sA, sB, sC]
        refine tkM [15, 16] 14 (v := ?_) ?_ ?_
        rotate_left;· intro w hSw;(try dsimp only at hSw);go_simp;try with_reducible rfl
        try simp only [Act.put, sA, sB, sC]
        refine tkM [16] 15 (v := ?_) ?_ ?_
        rotate_left;· intro w hSw;(try dsimp only at hSw);go_simp;try with_reducible rfl
        try simp only [Act.put, sA, sB, sC]
        refine wpAnyS_lastL (i := 16) (by kernel_rfl) rfl (by kernel_rfl) (fun KK hK => ?_);go_simp;refine hK.out _ _ ?_;clear hK KK;try simp only [Act.put, sA, sB, sC]
        refine wpAnyS_done (by kernel_rfl) ?_ _;have HF := HNXT.out b (by simp);have HFF : Hid _ := HF;clear HF HNXT hHeld c1 d1' fq';go_wp2;go_roundw;case rel => exact ⟨k + 1, by go_num, by omega, HFF⟩
        case measure => simp [intOf]; omega
    have hnk : ¬ (k : Int) < (n : Int) := by omega
    have HF : Hid ((∃ K', GrpW wr K' gb (addG G f L bins) /\ ∀ k, K' k -> K k ∨ w.heap.size <= k) /\ Touch K w wr) := by
      obtain ⟨hblk, hout, ht, hfs⟩ := HR.out;have hlen : G.out.length = L.length := by have := HV.out; omega
      have e : orK G.out L k = orL G.out L := (by have := orL_len hlen;unfold orK;rw [List.take_of_length_le (by have := HV.out; omega), List.drop_eq_nil_of_le (by have := HV.out; omega), List.append_nil]);rw [e] at hout;refine ⟨⟨fun k => K k ∨ (Value.slice fa3 (G.fs.length + 1) fc3).ownBlock = some k, ⟨_, _, ⟨hblk, ?_, hout, .inl HKG.out.1, fun k hk => .inr hk, fun k hk => .inl (HKG.out.2 k hk), fun k hk => ?_⟩⟩, fun k hk => ?_⟩, ht⟩;show OwnI wr 0 _ (natI (G.fs ++ [f]));rw [natI_append]; exact hfs
      · rcases hk with hk | hk
        exact Nat.lt_of_lt_of_le (HKL.out k hk) ht.size;exact (World.ownsRow.lt hfs k hk).2
      rcases hk with hk | hk
      exact .inl hk;exact HK3.out k hk
    clear HR;go_wp2;go_end0;exact ⟨rfl, HF.out.1, HF.out.2⟩
end Go.Proofs.YtfcgnpchbcmdeaaGreat
