import Derived.Test.YtfcgnpchbcmdeaaGreatZpbf
import Derived.Test.YtfcgnpchbcmdeaaGreatZpba
import Derived.Sort.Walk0
namespace Go.Proofs.YtfcgnpchbcmdeaaGreat
set_option maxRecDepth 100000
set_option maxHeartbeats 4000000
open Go.RowKit
theorem shapeRows_any (n d : Int) (w : World) : Calls Tryz.prog 299 #[.agg #[.int .i64 n, .int .i64 d]] w fun e w' => e = .returned (.int .i64 n) /\ Below w.heap.size w w' := by go_enter Tryz.func299, Tryz.ntmps299;go_wp2;go_ret;exact ⟨rfl, (Below.refl _ _).alloc (Nat.le_refl _) _⟩
theorem row380 : ((Tryz.prog.info? 380).bind (fun i => (i.methods.find? (fun m => m.name == "Rows")).map (fun m => (m.path.toList.map (fun s => (s.struct, s.index, s.deref)), m.func)))) = some ([(403, 0, true)], some (299, false)) := by kernel_rfl
theorem row382 : ((Tryz.prog.info? 382).bind (fun i => (i.methods.find? (fun m => m.name == "Rows")).map (fun m => (m.path.toList.map (fun s => (s.struct, s.index, s.deref)), m.func)))) = some ([(396, 0, true)], some (299, false)) := by kernel_rfl
theorem bind_some' {α β : Type} {o : Option α} {f : α -> Option β} {i : α} {y : β} (h : o.bind f = some y) (hi : o = some i) : f i = some y := by subst hi; exact h
theorem rowsOf380 (sb : Nat) (w : World) (n d : Int) (s0 : w.cell? ⟨sb, 0, none⟩ = some (.int .i64 n)) (s1 : w.cell? ⟨sb, 1, none⟩ = some (.int .i64 d)) : (method 535 380 (.pointer (some ⟨sb, 0, none⟩)) "Rows").run Tryz.prog w = .ok (299, .agg #[.int .i64 n, .int .i64 d]) w := by
  obtain ⟨i, hi⟩ : ∃ i, Tryz.prog.info? 380 = some i := by
    cases h : Tryz.prog.info? 380 with
    | none => have := row380; rw [h] at this; exact absurd this (by intro h; cases h)
    | some i => exact ⟨i, rfl⟩
  have h1 := bind_some' row380 hi;obtain ⟨m, hm, h2⟩ := Option.map_eq_some_iff.1 h1;injection h2 with hp hf
  obtain ⟨s, hs⟩ : ∃ s, m.path.toList = [s] /\ (s.struct, s.index, s.deref) = (403, 0, true) := by
    cases hq : m.path.toList with
    | nil => rw [hq] at hp; cases hp
    | cons a l =>
      rw [hq] at hp;simp only [List.map_cons, List.cons.injEq] at hp;obtain ⟨hp1, hp2⟩ := hp;exact ⟨a, by rw [List.map_eq_nil_iff.1 hp2], hp1⟩
  obtain ⟨hs1, hs2⟩ := hs;injection hs2 with e1 e2;injection e2 with e2 e3;unfold method;have hp2 : m.path = #[s] := (by rw [<- Array.toArray_toList (xs := m.path), hs1]);simp [go_sem, typeInfo, hi, hm, hp2, hf, follow, e1, e2, e3, Place.get, receiverAt, s0, s1]
theorem rowsOf382 (sb : Nat) (w : World) (n d : Int) (s0 : w.cell? ⟨sb, 0, none⟩ = some (.int .i64 n)) (s1 : w.cell? ⟨sb, 1, none⟩ = some (.int .i64 d)) : (method 535 382 (.pointer (some ⟨sb, 0, none⟩)) "Rows").run Tryz.prog w = .ok (299, .agg #[.int .i64 n, .int .i64 d]) w := by
  obtain ⟨i, hi⟩ : ∃ i, Tryz.prog.info? 382 = some i := by
    cases h : Tryz.prog.info? 382 with
    | none => have := row382; rw [h] at this; exact absurd this (by intro h; cases h)
    | some i => exact ⟨i, rfl⟩
  have h1 := bind_some' row382 hi;obtain ⟨m, hm, h2⟩ := Option.map_eq_some_iff.1 h1;injection h2 with hp hf
  obtain ⟨s, hs⟩ : ∃ s, m.path.toList = [s] /\ (s.struct, s.index, s.deref) = (396, 0, true) := by
    cases hq : m.path.toList with
    | nil => rw [hq] at hp; cases hp
    | cons a l =>
      rw [hq] at hp;simp only [List.map_cons, List.cons.injEq] at hp;obtain ⟨hp1, hp2⟩ := hp;exact ⟨a, by rw [List.map_eq_nil_iff.1 hp2], hp1⟩
  obtain ⟨hs1, hs2⟩ := hs;injection hs2 with e1 e2;injection e2 with e2 e3;unfold method;have hp2 : m.path = #[s] := (by rw [<- Array.toArray_toList (xs := m.path), hs1]);simp [go_sem, typeInfo, hi, hm, hp2, hf, follow, e1, e2, e3, Place.get, receiverAt, s0, s1]
theorem flatBu_get : ∀ (vs : List (Value × Value)) (i : Nat), i < vs.length -> ∀ c, c < 2 -> (flatBu vs)[i * 2 + c]? = [(vs.getD i vv0).1, (vs.getD i vv0).2][c]?
  | [], i, h => by simp at h
  | x :: L, 0, _ => fun c hc => by simp only [flatBu];rw [show 0 * 2 + c = c by omega, List.getElem?_append_left (by simpa using hc)]; rfl
  | x :: L, i + 1, h => fun c hc => by simp only [flatBu];rw [List.getElem?_append_right (by simp; omega), show (i + 1) * 2 + c - [x.1, x.2].length = i * 2 + c by simp; omega];exact flatBu_get L i (by simpa using h) c hc
theorem BunX.at {w : World} {vB : Value} {vs : List (Value × Value)} {Bs : List BS} (h : BunX w vB vs Bs) {i : Nat} (hi : i < Bs.length) : ∃ q c, vB = .slice (some ⟨q, 0, none⟩) Bs.length c /\ q < w.heap.size /\ w.cell? ⟨q, i * 2, none⟩ = some (vs.getD i vv0).1 /\ w.cell? ⟨q, i * 2 + 1, none⟩ = some (vs.getD i vv0).2 := by
  have hr := h.row
  rcases h.row.2 with ⟨_, h0⟩ | ⟨g, cap, cur, e, hb, hh, hnc, _⟩
  omega;subst e
  have key : ∀ c u, c < 2 -> [(vs.getD i vv0).1, (vs.getD i vv0).2][c]? = some u -> w.cell? ⟨g, i * 2 + c, none⟩ = some u := fun c u hc hu => by rw [World.ownsRow.cellAt hr (i * 2 + c) (by omega)];exact (flatBu_get vs i (by rw [h.len]; exact hi) c hc).trans hu
  exact ⟨g, cap, rfl, (Array.getElem?_eq_some_iff.1 hh).1, key 0 _ (by omega) rfl, key 1 _ (by omega) rfl⟩
theorem BunX.form {w : World} {vB : Value} {vs : List (Value × Value)} {Bs : List BS} (h : BunX w vB vs Bs) : ∃ a c, vB = .slice a Bs.length c := by
  rcases h.row.2 with ⟨rfl, h0⟩ | ⟨q, p, cur, rfl, _⟩
  exact ⟨none, 0, by rw [h0]⟩;exact ⟨_, _, rfl⟩
theorem dsRows_any (db : Nat) (vK vB vX : Value) (bvs : List (Value × Value)) (bs : List BS) (X : List XS) (w : World) (h : DsX w db vK vB vX bvs bs X) (h0 : 0 < bs.length) : Calls Tryz.prog 51 #[.pointer (some ⟨db, 0, none⟩)] w fun e w' => e = .returned (.int .i64 ((bs.getD 0 b0S).N.length : Nat)) /\ Below w.heap.size w w' := by
  obtain ⟨q, cB, hvB, hql, y0, y1⟩ := h.bn.at h0;subst hvB;have c1 : w.cell? ⟨db, 1, none⟩ = some (.slice (some ⟨q, 0, none⟩) bs.length cB) := cell_of_row _ _ 1 _ 168 (0, 0) h.blk;have hl : (0 : Int) < (bs.length : Int) := (by omega);have HR : Hid (∀ (n d : Int) (W : World), Calls Tryz.prog 299 #[.agg #[.int .i64 n, .int .i64 d]] W fun e w' => e = .returned (.int .i64 n) /\ Below W.heap.size W w') := shapeRows_any;have hcol := (h.bn.each 0 h0).2;generalize bs.length = bl at *;rw [show 0 * 2 + 1 = 1 from rfl] at y1
  rcases hcol with ⟨h1, p, e, sb, vc, e2, _, hX⟩ | ⟨h1, p, e, d2, q2, e2, _, hX⟩
  · rw [e, e2] at y1;have s0 : w.cell? ⟨sb, 0, none⟩ = some (.int .i64 ((bs.getD 0 b0S).N.length : Nat)) := cell_of_row _ _ 0 _ 403 (0, 0) hX.blk;have s1 : w.cell? ⟨sb, 1, none⟩ = some (.int .i64 (Lib.bitLen (bs.getD 0 b0S).g : Nat)) := cell_of_row _ _ 1 _ 403 (0, 0) hX.blk;clear hX e e2 h1;generalize (bs.getD 0 b0S).N.length = nn at *;generalize Lib.bitLen (bs.getD 0 b0S).g = gg at *;have hm := rowsOf380 sb w _ _ s0 s1;clear h y0;go_enter Tryz.func51, Tryz.ntmps51;go_wp2_with fail
    refine (HR.out _ _ _).mono ?_;rintro e w2 ⟨rfl, hb⟩;have HB : Hid (Below w.heap.size w w2) := hb;clear hb;go_wp2;go_ret;exact ⟨rfl, HB.out⟩
  rw [e, e2] at y1;have s0 : w.cell? ⟨d2, 0, none⟩ = some (.int .i64 ((bs.getD 0 b0S).N.length : Nat)) := cell_of_row _ _ 0 _ 396 (0, 0) hX.blk;have s1 : w.cell? ⟨d2, 1, none⟩ = some (.int .i64 (Lib.bitLen (bs.getD 0 b0S).g : Nat)) := cell_of_row _ _ 1 _ 396 (0, 0) hX.blk;clear hX e e2 h1;generalize (bs.getD 0 b0S).N.length = nn at *;generalize Lib.bitLen (bs.getD 0 b0S).g = gg at *;have hm := rowsOf382 d2 w _ _ s0 s1;clear h y0;go_enter Tryz.func51, Tryz.ntmps51;go_wp2_with fail
  refine (HR.out _ _ _).mono ?_;rintro e w2 ⟨rfl, hb⟩;have HB : Hid (Below w.heap.size w w2) := hb;clear hb;go_wp2;go_ret;exact ⟨rfl, HB.out⟩
end Go.Proofs.YtfcgnpchbcmdeaaGreat

namespace Go.Proofs.YtfcgnpchbcmdeaaGreat
open Go.RowKit
theorem KnsX.form {w : World} {vK : Value} {vs : List (Value × Value)} {Ks : List KS} (h : KnsX w vK vs Ks) : ∃ a c, vK = .slice a Ks.length c := by
  rcases h.row.2 with ⟨rfl, h0⟩ | ⟨q, p, cur, rfl, _⟩
  exact ⟨none, 0, by rw [h0]⟩;exact ⟨_, _, rfl⟩
theorem features_any (db : Nat) (vK vB vX : Value) (kvs bvs : List (Value × Value)) (X : List XS) (D : DSS) (w : World) (h : MadeX w db vK vB vX kvs bvs X D) : Calls Tryz.prog 93 #[.pointer (some ⟨db, 0, none⟩)] w fun e w' => e = .returned (.int .i64 (D.ks.length : Nat)) /\ w' = w := by obtain ⟨a, c, rfl⟩ := h.kn.form;have c0 : w.cell? ⟨db, 0, none⟩ = some (.slice a D.ks.length c) := cell_of_row _ _ 0 _ 168 (0, 0) h.ds.blk;clear h;go_enter Tryz.func93, Tryz.ntmps93;go_wp2;go_ret;exact ⟨rfl, rfl⟩
theorem hasFeature_any (gb db : Nat) (D : DSS) (f : Int) (w : World) (h : OutD w gb db D) (hk : D.ks.length <= 1000) : Calls Tryz.prog 52 #[.pointer (some ⟨gb, 0, none⟩), .int .i64 f] w fun e w' => e = .returned (.bool (decide (0 <= f /\ f <= (D.ks.length : Int) - 1))) /\ w' = w := by
  have g0 : w.cell? ⟨gb, 0, none⟩ = some (.pointer (some ⟨db, 0, none⟩)) := cell_of_row _ _ 0 _ 110 (0, 0) h.gp;obtain ⟨vK, vB, vX, kvs, bvs, X, hX⟩ := h.md;have HF := features_any db vK vB vX kvs bvs X D w hX;clear hX h;generalize D.ks.length = nk at *;go_enter Tryz.func52, Tryz.ntmps52;go_wp2_with fail
  refine HF.mono ?_;rintro e w2 ⟨rfl, hw⟩;obtain rfl := hw.symm;go_wp2
  all_goals go_ret
  all_goals (refine ⟨?_, rfl⟩; simp <;> omega)
theorem gRows_any (gb db : Nat) (D : DSS) (w : World) (h : OutD w gb db D) (h0 : 0 < D.bs.length) : Calls Tryz.prog 26 #[.pointer (some ⟨gb, 0, none⟩)] w fun e w' => e = .returned (.int .i64 ((D.bs.getD 0 b0S).N.length : Nat)) /\ Below w.heap.size w w' := by
  have g0 : w.cell? ⟨gb, 0, none⟩ = some (.pointer (some ⟨db, 0, none⟩)) := cell_of_row _ _ 0 _ 110 (0, 0) h.gp;obtain ⟨vK, vB, vX, kvs, bvs, X, hX⟩ := h.md;have HR := dsRows_any db vK vB vX bvs D.bs X w hX.ds h0;clear hX h h0;generalize (D.bs.getD 0 b0S).N.length = nn at *;go_enter Tryz.func26, Tryz.ntmps26;go_wp2_with fail
  refine HR.mono ?_;rintro e w2 ⟨rfl, hb⟩;have HB : Hid (Below w.heap.size w w2) := hb;clear hb;go_wp2;go_ret;exact ⟨rfl, HB.out⟩
end Go.Proofs.YtfcgnpchbcmdeaaGreat

namespace Go.Proofs.YtfcgnpchbcmdeaaGreat
set_option maxRecDepth 100000
set_option maxHeartbeats 4000000
open Go.RowKit Go.Lib Go.Sort
structure WS where
  wd : ByteArray
  wt : Int
def lessS (a b : ByteArray) : Prop := a.data.toList < b.data.toList
instance (a b : ByteArray) : Decidable (lessS a b) := by unfold lessS; infer_instance
def cmpS (a b : ByteArray) : Int := if lessS a b then -1 else if lessS b a then 1 else 0
theorem isNaNS_any (x : ByteArray) (w : World) : Calls Tryz.prog 343 #[.string x] w fun e w' => e = .returned (.bool false) /\ w' = w := by go_enter Tryz.func343, Tryz.ntmps343;go_wp2;go_ret;exact ⟨by simp, rfl⟩
theorem less_eq (a b : ByteArray) : Op.bytesLess a.toList b.toList = decide (lessS a b) := by rw [bytesLess_eq, Lib.toList_data, Lib.toList_data];rfl
theorem eqS_of {a b : ByteArray} (h1 : ¬ lessS a b) (h2 : ¬ lessS b a) : a = b := by
  unfold lessS at h1 h2;have := List.le_antisymm (List.not_lt.1 h2) (List.not_lt.1 h1)
  cases a; cases b
  simp at this;rw [this]
theorem not_less_self (a : ByteArray) : ¬ lessS a a := List.lt_irrefl _
theorem compareS_any (a b : ByteArray) (w : World) : Calls Tryz.prog 314 #[.string a, .string b] w fun e w' => e = .returned (.int .i64 (cmpS a b)) /\ w' = w := by
  have HL := less_eq a b;have HN : ∀ (x : ByteArray) (w : World), Calls Tryz.prog 343 #[.string x] w fun e w' => e = .returned (.bool false) /\ w' = w := isNaNS_any
  by_cases h1 : lessS a b
  · have HC : Hid (cmpS a b = -1) := if_pos h1;have q1 : Op.bytesLess a.toList b.toList = true := (by rw [HL]; exact decide_eq_true h1);clear HL;go_enter Tryz.func314, Tryz.ntmps314;go_wp2_with (go_at_call 343; refine (HN _ _).mono ?_; rintro e w' ⟨rfl, rfl⟩)
    go_ret;exact ⟨by rw [HC.out]; rfl, rfl⟩
  have q1 : Op.bytesLess a.toList b.toList = false := (by rw [HL]; exact decide_eq_false h1);clear HL
  by_cases h2 : lessS b a
  · have HC : Hid (cmpS a b = 1) := (by show _ = _; unfold cmpS; rw [if_neg h1, if_pos h2]);have q2 : (a.toList == b.toList) = false := (by rw [beq_eq_false_iff_ne];intro e;rw [Lib.toList_data, Lib.toList_data] at e;unfold lessS at h2;rw [e] at h2;exact List.lt_irrefl _ h2);go_enter Tryz.func314, Tryz.ntmps314;go_wp2_with (go_at_call 343; refine (HN _ _).mono ?_; rintro e w' ⟨rfl, rfl⟩)
    go_ret;exact ⟨by rw [HC.out]; rfl, rfl⟩
  obtain rfl := eqS_of h1 h2;have HC : Hid (cmpS a a = 0) := (by show _ = _; unfold cmpS; rw [if_neg h1, if_neg h1]);have q2 : (a.toList == a.toList) = true := beq_self_eq_true _;go_enter Tryz.func314, Tryz.ntmps314;go_wp2_with (go_at_call 343; refine (HN _ _).mono ?_; rintro e w' ⟨rfl, rfl⟩)
  go_ret;exact ⟨by rw [HC.out]; rfl, rfl⟩
def cmpW (x y : WS) : Int := orI (Lib.compareInt y.wt x.wt) (cmpS x.wd y.wd)
theorem heaviestFirst_any (x y : WS) (W : World) : Calls Tryz.prog 265 #[.agg #[.string x.wd, .int .i64 x.wt], .agg #[.string y.wd, .int .i64 y.wt]] W fun e w' => e = .returned (.int .i64 (cmpW x y)) /\ Gr W w' := by
  have HC : Hid (cmpW x y = orI (Lib.compareInt y.wt x.wt) (cmpS x.wd y.wd)) := rfl;have H1 : Hid (∀ w : World, Calls Tryz.prog 151 #[.int .i64 y.wt, .int .i64 x.wt] w fun e w' => e = .returned (.int .i64 (Lib.compareInt y.wt x.wt)) /\ w' = w) := fun w => Tryz.cmp_Compare_int _ _ w;have H2 : Hid (∀ w : World, Calls Tryz.prog 314 #[.string x.wd, .string y.wd] w fun e w' => e = .returned (.int .i64 (cmpS x.wd y.wd)) /\ w' = w) := fun w => compareS_any _ _ w;obtain ⟨x1, x2⟩ := x;obtain ⟨y1, y2⟩ := y;simp only at HC H1 H2 ⊢;generalize cmpW ⟨x1, x2⟩ ⟨y1, y2⟩ = r at *;generalize Lib.compareInt y2 x2 = c1 at *;generalize cmpS x1 y1 = c2 at *;go_enter Tryz.func265, Tryz.ntmps265;go_upto_region 1 with fail;generalize hw0 : (W.alloc (.cells #[.string x1, .int .i64 x2] 358)).alloc (.cells #[.string y1, .int .i64 y2] 358) = w0;have hs0 : w0.heap.size = W.heap.size + 1 + 1 := by rw [<- hw0]; simp
  have HG0 : Hid (Gr W w0) := (by show Gr _ _; rw [<- hw0]; exact ((Gr.refl W).alloc _).alloc _);have a0 : w0.cell? ⟨W.heap.size, 0, none⟩ = some (.string x1) := (by rw [<- hw0]; simp [go_sem]);have a1 : w0.cell? ⟨W.heap.size, 1, none⟩ = some (.int .i64 x2) := (by rw [<- hw0]; simp [go_sem]);have b0 : w0.cell? ⟨W.heap.size + 1, 0, none⟩ = some (.string y1) := (by rw [<- hw0]; simp [go_sem]);have b1 : w0.cell? ⟨W.heap.size + 1, 1, none⟩ = some (.int .i64 y2) := (by rw [<- hw0]; simp [go_sem]);have l0 : W.heap.size < w0.heap.size := (by omega);have l1 : W.heap.size + 1 < w0.heap.size := (by omega);clear hw0 hs0
  have H3 : Hid (∀ w : World, w.cell? ⟨w0.heap.size, 0, none⟩ = some (.int .i64 c1) -> w.cell? ⟨w0.heap.size, 1, none⟩ = some (.int .i64 c2) -> Calls Tryz.prog 192 #[.slice (some ⟨w0.heap.size, 0, none⟩) 2 2] w fun e w' => e = .returned (.int .i64 r) /\ w' = w) := fun w h0 h1 => by rw [HC.out];exact or_any w0.heap.size 2 c1 c2 w h0 h1
  go_region_held3 (fun w' => w'.cell? ⟨W.heap.size, 0, none⟩ = some (.string x1) /\ w'.cell? ⟨W.heap.size, 1, none⟩ = some (.int .i64 x2) /\ w'.cell? ⟨W.heap.size + 1, 0, none⟩ = some (.string y1) /\ w'.cell? ⟨W.heap.size + 1, 1, none⟩ = some (.int .i64 y2)) (exact ⟨(Below.cell (B := w0.heap.size) (w := w0) (p := ⟨W.heap.size, 0, none⟩) (by repeat (first | with_reducible exact Below.refl _ _ | with_reducible apply Below.drew | (refine Below.alloc ?_ (by first | omega | (simp; omega) | simp) _))) l0).trans a0, (Below.cell (B := w0.heap.size) (w := w0) (p := ⟨W.heap.size, 1, none⟩) (by repeat (first | with_reducible exact Below.refl _ _ | with_reducible apply Below.drew | (refine Below.alloc ?_ (by first | omega | (simp; omega) | simp) _))) l0).trans a1, (Below.cell (B := w0.heap.size) (w := w0) (p := ⟨W.heap.size + 1, 0, none⟩) (by repeat (first | with_reducible exact Below.refl _ _ | with_reducible apply Below.drew | (refine Below.alloc ?_ (by first | omega | (simp; omega) | simp) _))) l1).trans b0, (Below.cell (B := w0.heap.size) (w := w0) (p := ⟨W.heap.size + 1, 1, none⟩) (by repeat (first | with_reducible exact Below.refl _ _ | with_reducible apply Below.drew | (refine Below.alloc ?_ (by first | omega | (simp; omega) | simp) _))) l1).trans b1⟩) (first | (go_at_call 151; refine (H1.out _).mono ?_; rintro e w' ⟨rfl, rfl⟩) | (go_at_call 314; refine (H2.out _).mono ?_; rintro e w' ⟨rfl, rfl⟩) | (go_at_call 192; refine (H3.out _ (by simp [go_sem]) (by simp [go_sem])).mono ?_; rintro e w' ⟨rfl, rfl⟩))
  go_wp2;go_ret;exact ⟨rfl, (HG0.out.alloc _).drew⟩
def encW (x : WS) : List Value := [.string x.wd, .int .i64 x.wt]
instance : Inhabited WS := ⟨⟨⟨#[]⟩, 0⟩⟩
theorem ltW (x y : WS) : ltOf cmpW x y = decide (y.wt < x.wt ∨ x.wt = y.wt /\ lessS x.wd y.wd) := by
  obtain ⟨x1, x2⟩ := x;obtain ⟨y1, y2⟩ := y;unfold ltOf cmpW orI Lib.compareInt cmpS;simp only
  by_cases h1 : y2 < x2
  simp [h1]
  by_cases h2 : x2 < y2
  have : ¬ x2 = y2 := (by omega);simp [h1, h2, this];have e : x2 = y2 := (by omega);subst e
  by_cases h3 : lessS x1 y1
  simp [h3]
  by_cases h4 : lessS y1 x1 <;> simp [h3, h4]
theorem swoW : SWO (ltOf cmpW) where
  irrefl x := by rw [ltW]; simp [not_less_self]
  trans x y z h1 h2 := by
    rw [ltW] at *;simp only [decide_eq_true_eq] at *
    rcases h1 with h1 | ⟨h1, g1⟩ <;> rcases h2 with h2 | ⟨h2, g2⟩
    left; omega;left; omega;left; omega;right; exact ⟨by omega, List.lt_trans g1 g2⟩
  ntrans x y z h1 h2 := by rw [ltW] at *;simp only [decide_eq_false_iff_not, not_or, not_and] at *;refine ⟨by omega, fun e => ?_⟩;have g1 := h1.2 (by omega);have g2 := h2.2 (by omega);exact List.not_lt.2 (List.le_trans (List.not_lt.1 g2) (List.not_lt.1 g1))
theorem cmpLaysW (blk off size : Nat) (w : World) : CmpLays Tryz.prog 265 #[] encW 2 cmpW blk off size w :=
  fun _ _ _ _ x y => heaviestFirst_any x y _
theorem sortW_any (blk cap : Nat) (d : Array WS) (w : World) (hH : HoldsK encW 2 w blk 0 d) (hblk : blk < w.heap.size) (hsz : d.size < 4611686018427387904) : Calls Tryz.prog 264 #[.slice (some ⟨blk, 0, none⟩) d.size cap, .func (.func 265) #[] #[]] w fun e w' => e = .returned (.tuple #[]) /\ ∃ (d' : Array WS) (n : Nat) (os : Array Obj), PermIn 0 d.size d d' /\ SortedIn (ltOf cmpW) 0 d.size d' /\ w' = sortWorldK encW 2 w blk 0 n d' os := by have eg : ∀ args w, (callFunc 265 args).run Tryz.prog w = .ok (.enter 265 args) w := enters_of Tryz.func265 (by kernel_rfl) rfl;exact AnyQ.slices_SortFunc Tryz.sortW 2 Tryz.isAgg358 Tryz.sizeOf358 encW (fun _ => rfl) (fun x v hv => by simp [encW] at hv; rcases hv with rfl | rfl <;> rfl) cmpW swoW 265 #[] blk 0 cap d w eg (cmpLaysW blk 0 d.size w) hH hblk hsz
theorem sortW_none (p : Option Addr) (cap : Nat) (w : World) : Calls Tryz.prog 264 #[.slice p 0 cap, .func (.func 265) #[] #[]] w fun e w' => e = .returned (.tuple #[]) /\ w' = w := AnyF.slices_SortFunc_none { Tryz.sortW with } p cap _ w
def flatWd : List WS -> List Value
  | [] => []
  | x :: L => encW x ++ flatWd L
theorem flatWd_len (L : List WS) : (flatWd L).length = L.length * 2 := by
  induction L with
  | nil => rfl
  | cons x L ih => simp [flatWd, encW, ih]; omega
theorem flatWd_append (A B : List WS) : flatWd (A ++ B) = flatWd A ++ flatWd B := by
  induction A with
  | nil => rfl
  | cons x A ih => simp [flatWd, ih]
def OwnWd (w : World) (base : Nat) (v : Value) (L : List WS) : Prop := w.ownsRow base 358 2 v L.length (flatWd L)
theorem flatWd_key (L : List WS) : ∀ (i r : Nat), i < L.length -> r < 2 -> (flatWd L)[i * 2 + r]? = (encW (L.getD i default))[r]? := by
  induction L with
  | nil => intro i r hi; simp at hi
  | cons e L ih =>
    intro i r hi hr
    cases i with
    | zero => simp only [flatWd, Nat.zero_mul, Nat.zero_add, List.getD_cons_zero]; rw [List.getElem?_append_left (by simpa [encW] using hr)]
    | succ i =>
      simp only [flatWd, List.getD_cons_succ];rw [List.getElem?_append_right (by simp [encW]; omega)];have := ih i r (by simpa using hi) hr;rw [<- this];congr 1;simp [encW]; omega
theorem flatK_W (d : List WS) : (Go.Sort.flatK encW 2 d.toArray).toList = flatWd d := by
  apply List.ext_getElem?;intro t
  by_cases ht : t < d.length * 2
  · have hk := flatWd_key d (t / 2) (t % 2) (by omega) (by omega);rw [show t / 2 * 2 + t % 2 = t by omega] at hk;rw [hk, Array.getElem?_toList];have hd : t / 2 < d.length := (by omega);simp only [Go.Sort.flatK];rw [Array.getElem?_map];simp [ht, hd, encW, List.getD]
    rcases (show t % 2 = 0 ∨ t % 2 = 1 by omega) with e | e <;> simp [e]
  rw [List.getElem?_eq_none (by simp; omega), List.getElem?_eq_none (by rw [flatWd_len]; omega)]
theorem ownW_sorted {w : World} {base g cap m : Nat} {os : Array Obj} {P D : List WS} (hl : D.length = P.length) (h : OwnWd w base (.slice (some ⟨g, 0, none⟩) P.length cap) P) : OwnWd (Go.Proofs.sortWorldK encW 2 w g 0 m D.toArray os) base (.slice (some ⟨g, 0, none⟩) P.length cap) D /\ w.grownBy (Go.Proofs.sortWorldK encW 2 w g 0 m D.toArray os) (some g) := by
  rcases h.2 with ⟨e, _⟩ | ⟨g', cap', cur, e, hb, hg, hnc, hcm, hcs, htake⟩
  simp at e;simp only [Value.slice.injEq, Option.some.injEq, Addr.mk.injEq, and_true, true_and] at e;obtain ⟨rfl, rfl⟩ := e;have hgl : g < w.heap.size := (Array.getElem?_eq_some_iff.1 hg).1;have hF : (Go.Sort.flatK encW 2 D.toArray).size = P.length * 2 := by simp [hl]
  have hh : (Go.Proofs.sortWorldK encW 2 w g 0 m D.toArray os).heap[g]? = some (.cells (Go.Sort.putCells id 0 (Go.Sort.flatK encW 2 D.toArray) cur) 358 (0, 0)) := (by unfold Go.Proofs.sortWorldK Go.Sort.putRowK;rw [Go.Sort.heap_grow_old _ _ (by simpa using hgl)];simp [Go.Sort.putRow, Go.Sort.mapBlock, Go.Sort.ahead, Array.getElem?_modify, hg, Go.Sort.onCells]);refine ⟨⟨by rw [flatWd_len], .inr ⟨g, cap, _, by simp [hl], hb, hh, by simpa [hl] using hnc, hcm, by simp [Go.Sort.putCells, hcs], ?_⟩⟩, ⟨rfl, rfl, rfl, ?_, fun k hk hne => ?_⟩⟩;rw [<- flatK_W, show D.length * 2 = (Go.Sort.flatK encW 2 D.toArray).size by simp];exact take_put cur _ (by rw [hF, hcs]; exact Nat.mul_le_mul_right _ hnc);unfold Go.Proofs.sortWorldK Go.Sort.putRowK;simp
  unfold Go.Proofs.sortWorldK Go.Sort.putRowK;rw [Go.Sort.heap_grow_old _ _ (by simpa using hk)];have : g ≠ k := fun e => hne (by rw [e]);simp [Go.Sort.putRow, Go.Sort.mapBlock, Go.Sort.ahead, Array.getElem?_modify, this]
theorem ownW_holds {w : World} {base g cap : Nat} {P : List WS} (h : OwnWd w base (.slice (some ⟨g, 0, none⟩) P.length cap) P) : Go.Sort.HoldsK encW 2 w g 0 P.toArray := by
  intro j hj
  have hj' : j < P.length * 2 := by simpa using hj
  refine ⟨?_, ?_⟩;rw [Nat.zero_add, World.ownsRow.cellAt h j hj', <- flatK_W];have : j < (Go.Sort.flatK encW 2 P.toArray).size := hj;rw [Array.getElem?_toList, Array.getElem?_eq_getElem this, getElem!_pos _ j this];rfl;rw [Nat.zero_add];exact World.ownsRow.frozenAt h j
def leW (x y : WS) : Prop := ¬ (x.wt < y.wt ∨ y.wt = x.wt /\ lessS y.wd x.wd)
theorem sortedW_any (v : Value) (xs : List WS) (base : Nat) (w : World) (h : OwnWd w base v xs) (hl : xs.length <= 1000000) : Calls Tryz.prog 264 #[v, .func (.func 265) #[] #[]] w fun e w' => e = .returned (.tuple #[]) /\ (∃ D : List WS, D.Perm xs /\ D.Pairwise leW /\ OwnWd w' base v D) /\ w.grownBy w' v.ownBlock := by
  have h' := h
  rcases h.2 with ⟨rfl, h0⟩ | ⟨g, cap, cur, rfl, _, hh, _⟩
  have e : xs = [] := List.length_eq_zero_iff.1 h0;subst e;refine (sortW_none none 0 w).mono ?_;rintro e w' ⟨rfl, rfl⟩;exact ⟨rfl, ⟨[], List.Perm.refl _, List.Pairwise.nil, h⟩, grown_refl _ _⟩;have hs := sortW_any g cap xs.toArray w (ownW_holds h') (Array.getElem?_eq_some_iff.1 hh).1 (by simp; omega);rw [show xs.toArray.size = xs.length by simp] at hs;refine hs.mono ?_;rintro e w' ⟨rfl, d', m, os, hperm, hsort, rfl⟩;obtain ⟨hps, _, hpp⟩ := hperm;have hds : d'.size = xs.length := (by rw [hps]; simp);have hD : d'.toList.length = xs.length := (by rw [Array.length_toList, hds]);have ho := ownW_sorted (m := m) (os := os) hD h';rw [show d'.toList.toArray = d' by simp] at ho;refine ⟨rfl, ⟨d'.toList, ?_, ?_, ?_⟩, ho.2⟩;have e1 : d'.extract 0 xs.length = d' := (by rw [<- hds]; simp);have e2 : xs.toArray.extract 0 xs.length = xs.toArray := (by simp);rw [e1, e2] at hpp;exact hpp
  rw [List.pairwise_iff_getElem];intro i j hi hj hij;simp at hi hj;have := hsort i j (Nat.zero_le _) hij (by omega);rw [ltW] at this;simp only [decide_eq_false_iff_not, getElem!_pos, hi, hj] at this;simp only [Array.getElem_toList];exact this;have := ho.1
  rwa [show Value.slice (some ⟨g, 0, none⟩) xs.length cap = .slice (some ⟨g, 0, none⟩) xs.length cap from rfl] at this
end Go.Proofs.YtfcgnpchbcmdeaaGreat
