import Derived.Test.YtfcgnpchbcmdeaaGreatZpah
import Derived.Deep.RegionWith
import Derived.Deep.DeepCutAuto
import Derived.BigRegion
namespace Go.Proofs.YtfcgnpchbcmdeaaGreat
open Go.RowKit
end Go.Proofs.YtfcgnpchbcmdeaaGreat

namespace Go.Proofs.YtfcgnpchbcmdeaaGreat
open Go.RowKit
def cellsE (e : Ent) : List Value := [.int .i64 e.v, .int .i64 e.lo, .int .i64 e.hi, .int .i64 e.wt]
def flat : List Ent -> List Value
  | [] => []
  | e :: L => cellsE e ++ flat L
theorem flat_append (a b : List Ent) : flat (a ++ b) = flat a ++ flat b := by
  induction a with
  | nil => rfl
  | cons e L ih => simp [flat, ih]
theorem flat_len (L : List Ent) : (flat L).length = L.length * 4 := by
  induction L with
  | nil => rfl
  | cons e L ih => simp [flat, cellsE, ih]; omega
theorem flat_one (x : Ent) : flat [x] = [.int .i64 x.v, .int .i64 x.lo, .int .i64 x.hi, .int .i64 x.wt] := rfl
theorem info98 : (Tryz.prog.info? 98).map (fun i => (i.zero, i.size, i.bytes)) = some (some (.agg #[.int .i64 0, .int .i64 0, .int .i64 0, .int .i64 0]), 4, 32) := by kernel_rfl
def OwnE (w : World) (base : Nat) (v : Value) (L : List Ent) : Prop := w.ownsRow base 98 4 v L.length (flat L)
theorem OwnE.nil (w : World) (base : Nat) : OwnE w base (.slice none 0 0) [] := World.ownsRow_nil w base 98 4
theorem OwnE.alloc {w : World} {base : Nat} {v : Value} {L : List Ent} (h : OwnE w base v L) (o : Obj) : OwnE (w.alloc o) base v L := World.ownsRow.alloc h o
theorem OwnE.below {w w' : World} {base : Nat} {v : Value} {L : List Ent} (h : OwnE w base v L) (hb : Below w.heap.size w w') : OwnE w' base v L := by
  refine ⟨h.1, ?_⟩
  rcases h.2 with hn | ⟨g, cap, cur, e, hg, hh, r⟩
  exact .inl hn;exact .inr ⟨g, cap, cur, e, hg, (hb.block g (Array.getElem?_eq_some_iff.1 hh).1).trans hh, r⟩
theorem joinF_len (a b : List Ent) : ∀ n i j, (joinF a b n i j).length <= n
  | 0, _, _ => by simp [joinF]
  | n + 1, i, j => by have h1 := joinF_len a b n (i + 1) j;have h2 := joinF_len a b n i (j + 1);have h3 := joinF_len a b n (i + 1) (j + 1);simp only [joinF];split;simp; omega;split;simp; omega;split;simp; omega;simp
theorem joinL_len (a b : List Ent) : (joinL a b).length <= a.length + b.length := joinF_len a b _ 0 0
structure StandJ (a b : List Ent) (i j : Nat) : Prop where
  hi : i <= a.length
  hj : j <= b.length
  va : i < a.length -> 0 < j -> (b.getD (j - 1) e0).v < (a.getD i e0).v
  vb : j < b.length -> 0 < i -> (a.getD (i - 1) e0).v < (b.getD j e0).v
theorem StandJ.a {a b : List Ent} (ga : Good a) {i j : Nat} (s : StandJ a b i j) (hi : i < a.length) (h : j < b.length -> (a.getD i e0).v < (b.getD j e0).v) : StandJ a b (i + 1) j :=
  ⟨by omega, s.hj, fun h1 h0 => by have := s.va hi h0; have := (ga.lt (show i < i + 1 by omega) h1).1; omega, fun h1 _ => by simpa using h h1⟩
theorem StandJ.b {a b : List Ent} (gb : Good b) {i j : Nat} (s : StandJ a b i j) (hj : j < b.length) (h : i < a.length -> (b.getD j e0).v < (a.getD i e0).v) : StandJ a b i (j + 1) :=
  ⟨s.hi, by omega, fun h1 _ => by simpa using h h1, fun h1 h0 => by have := s.vb hj h0; have := (gb.lt (show j < j + 1 by omega) h1).1; omega⟩
theorem StandJ.ab {a b : List Ent} (ga : Good a) (gb : Good b) {i j : Nat} (_s : StandJ a b i j) (hi : i < a.length) (hj : j < b.length) (h : (a.getD i e0).v = (b.getD j e0).v) : StandJ a b (i + 1) (j + 1) :=
  ⟨by omega, by omega, fun h1 _ => by have := (ga.lt (show i < i + 1 by omega) h1).1; simp only [Nat.add_sub_cancel]; omega, fun h1 _ => by have := (gb.lt (show j < j + 1 by omega) h1).1; simp only [Nat.add_sub_cancel]; omega⟩
structure RelJ (a b : List Ent) (i j : Nat) (out : List Ent) : Prop where
  st : StandJ a b i j
  eq : out ++ restJ a b i j = joinL a b
theorem RelJ.len {a b : List Ent} {i j : Nat} {out : List Ent} (h : RelJ a b i j out) : out.length <= a.length + b.length := by have h1 := congrArg List.length h.eq;have h2 := joinL_len a b;simp at h1; omega
theorem RelJ.a {a b : List Ent} (ga : Good a) {i j : Nat} {out : List Ent} (r : RelJ a b i j out) (hi : i < a.length) (h : j < b.length -> (a.getD i e0).v < (b.getD j e0).v) : RelJ a b (i + 1) j (out ++ [seen b j (a.getD i e0)]) :=
  ⟨r.st.a ga hi h, by rw [List.append_assoc, <- r.eq, restJ_a hi h]; rfl⟩
theorem RelJ.b {a b : List Ent} (gb : Good b) {i j : Nat} {out : List Ent} (r : RelJ a b i j out) (hj : j < b.length) (h : i < a.length -> (b.getD j e0).v < (a.getD i e0).v) : RelJ a b i (j + 1) (out ++ [seen a i (b.getD j e0)]) :=
  ⟨r.st.b gb hj h, by rw [List.append_assoc, <- r.eq, restJ_b hj h]; rfl⟩
theorem RelJ.ab {a b : List Ent} (ga : Good a) (gb : Good b) {i j : Nat} {out : List Ent} (r : RelJ a b i j out) (hi : i < a.length) (hj : j < b.length) (h : (a.getD i e0).v = (b.getD j e0).v) : RelJ a b (i + 1) (j + 1) (out ++ [sum2 (a.getD i e0) (b.getD j e0)]) :=
  ⟨r.st.ab ga gb hi hj h, by rw [List.append_assoc, <- r.eq, restJ_ab hi hj h]; rfl⟩
end Go.Proofs.YtfcgnpchbcmdeaaGreat
