/-
  A script that was handed in, opened: each of its steps, with its features and numbers, as it lies in memory.
-/
import Derived.Test.YtfcgnpchbcmdeaaGreatZtam
import Derived.Test.YtfcgnpchbcmdeaaGreatRows
import Derived.ProofKit
import Derived.OpenShut
import Derived.ShutString
import Derived.ChangeOld
import Derived.Below
import Derived.Deep.Slices
import Derived.Deep.Strs
namespace Go.Proofs.YtfcgnpchbcmdeaaGreat
open Go.ChangeShapes Go.WideShapes Go.ChangeAt Go.RowKit
open Go.Deep

theorem cells93 : Tryz.prog.cellsOf 93 = 12 := by kernel_rfl
theorem cells37 : Tryz.prog.cellsOf 37 = 4 := by kernel_rfl
theorem cells51 : Tryz.prog.cellsOf 51 = 3 := by kernel_rfl
theorem cells25 : Tryz.prog.cellsOf 25 = 1 := by kernel_rfl
theorem cells35 : Tryz.prog.cellsOf 35 = 1 := by kernel_rfl
theorem cells3 : Tryz.prog.cellsOf 3 = 1 := by kernel_rfl
theorem cells4 : Tryz.prog.cellsOf 4 = 1 := by kernel_rfl
theorem cells9 : Tryz.prog.cellsOf 9 = 1 := by kernel_rfl

theorem cell_lt {w : World} {a : Addr} {v : Value} (h : w.cell? a = some v) : a.block < w.heap.size := by
  unfold World.cell? at h
  by_cases hb : a.block < w.heap.size
  · exact hb
  · rw [Array.getElem?_eq_none (by omega)] at h; simp at h

theorem list3 {α : Type} {l : List α} (h : l.length = 3) : ∃ a b c, l = [a, b, c] := by
  match l, h with
  | [a, b, c], _ => exact ⟨a, b, c, rfl⟩
theorem list4 {α : Type} {l : List α} (h : l.length = 4) : ∃ a b c d, l = [a, b, c, d] := by
  match l, h with
  | [a, b, c, d], _ => exact ⟨a, b, c, d, rfl⟩
theorem list9 {α : Type} {l : List α} (h : l.length = 9) : ∃ a b c d e f g i j, l = [a, b, c, d, e, f, g, i, j] := by
  match l, h with
  | [a, b, c, d, e, f, g, i, j], _ => exact ⟨a, b, c, d, e, f, g, i, j, rfl⟩
theorem list12 {α : Type} {l : List α} (h : l.length = 12) : ∃ a b c d e f g i j k m n, l = [a, b, c, d, e, f, g, i, j, k, m, n] := by
  match l, h with
  | [a, b, c, d, e, f, g, i, j, k, m, n], _ => exact ⟨a, b, c, d, e, f, g, i, j, k, m, n, rfl⟩

section
variable {H : Type} {enc : TypeId × Value → H} {w : World} {held : Bool}

theorem openInts {n : Nat} {cs : List Value} {x : DataW H × List MemPlace} (h : DataW.trod enc Tryz.prog w 0 (fun _ => true) held n 25 cs = some x) :
    ∃ a len cap zs, cs = [.slice a len cap] ∧ len ≤ maxLen ∧ IntsV w a len zs ∧ (a = none → len = 0 ∧ cap = 0) := by
  rcases open_ints Tryz.underlying25 Tryz.underlying3 cells3 h with ⟨rfl, _⟩ | ⟨a, len, cap, zs, rfl, _, hl, hm, hz, _, hcell, hwf⟩
  · exact ⟨none, 0, 0, [], rfl, by unfold maxLen; omega, ⟨rfl, by simp, Or.inl rfl⟩, fun _ => ⟨rfl, rfl⟩⟩
  · simp only [if_true] at hz
    refine ⟨some a, len, cap, zs.take len, rfl, by omega, ⟨by simp; omega, fun z hz' => hwf z (List.mem_of_mem_take hz'), ?_⟩, by simp⟩
    by_cases h0 : len = 0
    · exact Or.inl h0
    · right
      obtain ⟨b, off, rfl, hc⟩ := ints_at hcell (by omega)
      refine ⟨b, off, rfl, cell_lt (hc 0 (by omega)), fun i hi => ?_⟩
      rw [hc i (by omega)]
      simp [List.getD, hi]

theorem openFeat {n : Nat} {cs : List Value} {x : DataW H × List MemPlace} (h : DataW.trod enc Tryz.prog w 0 (fun _ => true) held n 51 cs = some x) :
    ∃ a b c, cs = [.bool a, .int .i64 b, .int .i64 c] := by
  obtain ⟨y0, y1, y2, m, _, hl, h0, h1, h2⟩ := trod_struct3 Tryz.underlying51 h
  rw [cells51] at hl
  obtain ⟨v0, v1, v2, rfl⟩ := list3 hl
  simp only [cells3, cells4, List.drop_zero, List.drop_succ_cons, List.take_succ_cons, List.take_zero] at h0 h1 h2
  obtain ⟨a, e0, _⟩ := DataW.trod_bool Tryz.underlying4 h0
  obtain ⟨b, e1, _⟩ := DataW.trod_int Tryz.underlying3 h1
  obtain ⟨c, e2, _⟩ := DataW.trod_int Tryz.underlying3 h2
  simp only [List.cons.injEq, and_true] at e0 e1 e2
  exact ⟨a, b, c, by rw [e0, e1, e2]⟩

theorem openFeats {n : Nat} {cs : List Value} {x : DataW H × List MemPlace} (h : DataW.trod enc Tryz.prog w 0 (fun _ => true) held n 35 cs = some x) :
    ∃ a len cap fw fs ft, cs = [.slice a len cap] ∧ len ≤ maxLen ∧ FeatsV w a len fw fs ft := by
  rcases open_slice Tryz.underlying35 h with ⟨rfl, _⟩ | ⟨a, len, cap, m, k, D, Pl, rfl, _, hl, hm, hmm, _, hx⟩
  · exact ⟨none, 0, 0, fun _ => false, fun _ => 0, fun _ => 0, rfl, by unfold maxLen; omega, Or.inl rfl⟩
  · simp only [if_true] at hmm
    subst hmm
    rw [cells51] at hx
    have hx' : ∀ i, i < m → ∃ t : Bool × Int × Int, w.cell? (a.add (i * 3)) = some (.bool t.1) ∧ w.cell? (a.add (i * 3 + 1)) = some (.int .i64 t.2.1) ∧ w.cell? (a.add (i * 3 + 2)) = some (.int .i64 t.2.2) := by
      intro i hi
      obtain ⟨cs', h1, h2⟩ := hx i hi
      obtain ⟨p, q, r, rfl⟩ := openFeat h2
      obtain ⟨_, _, hc⟩ := World.cells?_some h1
      refine ⟨(p, q, r), ?_, ?_, ?_⟩
      · have := hc 0 (by omega); rw [add_add] at this; simpa using this
      · have := hc 1 (by omega); rw [add_add] at this; simpa using this
      · have := hc 2 (by omega); rw [add_add] at this; simpa using this
    obtain ⟨f, hf⟩ := choose_lt hx'
    refine ⟨some a, len, m, fun i => (f i).1, fun i => (f i).2.1, fun i => (f i).2.2, rfl, by omega, ?_⟩
    by_cases h0 : len = 0
    · exact Or.inl h0
    · right
      obtain ⟨b, off, spot⟩ := a
      have hspot : spot = none := by simpa [Addr.add] using World.cell?_spot (hf 0 (by omega)).1
      subst hspot
      simp only [add_plain] at hf
      exact ⟨b, off, rfl, by omega, fun _ => cell_lt (hf 0 (by omega)).1, fun i hi => (hf i (by omega)).1, fun i hi => (hf i (by omega)).2.1, fun i hi => (hf i (by omega)).2.2⟩

theorem openOp {n : Nat} {cs : List Value} {x : DataW H × List MemPlace} (h : DataW.trod enc Tryz.prog w 0 (fun _ => true) held n 93 cs = some x) :
    ∃ d : OpD, cs = [.int .i64 d.kd, .int .i64 d.pk, .int .i64 d.bb, .slice d.fa d.fl d.fc, .int .i64 d.bins, .int .i64 d.size, .int .i64 d.budget, .slice d.va d.vl d.vc, .slice d.wa d.wl d.wc, .string d.st, .int .i64 d.x, .int .i64 d.y] ∧ OpR w d := by
  obtain ⟨xs, m, _, _, hl, hlen, hf⟩ := DataW.trod_struct Tryz.underlying93 h
  rw [cells93] at hl
  obtain ⟨v0, v1, v2, v3, v4, v5, v6, v7, v8, v9, v10, v11, rfl⟩ := list12 hl
  obtain ⟨x0, x1, x2, x3, x4, x5, x6, x7, x8, rfl⟩ := list9 hlen
  have g0 := hf 0 ⟨ "Kind", 3, 0, false, "", "", 0⟩ rfl
  have g1 := hf 1 ⟨ "At", 3, 1, false, "", "", 8⟩ rfl
  have g2 := hf 2 ⟨ "B", 3, 2, false, "", "", 16⟩ rfl
  have g3 := hf 3 ⟨ "C", 37, 3, false, "", "", 24⟩ rfl
  have g4 := hf 4 ⟨ "V", 25, 7, false, "", "", 72⟩ rfl
  have g5 := hf 5 ⟨ "W", 25, 8, false, "", "", 96⟩ rfl
  have g6 := hf 6 ⟨ "S", 9, 9, false, "", "", 120⟩ rfl
  have g7 := hf 7 ⟨ "X", 3, 10, false, "", "", 136⟩ rfl
  have g8 := hf 8 ⟨ "Y", 3, 11, false, "", "", 144⟩ rfl
  simp only [cells3, cells37, cells25, cells9, List.drop_zero, List.drop_succ_cons, List.take_succ_cons, List.take_zero, List.getElem?_cons_zero, List.getElem?_cons_succ] at g0 g1 g2 g3 g4 g5 g6 g7 g8
  obtain ⟨kd, e0, _⟩ := DataW.trod_int Tryz.underlying3 g0
  obtain ⟨pk, e1, _⟩ := DataW.trod_int Tryz.underlying3 g1
  obtain ⟨bb, e2, _⟩ := DataW.trod_int Tryz.underlying3 g2
  obtain ⟨va, vl, vc, vz, e7, hvl, hv, hvn⟩ := openInts g4
  obtain ⟨wa, wl, wc, wz, e8, hwl, hw, hwn⟩ := openInts g5
  obtain ⟨st, e9, _⟩ := DataW.trod_string Tryz.underlying9 g6
  obtain ⟨px, e10, _⟩ := DataW.trod_int Tryz.underlying3 g7
  obtain ⟨py, e11, _⟩ := DataW.trod_int Tryz.underlying3 g8
  obtain ⟨ys, m', _, _, _, hlen', hf'⟩ := DataW.trod_struct Tryz.underlying37 g3
  obtain ⟨y0, y1, y2, y3, rfl⟩ := list4 hlen'
  have k0 := hf' 0 ⟨ "Features", 35, 0, false, "", "", 0⟩ rfl
  have k1 := hf' 1 ⟨ "Bins", 3, 1, false, "", "", 24⟩ rfl
  have k2 := hf' 2 ⟨ "Size", 3, 2, false, "", "", 32⟩ rfl
  have k3 := hf' 3 ⟨ "Budget", 3, 3, false, "", "", 40⟩ rfl
  simp only [cells3, cells35, List.drop_zero, List.drop_succ_cons, List.take_succ_cons, List.take_zero, List.getElem?_cons_zero, List.getElem?_cons_succ] at k0 k1 k2 k3
  obtain ⟨fa, fl, fc, fw, fs, ft, e3, hfl, hfe⟩ := openFeats k0
  obtain ⟨bins, e4, _⟩ := DataW.trod_int Tryz.underlying3 k1
  obtain ⟨size, e5, _⟩ := DataW.trod_int Tryz.underlying3 k2
  obtain ⟨budget, e6, _⟩ := DataW.trod_int Tryz.underlying3 k3
  simp only [List.cons.injEq, and_true] at e0 e1 e2 e3 e4 e5 e6 e7 e8 e9 e10 e11
  subst e0 e1 e2 e3 e4 e5 e6 e7 e8 e9 e10 e11
  exact ⟨⟨kd, pk, bb, fa, fl, fc, bins, size, budget, va, vl, vc, wa, wl, wc, st, px, py, fw, fs, ft, vz, wz⟩, rfl, ⟨hfl, hvl, hwl, hfe, hv, hw, hvn, hwn⟩⟩

theorem openScript {n : Nat} {cs : List Value} {x : DataW H × List MemPlace} (h : DataW.trod enc Tryz.prog w 0 (fun _ => true) held n 22 cs = some x) :
    ∃ a len cap D, cs = [.slice a len cap] ∧ ScriptV w a len D := by
  have inh : Inhabited OpD := ⟨⟨0, 0, 0, none, 0, 0, 0, 0, 0, none, 0, 0, none, 0, 0, ⟨#[]⟩, 0, 0, fun _ => false, fun _ => 0, fun _ => 0, [], []⟩⟩
  rcases open_slice Tryz.underlying22 h with ⟨rfl, _⟩ | ⟨a, len, cap, m, k, D, Pl, rfl, _, hl, hm, hmm, _, hx⟩
  · exact ⟨none, 0, 0, fun _ => default, rfl, by unfold maxLen; omega, Or.inl rfl⟩
  · simp only [if_true] at hmm
    subst hmm
    rw [cells93] at hx
    have hx' : ∀ i, i < m → ∃ d : OpD, (∀ j, j < 12 → w.cell? (a.add (i * 12 + j)) = [Value.int .i64 d.kd, .int .i64 d.pk, .int .i64 d.bb, .slice d.fa d.fl d.fc, .int .i64 d.bins, .int .i64 d.size, .int .i64 d.budget, .slice d.va d.vl d.vc, .slice d.wa d.wl d.wc, .string d.st, .int .i64 d.x, .int .i64 d.y][j]?) ∧ OpR w d := by
      intro i hi
      obtain ⟨cs', h1, h2⟩ := hx i hi
      obtain ⟨d, rfl, hd⟩ := openOp h2
      obtain ⟨_, _, hc⟩ := World.cells?_some h1
      exact ⟨d, fun j hj => by have := hc j hj; rwa [add_add] at this, hd⟩
    obtain ⟨f, hf⟩ := choose_lt hx'
    refine ⟨some a, len, m, f, rfl, by omega, ?_⟩
    by_cases h0 : len = 0
    · exact Or.inl h0
    · right
      obtain ⟨b, off, spot⟩ := a
      have c0 : w.cell? (Addr.add ⟨b, off, spot⟩ (0 * 12 + 0)) = some (.int .i64 (f 0).kd) := (hf 0 (by omega)).1 0 (by omega)
      have hspot : spot = none := by simpa [Addr.add] using World.cell?_spot c0
      subst hspot
      simp only [add_plain] at hf
      refine ⟨b, off, rfl, cell_lt c0, fun i hi => ⟨?_, (hf i (by omega)).2⟩⟩
      have g := (hf i (by omega)).1
      refine ⟨?_, ?_, ?_, ?_, ?_, ?_, ?_, ?_, ?_, ?_, ?_, ?_⟩
      · exact g 0 (by omega)
      · exact g 1 (by omega)
      · exact g 2 (by omega)
      · exact g 3 (by omega)
      · exact g 4 (by omega)
      · exact g 5 (by omega)
      · exact g 6 (by omega)
      · exact g 7 (by omega)
      · exact g 8 (by omega)
      · exact g 9 (by omega)
      · exact g 10 (by omega)
      · exact g 11 (by omega)
end
end Go.Proofs.YtfcgnpchbcmdeaaGreat
