/-
  A script that was handed in, opened, with its bulk: how long its lists can be.
-/
import Derived.Test.YtfcgnpchbcmdeaaGreatOpen
import Derived.Test.YtfcgnpchbcmdeaaGreatSxk
namespace Go.Proofs.YtfcgnpchbcmdeaaGreat
open Go.ChangeShapes Go.WideShapes Go.ChangeAt Go.RowKit
open Go.Deep

theorem bulk_pos {H : Type} (d : DataW H) : 1 ≤ Rows.uptoBulk d := by
  cases d with
  | lit l => cases l <;> simp [Rows.uptoBulk]
  | _ => simp [Rows.uptoBulk]
theorem bulk_len {H : Type} : ∀ l : List (DataW H), l.length ≤ Rows.uptoBulkAll l
  | [] => by simp
  | d :: r => by have := bulk_pos d; have := bulk_len r; simp [Rows.uptoBulkAll]; omega
theorem bulk_mem {H : Type} : ∀ (l : List (DataW H)) (d : DataW H), d ∈ l → Rows.uptoBulk d ≤ Rows.uptoBulkAll l
  | [], d, h => by cases h
  | x :: r, d, h => by
    simp only [Rows.uptoBulkAll]
    rcases List.mem_cons.1 h with rfl | h
    · omega
    · have := bulk_mem r d h; omega
theorem bulk_flat {H : Type} (D : Nat → DataW H) (f : Nat → List Int) : ∀ l : List Nat, (∀ i ∈ l, (f i).length ≤ Rows.uptoBulk (D i)) → (l.flatMap f).length ≤ Rows.uptoBulkAll (l.map D)
  | [], _ => by simp
  | i :: r, h => by
    have h1 := h i (by simp)
    have h2 := bulk_flat D f r (fun j hj => h j (by simp [hj]))
    simp only [List.flatMap_cons, List.length_append, List.map_cons, Rows.uptoBulkAll]
    omega

section
variable {H : Type} {enc : TypeId × Value → H} {w : World} {held : Bool}

theorem openIntsB {n : Nat} {cs : List Value} {x : DataW H × List MemPlace} (h : DataW.trod enc Tryz.prog w 0 (fun _ => true) held n 25 cs = some x) :
    ∃ a len cap zs, cs = [.slice a len cap] ∧ len ≤ maxLen ∧ IntsV w a len zs ∧ (a = none → len = 0 ∧ cap = 0) ∧ len ≤ Rows.uptoBulk x.1 := by
  rcases open_ints Tryz.underlying25 Tryz.underlying3 cells3 h with ⟨rfl, _⟩ | ⟨a, len, cap, zs, rfl, _, hl, hm, hz, hxx, hcell, hwf⟩
  · exact ⟨none, 0, 0, [], rfl, by unfold maxLen; omega, ⟨rfl, by simp, Or.inl rfl⟩, fun _ => ⟨rfl, rfl⟩, Nat.zero_le _⟩
  · simp only [if_true] at hz
    have hbk : len ≤ Rows.uptoBulk x.1 := by
      rw [hxx]
      simp only [Rows.uptoBulk]
      have := bulk_len (lits (H := H) .i64 (zs.take len))
      simp [lits] at this
      simp [lits] at *
      omega
    refine ⟨some a, len, cap, zs.take len, rfl, by omega, ⟨by simp; omega, fun z hz' => hwf z (List.mem_of_mem_take hz'), ?_⟩, by simp, hbk⟩
    by_cases h0 : len = 0
    · exact Or.inl h0
    · right
      obtain ⟨b, off, rfl, hc⟩ := ints_at hcell (by omega)
      refine ⟨b, off, rfl, cell_lt (hc 0 (by omega)), fun i hi => ?_⟩
      rw [hc i (by omega)]
      simp [List.getD, hi]

theorem openOpB {n : Nat} {cs : List Value} {x : DataW H × List MemPlace} (h : DataW.trod enc Tryz.prog w 0 (fun _ => true) held n 93 cs = some x) :
    ∃ d : OpD, cs = [.int .i64 d.kd, .int .i64 d.pk, .int .i64 d.bb, .slice d.fa d.fl d.fc, .int .i64 d.bins, .int .i64 d.size, .int .i64 d.budget, .slice d.va d.vl d.vc, .slice d.wa d.wl d.wc, .string d.st, .int .i64 d.x, .int .i64 d.y] ∧ OpR w d ∧ d.vl ≤ Rows.uptoBulk x.1 ∧ d.wl ≤ Rows.uptoBulk x.1 := by
  obtain ⟨xs, m, _, hxx, hl, hlen, hf⟩ := DataW.trod_struct Tryz.underlying93 h
  rw [cells93] at hl
  obtain ⟨v0, v1, v2, v3, v4, v5, v6, v7, v8, v9, v10, v11, rfl⟩ := list12 hl
  obtain ⟨x0, x1, x2, x3, x4, x5, x6, x7, x8, rfl⟩ := list9 hlen
  have g0 := hf 0 ⟨ "Kind", 3, 0, false, "", "", 0⟩ rfl
  have g1 := hf 1 ⟨ "At", 3, 1, false, "", "", 8⟩ rfl
  have g2 := hf 2 ⟨ "B", 3, 2, false, "", "", 16⟩ rfl
  have g3 := hf 3 ⟨ "C", 37, 3, false, "", "", 24⟩ rfl
  have g4 := hf 4 ⟨ "V", 25, 7, false, "", "", 72⟩ rfl
  have g5 := hf 5 ⟨ "W", 25, 8, false, "", "", 96⟩ rfl
  have g6 := hf 6 ⟨ "S", 9, 9, false, "", "", 120⟩ rfl
  have g7 := hf 7 ⟨ "X", 3, 10, false, "", "", 136⟩ rfl
  have g8 := hf 8 ⟨ "Y", 3, 11, false, "", "", 144⟩ rfl
  simp only [cells3, cells37, cells25, cells9, List.drop_zero, List.drop_succ_cons, List.take_succ_cons, List.take_zero, List.getElem?_cons_zero, List.getElem?_cons_succ] at g0 g1 g2 g3 g4 g5 g6 g7 g8
  obtain ⟨kd, e0, _⟩ := DataW.trod_int Tryz.underlying3 g0
  obtain ⟨pk, e1, _⟩ := DataW.trod_int Tryz.underlying3 g1
  obtain ⟨bb, e2, _⟩ := DataW.trod_int Tryz.underlying3 g2
  obtain ⟨va, vl, vc, vz, e7, hvl, hv, hvn, bv⟩ := openIntsB g4
  obtain ⟨wa, wl, wc, wz, e8, hwl, hw, hwn, bw⟩ := openIntsB g5
  obtain ⟨st, e9, _⟩ := DataW.trod_string Tryz.underlying9 g6
  obtain ⟨px, e10, _⟩ := DataW.trod_int Tryz.underlying3 g7
  obtain ⟨py, e11, _⟩ := DataW.trod_int Tryz.underlying3 g8
  obtain ⟨ys, m', _, _, _, hlen', hf'⟩ := DataW.trod_struct Tryz.underlying37 g3
  obtain ⟨y0, y1, y2, y3, rfl⟩ := list4 hlen'
  have k0 := hf' 0 ⟨ "Features", 35, 0, false, "", "", 0⟩ rfl
  have k1 := hf' 1 ⟨ "Bins", 3, 1, false, "", "", 24⟩ rfl
  have k2 := hf' 2 ⟨ "Size", 3, 2, false, "", "", 32⟩ rfl
  have k3 := hf' 3 ⟨ "Budget", 3, 3, false, "", "", 40⟩ rfl
  simp only [cells3, cells35, List.drop_zero, List.drop_succ_cons, List.take_succ_cons, List.take_zero, List.getElem?_cons_zero, List.getElem?_cons_succ] at k0 k1 k2 k3
  obtain ⟨fa, fl, fc, fw, fs, ft, e3, hfl, hfe⟩ := openFeats k0
  obtain ⟨bins, e4, _⟩ := DataW.trod_int Tryz.underlying3 k1
  obtain ⟨size, e5, _⟩ := DataW.trod_int Tryz.underlying3 k2
  obtain ⟨budget, e6, _⟩ := DataW.trod_int Tryz.underlying3 k3
  simp only [List.cons.injEq, and_true] at e0 e1 e2 e3 e4 e5 e6 e7 e8 e9 e10 e11
  subst e0 e1 e2 e3 e4 e5 e6 e7 e8 e9 e10 e11
  have b4 : Rows.uptoBulk x4.1 ≤ Rows.uptoBulk x.1 := by rw [hxx]; simp only [Rows.uptoBulk, Rows.uptoBulkAll, List.map_cons, List.map_nil]; omega
  have b5 : Rows.uptoBulk x5.1 ≤ Rows.uptoBulk x.1 := by rw [hxx]; simp only [Rows.uptoBulk, Rows.uptoBulkAll, List.map_cons, List.map_nil]; omega
  exact ⟨⟨kd, pk, bb, fa, fl, fc, bins, size, budget, va, vl, vc, wa, wl, wc, st, px, py, fw, fs, ft, vz, wz⟩, rfl, ⟨hfl, hvl, hwl, hfe, hv, hw, hvn, hwn⟩, Nat.le_trans bv b4, Nat.le_trans bw b5⟩

theorem openScriptB {n : Nat} {cs : List Value} {x : DataW H × List MemPlace} (h : DataW.trod enc Tryz.prog w 0 (fun _ => true) held n 22 cs = some x) (hx0 : Rows.uptoBulk x.1 ≤ 1048576) :
    ∃ a len cap D U, cs = [.slice a len cap] ∧ ScriptV w a len D ∧ Sized U len D := by
  have inh : Inhabited OpD := ⟨⟨0, 0, 0, none, 0, 0, 0, 0, 0, none, 0, 0, none, 0, 0, ⟨#[]⟩, 0, 0, fun _ => false, fun _ => 0, fun _ => 0, [], []⟩⟩
  rcases open_slice Tryz.underlying22 h with ⟨rfl, _⟩ | ⟨a, len, cap, m, k, D, Pl, rfl, _, hl, hm, hmm, hxx, hx⟩
  · exact ⟨none, 0, 0, fun _ => default, [5, 3], rfl, ⟨by unfold maxLen; omega, Or.inl rfl⟩, ⟨by omega, by simp, by simp, by simp, fun i hi => by omega, fun i hi => by omega, fun i hi => by omega⟩⟩
  · simp only [if_true] at hmm
    subst hmm
    rw [cells93] at hx
    have hx' : ∀ i, i < m → ∃ d : OpD, ((∀ j, j < 12 → w.cell? (a.add (i * 12 + j)) = [Value.int .i64 d.kd, .int .i64 d.pk, .int .i64 d.bb, .slice d.fa d.fl d.fc, .int .i64 d.bins, .int .i64 d.size, .int .i64 d.budget, .slice d.va d.vl d.vc, .slice d.wa d.wl d.wc, .string d.st, .int .i64 d.x, .int .i64 d.y][j]?) ∧ OpR w d) ∧ d.vl ≤ Rows.uptoBulk (D i) ∧ d.wl ≤ Rows.uptoBulk (D i) := by
      intro i hi
      obtain ⟨cs', h1, h2⟩ := hx i hi
      obtain ⟨d, rfl, hd, hb1, hb2⟩ := openOpB h2
      obtain ⟨_, _, hc⟩ := World.cells?_some h1
      exact ⟨d, ⟨fun j hj => by have := hc j hj; rwa [add_add] at this, hd⟩, hb1, hb2⟩
    obtain ⟨f, hf⟩ := choose_lt hx'
    have hbulk : Rows.uptoBulkAll ((List.range len).map D) ≤ 1048576 := by
      rw [hxx] at hx0
      simp only [Rows.uptoBulk] at hx0
      omega
    have hlen := bulk_len ((List.range len).map D)
    simp at hlen
    have heach : ∀ i, i < len → Rows.uptoBulk (D i) ≤ 1048576 := fun i hi => Nat.le_trans (bulk_mem _ _ (List.mem_map.2 ⟨i, by simpa using hi, rfl⟩)) hbulk
    have hflat := bulk_flat D (fun i => (f i).vz) (List.range len) (fun i hi => by
      have hi' : i < len := by simpa using hi
      have h1 := (hf i (by omega)).1.2.vz.1
      have h2 := (hf i (by omega)).2.1
      omega)
    refine ⟨some a, len, m, f, [5, 3] ++ ((List.range len).flatMap (fun i => (f i).vz)).map clampV, rfl, ⟨by omega, ?_⟩, ⟨by omega, by simp at hflat ⊢; omega, by simp, by simp, fun i hi => ?_, fun i hi => ?_, fun i hi z hz => ?_⟩⟩
    · by_cases h0 : len = 0
      · exact Or.inl h0
      · right
        obtain ⟨b, off, spot⟩ := a
        have c0 : w.cell? (Addr.add ⟨b, off, spot⟩ (0 * 12 + 0)) = some (.int .i64 (f 0).kd) := (hf 0 (by omega)).1.1 0 (by omega)
        have hspot : spot = none := by simpa [Addr.add] using World.cell?_spot c0
        subst hspot
        simp only [add_plain] at hf
        refine ⟨b, off, rfl, cell_lt c0, fun i hi => ⟨?_, (hf i (by omega)).1.2⟩⟩
        have g := (hf i (by omega)).1.1
        exact ⟨g 0 (by omega), g 1 (by omega), g 2 (by omega), g 3 (by omega), g 4 (by omega), g 5 (by omega), g 6 (by omega), g 7 (by omega), g 8 (by omega), g 9 (by omega), g 10 (by omega), g 11 (by omega)⟩
    · have := (hf i (by omega)).2.1; have := heach i hi; omega
    · have := (hf i (by omega)).2.2; have := heach i hi; omega
    · refine List.mem_append_right _ (List.mem_map.2 ⟨z, List.mem_flatMap.2 ⟨i, by simpa using hi, hz⟩, rfl⟩)
end
end Go.Proofs.YtfcgnpchbcmdeaaGreat
