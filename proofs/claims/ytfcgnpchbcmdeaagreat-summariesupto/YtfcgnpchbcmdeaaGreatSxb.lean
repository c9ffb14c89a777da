/-
  The contract of ownEntries: a list that came out is written full with a mark, grows by one, two and three marks, and the book holds all four.
-/
import Derived.Test.YtfcgnpchbcmdeaaGreatSxa
import Derived.Test.YtfcgnpchbcmdeaaGreatSwl
import Derived.Deep.RegionHeld3
namespace Go.Proofs.YtfcgnpchbcmdeaaGreat
open Go.RowKit

theorem info29 : (Tryz.prog.info? 29).map (fun i => (i.zero, i.size, i.bytes)) = some (some (.slice none 0 0), 1, 24) := by kernel_rfl

def filledE (L : List Ent) (z : Int) (k : Nat) : List Ent := List.replicate k (markE z) ++ L.drop k
theorem filledE_len (L : List Ent) (z : Int) {k : Nat} (hk : k ≤ L.length) : (filledE L z k).length = L.length := by simp [filledE]; omega
theorem filledE_at (L : List Ent) (z : Int) {k : Nat} (hk : k < L.length) : filledE L z k = List.replicate k (markE z) ++ L.getD k e0 :: L.drop (k + 1) := by
  unfold filledE; rw [List.drop_eq_getElem_cons hk]; simp [List.getD, hk]
theorem filledE_next (L : List Ent) (z : Int) (k : Nat) : filledE L z (k + 1) = List.replicate k (markE z) ++ (⟨z, 0, 0, 0⟩ : Ent) :: L.drop (k + 1) := by
  unfold filledE; rw [List.replicate_succ']; simp [markE]

theorem WB.grown {w w' : World} {g : Nat} {c : Array Value} {row : Option Nat} (h : WB w g c) (hg : w.grownBy w' row) (hne : some g ≠ row) : WB w' g c := (hg.block g h.lt hne).trans h
theorem WB.alloc {w : World} {g : Nat} {c : Array Value} (h : WB w g c) (o : Obj) : WB (w.alloc o) g c := (Below.heap_alloc w o g h.lt).trans h
theorem WB.other {w : World} {g : Nat} {c : Array Value} (h : WB w g c) {p : Addr} (hp : g ≠ p.block) (u : Value) : WB (w.setCell p u) g c := (Below.heap_setCell w p u g hp).trans h
theorem Box4.grown {w w' : World} {b : Nat} {x0 x1 x2 x3 : Int} {row : Option Nat} (h : Box4 w b x0 x1 x2 x3) (hg : w.grownBy w' row) (hne : some b ≠ row) : Box4 w' b x0 x1 x2 x3 := (hg.block b h.lt hne).trans h
theorem row_setG {w : World} {base e size n g j : Nat} {v u : Value} {xs : List Value} (h : w.ownsRow base e size v n xs) (hg : g < base) : (w.setCell ⟨g, j, none⟩ u).ownsRow base e size v n xs :=
  ((Touch.refl (fun k => k = g) w).setCell (p := ⟨g, j, none⟩) (fun _ => rfl) u).row h (fun k hk e => by have := (World.ownsRow.lt h k hk).1; omega)
theorem flat_put0 {A B : List Ent} {x : Ent} {k : Nat} (hk : A.length = k) (y : Int) : (flat (A ++ x :: B)).set (k * 4) (.int .i64 y) = flat (A ++ ⟨y, x.lo, x.hi, x.wt⟩ :: B) := by
  have := flat_at (B := B) (x := x) hk (show 0 < 4 by omega) (.int .i64 y)
  rw [Nat.add_zero] at this
  rw [this, flat_append]; rfl
theorem own_form {w : World} {base e size n : Nat} {v : Value} {xs : List Value} (h : w.ownsRow base e size v n xs) (hn : 0 < n) : ∃ q p, v = .slice (some ⟨q, 0, none⟩) n p := by
  rcases h.2 with ⟨_, h0⟩ | ⟨q, p, cur, e, _⟩
  · omega
  · exact ⟨q, p, e⟩
theorem WB.drew {w : World} {g : Nat} {c : Array Value} (h : WB w g c) : WB w.drew g c := h
theorem slice_own (a : Option Addr) (n c : Nat) (q : Nat) (h : a = some ⟨q, 0, none⟩) : (Value.slice a n c).ownBlock = some q := by subst h; rfl

set_option maxRecDepth 100000 in
set_option maxHeartbeats 4000000 in
theorem ownEntries_any (g base : Nat) (c : Array Value) (v ve vm : Value) (L : List Ent) (vs : List Value) (ms : List Int) (nx : Int) (w : World)
    (hW : WB w g c) (h4 : c[4]? = some ve) (h5 : c[5]? = some vm) (h12 : c[12]? = some (.int .i64 nx)) (hgb : g < base) (hbs : base ≤ w.heap.size)
    (hL : OwnE w base v L) (hes : w.ownsRow base 29 1 ve vs.length vs) (hem : OwnI w base vm ms)
    (hl : L.length ≤ 4194304) (hn1 : vs.length ≤ 100000000) (hn2 : ms.length ≤ 100000000) (hx : 0 ≤ nx ∧ nx ≤ 100000000) :
    Calls Tryz.prog 174 #[.pointer (some ⟨g, 4, none⟩), v] w fun e w' => e = .returned (.tuple #[]) ∧ ∃ ve' vm' news,
      WB w' g (((c.setIfInBounds 12 (.int .i64 (nx + 1))).setIfInBounds 4 ve').setIfInBounds 5 vm') ∧ w'.ownsRow base 29 1 ve' (vs.length + 4) (vs ++ news) ∧ OwnI w' base vm' (ms ++ List.replicate 4 (-(nx + 1))) ∧
      news.length = 4 ∧ (∀ u ∈ news, AllM w' (-(nx + 1)) u) ∧ Touch (fun k => k = g ∨ some k = v.ownBlock ∨ some k = ve.ownBlock ∨ some k = vm.ownBlock) w w' ∧
      (ve'.ownBlock = ve.ownBlock ∨ ∃ k, ve'.ownBlock = some k ∧ w.heap.size ≤ k) := by
  obtain ⟨i0, hinf, hz0, hz1, hz2⟩ := info_parts info98
  obtain ⟨j0, jinf, jz0, jz1, jz2⟩ := info_parts info29
  obtain ⟨l0, linf, lz0, lz1, lz2⟩ := info_parts info3
  obtain ⟨n, hn⟩ : ∃ n, n = L.length := ⟨_, rfl⟩
  obtain ⟨a, cp, rfl, ha⟩ : ∃ a cp, v = .slice a n cp ∧ (n = 0 ∨ ∃ gl, a = some ⟨gl, 0, none⟩ ∧ base ≤ gl ∧ gl < w.heap.size) := by
    rcases hL.2 with ⟨rfl, h0⟩ | ⟨gl, cap, cur, rfl, hb, hh, _⟩
    · exact ⟨none, 0, by rw [hn, h0], .inl (hn.trans h0)⟩
    · exact ⟨_, cap, by rw [hn], .inr ⟨gl, rfl, hb, (Array.getElem?_eq_some_iff.1 hh).1⟩⟩
  rw [← hn] at hl
  have HNL : Hid (n = L.length) := hn
  have HA : Hid (n = 0 ∨ ∃ gl, a = some ⟨gl, 0, none⟩ ∧ base ≤ gl ∧ gl < w.heap.size) := ha
  have HW0 : Hid (WB w g c) := hW
  have HL0 : Hid (OwnE w base (.slice a n cp) L) := hL
  have HES : Hid (w.ownsRow base 29 1 ve vs.length vs) := hes
  have HEM : Hid (OwnI w base vm ms) := hem
  have d12 : w.cell? ⟨g, 12, none⟩ = some (.int .i64 nx) := by rw [hW.cell]; exact h12
  have df : ∀ o, w.frozen? ⟨g, o, none⟩ = false := fun o => hW.frozen o
  have hgl := hW.lt
  obtain ⟨z, hz⟩ : ∃ z, z = -(nx + 1) := ⟨_, rfl⟩
  have HZ : Hid (z = -(nx + 1)) := hz
  have H4 : Hid (c[4]? = some ve) := h4
  have H5 : Hid (c[5]? = some vm) := h5
  have hrow : ∀ k, (Value.slice a n cp).ownBlock = some k → base ≤ k ∧ k < w.heap.size := fun k hk => World.ownsRow.lt hL k hk
  have HAP1 : Hid (ve.ownBlock = none ∨ ve.ownBlock ≠ (Value.slice a n cp).ownBlock) := types_apart hL hes (by decide)
  have HAP2 : Hid (vm.ownBlock = none ∨ vm.ownBlock ≠ (Value.slice a n cp).ownBlock) := types_apart hL hem (by decide)
  have HAP3 : Hid (vm.ownBlock = none ∨ vm.ownBlock ≠ ve.ownBlock) := types_apart hes hem (by decide)
  have HROW : Hid (∀ k, (Value.slice a n cp).ownBlock = some k → base ≤ k ∧ k < w.heap.size) := hrow
  have HC1 : Hid ((c.setIfInBounds 12 (.int .i64 (nx + 1)))[4]? = some ve ∧ (c.setIfInBounds 12 (.int .i64 (nx + 1)))[5]? = some vm) := ⟨by rw [Array.getElem?_setIfInBounds_ne (by decide)]; exact h4, by rw [Array.getElem?_setIfInBounds_ne (by decide)]; exact h5⟩
  have HS0 : Hid (Touch (fun k => k = g ∨ some k = (Value.slice a n cp).ownBlock) w ((w.setCell ⟨g, 12, none⟩ (.int .i64 (nx + 1))).alloc (.cells #[.int .i64 (-(nx + 1)), .int .i64 0, .int .i64 0, .int .i64 0] 98))) := ((Touch.refl _ w).setCell (p := ⟨g, 12, none⟩) (fun _ => .inl rfl) _).alloc _
  have HL1 : Hid (OwnE ((w.setCell ⟨g, 12, none⟩ (.int .i64 (nx + 1))).alloc (.cells #[.int .i64 (-(nx + 1)), .int .i64 0, .int .i64 0, .int .i64 0] 98)) base (.slice a n cp) (filledE L z 0)) := by
    have : filledE L z 0 = L := by simp [filledE]
    rw [this]
    exact (row_setG hL hgb).alloc _
  have HW1 : Hid (WB ((w.setCell ⟨g, 12, none⟩ (.int .i64 (nx + 1))).alloc (.cells #[.int .i64 (-(nx + 1)), .int .i64 0, .int .i64 0, .int .i64 0] 98)) g (c.setIfInBounds 12 (.int .i64 (nx + 1)))) := (hW.set 12 _).alloc _
  have HB1 : Hid (Box4 ((w.setCell ⟨g, 12, none⟩ (.int .i64 (nx + 1))).alloc (.cells #[.int .i64 (-(nx + 1)), .int .i64 0, .int .i64 0, .int .i64 0] 98)) w.heap.size z 0 0 0) := by
    have := Box4.new (w.setCell ⟨g, 12, none⟩ (.int .i64 (nx + 1))) (-(nx + 1)) 0 0 0
    rw [show (w.setCell ⟨g, 12, none⟩ (.int .i64 (nx + 1))).heap.size = w.heap.size by simp [World.setCell]] at this
    rw [hz]; exact this
  obtain ⟨c1, hc1⟩ : ∃ c1, c1 = c.setIfInBounds 12 (.int .i64 (nx + 1)) := ⟨_, rfl⟩
  have HCC : Hid (c1 = c.setIfInBounds 12 (.int .i64 (nx + 1))) := hc1
  rw [← hc1] at HC1 HW1
  clear hc1
  clear hW hL hes hem ha hn h4 h5 h12 hz hrow
  obtain ⟨hx1, hx2⟩ := hx
  go_enter Tryz.func174, Tryz.ntmps174
  go_wp2_with fail
  go_loopw [5] (fun ti wr => ∃ k : Nat, k ≤ n ∧ ti = .int .i64 k ∧ Hid (OwnE wr base (.slice a n cp) (filledE L z k)) ∧ Hid (Touch (fun k => k = g ∨ some k = (Value.slice a n cp).ownBlock) w wr) ∧ Hid (WB wr g c1) ∧ Hid (Box4 wr w.heap.size z 0 0 0)) (fun ti _ => n - (intOf ti).toNat)
  case atStart => exact ⟨0, Nat.zero_le _, rfl, HL1.out, HS0.out, HW1.out, HB1.out⟩
  case round =>
    obtain ⟨k, hk2, rfl, HR, HT, HW, HB⟩ := hrel
    obtain ⟨b0, b1, b2, b3, bf⟩ := HB.out.cells
    clear d12 df HS0 HL1 HW1 HB1
    by_cases hk : k < n
    · have bk1 : (0 : Int) ≤ (k : Int) := by omega
      have bk2 : (k : Int) < (n : Int) := by omega
      rcases HA.out with h0 | ⟨gl, rfl, hb1, hb2⟩
      · omega
      have hown := HR.out
      have hfl : (filledE L z k).length = n := by rw [filledE_len L z (by have := HNL.out; omega), HNL.out]
      rw [filledE_at L z (by have := HNL.out; omega)] at hown hfl
      have hAl : (List.replicate k (markE z)).length = k := by simp
      obtain ⟨c0, c1', c2, c3, cf⟩ := hown.at hfl.symm hAl
      have HE2 : Hid (filledE L z (k + 1) = List.replicate k (markE z) ++ (⟨z, 0, 0, 0⟩ : Ent) :: L.drop (k + 1)) := filledE_next L z k
      have HAL : Hid ((List.replicate k (markE z)).length = k) := hAl
      have HOW : Hid (OwnE wr base (.slice (some ⟨gl, 0, none⟩) n cp) (List.replicate k (markE z) ++ L.getD k e0 :: L.drop (k + 1))) := hown
      have HFL : Hid (n = (List.replicate k (markE z) ++ L.getD k e0 :: L.drop (k + 1)).length) := hfl.symm
      clear hown hfl hAl
      generalize L.getD k e0 = x at *
      have hne1 : g ≠ gl := by omega
      have hne2 : w.heap.size ≠ gl := by omega
      go_wp2_with fail
      go_roundw
      case rel =>
        refine ⟨k + 1, by omega, by go_num, ?_, ?_, ?_, ?_⟩
        · rw [HE2.out]
          exact ((((HOW.out.store HFL.out (by simp) (flat_put0 HAL.out _)).store (HFL.out.trans (by simp)) (by simp) (flat_set1 HAL.out _)).store (HFL.out.trans (by simp)) (by simp) (flat_set2 HAL.out _)).store (HFL.out.trans (by simp)) (by simp) (flat_set3 HAL.out _))
        · exact (((HT.out.setCell (p := ⟨gl, k * 4, none⟩) (fun _ => .inr rfl) _).setCell (p := ⟨gl, k * 4 + 1, none⟩) (fun _ => .inr rfl) _).setCell (p := ⟨gl, k * 4 + 2, none⟩) (fun _ => .inr rfl) _).setCell (p := ⟨gl, k * 4 + 3, none⟩) (fun _ => .inr rfl) _
        · exact (((HW.out.other (p := ⟨gl, k * 4, none⟩) hne1 _).other (p := ⟨gl, k * 4 + 1, none⟩) hne1 _).other (p := ⟨gl, k * 4 + 2, none⟩) hne1 _).other (p := ⟨gl, k * 4 + 3, none⟩) hne1 _
        · exact (((HB.out.other (p := ⟨gl, k * 4, none⟩) hne2 _).other (p := ⟨gl, k * 4 + 1, none⟩) hne2 _).other (p := ⟨gl, k * 4 + 2, none⟩) hne2 _).other (p := ⟨gl, k * 4 + 3, none⟩) hne2 _
      case measure => simp [intOf]; omega
    · have hke : k = n := by omega
      subst hke
      have hfull : filledE L z k = List.replicate k (markE z) := by unfold filledE; rw [List.drop_eq_nil_of_le (by have := HNL.out; omega), List.append_nil]
      have HLn : Hid (wr.ownsRow base 98 4 (.slice a k cp) k (flat (List.replicate k (markE z)))) := by
        have := HR.out
        rw [hfull] at this
        unfold OwnE at this
        rw [List.length_replicate] at this
        exact this
      have hszr : w.heap.size < wr.heap.size := HB.out.lt
      have hnb : some w.heap.size ≠ (Value.slice a k cp).ownBlock := fun e => by have := HROW.out _ e.symm; omega
      have hng : some g ≠ (Value.slice a k cp).ownBlock := fun e => by have := HROW.out _ e.symm; omega
      clear hfull HR hk hk2 HA HL0
      have HLn0 := HLn
      have HT0 := HT
      have HW0' := HW
      have HB0 := HB
      clear HLn HT HW HB HW0
      have HW0 := HW0'
      clear HW0'
      go_wp2_with (at_builtin; refine wpList_append_mark rfl (.tmp 32) (.tmp 34) 29 rfl base 98 i0 (.agg #[.int .i64 0, .int .i64 0, .int .i64 0, .int .i64 0]) 4 32 Tryz.underlying29 hinf hz0 hz1 hz2 rfl (by decide) (.slice a k cp) k (flat (List.replicate k (markE z))) rfl (World.ownsRow.alloc HLn0.out _) ⟨wr.heap.size, 0, none⟩ 1 1 [.int .i64 z, .int .i64 0, .int .i64 0, .int .i64 0] rfl rfl (one_new wr #[.int .i64 z, .int .i64 0, .int .i64 0, .int .i64 0] 98) (by intro u hu; simp only [List.mem_cons, List.not_mem_nil, or_false] at hu; rcases hu with rfl | rfl | rfl | rfl <;> rfl) (by decide) (by unfold maxLen; omega) (by omega) (by simp; omega) ?_)
      intro y1 w1 hX
      obtain ⟨ho1, hg1, hd1, hk1, q1, p1, rfl⟩ := hX.out
      have ho1' : OwnE w1 base (.slice (some ⟨q1, 0, none⟩) (k + 1) p1) (List.replicate (k + 1) (markE z)) := by
        unfold OwnE
        rw [List.length_replicate, ← flat_rep_snoc]
        exact ho1
      have HY1 : Hid (AllM w1 z (.slice (some ⟨q1, 0, none⟩) (k + 1) p1)) := .own ho1' (by unfold maxLen; omega)
      have HLn1 : Hid (w1.ownsRow base 98 4 (.slice a k cp) k (flat (List.replicate k (markE z)))) := hk1
      have HT1 : Hid (Touch (fun k' => k' = g ∨ some k' = (Value.slice a k cp).ownBlock) w w1) := (HT0.out.alloc _).grown hg1 (fun k' e _ => .inr e.symm)
      have HW1 : Hid (WB w1 g c1) := (HW0.out.alloc _).grown hg1 hng
      have HB1 : Hid (Box4 w1 w.heap.size z 0 0 0) := (HB0.out.alloc _).grown hg1 hnb
      have hszr1 : w.heap.size < w1.heap.size := HB1.out.lt
      clear hX ho1 hg1 hd1 hk1 ho1'
      clear b0 b1 b2 b3 bf
      obtain ⟨b0, b1, b2, b3, bf⟩ := HB1.out.cells
      go_wp2_with (at_builtin; refine wpList_append_mark rfl (.tmp 36) (.tmp 39) 29 rfl base 98 i0 (.agg #[.int .i64 0, .int .i64 0, .int .i64 0, .int .i64 0]) 4 32 Tryz.underlying29 hinf hz0 hz1 hz2 rfl (by decide) (.slice a k cp) k (flat (List.replicate k (markE z))) rfl (World.ownsRow.alloc HLn1.out _) ⟨w1.heap.size, 0, none⟩ 2 2 [.int .i64 z, .int .i64 0, .int .i64 0, .int .i64 0, .int .i64 z, .int .i64 0, .int .i64 0, .int .i64 0] rfl rfl (one_new w1 #[.int .i64 z, .int .i64 0, .int .i64 0, .int .i64 0, .int .i64 z, .int .i64 0, .int .i64 0, .int .i64 0] 98) (by intro u hu; simp only [List.mem_cons, List.not_mem_nil, or_false] at hu; rcases hu with rfl | rfl | rfl | rfl | rfl | rfl | rfl | rfl <;> rfl) (by decide) (by unfold maxLen; omega) (by omega) (by simp; omega) ?_)
      intro y2 w2 hX
      obtain ⟨ho2, hg2, hd2, hk2, q2, p2, rfl⟩ := hX.out
      have ho2' : OwnE w2 base (.slice (some ⟨q2, 0, none⟩) (k + 2) p2) (List.replicate (k + 2) (markE z)) := by
        unfold OwnE
        rw [List.length_replicate, ← flat_rep_snoc]
        exact ho2
      have HY2 : Hid (AllM w2 z (.slice (some ⟨q2, 0, none⟩) (k + 2) p2)) := .own ho2' (by unfold maxLen; omega)
      have HLn2 : Hid (w2.ownsRow base 98 4 (.slice a k cp) k (flat (List.replicate k (markE z)))) := hk2
      have HT2 : Hid (Touch (fun k' => k' = g ∨ some k' = (Value.slice a k cp).ownBlock) w w2) := (HT1.out.alloc _).grown hg2 (fun k' e _ => .inr e.symm)
      have HW2 : Hid (WB w2 g c1) := (HW1.out.alloc _).grown hg2 hng
      have HB2 : Hid (Box4 w2 w.heap.size z 0 0 0) := (HB1.out.alloc _).grown hg2 hnb
      have hszr2 : w.heap.size < w2.heap.size := HB2.out.lt
      obtain ⟨b0, b1, b2, b3, bf⟩ := HB2.out.cells
      have HY1_2 : Hid (AllM w2 z (.slice (some ⟨q1, 0, none⟩) (k + 1) p1)) := (HY1.out.alloc _).append hg2 hd2 (by simp) ho2' (by unfold maxLen; omega) ⟨_, _, rfl⟩ (by simp [lenV])
      clear hX ho2 hg2 hd2 hk2 ho2'
      go_wp2_with (at_builtin; refine wpList_append_mark rfl (.tmp 41) (.tmp 45) 29 rfl base 98 i0 (.agg #[.int .i64 0, .int .i64 0, .int .i64 0, .int .i64 0]) 4 32 Tryz.underlying29 hinf hz0 hz1 hz2 rfl (by decide) (.slice a k cp) k (flat (List.replicate k (markE z))) rfl (World.ownsRow.alloc HLn2.out _) ⟨w2.heap.size, 0, none⟩ 3 3 [.int .i64 z, .int .i64 0, .int .i64 0, .int .i64 0, .int .i64 z, .int .i64 0, .int .i64 0, .int .i64 0, .int .i64 z, .int .i64 0, .int .i64 0, .int .i64 0] rfl rfl (one_new w2 #[.int .i64 z, .int .i64 0, .int .i64 0, .int .i64 0, .int .i64 z, .int .i64 0, .int .i64 0, .int .i64 0, .int .i64 z, .int .i64 0, .int .i64 0, .int .i64 0] 98) (by intro u hu; simp only [List.mem_cons, List.not_mem_nil, or_false] at hu; rcases hu with rfl | rfl | rfl | rfl | rfl | rfl | rfl | rfl | rfl | rfl | rfl | rfl <;> rfl) (by decide) (by unfold maxLen; omega) (by omega) (by simp; omega) ?_)
      intro y3 w3 hX
      obtain ⟨ho3, hg3, hd3, hk3, q3, p3, rfl⟩ := hX.out
      have ho3' : OwnE w3 base (.slice (some ⟨q3, 0, none⟩) (k + 3) p3) (List.replicate (k + 3) (markE z)) := by
        unfold OwnE
        rw [List.length_replicate, ← flat_rep_snoc]
        exact ho3
      have HY3 : Hid (AllM w3 z (.slice (some ⟨q3, 0, none⟩) (k + 3) p3)) := .own ho3' (by unfold maxLen; omega)
      have HLn3 : Hid (w3.ownsRow base 98 4 (.slice a k cp) k (flat (List.replicate k (markE z)))) := hk3
      have HT3 : Hid (Touch (fun k' => k' = g ∨ some k' = (Value.slice a k cp).ownBlock) w w3) := (HT2.out.alloc _).grown hg3 (fun k' e _ => .inr e.symm)
      have HW3 : Hid (WB w3 g c1) := (HW2.out.alloc _).grown hg3 hng
      have HB3 : Hid (Box4 w3 w.heap.size z 0 0 0) := (HB2.out.alloc _).grown hg3 hnb
      have hszr3 : w.heap.size < w3.heap.size := HB3.out.lt
      obtain ⟨b0, b1, b2, b3, bf⟩ := HB3.out.cells
      have HY1_3 : Hid (AllM w3 z (.slice (some ⟨q1, 0, none⟩) (k + 1) p1)) := (HY1_2.out.alloc _).append hg3 hd3 (by simp) ho3' (by unfold maxLen; omega) ⟨_, _, rfl⟩ (by simp [lenV])
      have HY2_3 : Hid (AllM w3 z (.slice (some ⟨q2, 0, none⟩) (k + 2) p2)) := (HY2.out.alloc _).append hg3 hd3 (by simp) ho3' (by unfold maxLen; omega) ⟨_, _, rfl⟩ (by simp [lenV])
      clear hX ho3 hg3 hd3 hk3 ho3'
      have HY0 : Hid (AllM w3 z (.slice a k cp)) := by
        have : OwnE w3 base (.slice a k cp) (List.replicate k (markE z)) := by unfold OwnE; rw [List.length_replicate]; exact HLn3.out
        exact .own this (by unfold maxLen; omega)
      have HES3 : Hid (w3.ownsRow base 29 1 ve vs.length vs) := HT3.out.row HES.out (fun k' hk' e => by
        rcases e with e | e
        · have := (World.ownsRow.lt HES.out k' hk').1; omega
        · rcases HAP1.out with h | h
          · rw [h] at hk'; cases hk'
          · exact h (hk'.trans e))
      have HEM3 : Hid (OwnI w3 base vm ms) := HT3.out.row HEM.out (fun k' hk' e => by
        rcases e with e | e
        · have := (World.ownsRow.lt HEM.out k' hk').1; omega
        · rcases HAP2.out with h | h
          · rw [h] at hk'; cases hk'
          · exact h (hk'.trans e))
      have d4 : w3.cell? ⟨g, 4, none⟩ = some ve := by rw [HW3.out.cell]; exact HC1.out.1
      have df : ∀ o, w3.frozen? ⟨g, o, none⟩ = false := fun o => HW3.out.frozen o
      clear HLn0 HLn1 HLn2 HLn3 HT0 HT1 HT2 HW0 HW1 HW2 HB0 HB1 HB2 HY1 HY2 HY1_2 hszr1 hszr2
      go_wp2_with (at_builtin; refine wpList_append_mark rfl (.tmp 51) (.tmp 56) 80 rfl base 29 j0 (.slice none 0 0) 1 24 Tryz.underlying80 jinf jz0 jz1 jz2 rfl (by decide) ve vs.length vs rfl (World.ownsRow.alloc HES3.out _) ⟨w3.heap.size, 0, none⟩ 4 4 [.slice a k cp, .slice (some ⟨q1, 0, none⟩) (k + 1) p1, .slice (some ⟨q2, 0, none⟩) (k + 2) p2, .slice (some ⟨q3, 0, none⟩) (k + 3) p3] rfl rfl (one_new w3 #[.slice a k cp, .slice (some ⟨q1, 0, none⟩) (k + 1) p1, .slice (some ⟨q2, 0, none⟩) (k + 2) p2, .slice (some ⟨q3, 0, none⟩) (k + 3) p3] 29) (by intro u hu; simp only [List.mem_cons, List.not_mem_nil, or_false] at hu; rcases hu with rfl | rfl | rfl | rfl <;> rfl) (by decide) (by unfold maxLen; omega) (by omega) (by simp; omega) ?_)
      intro y4 w4 hX
      obtain ⟨ho4, hg4, hd4, _, q4, p4, rfl⟩ := hX.out
      have HE4 : Hid (w4.ownsRow base 29 1 (.slice (some ⟨q4, 0, none⟩) (vs.length + 4) p4) (vs.length + 4) (vs ++ [.slice a k cp, .slice (some ⟨q1, 0, none⟩) (k + 1) p1, .slice (some ⟨q2, 0, none⟩) (k + 2) p2, .slice (some ⟨q3, 0, none⟩) (k + 3) p3])) := ho4
      have HG4 : Hid ((w3.alloc (.cells #[.slice a k cp, .slice (some ⟨q1, 0, none⟩) (k + 1) p1, .slice (some ⟨q2, 0, none⟩) (k + 2) p2, .slice (some ⟨q3, 0, none⟩) (k + 3) p3] 29)).grownBy w4 ve.ownBlock) := hg4
      have HD4 : Hid (some q4 = ve.ownBlock ∨ w.heap.size ≤ q4) := by
        rcases hd4 with h | ⟨h, _⟩
        · exact .inl h
        · simp [Value.ownBlock] at h
          right; omega
      have hgve : some g ≠ ve.ownBlock := fun e => by have := (World.ownsRow.lt HES.out g e.symm).1; omega
      have hbve : some w.heap.size ≠ ve.ownBlock := fun e => by have := (World.ownsRow.lt HES.out _ e.symm).2; omega
      have HW4 : Hid (WB w4 g c1) := (HW3.out.alloc _).grown hg4 hgve
      have HB4 : Hid (Box4 w4 w.heap.size z 0 0 0) := (HB3.out.alloc _).grown hg4 hbve
      have HEM4 : Hid (OwnI w4 base vm ms) := World.ownsRow.kept (World.ownsRow.alloc HEM3.out _) hg4 HAP3.out
      have HT4 : Hid (Touch (fun k' => k' = g ∨ some k' = (Value.slice a k cp).ownBlock ∨ some k' = ve.ownBlock ∨ some k' = vm.ownBlock) w w4) :=
        ((HT3.out.mono (fun k' _ e => by rcases e with e | e; exact .inl e; exact .inr (.inl e))).alloc _).grown hg4 (fun k' e _ => .inr (.inr (.inl e.symm)))
      have hmk : ∀ u k' (cur : Array Value), ve.ownBlock = some k' → w3.heap[k']? = some (.cells cur 98 (0, 0)) → u = k' → False := fun u k' cur hk' hh _ => by
        obtain ⟨cur', hc'⟩ := row_type HES3.out hk'
        rw [hc'] at hh; simp at hh
      have HMK : Hid (∀ u, AllM w3 z u → AllM w4 z u) := fun u hu => by
        have t : Touch (fun k' => some k' = ve.ownBlock) w3 w4 := ((Touch.refl _ w3).alloc _).grown hg4 (fun k' e _ => e.symm)
        exact hu.touch t (fun k' cur hk' hh e => hmk k' k' cur e.symm hh rfl)
      clear hX ho4 hg4 hd4 hmk d4 df b0 b1 b2 b3 bf hszr3
      have HM4 : Hid (AllM w4 z (.slice a k cp) ∧ AllM w4 z (.slice (some ⟨q1, 0, none⟩) (k + 1) p1) ∧ AllM w4 z (.slice (some ⟨q2, 0, none⟩) (k + 2) p2) ∧ AllM w4 z (.slice (some ⟨q3, 0, none⟩) (k + 3) p3)) := ⟨HMK.out _ HY0.out, HMK.out _ HY1_3.out, HMK.out _ HY2_3.out, HMK.out _ HY3.out⟩
      clear HMK HY0 HY1_3 HY2_3 HY3 HT3 HW3 HB3 HES3 HEM3 HG4
      have df : ∀ o, w4.frozen? ⟨g, o, none⟩ = false := fun o => HW4.out.frozen o
      have d4 : w4.cell? ⟨g, 4, none⟩ = some ve := by rw [HW4.out.cell]; exact HC1.out.1
      go_wp2_with fail
      have HW5 : Hid (WB (w4.setCell ⟨g, 4, none⟩ (.slice (some ⟨q4, 0, none⟩) (vs.length + 4) p4)) g (c1.setIfInBounds 4 (.slice (some ⟨q4, 0, none⟩) (vs.length + 4) p4))) := HW4.out.set 4 _
      have HB5 : Hid (Box4 (w4.setCell ⟨g, 4, none⟩ (.slice (some ⟨q4, 0, none⟩) (vs.length + 4) p4)) w.heap.size z 0 0 0) := HB4.out.other (by simp; omega) _
      have HE5 : Hid ((w4.setCell ⟨g, 4, none⟩ (.slice (some ⟨q4, 0, none⟩) (vs.length + 4) p4)).ownsRow base 29 1 (.slice (some ⟨q4, 0, none⟩) (vs.length + 4) p4) (vs.length + 4) (vs ++ [.slice a k cp, .slice (some ⟨q1, 0, none⟩) (k + 1) p1, .slice (some ⟨q2, 0, none⟩) (k + 2) p2, .slice (some ⟨q3, 0, none⟩) (k + 3) p3])) := row_setG HE4.out hgb
      have HM5' : Hid (OwnI (w4.setCell ⟨g, 4, none⟩ (.slice (some ⟨q4, 0, none⟩) (vs.length + 4) p4)) base vm ms) := row_setG HEM4.out hgb
      have HT5 : Hid (Touch (fun k' => k' = g ∨ some k' = (Value.slice a k cp).ownBlock ∨ some k' = ve.ownBlock ∨ some k' = vm.ownBlock) w (w4.setCell ⟨g, 4, none⟩ (.slice (some ⟨q4, 0, none⟩) (vs.length + 4) p4))) := HT4.out.setCell (p := ⟨g, 4, none⟩) (fun _ => .inl rfl) _
      have HMG : Hid (∀ u, AllM w4 z u → AllM (w4.setCell ⟨g, 4, none⟩ (.slice (some ⟨q4, 0, none⟩) (vs.length + 4) p4)) z u) := fun u hu =>
        hu.touch (S := fun k' => k' = g) ((Touch.refl (fun k' => k' = g) w4).setCell (p := ⟨g, 4, none⟩) (fun _ => rfl) _) (fun k' cur _ hh e => by subst e; rw [HW4.out] at hh; simp at hh)
      have HM5 : Hid (AllM (w4.setCell ⟨g, 4, none⟩ (.slice (some ⟨q4, 0, none⟩) (vs.length + 4) p4)) z (.slice a k cp) ∧ AllM (w4.setCell ⟨g, 4, none⟩ (.slice (some ⟨q4, 0, none⟩) (vs.length + 4) p4)) z (.slice (some ⟨q1, 0, none⟩) (k + 1) p1) ∧ AllM (w4.setCell ⟨g, 4, none⟩ (.slice (some ⟨q4, 0, none⟩) (vs.length + 4) p4)) z (.slice (some ⟨q2, 0, none⟩) (k + 2) p2) ∧ AllM (w4.setCell ⟨g, 4, none⟩ (.slice (some ⟨q4, 0, none⟩) (vs.length + 4) p4)) z (.slice (some ⟨q3, 0, none⟩) (k + 3) p3)) := ⟨HMG.out _ HM4.out.1, HMG.out _ HM4.out.2.1, HMG.out _ HM4.out.2.2.1, HMG.out _ HM4.out.2.2.2⟩
      clear HW4 HB4 HE4 HEM4 HT4 HM4 HMG d4 df
      generalize w4.setCell ⟨g, 4, none⟩ (.slice (some ⟨q4, 0, none⟩) (vs.length + 4) p4) = w5 at *
      have d5 : w5.cell? ⟨g, 5, none⟩ = some vm := by rw [HW5.out.cell, Array.getElem?_setIfInBounds_ne (by decide)]; exact HC1.out.2
      have df : ∀ o, w5.frozen? ⟨g, o, none⟩ = false := fun o => HW5.out.frozen o
      obtain ⟨b0, _, _, _, bf⟩ := HB5.out.cells
      have hgvm : some g ≠ vm.ownBlock := fun e => by have := (World.ownsRow.lt HEM.out g e.symm).1; omega
      have hsz5 : base ≤ w5.heap.size := by have := HT5.out.size; omega
      have hbvm : some w.heap.size ≠ vm.ownBlock := fun e => by have := (World.ownsRow.lt HEM.out _ e.symm).2; omega
      have hne3 : g ≠ w.heap.size := by omega
      have hne4 : w.heap.size ≠ g := by omega
      have d5a : (w5.alloc (.cells #[.int .i64 z, .int .i64 z, .int .i64 z, .int .i64 z] 3)).cell? ⟨g, 5, none⟩ = some vm := ((HW5.out.alloc _).cell 5).trans ((Array.getElem?_setIfInBounds_ne (by decide)).trans HC1.out.2)
      have n1 := World.new_ne w5 _ d5
      have n2 := World.new_ne w5 _ b0
      refine wp_region_held_drew (S := fun w' => w'.cell? ⟨w.heap.size, 0, none⟩ = some (.int .i64 z)) (by kernel_rfl) ?_ (fun hHeld => ?_)
      · exact b0
      refine wpAnyH_take (i := 0) (v := ?_) rfl (by kernel_rfl) (by kernel_rfl) (by kernel_rfl) (fun _ _ _ h => h) (Or.inl ⟨by rfl, ?_⟩) (by assumption) ?_
      rotate_left
      · intro w hSw
        (try dsimp only at hSw)
        go_simp
        try with_reducible rfl
      try simp only [Act.put, List.setIfInBounds_toArray]
      refine wpAnyH_take (i := 1) (v := ?_) rfl (by kernel_rfl) (by kernel_rfl) (by kernel_rfl) (fun _ _ _ h => h) (Or.inl ⟨by rfl, ?_⟩) (by assumption) ?_
      rotate_left
      · intro w hSw
        (try dsimp only at hSw)
        go_simp
        try with_reducible rfl
      try simp only [Act.put]
      refine wpAnyH_take (i := 2) (v := ?_) rfl (by kernel_rfl) (by kernel_rfl) (by kernel_rfl) (fun _ _ _ h => h) (Or.inl ⟨by rfl, ?_⟩) (by assumption) ?_
      rotate_left
      · intro w hSw
        (try dsimp only at hSw)
        go_simp
        try with_reducible rfl
      try simp only [Act.put]
      refine wpAnyH_take (i := 3) (v := ?_) rfl (by kernel_rfl) (by kernel_rfl) (by kernel_rfl) (fun _ _ _ h => h) (Or.inl ⟨by rfl, ?_⟩) (by assumption) ?_
      rotate_left
      · intro w hSw
        (try dsimp only at hSw)
        go_simp
        try with_reducible rfl
      try simp only [Act.put]
      refine wpAnyH_take (i := 5) (v := ?_) rfl (by kernel_rfl) (by kernel_rfl) (by kernel_rfl) (fun _ _ _ h => h) (Or.inl ⟨by rfl, ?_⟩) (by assumption) ?_
      rotate_left
      · intro w hSw
        (try dsimp only at hSw)
        go_simp
        try with_reducible rfl
      try simp only [Act.put]
      refine wpAnyH_take (i := 6) (v := ?_) rfl (by kernel_rfl) (by kernel_rfl) (by kernel_rfl) (fun _ _ _ h => h) (Or.inl ⟨by rfl, ?_⟩) (by assumption) ?_
      rotate_left
      · intro w hSw
        (try dsimp only at hSw)
        go_simp
        try with_reducible rfl
      try simp only [Act.put]
      refine wpAnyH_take (i := 7) (v := ?_) rfl (by kernel_rfl) (by kernel_rfl) (by kernel_rfl) (fun _ _ _ h => h) (Or.inl ⟨by rfl, ?_⟩) (by assumption) ?_
      rotate_left
      · intro w hSw
        (try dsimp only at hSw)
        go_simp
        try with_reducible rfl
      try simp only [Act.put]
      refine wpAnyH_take (i := 8) (v := ?_) rfl (by kernel_rfl) (by kernel_rfl) (by kernel_rfl) (fun _ _ _ h => h) (Or.inl ⟨by rfl, ?_⟩) (by assumption) ?_
      rotate_left
      · intro w hSw
        (try dsimp only at hSw)
        go_simp
        try with_reducible rfl
      try simp only [Act.put]
      refine wpAnyH_take (i := 9) (v := ?_) rfl (by kernel_rfl) (by kernel_rfl) (by kernel_rfl) (fun _ _ _ h => h) (Or.inl ⟨by rfl, ?_⟩) (by assumption) ?_
      rotate_left
      · intro w hSw
        (try dsimp only at hSw)
        go_simp
        try with_reducible rfl
      try simp only [Act.put]
      refine wpAnyH_take (i := 10) (v := ?_) rfl (by kernel_rfl) (by kernel_rfl) (by kernel_rfl) (fun _ _ _ h => h) (Or.inl ⟨by rfl, ?_⟩) (by assumption) ?_
      rotate_left
      · intro w hSw
        (try dsimp only at hSw)
        go_simp
        try with_reducible rfl
      try simp only [Act.put]
      refine wpAnyH_take (i := 11) (v := ?_) rfl (by kernel_rfl) (by kernel_rfl) (by kernel_rfl) (fun _ _ _ h => h) (Or.inl ⟨by rfl, ?_⟩) (by assumption) ?_
      rotate_left
      · intro w hSw
        (try dsimp only at hSw)
        go_simp
        try with_reducible rfl
      try simp only [Act.put]
      refine wpAnyH_take (i := 12) (v := ?_) rfl (by kernel_rfl) (by kernel_rfl) (by kernel_rfl) (fun _ _ _ h => h) (Or.inl ⟨by rfl, ?_⟩) (by assumption) ?_
      rotate_left
      · intro w hSw
        (try dsimp only at hSw)
        go_simp
        try with_reducible rfl
      try simp only [Act.put]
      refine wpAnyH_ready (rs := [4, 13]) (by kernel_rfl) (by simp) ?_
      refine AllReadyH.cons rfl (fun K hK => ?_) (AllReadyH.cons rfl (fun K hK => ?_) AllReadyH.nil)
      · go_simp
        refine hK.out _ _ hHeld (fun hHeld => ?_)
        clear hK K
        try simp only [Act.put, List.setIfInBounds_toArray, List.set_cons_zero, List.set_cons_succ]
        refine wpAnyH_ready (rs := [13]) (by kernel_rfl) (by simp) ?_
        refine AllReadyH.cons rfl (fun K hK => ?_) AllReadyH.nil
        go_simp
        refine hK.out _ _ (by go_keep) (fun hHeld => ?_)
        clear hK K
        try simp only [Act.put, List.setIfInBounds_toArray, List.set_cons_zero, List.set_cons_succ]
        refine wpAnyH_ready (rs := [14]) (by kernel_rfl) (by simp) ?_
        refine AllReadyH.cons rfl (fun K hK => ?_) AllReadyH.nil
        refine step_append_own rfl (.tmp 64) (.tmp 73) 25 rfl base 3 l0 (.int .i64 0) 1 8 Tryz.underlying25 linf lz0 lz1 lz2 rfl (by decide) vm ms.length (ms.map (Value.int .i64)) (by simp [Act.eval]) (World.ownsRow.alloc HM5'.out _) ⟨w5.heap.size, 0, none⟩ 4 4 [.int .i64 z, .int .i64 z, .int .i64 z, .int .i64 z] (by simp [Act.eval]) rfl (one_new w5 #[.int .i64 z, .int .i64 z, .int .i64 z, .int .i64 z] 3) (by intro u hu; simp only [List.mem_cons, List.not_mem_nil, or_false] at hu; rcases hu with rfl | rfl | rfl | rfl <;> rfl) (by unfold maxLen; omega) (by omega) (by simp; omega) ?_
        intro v6 w6 hown6 hgrow
        obtain ⟨q6, p6, rfl⟩ := own_form hown6 (Nat.succ_pos _)
        have HO6 : Hid (w6.ownsRow base 3 1 (.slice (some ⟨q6, 0, none⟩) (ms.length + 4) p6) (ms.length + 4) (ms.map (Value.int .i64) ++ [.int .i64 z, .int .i64 z, .int .i64 z, .int .i64 z])) := hown6
        have HG6 : Hid ((w5.alloc (.cells #[.int .i64 z, .int .i64 z, .int .i64 z, .int .i64 z] 3)).drew.grownBy w6 vm.ownBlock) := hgrow
        have HW6 : Hid (WB w6 g (c1.setIfInBounds 4 (.slice (some ⟨q4, 0, none⟩) (vs.length + 4) p4))) := (HW5.out.alloc _).drew.grown hgrow hgvm
        have e5 : w6.cell? ⟨g, 5, none⟩ = some vm := (HW6.out.cell 5).trans ((Array.getElem?_setIfInBounds_ne (by decide)).trans HC1.out.2)
        have ef : ∀ o, w6.frozen? ⟨g, o, none⟩ = false := fun o => HW6.out.frozen o
        have eb : w6.cell? ⟨w.heap.size, 0, none⟩ = some (.int .i64 z) := (((HB5.out.alloc _).drew.grown hgrow hbvm).cells).1
        clear hown6 hgrow
        refine hK.out _ _ eb (fun hHeld => ?_)
        clear hK K
        try simp only [Act.put, List.setIfInBounds_toArray]
        refine wpAnyH_take (i := 15) (v := ?_) rfl (by kernel_rfl) (by kernel_rfl) (by kernel_rfl) (fun _ _ _ h => h) (Or.inl ⟨by rfl, ?_⟩) (by assumption) ?_
        rotate_left
        · intro w hSw
          (try dsimp only at hSw)
          go_simp
          try with_reducible rfl
        try simp only [Act.put]
        refine wpAnyH_take (i := 16) (v := ?_) rfl (by kernel_rfl) (by kernel_rfl) (by kernel_rfl) (fun _ _ _ h => h) (Or.inl ⟨by rfl, ?_⟩) (by assumption) ?_
        rotate_left
        · intro w hSw
          (try dsimp only at hSw)
          go_simp
          try with_reducible rfl
        try simp only [Act.put]
        refine wpAnyH_ready (rs := [17]) (by kernel_rfl) (by simp) ?_
        refine AllReadyH.cons rfl (fun K hK => ?_) AllReadyH.nil
        go_simp
        refine hK.out _ _ (by go_keep) (fun hHeld => ?_)
        clear hK K
        refine wpAnyH_done (by kernel_rfl) ?_ _
        have HM6 : Hid (∀ u, AllM w5 z u → AllM (w6.setCell ⟨g, 5, none⟩ (.slice (some ⟨q6, 0, none⟩) (ms.length + 4) p6)) z u) := fun u hu => by
          have t1 : Touch (fun k' => some k' = vm.ownBlock) w5 w6 := (((Touch.refl (fun k' => some k' = vm.ownBlock) w5).alloc _).drew).grown HG6.out (fun k' e _ => e.symm)
          have h1 : AllM w6 z u := hu.touch t1 (fun k' cur _ hh e => by
            obtain ⟨cur', hc'⟩ := row_type HM5'.out e.symm
            rw [hc'] at hh; simp at hh)
          exact h1.touch (S := fun k' => k' = g) ((Touch.refl (fun k' => k' = g) w6).setCell (p := ⟨g, 5, none⟩) (fun _ => rfl) _) (fun k' cur _ hh e => by subst e; rw [HW6.out] at hh; simp at hh)
        have HEF : Hid ((w6.setCell ⟨g, 5, none⟩ (.slice (some ⟨q6, 0, none⟩) (ms.length + 4) p6)).ownsRow base 29 1 (.slice (some ⟨q4, 0, none⟩) (vs.length + 4) p4) (vs.length + 4) (vs ++ [.slice a k cp, .slice (some ⟨q1, 0, none⟩) (k + 1) p1, .slice (some ⟨q2, 0, none⟩) (k + 2) p2, .slice (some ⟨q3, 0, none⟩) (k + 3) p3])) :=
          row_setG (World.ownsRow.kept (w := (w5.alloc (.cells #[.int .i64 z, .int .i64 z, .int .i64 z, .int .i64 z] 3)).drew) (World.ownsRow.alloc HE5.out _) HG6.out (types_apart HM5'.out HE5.out (by decide))) hgb
        have HTF : Hid (Touch (fun k' => k' = g ∨ some k' = (Value.slice a k cp).ownBlock ∨ some k' = ve.ownBlock ∨ some k' = vm.ownBlock) w (w6.setCell ⟨g, 5, none⟩ (.slice (some ⟨q6, 0, none⟩) (ms.length + 4) p6))) :=
          (((HT5.out.alloc _).drew).grown HG6.out (fun k' e _ => .inr (.inr (.inr e.symm)))).setCell (p := ⟨g, 5, none⟩) (fun _ => .inl rfl) _
        have HWF : Hid (WB (w6.setCell ⟨g, 5, none⟩ (.slice (some ⟨q6, 0, none⟩) (ms.length + 4) p6)) g ((c1.setIfInBounds 4 (.slice (some ⟨q4, 0, none⟩) (vs.length + 4) p4)).setIfInBounds 5 (.slice (some ⟨q6, 0, none⟩) (ms.length + 4) p6))) := HW6.out.set 5 _
        have HOF : Hid ((w6.setCell ⟨g, 5, none⟩ (.slice (some ⟨q6, 0, none⟩) (ms.length + 4) p6)).ownsRow base 3 1 (.slice (some ⟨q6, 0, none⟩) (ms.length + 4) p6) (ms.length + 4) (ms.map (Value.int .i64) ++ [.int .i64 z, .int .i64 z, .int .i64 z, .int .i64 z])) := row_setG HO6.out hgb
        clear HW6 HO6 HG6 e5 ef eb d5 df b0 bf d5a n1 n2
        go_wp2
        go_end0
        refine ⟨rfl, .slice (some ⟨q4, 0, none⟩) (vs.length + 4) p4, .slice (some ⟨q6, 0, none⟩) (ms.length + 4) p6, [.slice a k cp, .slice (some ⟨q1, 0, none⟩) (k + 1) p1, .slice (some ⟨q2, 0, none⟩) (k + 2) p2, .slice (some ⟨q3, 0, none⟩) (k + 3) p3], ?_, HEF.out, ?_, rfl, ?_, HTF.out, ?_⟩
        · rw [← HCC.out]; exact HWF.out
        · unfold OwnI
          rw [← HZ.out, List.length_append, List.map_append, List.length_replicate]
          exact HOF.out
        · intro u hu
          rw [← HZ.out]
          simp only [List.mem_cons, List.not_mem_nil, or_false] at hu
          rcases hu with rfl | rfl | rfl | rfl
          · exact HM6.out _ HM5.out.1
          · exact HM6.out _ HM5.out.2.1
          · exact HM6.out _ HM5.out.2.2.1
          · exact HM6.out _ HM5.out.2.2.2
        · rcases HD4.out with h | h
          · exact .inl h
          · exact .inr ⟨q4, rfl, h⟩
      · go_simp
        refine hK.out _ _ (by go_keep) (fun hHeld => ?_)
        clear hK K
        try simp only [Act.put, List.setIfInBounds_toArray, List.set_cons_zero, List.set_cons_succ]
        refine wpAnyH_ready (rs := [4]) (by kernel_rfl) (by simp) ?_
        refine AllReadyH.cons rfl (fun K hK => ?_) AllReadyH.nil
        go_simp
        refine hK.out _ _ hHeld (fun hHeld => ?_)
        clear hK K
        try simp only [Act.put, List.setIfInBounds_toArray, List.set_cons_zero, List.set_cons_succ]
        refine wpAnyH_ready (rs := [14]) (by kernel_rfl) (by simp) ?_
        refine AllReadyH.cons rfl (fun K hK => ?_) AllReadyH.nil
        refine step_append_own rfl (.tmp 64) (.tmp 73) 25 rfl base 3 l0 (.int .i64 0) 1 8 Tryz.underlying25 linf lz0 lz1 lz2 rfl (by decide) vm ms.length (ms.map (Value.int .i64)) (by simp [Act.eval]) (World.ownsRow.alloc HM5'.out _) ⟨w5.heap.size, 0, none⟩ 4 4 [.int .i64 z, .int .i64 z, .int .i64 z, .int .i64 z] (by simp [Act.eval]) rfl (one_new w5 #[.int .i64 z, .int .i64 z, .int .i64 z, .int .i64 z] 3) (by intro u hu; simp only [List.mem_cons, List.not_mem_nil, or_false] at hu; rcases hu with rfl | rfl | rfl | rfl <;> rfl) (by unfold maxLen; omega) (by omega) (by simp; omega) ?_
        intro v6 w6 hown6 hgrow
        obtain ⟨q6, p6, rfl⟩ := own_form hown6 (Nat.succ_pos _)
        have HO6 : Hid (w6.ownsRow base 3 1 (.slice (some ⟨q6, 0, none⟩) (ms.length + 4) p6) (ms.length + 4) (ms.map (Value.int .i64) ++ [.int .i64 z, .int .i64 z, .int .i64 z, .int .i64 z])) := hown6
        have HG6 : Hid ((w5.alloc (.cells #[.int .i64 z, .int .i64 z, .int .i64 z, .int .i64 z] 3)).drew.grownBy w6 vm.ownBlock) := hgrow
        have HW6 : Hid (WB w6 g (c1.setIfInBounds 4 (.slice (some ⟨q4, 0, none⟩) (vs.length + 4) p4))) := (HW5.out.alloc _).drew.grown hgrow hgvm
        have e5 : w6.cell? ⟨g, 5, none⟩ = some vm := (HW6.out.cell 5).trans ((Array.getElem?_setIfInBounds_ne (by decide)).trans HC1.out.2)
        have ef : ∀ o, w6.frozen? ⟨g, o, none⟩ = false := fun o => HW6.out.frozen o
        have eb : w6.cell? ⟨w.heap.size, 0, none⟩ = some (.int .i64 z) := (((HB5.out.alloc _).drew.grown hgrow hbvm).cells).1
        clear hown6 hgrow
        refine hK.out _ _ eb (fun hHeld => ?_)
        clear hK K
        try simp only [Act.put, List.setIfInBounds_toArray]
        refine wpAnyH_take (i := 15) (v := ?_) rfl (by kernel_rfl) (by kernel_rfl) (by kernel_rfl) (fun _ _ _ h => h) (Or.inl ⟨by rfl, ?_⟩) (by assumption) ?_
        rotate_left
        · intro w hSw
          (try dsimp only at hSw)
          go_simp
          try with_reducible rfl
        try simp only [Act.put]
        refine wpAnyH_take (i := 16) (v := ?_) rfl (by kernel_rfl) (by kernel_rfl) (by kernel_rfl) (fun _ _ _ h => h) (Or.inl ⟨by rfl, ?_⟩) (by assumption) ?_
        rotate_left
        · intro w hSw
          (try dsimp only at hSw)
          go_simp
          try with_reducible rfl
        try simp only [Act.put]
        refine wpAnyH_ready (rs := [17]) (by kernel_rfl) (by simp) ?_
        refine AllReadyH.cons rfl (fun K hK => ?_) AllReadyH.nil
        go_simp
        refine hK.out _ _ (by go_keep) (fun hHeld => ?_)
        clear hK K
        refine wpAnyH_done (by kernel_rfl) ?_ _
        have HM6 : Hid (∀ u, AllM w5 z u → AllM (w6.setCell ⟨g, 5, none⟩ (.slice (some ⟨q6, 0, none⟩) (ms.length + 4) p6)) z u) := fun u hu => by
          have t1 : Touch (fun k' => some k' = vm.ownBlock) w5 w6 := (((Touch.refl (fun k' => some k' = vm.ownBlock) w5).alloc _).drew).grown HG6.out (fun k' e _ => e.symm)
          have h1 : AllM w6 z u := hu.touch t1 (fun k' cur _ hh e => by
            obtain ⟨cur', hc'⟩ := row_type HM5'.out e.symm
            rw [hc'] at hh; simp at hh)
          exact h1.touch (S := fun k' => k' = g) ((Touch.refl (fun k' => k' = g) w6).setCell (p := ⟨g, 5, none⟩) (fun _ => rfl) _) (fun k' cur _ hh e => by subst e; rw [HW6.out] at hh; simp at hh)
        have HEF : Hid ((w6.setCell ⟨g, 5, none⟩ (.slice (some ⟨q6, 0, none⟩) (ms.length + 4) p6)).ownsRow base 29 1 (.slice (some ⟨q4, 0, none⟩) (vs.length + 4) p4) (vs.length + 4) (vs ++ [.slice a k cp, .slice (some ⟨q1, 0, none⟩) (k + 1) p1, .slice (some ⟨q2, 0, none⟩) (k + 2) p2, .slice (some ⟨q3, 0, none⟩) (k + 3) p3])) :=
          row_setG (World.ownsRow.kept (w := (w5.alloc (.cells #[.int .i64 z, .int .i64 z, .int .i64 z, .int .i64 z] 3)).drew) (World.ownsRow.alloc HE5.out _) HG6.out (types_apart HM5'.out HE5.out (by decide))) hgb
        have HTF : Hid (Touch (fun k' => k' = g ∨ some k' = (Value.slice a k cp).ownBlock ∨ some k' = ve.ownBlock ∨ some k' = vm.ownBlock) w (w6.setCell ⟨g, 5, none⟩ (.slice (some ⟨q6, 0, none⟩) (ms.length + 4) p6))) :=
          (((HT5.out.alloc _).drew).grown HG6.out (fun k' e _ => .inr (.inr (.inr e.symm)))).setCell (p := ⟨g, 5, none⟩) (fun _ => .inl rfl) _
        have HWF : Hid (WB (w6.setCell ⟨g, 5, none⟩ (.slice (some ⟨q6, 0, none⟩) (ms.length + 4) p6)) g ((c1.setIfInBounds 4 (.slice (some ⟨q4, 0, none⟩) (vs.length + 4) p4)).setIfInBounds 5 (.slice (some ⟨q6, 0, none⟩) (ms.length + 4) p6))) := HW6.out.set 5 _
        have HOF : Hid ((w6.setCell ⟨g, 5, none⟩ (.slice (some ⟨q6, 0, none⟩) (ms.length + 4) p6)).ownsRow base 3 1 (.slice (some ⟨q6, 0, none⟩) (ms.length + 4) p6) (ms.length + 4) (ms.map (Value.int .i64) ++ [.int .i64 z, .int .i64 z, .int .i64 z, .int .i64 z])) := row_setG HO6.out hgb
        clear HW6 HO6 HG6 e5 ef eb d5 df b0 bf d5a n1 n2
        go_wp2
        go_end0
        refine ⟨rfl, .slice (some ⟨q4, 0, none⟩) (vs.length + 4) p4, .slice (some ⟨q6, 0, none⟩) (ms.length + 4) p6, [.slice a k cp, .slice (some ⟨q1, 0, none⟩) (k + 1) p1, .slice (some ⟨q2, 0, none⟩) (k + 2) p2, .slice (some ⟨q3, 0, none⟩) (k + 3) p3], ?_, HEF.out, ?_, rfl, ?_, HTF.out, ?_⟩
        · rw [← HCC.out]; exact HWF.out
        · unfold OwnI
          rw [← HZ.out, List.length_append, List.map_append, List.length_replicate]
          exact HOF.out
        · intro u hu
          rw [← HZ.out]
          simp only [List.mem_cons, List.not_mem_nil, or_false] at hu
          rcases hu with rfl | rfl | rfl | rfl
          · exact HM6.out _ HM5.out.1
          · exact HM6.out _ HM5.out.2.1
          · exact HM6.out _ HM5.out.2.2.1
          · exact HM6.out _ HM5.out.2.2.2
        · rcases HD4.out with h | h
          · exact .inl h
          · exact .inr ⟨q4, rfl, h⟩
end Go.Proofs.YtfcgnpchbcmdeaaGreat
