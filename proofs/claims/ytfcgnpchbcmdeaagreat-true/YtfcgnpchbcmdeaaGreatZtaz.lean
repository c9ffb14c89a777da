/-
  Groups as they grow; what is known of features, in memory.
  The contract of layTogether: which features are laid together.
  The contract of put: a number's bits are put into bytes.
  The contract of newDense: a dense column.
-/
import Derived.Test.YtfcgnpchbcmdeaaGreatZtay
import Derived.Test.YtfcgnpchbcmdeaaGreatZtax
import Derived.Deep.RegionHeld3
namespace Go.Proofs.YtfcgnpchbcmdeaaGreat
open Go.RowKit

/-- WHAT IS KNOWN OF A FEATURE. -/
structure KS where
  e : ES
  d : Nat
def k0S : KS := ⟨⟨false, [], []⟩, 0⟩
def KS.many (k : KS) : Nat := k.e.cnt + 2

def cellsKn (k : KS) (v : Value × Value) : List Value := [.bool k.e.wd, v.1, v.2, .int .i64 (k.d : Nat)]
def flatKn : List KS → List (Value × Value) → List Value
  | [], _ => []
  | _ :: _, [] => []
  | k :: Ks, v :: vs => cellsKn k v ++ flatKn Ks vs
theorem flatKn_len : ∀ (Ks : List KS) (vs : List (Value × Value)), vs.length = Ks.length → (flatKn Ks vs).length = Ks.length * 4
  | [], _, _ => rfl
  | k :: Ks, [], h => by simp at h
  | k :: Ks, v :: vs, h => by
    have := flatKn_len Ks vs (by simpa using h)
    simp [flatKn, cellsKn, this]; omega
def vv0 : Value × Value := (.slice none 0 0, .slice none 0 0)
theorem flatKn_get : ∀ (Ks : List KS) (vs : List (Value × Value)), vs.length = Ks.length → ∀ i, i < Ks.length → ∀ c, c < 4 → (flatKn Ks vs)[i * 4 + c]? = (cellsKn (Ks.getD i k0S) (vs.getD i vv0))[c]?
  | [], _, _, i, h => by simp at h
  | k :: Ks, [], h, _, _ => by simp at h
  | k :: Ks, v :: vs, _, 0, _ => fun c hc => by
    simp only [flatKn]
    rw [show 0 * 4 + c = c by omega, List.getElem?_append_left (by simpa [cellsKn] using hc)]; rfl
  | k :: Ks, v :: vs, h, i + 1, hi => fun c hc => by
    simp only [flatKn]
    rw [List.getElem?_append_right (by simp [cellsKn]; omega), show (i + 1) * 4 + c - (cellsKn k v).length = i * 4 + c by simp [cellsKn]; omega]
    exact flatKn_get Ks vs (by simpa using h) i (by simpa using hi) c hc

/-- THE FEATURES THAT ARE KNOWN, in memory. -/
structure KnsX (w : World) (vK : Value) (vs : List (Value × Value)) (Ks : List KS) : Prop where
  row : w.ownsRow 0 172 4 vK Ks.length (flatKn Ks vs)
  len : vs.length = Ks.length
  each : ∀ i, i < Ks.length → OwnI w 0 (vs.getD i vv0).1 (Ks.getD i k0S).e.bs ∧ OwnS w 0 (vs.getD i vv0).2 (Ks.getD i k0S).e.ww

theorem KnsX.touch {S : Nat → Prop} {w w' : World} {vK : Value} {vs : List (Value × Value)} {Ks : List KS} (h : KnsX w vK vs Ks) (t : Touch S w w') (hs : ∀ k cur ty, w.heap[k]? = some (.cells cur ty (0, 0)) → ty = 172 ∨ ty = 3 ∨ ty = 9 → ¬ S k) : KnsX w' vK vs Ks :=
  ⟨t.row h.row (fun k hk => by obtain ⟨cur, hc⟩ := row_type h.row hk; exact hs k _ _ hc (.inl rfl)), h.len, fun i hi => ⟨t.row (h.each i hi).1 (fun k hk => by obtain ⟨cur, hc⟩ := row_type (h.each i hi).1 hk; exact hs k _ _ hc (.inr (.inl rfl))), t.row (h.each i hi).2 (fun k hk => by obtain ⟨cur, hc⟩ := row_type (h.each i hi).2 hk; exact hs k _ _ hc (.inr (.inr rfl)))⟩⟩
theorem KnsX.below {w w' : World} {vK : Value} {vs : List (Value × Value)} {Ks : List KS} (h : KnsX w vK vs Ks) (hb : Below w.heap.size w w') : KnsX w' vK vs Ks :=
  ⟨(Touch.of_below (S := fun _ => False) hb).row h.row (fun _ _ => id), h.len, fun i hi => ⟨(h.each i hi).1.below hb, (h.each i hi).2.below hb⟩⟩
theorem KnsX.at {w : World} {vK : Value} {vs : List (Value × Value)} {Ks : List KS} (h : KnsX w vK vs Ks) {i : Nat} (hi : i < Ks.length) : ∃ q c ab cb aw cw, vK = .slice (some ⟨q, 0, none⟩) Ks.length c ∧ q < w.heap.size ∧ w.cell? ⟨q, i * 4, none⟩ = some (.bool (Ks.getD i k0S).e.wd) ∧
    w.cell? ⟨q, i * 4 + 1, none⟩ = some (.slice ab (Ks.getD i k0S).e.bs.length cb) ∧ w.cell? ⟨q, i * 4 + 2, none⟩ = some (.slice aw (Ks.getD i k0S).e.ww.length cw) ∧ w.cell? ⟨q, i * 4 + 3, none⟩ = some (.int .i64 ((Ks.getD i k0S).d : Nat)) ∧
    OwnI w 0 (.slice ab (Ks.getD i k0S).e.bs.length cb) (Ks.getD i k0S).e.bs ∧ OwnS w 0 (.slice aw (Ks.getD i k0S).e.ww.length cw) (Ks.getD i k0S).e.ww := by
  have hr := h.row
  rcases h.row.2 with ⟨_, h0⟩ | ⟨g, cap, cur, e, hb, hh, hnc, _⟩
  · omega
  · subst e
    obtain ⟨e1, e2⟩ := h.each i hi
    obtain ⟨ab, cb, hab⟩ := e1.shape
    obtain ⟨aw, cw, haw⟩ := e2.form
    rw [hab] at e1
    rw [haw] at e2
    have key : ∀ c u, c < 4 → (cellsKn (Ks.getD i k0S) (vs.getD i vv0))[c]? = some u → w.cell? ⟨g, i * 4 + c, none⟩ = some u := fun c u hc hu => by
      rw [World.ownsRow.cellAt hr (i * 4 + c) (by omega)]
      exact (flatKn_get Ks vs h.len i hi c hc).trans hu
    refine ⟨g, cap, ab, cb, aw, cw, rfl, (Array.getElem?_eq_some_iff.1 hh).1, key 0 _ (by omega) rfl, ?_, ?_, key 3 _ (by omega) rfl, e1, e2⟩
    · rw [← hab]; exact key 1 _ (by omega) rfl
    · rw [← haw]; exact key 2 _ (by omega) rfl

/-- GROUPS, each in blocks of its own, from base on. -/
structure GrpsY (w : World) (base : Nat) (vG : Value) (gbs : List Nat) (Ks : Nat → Nat → Prop) (Gs : List GS) : Prop where
  x : GrpsX w vG gbs Ks Gs
  rk : ∀ i, i < Gs.length → ∀ k, vG.ownBlock = some k → ¬ Ks i k
  rb : ∀ k, vG.ownBlock = some k → base ≤ k
  kb : ∀ i, i < Gs.length → ∀ k, Ks i k → base ≤ k

theorem GrpsX.touch {S : Nat → Prop} {w w' : World} {vG : Value} {gbs : List Nat} {Ks : Nat → Nat → Prop} {Gs : List GS} (h : GrpsX w vG gbs Ks Gs) (t : Touch S w w') (hr : ∀ k, vG.ownBlock = some k → ¬ S k) (hs : ∀ i, i < Gs.length → ∀ k, Ks i k → ¬ S k) : GrpsX w' vG gbs Ks Gs :=
  ⟨t.row h.row hr, h.len, fun i hi => (h.each i hi).touch t (hs i hi), h.apart⟩
theorem GrpsY.touch {S : Nat → Prop} {w w' : World} {base : Nat} {vG : Value} {gbs : List Nat} {Ks : Nat → Nat → Prop} {Gs : List GS} (h : GrpsY w base vG gbs Ks Gs) (t : Touch S w w') (hs : ∀ k, base ≤ k → ¬ S k) : GrpsY w' base vG gbs Ks Gs :=
  ⟨h.x.touch t (fun k hk => hs k (h.rb k hk)) (fun i hi k hk => hs k (h.kb i hi k hk)), h.rk, h.rb, h.kb⟩

/-- One group has changed. -/
theorem GrpsY.put {w w' : World} {base i : Nat} {vG : Value} {gbs : List Nat} {Ks : Nat → Nat → Prop} {Gs : List GS} {K' : Nat → Prop} {G' : GS} (h : GrpsY w base vG gbs Ks Gs) (hi : i < Gs.length) (t : Touch (Ks i) w w') (hg : GrpW w' K' (gbs.getD i 0) G') (hk : ∀ k, K' k → Ks i k ∨ w.heap.size ≤ k) (hbase : base ≤ w.heap.size) :
    GrpsY w' base vG gbs (fun j => if j = i then K' else Ks j) (Gs.set i G') := by
  have hlt : ∀ j, j < Gs.length → ∀ k, Ks j k → k < w.heap.size := fun j hj k hk => by
    obtain ⟨vf, vo, hG⟩ := h.x.each j hj
    exact hG.kl k hk
  refine ⟨⟨?_, ?_, fun j hj => ?_, fun a b ha hb hab k => ?_⟩, fun j hj k hrk => ?_, h.rb, fun j hj k => ?_⟩
  · rw [List.length_set]; exact t.row h.x.row (fun k hk => h.rk i hi k hk)
  · rw [List.length_set]; exact h.x.len
  · rw [List.length_set] at hj
    by_cases e : j = i
    · subst e
      simp only [if_true]
      have : (Gs.set j G').getD j g0S = G' := by simp [List.getD, hj]
      rw [this]; exact hg
    · simp only [if_neg e]
      have : (Gs.set i G').getD j g0S = Gs.getD j g0S := by simp [List.getD, Ne.symm e]
      rw [this]
      exact (h.x.each j hj).touch t (fun k hk => h.x.apart j i hj hi e k hk)
  · rw [List.length_set] at ha hb
    by_cases ea : a = i
    · have eb : b ≠ i := fun e => hab (ea.trans e.symm)
      simp only [if_pos ea, if_neg eb]
      intro h1 h2
      rcases hk k h1 with h3 | h3
      · exact h.x.apart i b hi hb (fun e => eb e.symm) k h3 h2
      · have := hlt b hb k h2; omega
    · by_cases eb : b = i
      · simp only [if_neg ea, if_pos eb]
        intro h1 h2
        rcases hk k h2 with h3 | h3
        · exact h.x.apart a i ha hi ea k h1 h3
        · have := hlt a ha k h1; omega
      · simp only [if_neg ea, if_neg eb]
        exact h.x.apart a b ha hb hab k
  · rw [List.length_set] at hj
    by_cases e : j = i
    · simp only [if_pos e]
      intro h1
      rcases hk k h1 with h3 | h3
      · exact h.rk i hi k hrk h3
      · have := (World.ownsRow.lt h.x.row k hrk).2; omega
    · simp only [if_neg e]
      exact h.rk j hj k hrk
  · rw [List.length_set] at hj
    by_cases e : j = i
    · simp only [if_pos e]
      intro h1
      rcases hk k h1 with h3 | h3
      · exact h.kb i hi k h3
      · omega
    · simp only [if_neg e]
      exact h.kb j hj k

/-- One group more. -/
theorem GrpsY.snoc {w w' : World} {base gb : Nat} {vG vG' : Value} {gbs : List Nat} {Ks : Nat → Nat → Prop} {Gs : List GS} {K' : Nat → Prop} {G' : GS} (h : GrpsY w base vG gbs Ks Gs) (hr : w'.ownsRow 0 313 1 vG' (Gs.length + 1) (gbs.map ptrV ++ [ptrV gb])) (hg : w.grownBy w' vG.ownBlock)
    (hd : vG'.ownBlock = vG.ownBlock ∨ ∃ N, vG'.ownBlock = some N ∧ w.heap.size ≤ N) (hG : GrpW w K' gb G') (hk : ∀ i, i < Gs.length → ∀ k, Ks i k → ¬ K' k) (hkr : ∀ k, vG.ownBlock = some k → ¬ K' k) (hkb : ∀ k, K' k → base ≤ k) (hbase : base ≤ w.heap.size) :
    GrpsY w' base vG' (gbs ++ [gb]) (fun j => if j = Gs.length then K' else Ks j) (Gs ++ [G']) := by
  have hlt : ∀ j, j < Gs.length → ∀ k, Ks j k → k < w.heap.size := fun j hj k hk => by
    obtain ⟨vf, vo, hG⟩ := h.x.each j hj
    exact hG.kl k hk
  have hltK : ∀ k, K' k → k < w.heap.size := fun k hk => by
    obtain ⟨vf, vo, hG⟩ := hG
    exact hG.kl k hk
  have t : Touch (fun k => vG.ownBlock = some k) w w' := (Touch.refl _ w).grown hg (fun k hk _ => hk)
  have hlen := h.x.len
  refine ⟨⟨?_, ?_, fun j hj => ?_, fun a b ha hb hab k => ?_⟩, fun j hj k hrk => ?_, fun k hrk => ?_, fun j hj k => ?_⟩
  · rw [List.length_append, List.map_append]; exact hr
  · simp [hlen]
  · rw [List.length_append] at hj
    simp at hj
    by_cases e : j = Gs.length
    · subst e
      simp only [if_true]
      have e1 : (Gs ++ [G']).getD Gs.length g0S = G' := by simp [List.getD]
      have e2 : (gbs ++ [gb]).getD Gs.length 0 = gb := by simp [List.getD, ← hlen]
      rw [e1, e2]
      exact hG.touch t (fun k hk hr => hkr k hr hk)
    · have hj2 : j < Gs.length := by omega
      simp only [if_neg e]
      have e1 : (Gs ++ [G']).getD j g0S = Gs.getD j g0S := by simp [List.getD, List.getElem?_append_left hj2]
      have e2 : (gbs ++ [gb]).getD j 0 = gbs.getD j 0 := by simp [List.getD, List.getElem?_append_left (show j < gbs.length by omega)]
      rw [e1, e2]
      exact (h.x.each j hj2).touch t (fun k hk hr => h.rk j hj2 k hr hk)
  · rw [List.length_append] at ha hb
    simp at ha hb
    by_cases ea : a = Gs.length
    · have eb : b ≠ Gs.length := fun e => hab (ea.trans e.symm)
      simp only [if_pos ea, if_neg eb]
      intro h1 h2
      exact hk b (by omega) k h2 h1
    · by_cases eb : b = Gs.length
      · simp only [if_neg ea, if_pos eb]
        intro h1 h2
        exact hk a (by omega) k h1 h2
      · simp only [if_neg ea, if_neg eb]
        exact h.x.apart a b (by omega) (by omega) hab k
  · rw [List.length_append] at hj
    simp at hj
    rcases hd with e1 | ⟨N, e1, e2⟩
    · rw [e1] at hrk
      by_cases e : j = Gs.length
      · simp only [if_pos e]; exact hkr k hrk
      · simp only [if_neg e]; exact h.rk j (by omega) k hrk
    · rw [e1] at hrk
      injection hrk with hrk
      subst hrk
      by_cases e : j = Gs.length
      · simp only [if_pos e]; intro h1; have := hltK _ h1; omega
      · simp only [if_neg e]; intro h1; have := hlt j (by omega) _ h1; omega
  · rcases hd with e1 | ⟨N, e1, e2⟩
    · rw [e1] at hrk; exact h.rb k hrk
    · rw [e1] at hrk
      injection hrk with hrk
      omega
  · rw [List.length_append] at hj
    simp at hj
    by_cases e : j = Gs.length
    · simp only [if_pos e]; exact hkb k
    · simp only [if_neg e]; exact h.kb j (by omega) k
end Go.Proofs.YtfcgnpchbcmdeaaGreat

namespace Go.Proofs.YtfcgnpchbcmdeaaGreat
open Go.RowKit

def newG (n : Nat) : GS := ⟨[], List.replicate n false, 0, 0⟩
def layStep (Ks : List KS) (Os : List (List Bool)) (n budget : Nat) (Gs : List GS) (f : Nat) : List GS :=
  if Gs.findIdx (roomG (Os.getD f []) (Ks.getD f k0S).many budget) < Gs.length then Gs.set (Gs.findIdx (roomG (Os.getD f []) (Ks.getD f k0S).many budget)) (addG (Gs.getD (Gs.findIdx (roomG (Os.getD f []) (Ks.getD f k0S).many budget)) g0S) f (Os.getD f []) (Ks.getD f k0S).many)
  else Gs ++ [addG (newG n) f (Os.getD f []) (Ks.getD f k0S).many]
def layF (m : Nat) (Ks : List KS) (Os : List (List Bool)) (n budget : Nat) : List GS := (ordF m Os).foldl (layStep Ks Os n budget) []

/-- What holds of groups behind k features. -/
structure GInv (n k : Nat) (Gs : List GS) : Prop where
  len : Gs.length ≤ k
  each : ∀ G ∈ Gs, G.out.length = n ∧ G.conf ≤ 400 ∧ G.bins ≤ 400 ∧ G.fs.length ≤ k

theorem confN_le {a b : List Bool} (h : a.length = b.length) : confN a b ≤ b.length := by
  have := cntT_le (bothL a b)
  rw [bothL_len h] at this
  exact this

theorem GInv.step {n k budget : Nat} {Ks : List KS} {Os : List (List Bool)} {Gs : List GS} {f : Nat} (h : GInv n k Gs) (hO : (Os.getD f []).length = n) (hn : n ≤ 200) (hb : budget ≤ 20) (hm : (Ks.getD f k0S).many ≤ 100) : GInv n (k + 1) (layStep Ks Os n budget Gs f) := by
  unfold layStep
  split
  · rename_i hi
    have hroom := List.findIdx_getElem (w := hi)
    generalize Gs.findIdx (roomG (Os.getD f []) (Ks.getD f k0S).many budget) = i at *
    have eG : Gs.getD i g0S = Gs[i] := by simp [List.getD, hi]
    rw [eG]
    obtain ⟨g1, g2, g3, g4⟩ := h.each Gs[i] (List.getElem_mem hi)
    simp only [roomG, Bool.and_eq_true, decide_eq_true_eq] at hroom
    refine ⟨by rw [List.length_set]; have := h.len; omega, fun G hG => ?_⟩
    rcases List.mem_or_eq_of_mem_set hG with hG | rfl
    · obtain ⟨a1, a2, a3, a4⟩ := h.each G hG
      exact ⟨a1, a2, a3, by omega⟩
    · refine ⟨?_, ?_, ?_, ?_⟩
      · show (orL _ _).length = n
        rw [orL_len (by omega)]; exact g1
      · show Gs[i].conf + confN Gs[i].out (Os.getD f []) ≤ 400
        omega
      · show Gs[i].bins + _ ≤ 400
        omega
      · show (Gs[i].fs ++ [f]).length ≤ k + 1
        simp; omega
  · refine ⟨by rw [List.length_append]; have := h.len; simp; omega, fun G hG => ?_⟩
    rcases List.mem_append.1 hG with hG | hG
    · obtain ⟨a1, a2, a3, a4⟩ := h.each G hG
      exact ⟨a1, a2, a3, by omega⟩
    · simp only [List.mem_cons, List.not_mem_nil, or_false] at hG
      subst hG
      have hl : (newG n).out.length = (Os.getD f []).length := by rw [hO]; exact List.length_replicate
      refine ⟨?_, ?_, ?_, ?_⟩
      · show (orL _ _).length = n
        rw [orL_len hl]; simp [newG]
      · show 0 + confN (newG n).out (Os.getD f []) ≤ 400
        have := confN_le hl; omega
      · show 0 + _ ≤ 400
        omega
      · show ([] ++ [f]).length ≤ k + 1
        simp
theorem GInv.ok {n k : Nat} {Gs : List GS} (h : GInv n k Gs) (hk : k ≤ 100) : ∀ G ∈ Gs, GOk n G := fun G hG => by
  obtain ⟨a1, a2, a3, a4⟩ := h.each G hG
  exact ⟨a1, by omega, by omega, by omega⟩

theorem KnsX.at2 {w : World} {q n c : Nat} {vs : List (Value × Value)} {Ks : List KS} (h : KnsX w (.slice (some ⟨q, 0, none⟩) n c) vs Ks) {i : Nat} (hi : i < Ks.length) : ∃ ab cb aw cw, q < w.heap.size ∧ w.cell? ⟨q, i * 4, none⟩ = some (.bool (Ks.getD i k0S).e.wd) ∧
    w.cell? ⟨q, i * 4 + 1, none⟩ = some (.slice ab (Ks.getD i k0S).e.bs.length cb) ∧ w.cell? ⟨q, i * 4 + 2, none⟩ = some (.slice aw (Ks.getD i k0S).e.ww.length cw) ∧ w.cell? ⟨q, i * 4 + 3, none⟩ = some (.int .i64 ((Ks.getD i k0S).d : Nat)) ∧
    OwnI w 0 (.slice ab (Ks.getD i k0S).e.bs.length cb) (Ks.getD i k0S).e.bs ∧ OwnS w 0 (.slice aw (Ks.getD i k0S).e.ww.length cw) (Ks.getD i k0S).e.ww := by
  obtain ⟨q', c', ab, cb, aw, cw, e, r⟩ := h.at hi
  injection e with e _ _
  injection e with e
  injection e with e _
  subst e
  exact ⟨ab, cb, aw, cw, r⟩
theorem OutsX.at2 {w : World} {q n c : Nat} {vs : List Value} {Os : List (List Bool)} (h : OutsX w (.slice (some ⟨q, 0, none⟩) n c) vs Os) {i : Nat} (hi : i < Os.length) : q < w.heap.size ∧ w.cell? ⟨q, i, none⟩ = some (vs.getD i (.slice none 0 0)) := by
  obtain ⟨q', c', e, r⟩ := h.at hi
  injection e with e _ _
  injection e with e
  injection e with e _
  subst e
  exact r

theorem info313 : (Tryz.prog.info? 313).map (fun i => (i.zero, i.size, i.bytes)) = some (some (.pointer none), 1, 8) := by kernel_rfl

theorem KS.many_eq (k : KS) : ((cntE k.e.wd k.e.bs.length k.e.ww.length : Nat) : Int) + 2 = ((k.many : Nat) : Int) := by
  unfold KS.many ES.cnt
  omega

/-- Groups that were laid together, from N on. -/
def Laid (w : World) (N : Nat) (v : Value) (Gs : List GS) : Prop := ∃ base gbs Kk, N ≤ base ∧ GrpsY w base v gbs Kk Gs

set_option maxRecDepth 100000 in
set_option maxHeartbeats 4000000 in
theorem layTogether_any (m n budget qk kc qo oc : Nat) (vs : List (Value × Value)) (os : List Value) (Ks : List KS) (Os : List (List Bool)) (w : World) (hm : m + 1 ≤ 4) (hKl : Ks.length = m + 1) (hOl : Os.length = m + 1) (hK : KnsX w (.slice (some ⟨qk, 0, none⟩) (m + 1) kc) vs Ks) (hO : OutsX w (.slice (some ⟨qo, 0, none⟩) (m + 1) oc) os Os) (hl : ∀ O ∈ Os, O.length = n) (hn : n ≤ 200) (hb : budget ≤ 20) (hcn : ∀ K ∈ Ks, K.many ≤ 100) :
    Calls Tryz.prog 206 #[.slice (some ⟨qk, 0, none⟩) (m + 1) kc, .slice (some ⟨qo, 0, none⟩) (m + 1) oc, .int .i64 budget] w fun e w' => ∃ v, e = .returned v ∧ Laid w'  w.heap.size v (layF m Ks Os n budget) ∧ Below w.heap.size w w' := by
  have HBY : Hid (Calls Tryz.prog 254 #[.slice (some ⟨qo, 0, none⟩) (m + 1) oc] w fun e w' => ∃ v, e = .returned v ∧ OwnI w' w.heap.size v (natI (ordF m Os)) ∧ Below w.heap.size w w') := byStandingOut_any m qo oc n os Os w hm hOl hO hl hn
  have HH : Hid (KnsX w (.slice (some ⟨qk, 0, none⟩) (m + 1) kc) vs Ks ∧ OutsX w (.slice (some ⟨qo, 0, none⟩) (m + 1) oc) os Os ∧ Ks.length = m + 1 ∧ Os.length = m + 1 ∧ (∀ O ∈ Os, O.length = n) ∧ ∀ K ∈ Ks, K.many ≤ 100) := ⟨hK, hO, hKl, hOl, hl, hcn⟩
  have HOL : Hid ((ordF m Os).length = m + 1 ∧ ∀ f ∈ ordF m Os, f < m + 1) := ⟨ordF_len m Os, ordF_lt m Os⟩
  obtain ⟨j0, jinf, jz0, jz1, jz2⟩ := info_parts info313
  clear hKl hOl hK hO hl hcn
  go_enter Tryz.func206, Tryz.ntmps206
  go_wp2_with fail
  refine HBY.out.mono ?_
  rintro e w1 ⟨vord, rfl, hord, hb1⟩
  obtain ⟨oa, occ, hvo⟩ := hord.shape
  rw [natI_len, HOL.out.1] at hvo
  subst hvo
  obtain ⟨qr, hqr, hqrl, hqrb, _, _⟩ := hord.atK (k := 0) (by rw [natI_len]; exact HOL.out.1) (by omega)
  subst hqr
  have hs1 := hb1.size
  have HORD : Hid (OwnI w1 w.heap.size (.slice (some ⟨qr, 0, none⟩) (m + 1) occ) (natI (ordF m Os))) := hord
  have HB1 : Hid (Below w.heap.size w w1) := hb1
  have HLAY : Hid (layF m Ks Os n budget = (ordF m Os).foldl (layStep Ks Os n budget) []) := rfl
  clear hord hb1 HBY
  generalize ordF m Os = ord at *
  go_wp2_with fail
  go_loopw [15, 7] (fun ti tG wr => ∃ (k : Nat) (gbs : List Nat) (Kk : Nat → Nat → Prop), ti = .int .i64 k ∧ k ≤ m + 1 ∧ Hid (GrpsY wr w1.heap.size tG gbs Kk ((ord.take k).foldl (layStep Ks Os n budget) []) ∧ GInv n k ((ord.take k).foldl (layStep Ks Os n budget) [])) ∧ Hid (Below w1.heap.size w1 wr)) (fun ti _ _ => m + 1 - (intOf ti).toNat)
  case atStart =>
    refine ⟨0, [], fun _ _ => False, rfl, Nat.zero_le _, ⟨⟨⟨World.ownsRow_nil _ _ _ _, rfl, (fun i hi => by simp at hi), (fun i j hi => by simp at hi)⟩, (fun i hi => by simp at hi), (fun k hk => by simp [Value.ownBlock] at hk), (fun i hi => by simp at hi)⟩, ⟨by simp, by simp⟩⟩, Below.refl _ _⟩
  case round =>
    obtain ⟨k, gbs, Kk, rfl, hk, HG, HB⟩ := hrel
    have hsz := HB.out.size
    by_cases hkm : k < m + 1
    · have hkl : k < ord.length := by rw [HOL.out.1]; exact hkm
      have hfm : ord.getD k 0 < m + 1 := by
        have : ord.getD k 0 = ord[k] := by simp [List.getD, hkl]
        rw [this]; exact HOL.out.2 _ (List.getElem_mem hkl)
      have hfold : (ord.take (k + 1)).foldl (layStep Ks Os n budget) [] = layStep Ks Os n budget ((ord.take k).foldl (layStep Ks Os n budget) []) (ord.getD k 0) := by
        rw [List.take_succ_eq_append_getElem hkl, List.foldl_append]
        simp [List.getD, hkl]
      have HNX : Hid ((ord.take (k + 1)).foldl (layStep Ks Os n budget) [] = layStep Ks Os n budget ((ord.take k).foldl (layStep Ks Os n budget) []) (ord.getD k 0)) := hfold
      have hc0 : wr.cell? ⟨qr, k, none⟩ = some (.int .i64 ((ord.getD k 0 : Nat) : Int)) := by
        have := (HORD.out.cellK (by rw [natI_len]; exact HOL.out.1.symm) hkm).1
        rw [natI_getD] at this
        exact (HB.out.cell (p := ⟨qr, k, none⟩) hqrl).trans this
      clear hfold
      generalize ord.getD k 0 = f at *
      generalize (ord.take k).foldl (layStep Ks Os n budget) [] = Gs at *
      have hbw : Below w.heap.size w wr := HB1.out.trans (HB.out.mono hs1)
      have hKw := HH.out.1.below hbw
      have hOw := HH.out.2.1.below hbw
      obtain ⟨ab, cb, aw, cw, hqkl, k0, k1, k2, k3, _, _⟩ := hKw.at2 (i := f) (by rw [HH.out.2.2.1]; exact hfm)
      obtain ⟨hqol, o0⟩ := hOw.at2 (i := f) (by rw [HH.out.2.2.2.1]; exact hfm)
      have hOf := hOw.each f (by rw [HH.out.2.2.2.1]; exact hfm)
      have hOfl : (Os.getD f []).length = n := HH.out.2.2.2.2.1 _ (by simp [List.getD, show f < Os.length by rw [HH.out.2.2.2.1]; exact hfm])
      have hmany : (Ks.getD f k0S).many ≤ 100 := HH.out.2.2.2.2.2 _ (by simp [List.getD, show f < Ks.length by rw [HH.out.2.2.1]; exact hfm])
      obtain ⟨fa, fc, hfv⟩ := hOf.shape
      rw [hfv] at o0 hOf
      rw [hOfl] at o0 hOf
      have HMN := KS.many_eq (Ks.getD f k0S)
      have HHM : Hid (∀ W : World, Calls Tryz.prog 146 #[.agg #[.bool (Ks.getD f k0S).e.wd, .slice ab (Ks.getD f k0S).e.bs.length cb, .slice aw (Ks.getD f k0S).e.ww.length cw]] W fun e w' => e = .returned (.int .i64 (((Ks.getD f k0S).many : Nat) : Int)) ∧ Below W.heap.size W w') := fun W => by
        rw [← HMN]
        exact howMany_any _ ab aw _ cb _ cw W (by unfold KS.many ES.cnt at hmany; omega)
      have HOF : Hid (OwnO wr 0 (.slice fa n fc) (Os.getD f []) ∧ (Os.getD f []).length = n) := ⟨hOf, hOfl⟩
      have HSTEP : Hid (layStep Ks Os n budget Gs f = if Gs.findIdx (roomG (Os.getD f []) (Ks.getD f k0S).many budget) < Gs.length then Gs.set (Gs.findIdx (roomG (Os.getD f []) (Ks.getD f k0S).many budget)) (addG (Gs.getD (Gs.findIdx (roomG (Os.getD f []) (Ks.getD f k0S).many budget)) g0S) f (Os.getD f []) (Ks.getD f k0S).many) else Gs ++ [addG (newG n) f (Os.getD f []) (Ks.getD f k0S).many]) := rfl
      have HINV : Hid (GInv n (k + 1) (layStep Ks Os n budget Gs f)) := HG.out.2.step hOfl hn hb hmany
      have hfaw : ∀ q, fa = some ⟨q, 0, none⟩ → q < w.heap.size := fun q hq => by
        have h0 := HH.out.2.1.each f (by rw [HH.out.2.2.2.1]; exact hfm)
        rw [hfv, hq] at h0
        exact (World.ownsRow.lt h0 q rfl).2
      clear hKw hOw hfv HMN k3 hOf hOfl hbw
      generalize Ks.getD f k0S = Kf at *
      generalize Os.getD f [] = Of at *
      generalize Kf.e.wd = kwd at *
      generalize Kf.e.bs.length = knb at *
      generalize Kf.e.ww.length = knw at *
      generalize Kf.many = km at *
      generalize layStep Ks Os n budget Gs f = Gs' at *
      obtain ⟨ga, gc, hgv⟩ := HG.out.1.x.form
      subst hgv
      have bk1 : (0 : Int) ≤ (k : Int) := by omega
      have bk2 : (k : Int) < (m : Int) + 1 := by omega
      have bf1 : (0 : Int) ≤ (f : Int) := by omega
      have bf2 : (f : Int) < (m : Int) + 1 := by omega
      go_wp2_with fail
      refine (HHM.out _).mono ?_
      rintro e w2 ⟨rfl, hb2⟩
      have hs2 := hb2.size
      have o2 : w2.cell? ⟨qo, f, none⟩ = some (.slice fa n fc) := (hb2.cell (p := ⟨qo, f, none⟩) hqol).trans o0
      have HG2 : Hid (GrpsY w2 w1.heap.size (.slice ga Gs.length gc) gbs Kk Gs) := by
        refine HG.out.1.touch (S := fun _ => False) (Touch.of_below hb2) (fun _ _ => id)
      have HOF2 : Hid (OwnO w2 0 (.slice fa n fc) Of ∧ Of.length = n) := ⟨HOF.out.1.below hb2, HOF.out.2⟩
      have HB2 : Hid (Below w1.heap.size w1 w2) := HB.out.trans (hb2.mono hsz)
      have HOK : Hid (GInv n k Gs) := HG.out.2
      have HFW : Hid (Calls Tryz.prog 255 #[.slice ga Gs.length gc, .slice fa n fc, .int .i64 km, .int .i64 budget] w2 fun e w' => e = .returned (fwrV gbs Gs.length (Gs.findIdx (roomG Of km budget))) ∧ Below w2.heap.size w2 w') := firstWithRoom_any ga fa gc n fc km budget gbs Kk Gs Of w2 HG2.out.x (HOK.out.ok (by omega)) HOF2.out.1 HOF2.out.2 hn (by omega) (by have := HOK.out.len; omega)
      clear HG HOF HB hb2 k0 k1 k2 o0 hc0
      generalize hgl : Gs.length = gl at *
      have HGL : Hid (Gs.length = gl) := hgl
      clear hgl
      go_wp2_with fail
      refine HFW.out.mono ?_
      rintro e w3 ⟨rfl, hb3⟩
      have hs3 := hb3.size
      have o3 : w3.cell? ⟨qo, f, none⟩ = some (.slice fa n fc) := (hb3.cell (p := ⟨qo, f, none⟩) (by show qo < _; omega)).trans o2
      have HG3 : Hid (GrpsY w3 w1.heap.size (.slice ga gl gc) gbs Kk Gs) := HG2.out.touch (S := fun _ => False) (Touch.of_below hb3) (fun _ _ => id)
      have HOF3 : Hid (OwnO w3 0 (.slice fa n fc) Of ∧ Of.length = n) := ⟨HOF2.out.1.below hb3, HOF2.out.2⟩
      have HB3 : Hid (Below w1.heap.size w1 w3) := HB2.out.trans (hb3.mono (by omega))
      clear HG2 HOF2 HB2 HFW hb3 o2
      generalize Gs.findIdx (roomG Of km budget) = ix at *
      by_cases hix : ix < gl
      · have hfv : fwrV gbs gl ix = .pointer (some ⟨gbs.getD ix 0, 0, none⟩) := by unfold fwrV; rw [if_pos hix]; rfl
        rw [hfv]
        obtain ⟨vf, vo, hGK⟩ := HG3.out.x.each ix (by rw [HGL.out]; exact hix)
        have hok := HOK.out.ok (by omega) (Gs.getD ix g0S) (by simp [List.getD, show ix < Gs.length by rw [HGL.out]; exact hix])
        have HAD : Hid (Calls Tryz.prog 256 #[.pointer (some ⟨gbs.getD ix 0, 0, none⟩), .int .i64 f, .slice fa n fc, .int .i64 km] w3 fun e w' => e = .returned (.tuple #[]) ∧ (∃ K', GrpW w' K' (gbs.getD ix 0) (addG (Gs.getD ix g0S) f Of km) ∧ ∀ k, K' k → Kk ix k ∨ w3.heap.size ≤ k) ∧ Touch (Kk ix) w3 w') :=
          add_any (Kk ix) _ f km vf vo fa n fc Of _ w3 hGK HOF3.out.1 hok.out HOF3.out.2 hn hok.conf hok.bins (by omega) hok.fs (fun q hq h1 => by
            have h2 := HG3.out.kb ix (by rw [HGL.out]; exact hix) q h1
            have h3 : fa = some ⟨q, 0, none⟩ := by
              rcases HOF3.out.1.2 with ⟨e, _⟩ | ⟨g, cap, cur, e, _⟩
              · rw [e] at hq; cases hq
              · injection e with e _ _
                rw [e] at hq ⊢
                simp [Value.ownBlock] at hq
                rw [hq]
            have := hfaw q h3
            omega)
        have HST2 : Hid (Gs' = Gs.set ix (addG (Gs.getD ix g0S) f Of km)) := by
          have := HSTEP.out
          rw [if_pos hix] at this
          exact this
        clear hGK hok hfv
        obtain ⟨gb, hgb⟩ : ∃ gb, gb = gbs.getD ix 0 := ⟨_, rfl⟩
        have HGB : Hid (gb = gbs.getD ix 0) := hgb
        rw [← hgb] at HAD ⊢
        clear hgb
        go_wp2_with fail
        refine HAD.out.mono ?_
        rintro e w4 ⟨rfl, ⟨K', hG', hK'⟩, t4⟩
        have HF : Hid (GrpsY w4 w1.heap.size (.slice ga gl gc) gbs (fun j => if j = ix then K' else Kk j) ((ord.take (k + 1)).foldl (layStep Ks Os n budget) [])) := by
          rw [HNX.out, HST2.out]
          exact HG3.out.put (by rw [HGL.out]; exact hix) t4 (by rw [← HGB.out]; exact hG') hK' (by omega)
        have HBF : Hid (Below w1.heap.size w1 w4) := by
          have h3 := HB3.out
          exact ⟨t4.os.trans h3.os, t4.tape.trans h3.tape, t4.output.trans h3.output, Nat.le_trans h3.size t4.size, fun q hq => (t4.block q (by omega) (fun h => by have := HG3.out.kb ix (by rw [HGL.out]; exact hix) q h; omega)).trans (h3.block q hq)⟩
        have HIN : Hid (GInv n (k + 1) ((ord.take (k + 1)).foldl (layStep Ks Os n budget) [])) := by rw [HNX.out]; exact HINV.out
        clear hG' hK' t4 HAD HG3 HB3 HOF3 o3
        go_wp2
        go_roundw
        case rel => exact ⟨k + 1, gbs, _, by go_num, by omega, ⟨HF.out, HIN.out⟩, HBF⟩
        case measure => simp [intOf]; omega
      · have hfv : fwrV gbs gl ix = .pointer none := by unfold fwrV; rw [if_neg hix]
        rw [hfv]
        have HST2 : Hid (Gs' = Gs ++ [addG (newG n) f Of km]) := by
          have := HSTEP.out
          rw [if_neg hix] at this
          exact this
        have hmk := make_flags n (by omega)
        clear hfv
        have HROW : Hid (w3.ownsRow 0 313 1 (.slice ga gl gc) gl (gbs.map ptrV)) := by have := HG3.out.x.row; rw [HGL.out] at this; exact this
        go_wp2_with (at_builtin; refine wpList_append_mark rfl (.tmp 43) (.tmp 45) 311 rfl 0 313 j0 (.pointer none) 1 8 Tryz.underlying311 jinf jz0 jz1 jz2 rfl (by decide) _ gl (gbs.map ptrV) rfl (((HROW.out.alloc _).alloc _).alloc _) ⟨w3.heap.size + 1 + 1, 0, none⟩ 1 1 [.pointer (some ⟨w3.heap.size + 1, 0, none⟩)] rfl rfl ?_ ?_ ?_ ?_ ?_ ?_ ?_)
        · intro j u hj
          cases j with
          | zero => simp at hj; subst hj; simp [go_sem, Addr.add]
          | succ j => simp at hj
        · intro u hu; simp at hu; subst hu; rfl
        · decide
        · unfold maxLen; have := HOK.out.len; have := HGL.out; omega
        · have := HOK.out.len; have := HGL.out; omega
        · omega
        intro v4 w4 H4
        obtain ⟨r4, g4, d4, _, _⟩ := H4.out
        obtain ⟨wx, hwx⟩ : ∃ wx, wx = ((w3.alloc (.cells (madeCells #[.bool false] n) 4)).alloc (.cells #[.slice none 0 0, .slice (some ⟨w3.heap.size, 0, none⟩) n n, .int .i64 0, .int .i64 0] 351)).alloc (.cells #[.pointer (some ⟨w3.heap.size + 1, 0, none⟩)] 313) := ⟨_, rfl⟩
        rw [← hwx] at g4 d4
        have hxs : wx.heap.size = w3.heap.size + 1 + 1 + 1 := by rw [hwx]; simp
        have hbx : Below w3.heap.size w3 wx := by rw [hwx]; exact (((Below.refl _ _).alloc (Nat.le_refl _) _).alloc (by simp) _).alloc (by simp; omega) _
        have hGx : GrpsY wx w1.heap.size (.slice ga gl gc) gbs Kk Gs := HG3.out.touch (S := fun _ => False) (Touch.of_below hbx) (fun _ _ => id)
        have hflag : OwnO (w3.alloc (.cells (madeCells #[.bool false] n) 4)) 0 (.slice (some ⟨w3.heap.size, 0, none⟩) n n) (List.replicate n false) := made_flags n w3 0 (by omega) (Nat.zero_le _)
        have hnew : GrpW wx (fun q => q = w3.heap.size ∨ q = w3.heap.size + 1) (w3.heap.size + 1) (newG n) := by
          refine ⟨.slice none 0 0, .slice (some ⟨w3.heap.size, 0, none⟩) n n, ⟨?_, OwnI.nil _ _, ?_, .inr rfl, fun q hq => by simp [Value.ownBlock] at hq, fun q hq => by simp [Value.ownBlock] at hq; exact .inl hq.symm, fun q hq => by rcases hq with e | e <;> omega⟩⟩
          · rw [hwx]
            have := heap_alloc_new (w3.alloc (.cells (madeCells #[.bool false] n) 4)) (.cells #[.slice none 0 0, .slice (some ⟨w3.heap.size, 0, none⟩) n n, .int .i64 0, .int .i64 0] 351)
            rw [show (w3.alloc (.cells (madeCells #[.bool false] n) 4)).heap.size = w3.heap.size + 1 by simp] at this
            exact (Below.heap_alloc _ _ _ (by simp)).trans this
          · rw [hwx]; exact (hflag.alloc _).alloc _
        have hGY : GrpsY w4 w1.heap.size v4 (gbs ++ [w3.heap.size + 1]) (fun j => if j = Gs.length then (fun q => q = w3.heap.size ∨ q = w3.heap.size + 1) else Kk j) (Gs ++ [newG n]) := by
          refine hGx.snoc (by rw [HGL.out]; exact r4) g4 ?_ hnew (fun i hi q hq h1 => ?_) (fun q hq h1 => ?_) (fun q hq => by rcases hq with e | e <;> omega) (by omega)
          · rcases d4 with e | e
            · exact .inl e
            · exact .inr ⟨_, e.1, by omega⟩
          · obtain ⟨vf, vo, hG⟩ := HG3.out.x.each i hi
            have := hG.kl q hq
            rcases h1 with e | e <;> omega
          · have := (World.ownsRow.lt HROW.out q hq).2
            rcases h1 with e | e <;> omega
        have hb4 : Below w3.heap.size w3 wx := hbx
        have t34 : Touch (fun q => (Value.slice ga gl gc).ownBlock = some q) w3 w4 := (Touch.of_below hbx).trans ((Touch.refl _ wx).grown g4 (fun q hq _ => hq))
        have hs4 : w3.heap.size + 1 + 1 + 1 ≤ w4.heap.size := by rw [← hxs]; exact g4.size
        have o4 : w4.cell? ⟨qo, f, none⟩ = some (.slice fa n fc) := by
          have : w4.heap[qo]? = w3.heap[qo]? := t34.block qo (by omega) (fun hq => by
            obtain ⟨cur, hc⟩ := row_type HROW.out hq
            have h1 := HG3.out.rb qo hq
            have := HH.out.2.1.at2 (i := f) (by rw [HH.out.2.2.2.1]; exact hfm)
            omega)
          rw [World.cell?_of_block (a := ⟨qo, f, none⟩) this]
          exact o3
        have hOF4 : OwnO w4 0 (.slice fa n fc) Of := t34.row HOF3.out.1 (fun q hq h1 => by
          have h2 := HG3.out.rb q h1
          have h3 : fa = some ⟨q, 0, none⟩ := by
            rcases HOF3.out.1.2 with ⟨e, _⟩ | ⟨g, cap, cur, e, _⟩
            · rw [e] at hq; cases hq
            · injection e with e _ _
              rw [e] at hq ⊢
              simp [Value.ownBlock] at hq
              rw [hq]
          have := hfaw q h3
          omega)
        obtain ⟨vf, vo, hGK⟩ := hGY.x.each Gs.length (by simp)
        have e1 : (Gs ++ [newG n]).getD Gs.length g0S = newG n := by simp [List.getD]
        have e2 : (gbs ++ [w3.heap.size + 1]).getD Gs.length 0 = w3.heap.size + 1 := by have := HG3.out.x.len; simp [List.getD, ← this]
        rw [e1, e2] at hGK
        simp only [if_true] at hGK
        have HAD : Hid (Calls Tryz.prog 256 #[.pointer (some ⟨w3.heap.size + 1, 0, none⟩), .int .i64 f, .slice fa n fc, .int .i64 km] w4 fun e w' => e = .returned (.tuple #[]) ∧ (∃ K', GrpW w' K' (w3.heap.size + 1) (addG (newG n) f Of km) ∧ ∀ k, K' k → (k = w3.heap.size ∨ k = w3.heap.size + 1) ∨ w4.heap.size ≤ k) ∧ Touch (fun q => q = w3.heap.size ∨ q = w3.heap.size + 1) w4 w') :=
          add_any (fun q => q = w3.heap.size ∨ q = w3.heap.size + 1) _ f km vf vo fa n fc Of _ w4 hGK hOF4 (by simp [newG]) HOF3.out.2 hn (by simp [newG]) (by simp [newG]) (by omega) (by simp [newG]) (fun q hq h1 => by
            have h3 : fa = some ⟨q, 0, none⟩ := by
              rcases HOF3.out.1.2 with ⟨e, _⟩ | ⟨g, cap, cur, e, _⟩
              · rw [e] at hq; cases hq
              · injection e with e _ _
                rw [e] at hq ⊢
                simp [Value.ownBlock] at hq
                rw [hq]
            have := hfaw q h3
            rcases h1 with e | e <;> omega)
        have HGY : Hid (GrpsY w4 w1.heap.size v4 (gbs ++ [w3.heap.size + 1]) (fun j => if j = Gs.length then (fun q => q = w3.heap.size ∨ q = w3.heap.size + 1) else Kk j) (Gs ++ [newG n])) := hGY
        have HB4 : Hid (Below w1.heap.size w1 w4) := by
          have h3 := HB3.out
          exact ⟨t34.os.trans h3.os, t34.tape.trans h3.tape, t34.output.trans h3.output, Nat.le_trans h3.size t34.size, fun q hq => (t34.block q (by omega) (fun h => by have := HG3.out.rb q h; omega)).trans (h3.block q hq)⟩
        obtain ⟨ga4, gc4, hv4⟩ := hGY.x.form
        rw [List.length_append] at hv4
        simp only [List.length_cons, List.length_nil, Nat.zero_add, HGL.out] at hv4
        subst hv4
        have HE2 : Hid ((gbs ++ [w3.heap.size + 1]).getD Gs.length 0 = w3.heap.size + 1) := e2
        clear H4 r4 g4 d4 hwx hxs hbx hGx hflag hnew hGY hb4 t34 hOF4 hGK e1 e2 hmk o3 HG3 HB3 HROW HOF3
        go_wp2_with fail
        refine HAD.out.mono ?_
        rintro e w5 ⟨rfl, ⟨K', hG', hK'⟩, t5⟩
        have HF : Hid (GrpsY w5 w1.heap.size (.slice ga4 (gl + 1) gc4) (gbs ++ [w3.heap.size + 1]) (fun j => if j = Gs.length then K' else (if j = Gs.length then (fun q => q = w3.heap.size ∨ q = w3.heap.size + 1) else Kk j)) ((ord.take (k + 1)).foldl (layStep Ks Os n budget) [])) := by
          rw [HNX.out, HST2.out]
          have := HGY.out.put (i := Gs.length) (K' := K') (G' := addG (newG n) f Of km) (by simp) (by simpa using t5) (by rw [HE2.out]; exact hG') (by simpa using hK') (by omega)
          have e : (Gs ++ [newG n]).set Gs.length (addG (newG n) f Of km) = Gs ++ [addG (newG n) f Of km] := by
            rw [List.set_append_right _ _ (Nat.le_refl _), Nat.sub_self, List.set_cons_zero]
          rw [e] at this
          exact this
        have HBF : Hid (Below w1.heap.size w1 w5) := by
          have h3 := HB4.out
          exact ⟨t5.os.trans h3.os, t5.tape.trans h3.tape, t5.output.trans h3.output, Nat.le_trans h3.size t5.size, fun q hq => (t5.block q (by omega) (fun h => by rcases h with e | e <;> omega)).trans (h3.block q hq)⟩
        have HIN : Hid (GInv n (k + 1) ((ord.take (k + 1)).foldl (layStep Ks Os n budget) [])) := by rw [HNX.out]; exact HINV.out
        clear hG' hK' t5 HAD HGY HB4 o4 HE2
        go_wp2
        go_roundw
        case rel => exact ⟨k + 1, _, _, by go_num, by omega, ⟨HF.out, HIN.out⟩, HBF⟩
        case measure => simp [intOf]; omega
    · have hnk : ¬ (k : Int) < (m : Int) + 1 := by omega
      have HF : Hid (GrpsY wr w1.heap.size u7 gbs Kk (layF m Ks Os n budget) ∧ Below w.heap.size w wr) := by
        have h1 := HG.out.1
        rw [List.take_of_length_le (by have := HOL.out.1; omega)] at h1
        rw [HLAY.out]
        exact ⟨h1, HB1.out.trans (HB.out.mono hs1)⟩
      clear HG HB
      go_wp2
      go_ret
      exact ⟨_, rfl, ⟨_, _, _, hs1, HF.out.1⟩, HF.out.2⟩
end Go.Proofs.YtfcgnpchbcmdeaaGreat

namespace Go.Proofs.YtfcgnpchbcmdeaaGreat
open Go.RowKit

set_option maxHeartbeats 400000 in
theorem width_any (r d : Int) (w : World) : Calls Tryz.prog 330 #[.agg #[.int .i64 r, .int .i64 d]] w fun e w' => e = .returned (.int .i64 d) ∧ w' = w.alloc (.cells #[.int .i64 r, .int .i64 d] 379) := by
  go_enter Tryz.func330, Tryz.ntmps330
  go_wp2
  go_ret
  exact ⟨rfl, rfl⟩
set_option maxHeartbeats 400000 in
theorem rows_any (r d : Int) (w : World) : Calls Tryz.prog 299 #[.agg #[.int .i64 r, .int .i64 d]] w fun e w' => e = .returned (.int .i64 r) ∧ w' = w.alloc (.cells #[.int .i64 r, .int .i64 d] 379) := by
  go_enter Tryz.func299, Tryz.ntmps299
  go_wp2
  go_ret
  exact ⟨rfl, rfl⟩

/-- A byte put into a row of one's own. -/
theorem OwnB.put {w : World} {base g cap n k : Nat} {zs : List Int} (h : OwnB w base (.slice (some ⟨g, 0, none⟩) n cap) zs) (hn : n = zs.length) (z : Int) :
    OwnB (w.setCell ⟨g, k, none⟩ (.int .u8 z)) base (.slice (some ⟨g, 0, none⟩) n cap) (zs.set k z) ∧ w.grownBy (w.setCell ⟨g, k, none⟩ (.int .u8 z)) (some g) := by
  subst hn
  obtain ⟨h1, h2⟩ := World.ownsRow.stored h k (.int .u8 z)
  refine ⟨?_, h2⟩
  unfold OwnB
  rw [List.length_set, List.map_set]
  exact h1
theorem OwnB.cellK {w : World} {base g cap n k : Nat} {zs : List Int} (h : OwnB w base (.slice (some ⟨g, 0, none⟩) n cap) zs) (hn : n = zs.length) (hk : k < n) : w.cell? ⟨g, k, none⟩ = some (.int .u8 (zs.getD k 0)) ∧ w.frozen? ⟨g, k, none⟩ = false := by
  subst hn
  refine ⟨?_, World.ownsRow.frozenAt h k⟩
  rw [World.ownsRow.cellAt h k (by omega)]
  simp [List.getD, hk]
theorem OwnB.below {w w' : World} {base : Nat} {v : Value} {L : List Int} (h : OwnB w base v L) (hb : Below w.heap.size w w') : OwnB w' base v L := (Touch.of_below (S := fun _ => False) hb).row h (fun _ _ => id)
theorem OwnB.alloc {w : World} {base : Nat} {v : Value} {zs : List Int} (h : OwnB w base v zs) (o : Obj) : OwnB (w.alloc o) base v zs := World.ownsRow.alloc h o

set_option maxRecDepth 100000 in
set_option maxHeartbeats 4000000 in
theorem put_any (db base rows d q c nb row n : Nat) (f : Nat → Nat) (w : World) (hblk : w.heap[db]? = some (.cells #[.int .i64 (rows : Nat), .int .i64 (d : Nat), .slice (some ⟨q, 0, none⟩) nb c] 396 (0, 0))) (hB : OwnB w base (.slice (some ⟨q, 0, none⟩) nb c) (packF f nb (row * d))) (hf : ∀ t, f t ≤ 1) (hfn : ∀ i, i < d → f (row * d + i) = n / 2 ^ i % 2) (hnb : row * d + d ≤ 8 * nb) (hr : row ≤ 200) (hd : d ≤ 6) :
    Calls Tryz.prog 331 #[.pointer (some ⟨db, 0, none⟩), .int .i64 row, .int .i64 n] w fun e w' => e = .returned (.tuple #[]) ∧ OwnB w' base (.slice (some ⟨q, 0, none⟩) nb c) (packF f nb (row * d + d)) ∧ Touch (fun k => k = q) w w' := by
  have c0 : w.cell? ⟨db, 0, none⟩ = some (.int .i64 (rows : Nat)) := cell_of_row _ _ 0 _ 396 (0, 0) hblk
  have c1 : w.cell? ⟨db, 1, none⟩ = some (.int .i64 (d : Nat)) := cell_of_row _ _ 1 _ 396 (0, 0) hblk
  have hdl : db < w.heap.size := (Array.getElem?_eq_some_iff.1 hblk).1
  have hqd : db ≠ q := fun e => by
    obtain ⟨cur, hc⟩ := row_type hB (k := q) rfl
    rw [e, hc] at hblk
    simp at hblk
  have hm0 : row * d ≤ 1200 := Nat.mul_le_mul hr hd
  have hm2 : (row : Int) * (d : Int) = ((row * d : Nat) : Int) := by simp
  have HFN : Hid (∀ i, i < d → f (row * d + i) = n / 2 ^ i % 2) := hfn
  have HF : Hid (∀ t, f t ≤ 1) := hf
  have HBLK : Hid (w.heap[db]? = some (.cells #[.int .i64 (rows : Nat), .int .i64 (d : Nat), .slice (some ⟨q, 0, none⟩) nb c] 396 (0, 0))) := hblk
  have HOB : Hid (OwnB w base (.slice (some ⟨q, 0, none⟩) nb c) (packF f nb (row * d))) := hB
  clear hblk hB hf hfn
  generalize row * d = P at *
  go_enter Tryz.func331, Tryz.ntmps331
  go_wp2_with fail
  refine (width_any _ _ _).mono ?_
  rintro e w1 ⟨rfl, rfl⟩
  go_wp2_with fail
  refine (width_any _ _ _).mono ?_
  rintro e w1 ⟨rfl, rfl⟩
  go_wp2_with fail
  go_loopw [21] (fun ti wr => ∃ k : Nat, ti = .int .i64 k ∧ k ≤ d ∧ Hid (OwnB wr base (.slice (some ⟨q, 0, none⟩) nb c) (packF f nb (P + k)) ∧ Touch (fun x => x = q) w wr)) (fun ti _ => d - (intOf ti).toNat)
  case atStart => exact ⟨0, rfl, Nat.zero_le _, (HOB.out.alloc _).alloc _, ((Touch.refl _ _).alloc _).alloc _⟩
  case round =>
    clear HOB c0 c1
    obtain ⟨k, rfl, hk, HR⟩ := hrel
    by_cases hkd : k < d
    · have hblk2 : wr.heap[db]? = some (.cells #[.int .i64 (rows : Nat), .int .i64 (d : Nat), .slice (some ⟨q, 0, none⟩) nb c] 396 (0, 0)) := HR.out.2.at_ HBLK.out hqd
      have c2 : wr.drew.cell? ⟨db, 2, none⟩ = some (.slice (some ⟨q, 0, none⟩) nb c) := cell_of_row _ _ 2 _ 396 (0, 0) hblk2
      obtain ⟨T, hT⟩ : ∃ T, T = P + k := ⟨_, rfl⟩
      obtain ⟨J, hJ⟩ : ∃ J, J = T / 8 := ⟨_, rfl⟩
      obtain ⟨R, hR⟩ : ∃ R, R = T % 8 := ⟨_, rfl⟩
      have hJn : J < nb := by omega
      obtain ⟨cf1, cf2⟩ := HR.out.1.cellK (k := J) (by rw [packF_len]) hJn
      rw [packF_getD f _ hJn] at cf1
      obtain ⟨y, hy⟩ : ∃ y, y = byteF f (P + k) J := ⟨_, rfl⟩
      obtain ⟨bt, hbt⟩ : ∃ bt, bt = n / 2 ^ k % 2 := ⟨_, rfl⟩
      have hfb : f T = bt := by rw [hT, HFN.out k hkd, hbt]
      have hy256 : y < 256 := by rw [hy]; exact byteF_lt HF.out _ _
      have hyl : y < 2 ^ R := by rw [hy, hJ, hR, ← hT]; exact byteF_here HF.out T
      have hb1 : bt ≤ 1 := by omega
      have hR8 : R < 8 := by omega
      have h2R : 2 ^ R ≤ 128 := by
        have : (2 : Nat) ^ R ≤ 2 ^ 7 := Nat.pow_le_pow_right (by decide) (by omega)
        simpa using this
      have hbm : bt * 2 ^ R ≤ 1 * 2 ^ R := Nat.mul_le_mul_right _ hb1
      have hnx : byteF f (P + k + 1) J = y + bt * 2 ^ R := by rw [hy, hJ, hR, ← hT, byteF_at, hfb]
      have HSET : Hid ((packF f nb (P + k)).set J ((y + bt * 2 ^ R : Nat) : Int) = packF f nb (P + (k + 1))) := by
        show _ = _
        rw [← hnx]
        have := packF_set f nb (P + k)
        rw [← hT, ← hJ, hT] at this
        exact this
      have hor : y ||| bt * 2 ^ R = y + bt * 2 ^ R := or_bit hyl
      have q1 : (P : Int) + (k : Int) = (T : Int) := by omega
      have q2 : (T : Int).tdiv 8 = (J : Int) := by rw [Int.tdiv_eq_ediv_of_nonneg (by omega)]; omega
      have q3 : (T : Int) / 8 = (J : Int) := by omega
      have q4 : (T : Int).tmod 8 = (R : Int) := by rw [Int.tmod_eq_emod_of_nonneg (by omega)]; omega
      have q5 : (T : Int) % 8 = (R : Int) := by omega
      have q6 : bits BinOp.and IntKind.u8 ((n : Int) / 2 ^ k % 256) 1 = (bt : Int) := by
        have e : ((n : Int) / 2 ^ k % 256) = ((n / 2 ^ k % 256 : Nat) : Int) := by simp
        rw [e]
        have := (bitsU8 (n / 2 ^ k % 256) 1 (by omega) (by decide)).1
        rw [and_one] at this
        rw [hbt]
        rw [show ((1 : Nat) : Int) = 1 from rfl] at this
        rw [this]
        have : n / 2 ^ k % 256 % 2 = n / 2 ^ k % 2 := by omega
        rw [this]
      have q7 : IntKind.i64.wrap (T : Int) = (T : Int) := wrapI (by omega) (by omega)
      have q8 : IntKind.i64.wrap (J : Int) = (J : Int) := wrapI (by omega) (by omega)
      obtain ⟨z, hz⟩ : ∃ z, z = bt * 2 ^ R := ⟨_, rfl⟩
      have hz256 : z < 256 := by omega
      have q9 : IntKind.u8.wrap ((bt : Int) * 2 ^ R) = (z : Int) := by
        rw [wraps_u8 _ (by exact_mod_cast Nat.zero_le (bt * 2 ^ R)) (by
          have : ((bt : Int) * 2 ^ R) = ((bt * 2 ^ R : Nat) : Int) := by simp
          rw [this, ← hz]; omega)]
        rw [hz]; simp
      obtain ⟨u, hu⟩ : ∃ u, u = y + z := ⟨_, rfl⟩
      have q10 : bits BinOp.or IntKind.u8 (y : Int) (z : Int) = (u : Int) := by
        rw [(bitsU8 y z hy256 hz256).2, hz, hor, hu, hz]
      rw [← hz, ← hu] at HSET
      have br1 : (0 : Int) ≤ (R : Int) := by omega
      have br2 : (R : Int) ≤ 8 := by omega
      clear hz hu hor hbm hyl
      rw [← hy] at cf1
      have d1 : wr.drew.cell? ⟨q, J, none⟩ = some (.int .u8 (y : Nat)) := cf1
      have fq : wr.drew.frozen? ⟨q, J, none⟩ = false := cf2
      have bk1 : (0 : Int) ≤ (k : Int) := by omega
      have bk2 : (k : Int) < (d : Int) := by omega
      have bj1 : (0 : Int) ≤ (J : Int) := by omega
      have bj2 : (J : Int) < (nb : Int) := by omega
      have bT : (T : Int) ≤ 1300 := by omega
      have HRR : Hid (OwnB wr base (.slice (some ⟨q, 0, none⟩) nb c) (packF f nb (P + k)) ∧ Touch (fun x => x = q) w wr) := HR
      have HQ3 : Hid (P + k = T) := hT.symm
      clear hblk2 hT hJ hR cf1 cf2 hy hbt hfb hnx HR
      go_upto_region 5 with fail
      refine wp_region_S (fun w' => w'.cell? ⟨db, 2, none⟩ = some (.slice (some ⟨q, 0, none⟩) nb c) ∧ w'.cell? ⟨q, J, none⟩ = some (.int .u8 (y : Nat))) 18 (by kernel_rfl) ⟨c2, d1⟩ (fun hHeld => ?_)
      -- 0 Op.move t0
      refine wpAnyS_takeL [1, 2, 3, 8, 9, 16, 17, 18] (i := 0) (v := ?_) rfl (by kernel_rfl) (by kernel_rfl) (by kernel_rfl) (by kernel_rfl) (by kernel_rfl) (fun _ _ _ h => h) (Or.inl ⟨by rfl, ?_⟩) (by assumption) ?_
      rotate_left
      · intro w hSw
        (try dsimp only at hSw)
        go_simp
        try with_reducible rfl
      try simp only [Act.put]
      try simp only [List.setIfInBounds_toArray, List.set_cons_succ, List.set_cons_zero]
      -- 1 Op.nilCheck t29
      refine wpAnyS_takeL [2, 3, 8, 9, 16, 17, 18] (i := 1) (v := ?_) rfl (by kernel_rfl) (by kernel_rfl) (by kernel_rfl) (by kernel_rfl) (by kernel_rfl) (fun _ _ _ h => h) (Or.inl ⟨by rfl, ?_⟩) (by assumption) ?_
      rotate_left
      · intro w hSw
        (try dsimp only at hSw)
        go_simp
        try with_reducible rfl
      try simp only [Act.put]
      try simp only [List.setIfInBounds_toArray, List.set_cons_succ, List.set_cons_zero]
      -- 2 Op.fieldAddr 396 t30 1
      refine wpAnyS_takeL [3, 8, 9, 16, 17, 18] (i := 2) (v := ?_) rfl (by kernel_rfl) (by kernel_rfl) (by kernel_rfl) (by kernel_rfl) (by kernel_rfl) (fun _ _ _ h => h) (Or.inl ⟨by rfl, ?_⟩) (by assumption) ?_
      rotate_left
      · intro w hSw
        (try dsimp only at hSw)
        go_simp
        try with_reducible rfl
      try simp only [Act.put]
      try simp only [List.setIfInBounds_toArray, List.set_cons_succ, List.set_cons_zero]
      -- 3 Op.load 66 t31
      refine wpAnyS_takeL [8, 9, 16, 17, 18] (i := 3) (v := ?_) rfl (by kernel_rfl) (by kernel_rfl) (by kernel_rfl) (by kernel_rfl) (by kernel_rfl) (fun _ _ _ h => h) (Or.inl ⟨by rfl, ?_⟩) (by assumption) ?_
      rotate_left
      · intro w hSw
        try obtain ⟨_, _⟩ := hSw
        (try dsimp only at hSw)
        go_simp
        try with_reducible rfl
      try simp only [Act.put]
      try simp only [List.setIfInBounds_toArray, List.set_cons_succ, List.set_cons_zero]
      -- 4 Op.move t6
      refine wpAnyS_takeL [6, 7, 8, 9, 16, 17, 18] (i := 4) (v := ?_) rfl (by kernel_rfl) (by kernel_rfl) (by kernel_rfl) (by kernel_rfl) (by kernel_rfl) (fun _ _ _ h => h) (Or.inl ⟨by rfl, ?_⟩) (by assumption) ?_
      rotate_left
      · intro w hSw
        (try dsimp only at hSw)
        go_simp
        try with_reducible rfl
      try simp only [Act.put]
      try simp only [List.setIfInBounds_toArray, List.set_cons_succ, List.set_cons_zero]
      -- 5 Op.move t7
      refine wpAnyS_takeL [6, 7, 8, 9, 16, 17, 18] (i := 5) (v := ?_) rfl (by kernel_rfl) (by kernel_rfl) (by kernel_rfl) (by kernel_rfl) (by kernel_rfl) (fun _ _ _ h => h) (Or.inl ⟨by rfl, ?_⟩) (by assumption) ?_
      rotate_left
      · intro w hSw
        (try dsimp only at hSw)
        go_simp
        try with_reducible rfl
      try simp only [Act.put]
      try simp only [List.setIfInBounds_toArray, List.set_cons_succ, List.set_cons_zero]
      -- 6 Op.binOp BinOp.add 3 t33 t34 3
      refine wpAnyS_takeL [7, 8, 9, 16, 17, 18] (i := 6) (v := ?_) rfl (by kernel_rfl) (by kernel_rfl) (by kernel_rfl) (by kernel_rfl) (by kernel_rfl) (fun _ _ _ h => h) (Or.inl ⟨by rfl, ?_⟩) (by assumption) ?_
      rotate_left
      · intro w hSw
        (try dsimp only at hSw)
        go_simp
        try with_reducible rfl
      try simp only [Act.put]
      try simp only [List.setIfInBounds_toArray, List.set_cons_succ, List.set_cons_zero]
      -- 7 Op.binOp BinOp.quo 3 t35 (const (8:i64)) 3
      refine wpAnyS_takeL [8, 9, 16, 17, 18] (i := 7) (v := ?_) rfl (by kernel_rfl) (by kernel_rfl) (by kernel_rfl) (by kernel_rfl) (by kernel_rfl) (fun _ _ _ h => h) (Or.inl ⟨by rfl, ?_⟩) (by assumption) ?_
      rotate_left
      · intro w hSw
        (try dsimp only at hSw)
        go_simp
        try with_reducible rfl
      try simp only [Act.put]
      try simp only [List.setIfInBounds_toArray, List.set_cons_succ, List.set_cons_zero]
      -- 8 Op.indexAddr 66 t32 t36
      refine wpAnyS_takeL [9, 16, 17, 18] (i := 8) (v := ?_) rfl (by kernel_rfl) (by kernel_rfl) (by kernel_rfl) (by kernel_rfl) (by kernel_rfl) (fun _ _ _ h => h) (Or.inl ⟨by rfl, ?_⟩) (by assumption) ?_
      rotate_left
      · intro w hSw
        (try dsimp only at hSw)
        go_simp
        try with_reducible rfl
      try simp only [Act.put]
      try simp only [List.setIfInBounds_toArray, List.set_cons_succ, List.set_cons_zero]
      -- 9 Op.load 5 t37
      refine wpAnyS_takeL [16, 17, 18] (i := 9) (v := ?_) rfl (by kernel_rfl) (by kernel_rfl) (by kernel_rfl) (by kernel_rfl) (by kernel_rfl) (fun _ _ _ h => h) (Or.inl ⟨by rfl, ?_⟩) (by assumption) ?_
      rotate_left
      · intro w hSw
        try obtain ⟨_, _⟩ := hSw
        (try dsimp only at hSw)
        go_simp
        try with_reducible rfl
      try simp only [Act.put]
      try simp only [List.setIfInBounds_toArray, List.set_cons_succ, List.set_cons_zero]
      -- 10 Op.move t8
      refine wpAnyS_takeL [15, 16, 17, 18] (i := 10) (v := ?_) rfl (by kernel_rfl) (by kernel_rfl) (by kernel_rfl) (by kernel_rfl) (by kernel_rfl) (fun _ _ _ h => h) (Or.inl ⟨by rfl, ?_⟩) (by assumption) ?_
      rotate_left
      · intro w hSw
        (try dsimp only at hSw)
        go_simp
        try with_reducible rfl
      try simp only [Act.put]
      try simp only [List.setIfInBounds_toArray, List.set_cons_succ, List.set_cons_zero]
      -- 11 Op.move t6
      refine wpAnyS_takeL [13, 14, 15, 16, 17, 18] (i := 11) (v := ?_) rfl (by kernel_rfl) (by kernel_rfl) (by kernel_rfl) (by kernel_rfl) (by kernel_rfl) (fun _ _ _ h => h) (Or.inl ⟨by rfl, ?_⟩) (by assumption) ?_
      rotate_left
      · intro w hSw
        (try dsimp only at hSw)
        go_simp
        try with_reducible rfl
      try simp only [Act.put]
      try simp only [List.setIfInBounds_toArray, List.set_cons_succ, List.set_cons_zero]
      -- 12 Op.move t7
      refine wpAnyS_takeL [13, 14, 15, 16, 17, 18] (i := 12) (v := ?_) rfl (by kernel_rfl) (by kernel_rfl) (by kernel_rfl) (by kernel_rfl) (by kernel_rfl) (fun _ _ _ h => h) (Or.inl ⟨by rfl, ?_⟩) (by assumption) ?_
      rotate_left
      · intro w hSw
        (try dsimp only at hSw)
        go_simp
        try with_reducible rfl
      try simp only [Act.put]
      try simp only [List.setIfInBounds_toArray, List.set_cons_succ, List.set_cons_zero]
      -- 13 Op.binOp BinOp.add 3 t40 t41 3
      refine wpAnyS_takeL [14, 15, 16, 17, 18] (i := 13) (v := ?_) rfl (by kernel_rfl) (by kernel_rfl) (by kernel_rfl) (by kernel_rfl) (by kernel_rfl) (fun _ _ _ h => h) (Or.inl ⟨by rfl, ?_⟩) (by assumption) ?_
      rotate_left
      · intro w hSw
        (try dsimp only at hSw)
        go_simp
        try with_reducible rfl
      try simp only [Act.put]
      try simp only [List.setIfInBounds_toArray, List.set_cons_succ, List.set_cons_zero]
      -- 14 Op.binOp BinOp.rem 3 t42 (const (8:i64)) 3
      refine wpAnyS_takeL [15, 16, 17, 18] (i := 14) (v := ?_) rfl (by kernel_rfl) (by kernel_rfl) (by kernel_rfl) (by kernel_rfl) (by kernel_rfl) (fun _ _ _ h => h) (Or.inl ⟨by rfl, ?_⟩) (by assumption) ?_
      rotate_left
      · intro w hSw
        (try dsimp only at hSw)
        go_simp
        try with_reducible rfl
      try simp only [Act.put]
      try simp only [List.setIfInBounds_toArray, List.set_cons_succ, List.set_cons_zero]
      -- 15 Op.binOp BinOp.shl 5 t39 t43 3
      refine wpAnyS_takeL [16, 17, 18] (i := 15) (v := ?_) rfl (by kernel_rfl) (by kernel_rfl) (by kernel_rfl) (by kernel_rfl) (by kernel_rfl) (fun _ _ _ h => h) (Or.inl ⟨by rfl, ?_⟩) (by assumption) ?_
      rotate_left
      · intro w hSw
        (try dsimp only at hSw)
        go_simp
        try with_reducible rfl
      try simp only [Act.put]
      try simp only [List.setIfInBounds_toArray, List.set_cons_succ, List.set_cons_zero]
      -- 16 Op.binOp BinOp.or 5 t38 t44 5
      refine wpAnyS_takeL [17, 18] (i := 16) (v := ?_) rfl (by kernel_rfl) (by kernel_rfl) (by kernel_rfl) (by kernel_rfl) (by kernel_rfl) (fun _ _ _ h => h) (Or.inl ⟨by rfl, ?_⟩) (by assumption) ?_
      rotate_left
      · intro w hSw
        (try dsimp only at hSw)
        go_simp
        try with_reducible rfl
      try simp only [Act.put]
      try simp only [List.setIfInBounds_toArray, List.set_cons_succ, List.set_cons_zero]
      -- 17 Op.indexAddr 66 t32 t36
      refine wpAnyS_takeL [18] (i := 17) (v := ?_) rfl (by kernel_rfl) (by kernel_rfl) (by kernel_rfl) (by kernel_rfl) (by kernel_rfl) (fun _ _ _ h => h) (Or.inl ⟨by rfl, ?_⟩) (by assumption) ?_
      rotate_left
      · intro w hSw
        (try dsimp only at hSw)
        go_simp
        try with_reducible rfl
      try simp only [Act.put]
      try simp only [List.setIfInBounds_toArray, List.set_cons_succ, List.set_cons_zero]
      -- STEP 18 Op.store 5 t46 t45
      refine wpAnyS_lastL (i := 18) (by kernel_rfl) rfl (by kernel_rfl) (fun KK hK => ?_)
      go_simp
      refine hK.out _ _ ?_
      clear hK KK
      try simp only [Act.put]
      try simp only [List.setIfInBounds_toArray, List.set_cons_succ, List.set_cons_zero]
      refine wpAnyS_done (by kernel_rfl) ?_ _
      have HF2 : Hid (OwnB (wr.setCell ⟨q, J, none⟩ (.int .u8 (u : Nat))).drew base (.slice (some ⟨q, 0, none⟩) nb c) (packF f nb (P + (k + 1))) ∧ Touch (fun x => x = q) w (wr.setCell ⟨q, J, none⟩ (.int .u8 (u : Nat))).drew) := by
        rw [← HSET.out]
        exact ⟨World.ownsRow.drew (HRR.out.1.put (by rw [packF_len]) _).1, (HRR.out.2.setCell (p := ⟨q, J, none⟩) (fun _ => rfl) _).drew⟩
      clear HRR hHeld c2 d1 fq q1 q2 q3 q4 q5 q6 q7 q8 q9 q10
      go_wp2
      go_roundw
      case rel => exact ⟨k + 1, by go_num, by omega, HF2⟩
      case measure => simp [intOf]; omega
    · have hnk : ¬ (k : Int) < (d : Int) := by omega
      have HF2 : Hid (OwnB wr base (.slice (some ⟨q, 0, none⟩) nb c) (packF f nb (P + d)) ∧ Touch (fun x => x = q) w wr) := by
        have : k = d := by omega
        subst this
        exact HR
      clear HR
      go_wp2
      go_end0
      exact ⟨rfl, HF2.out.1, HF2.out.2⟩
end Go.Proofs.YtfcgnpchbcmdeaaGreat

namespace Go.Proofs.YtfcgnpchbcmdeaaGreat
open Go.RowKit

theorem make_bytes (n : Nat) (hn : n ≤ 1000000) (W : World) : (Instr.makeSlice 66 (.int .i64 (n : Int)) (.int .i64 (n : Int))).run Tryz.prog W = .ok (.slice (some ⟨W.heap.size, 0, none⟩) n n) (W.alloc (.cells (madeCells #[.int .u8 0] n) 5)) := by
  obtain ⟨i0, hinf, hz0, hz1, hz2⟩ := info_parts info5
  have := run_make (P := Tryz.prog) W 66 5 i0 _ Tryz.underlying66 hinf hz0 .i64 .i64 (n : Int) (n : Int) (by omega) (by omega) (by rw [hz2]; omega) (by omega)
  rw [hz1] at this
  rw [this, Int.toNat_natCast, Nat.mul_one]
  rfl
theorem made_bytes (n : Nat) (W : World) (base : Nat) (hn : n ≤ 1000000) (hb : base ≤ W.heap.size) : OwnB (W.alloc (.cells (madeCells #[.int .u8 0] n) 5)) base (.slice (some ⟨W.heap.size, 0, none⟩) n n) (List.replicate n 0) := by
  have := World.ownsRow_lit (base := base) (size := 1) (e := 5) W (madeCells #[.int .u8 0] n) n hb (by unfold maxLen; omega) (by simp [madeCells])
  rw [made_one] at this
  unfold OwnB
  simpa using this

/-- The bits of numbers, one behind the other. -/
def bitsN (N : List Nat) (d t : Nat) : Nat := N.getD (t / d) 0 / 2 ^ (t % d) % 2
theorem bitsN_le (N : List Nat) (d : Nat) : ∀ t, bitsN N d t ≤ 1 := fun t => by unfold bitsN; omega
theorem bitsN_at (N : List Nat) {d row i : Nat} (h : i < d) : bitsN N d (row * d + i) = N.getD row 0 / 2 ^ i % 2 := by
  unfold bitsN
  have e1 : (row * d + i) / d = row := by
    rw [Nat.mul_comm, Nat.mul_add_div (by omega), Nat.div_eq_of_lt h, Nat.add_zero]
  have e2 : (row * d + i) % d = i := by
    rw [Nat.mul_comm, Nat.mul_add_mod, Nat.mod_eq_of_lt h]
  rw [e1, e2]

/-- A DENSE COLUMN in memory. -/
structure DenX (w : World) (base db q n d : Nat) (bs : List Int) : Prop where
  blk : w.heap[db]? = some (.cells #[.int .i64 (n : Nat), .int .i64 (d : Nat), .slice (some ⟨q, 0, none⟩) bs.length bs.length] 396 (0, 0))
  row : OwnB w base (.slice (some ⟨q, 0, none⟩) bs.length bs.length) bs

def DenV (w : World) (base : Nat) (v : Value) (n d : Nat) (bs : List Int) : Prop := ∃ db q, v = .pointer (some ⟨db, 0, none⟩) ∧ base ≤ db ∧ DenX w base db q n d bs

set_option maxRecDepth 100000 in
set_option maxHeartbeats 4000000 in
theorem newDense_any (va : Option Addr) (n d m vc : Nat) (N : List Nat) (w : World) (hv : OwnI w 0 (.slice va m vc) (natI N)) (hN : N.length = m) (hmn : m ≤ n) (hn : n ≤ 200) (hd : d ≤ 6) :
    Calls Tryz.prog 301 #[.agg #[.int .i64 n, .int .i64 d], .slice va m vc] w fun e w' => ∃ v, e = .returned v ∧ DenV w' w.heap.size v n d (packF (bitsN N d) ((n * d + 7) / 8) (m * d)) ∧ Below w.heap.size w w' := by
  have HV : Hid (OwnI w 0 (.slice va m vc) (natI N) ∧ N.length = m) := ⟨hv, hN⟩
  obtain ⟨P, hP⟩ : ∃ P, P = n * d := ⟨_, rfl⟩
  have hP0 : P ≤ 1200 := by rw [hP]; exact Nat.mul_le_mul hn hd
  have hm2 : (n : Int) * (d : Int) = (P : Int) := by rw [hP]; simp
  obtain ⟨nb, hnb⟩ : ∃ nb, nb = (P + 7) / 8 := ⟨_, rfl⟩
  have HNB : Hid (nb = (n * d + 7) / 8 ∧ P = n * d ∧ nb = (P + 7) / 8) := ⟨by rw [hnb, hP], hP, hnb⟩
  have q1 : ((P : Int) + 7).tdiv 8 = (nb : Int) := by rw [Int.tdiv_eq_ediv_of_nonneg (by omega)]; omega
  have q2 : IntKind.i64.wrap (P : Int) = (P : Int) := wrapI (by omega) (by omega)
  have q3 : IntKind.i64.wrap ((P : Int) + 7) = (P : Int) + 7 := wrapI (by omega) (by omega)
  have q4 : IntKind.i64.wrap (nb : Int) = (nb : Int) := wrapI (by omega) (by omega)
  have hmk := make_bytes nb (by omega)
  have hnb2 : nb ≤ 151 := by omega
  rw [← HNB.out.1]
  clear hv hN hP hnb
  go_enter Tryz.func301, Tryz.ntmps301
  go_upto_region 1 with fail
  obtain ⟨w0, hw0⟩ : ∃ w0, w0 = w.alloc (.cells #[.int .i64 (n : Nat), .int .i64 (d : Nat)] 379) := ⟨_, rfl⟩
  rw [← hw0]
  have hs0 : w0.heap.size = w.heap.size + 1 := by rw [hw0]; simp
  have d0 : w0.cell? ⟨w.heap.size, 0, none⟩ = some (.int .i64 (n : Nat)) := by rw [hw0]; simp [go_sem]
  have d1 : w0.cell? ⟨w.heap.size, 1, none⟩ = some (.int .i64 (d : Nat)) := by rw [hw0]; simp [go_sem]
  have HB0 : Hid (Below w.heap.size w w0) := by show Below _ _ _; rw [hw0]; exact (Below.refl _ _).alloc (Nat.le_refl _) _
  have hlt0 : w.heap.size < w0.heap.size := by omega
  have HS0 : Hid (w0.heap.size = w.heap.size + 1) := hs0
  clear hw0 hs0
  go_region_held3 (fun w' => w'.cell? ⟨w.heap.size, 0, none⟩ = some (.int .i64 (n : Nat)) ∧ w'.cell? ⟨w.heap.size, 1, none⟩ = some (.int .i64 (d : Nat))) (exact ⟨(Below.cell (B := w0.heap.size) (w := w0) (p := ⟨w.heap.size, 0, none⟩) (by repeat (first | with_reducible exact Below.refl _ _ | with_reducible apply Below.drew | (refine Below.alloc ?_ (by first | omega | (simp; omega) | simp) _))) hlt0).trans d0, (Below.cell (B := w0.heap.size) (w := w0) (p := ⟨w.heap.size, 1, none⟩) (by repeat (first | with_reducible exact Below.refl _ _ | with_reducible apply Below.drew | (refine Below.alloc ?_ (by first | omega | (simp; omega) | simp) _))) hlt0).trans d1⟩) (first | (go_at_call 299; refine (rows_any _ _ _).mono ?_; rintro e w1 ⟨rfl, rfl⟩) | (go_at_call 330; refine (width_any _ _ _).mono ?_; rintro e w1 ⟨rfl, rfl⟩))
  obtain ⟨w4, hw4⟩ : ∃ w4, w4 = ((((w0.alloc (.cells #[.int .i64 (n : Nat), .int .i64 (d : Nat)] 379)).alloc (.cells #[.int .i64 (n : Nat), .int .i64 (d : Nat)] 379)).alloc (.cells (madeCells #[.int .u8 0] nb) 5)).alloc (.cells #[.int .i64 (n : Nat), .int .i64 (d : Nat), .slice (some ⟨w0.heap.size + 1 + 1, 0, none⟩) nb nb] 396)).drew := ⟨_, rfl⟩
  rw [← hw4]
  have hs4 : w4.heap.size = w0.heap.size + 1 + 1 + 1 + 1 := by rw [hw4]; simp
  have HB4 : Hid (Below w.heap.size w w4) := by
    show Below _ _ _
    rw [hw4]
    exact (HB0.out.trans ((((((Below.refl _ _).alloc (by omega) _).alloc (by simp; omega) _).alloc (by simp; omega) _).alloc (by simp; omega) _).drew))
  have hb4 : w4.heap[w0.heap.size + 1 + 1 + 1]? = some (.cells #[.int .i64 (n : Nat), .int .i64 (d : Nat), .slice (some ⟨w0.heap.size + 1 + 1, 0, none⟩) nb nb] 396 (0, 0)) := by
    rw [hw4]
    have := heap_alloc_new (((w0.alloc (.cells #[.int .i64 (n : Nat), .int .i64 (d : Nat)] 379)).alloc (.cells #[.int .i64 (n : Nat), .int .i64 (d : Nat)] 379)).alloc (.cells (madeCells #[.int .u8 0] nb) 5)) (.cells #[.int .i64 (n : Nat), .int .i64 (d : Nat), .slice (some ⟨w0.heap.size + 1 + 1, 0, none⟩) nb nb] 396)
    rw [show (((w0.alloc (.cells #[.int .i64 (n : Nat), .int .i64 (d : Nat)] 379)).alloc (.cells #[.int .i64 (n : Nat), .int .i64 (d : Nat)] 379)).alloc (.cells (madeCells #[.int .u8 0] nb) 5)).heap.size = w0.heap.size + 1 + 1 + 1 by simp] at this
    exact this
  have hO4 : OwnB w4 w.heap.size (.slice (some ⟨w0.heap.size + 1 + 1, 0, none⟩) nb nb) (packF (bitsN N d) nb 0) := by
    rw [packF_zero, hw4]
    have := made_bytes nb ((w0.alloc (.cells #[.int .i64 (n : Nat), .int .i64 (d : Nat)] 379)).alloc (.cells #[.int .i64 (n : Nat), .int .i64 (d : Nat)] 379)) w.heap.size (by omega) (by simp; omega)
    have h2 := (this.alloc (.cells #[.int .i64 (n : Nat), .int .i64 (d : Nat), .slice (some ⟨w0.heap.size + 1 + 1, 0, none⟩) nb nb] 396))
    rw [show ((w0.alloc (.cells #[.int .i64 (n : Nat), .int .i64 (d : Nat)] 379)).alloc (.cells #[.int .i64 (n : Nat), .int .i64 (d : Nat)] 379)).heap.size = w0.heap.size + 1 + 1 by simp] at h2
    exact h2
  have HBK : Hid (w4.heap[w0.heap.size + 1 + 1 + 1]? = some (.cells #[.int .i64 (n : Nat), .int .i64 (d : Nat), .slice (some ⟨w0.heap.size + 1 + 1, 0, none⟩) nb nb] 396 (0, 0))) := hb4
  have HO4 : Hid (OwnB w4 w.heap.size (.slice (some ⟨w0.heap.size + 1 + 1, 0, none⟩) nb nb) (packF (bitsN N d) nb 0)) := hO4
  clear hw4 hb4 hO4 d0 d1 hmk q1 q2 q3 q4
  have hqge : w.heap.size ≤ w0.heap.size + 1 + 1 := by omega
  have HQ : Hid (w0.heap.size + 1 + 1 + 1 < w4.heap.size ∧ w0.heap.size + 1 + 1 + 1 ≠ w0.heap.size + 1 + 1) := ⟨by omega, by omega⟩
  generalize w0.heap.size + 1 + 1 = q at *
  go_wp2_with fail
  go_loopw [21] (fun ti wr => ∃ k : Nat, ti = .int .i64 k ∧ k ≤ m ∧ Hid (OwnB wr w.heap.size (.slice (some ⟨q, 0, none⟩) nb nb) (packF (bitsN N d) nb (k * d)) ∧ Touch (fun x => x = q) w4 wr)) (fun ti _ => m - (intOf ti).toNat)
  case atStart => exact ⟨0, rfl, Nat.zero_le _, by rw [Nat.zero_mul]; exact ⟨HO4.out, Touch.refl _ _⟩⟩
  case round =>
    clear HO4
    obtain ⟨k, rfl, hk, HR⟩ := hrel
    have hbw : Below w.heap.size w wr := by
      have t := HR.out.2
      have h4 := HB4.out
      exact ⟨t.os.trans h4.os, t.tape.trans h4.tape, t.output.trans h4.output, Nat.le_trans h4.size t.size, fun x hx => (t.block x (by have := h4.size; omega) (by omega)).trans (h4.block x hx)⟩
    have HBW : Hid (Below w.heap.size w wr) := hbw
    have hblk : wr.heap[q + 1]? = some (.cells #[.int .i64 (n : Nat), .int .i64 (d : Nat), .slice (some ⟨q, 0, none⟩) nb nb] 396 (0, 0)) := HR.out.2.at_ HBK.out HQ.out.2
    have HBLK : Hid (wr.heap[q + 1]? = some (.cells #[.int .i64 (n : Nat), .int .i64 (d : Nat), .slice (some ⟨q, 0, none⟩) nb nb] 396 (0, 0))) := hblk
    by_cases hkm : k < m
    · obtain ⟨qv, hqv, hql, _, hc, _⟩ := HV.out.1.atK (by rw [natI_len]; exact HV.out.2) hkm
      subst hqv
      have a0 := (hbw.cell (p := ⟨qv, k, none⟩) hql).trans hc
      rw [natI_getD] at a0
      have hk1 : k * d + d = (k + 1) * d := by rw [Nat.add_mul, Nat.one_mul]
      have hk2 : (k + 1) * d ≤ n * d := Nat.mul_le_mul_right _ (by omega)
      have HPUT : Hid (Calls Tryz.prog 331 #[.pointer (some ⟨q + 1, 0, none⟩), .int .i64 k, .int .i64 ((N.getD k 0 : Nat) : Int)] wr fun e w' => e = .returned (.tuple #[]) ∧ OwnB w' w.heap.size (.slice (some ⟨q, 0, none⟩) nb nb) (packF (bitsN N d) nb (k * d + d)) ∧ Touch (fun x => x = q) wr w') :=
        put_any (q + 1) w.heap.size n d q nb nb k (N.getD k 0) (bitsN N d) wr hblk HR.out.1 (bitsN_le N d) (fun i hi => bitsN_at N hi) (by have := HNB.out; omega) (by omega) hd
      rw [hk1] at HPUT
      generalize N.getD k 0 = x at *
      have bk1 : (0 : Int) ≤ (k : Int) := by omega
      have bk2 : (k : Int) < (m : Int) := by omega
      have HT : Hid (Touch (fun x => x = q) w4 wr) := HR.out.2
      clear hc hk1 hk2 HR hblk hbw
      go_wp2_with fail
      refine HPUT.out.mono ?_
      rintro e w5 ⟨rfl, ho5, t5⟩
      have HF : Hid (OwnB w5 w.heap.size (.slice (some ⟨q, 0, none⟩) nb nb) (packF (bitsN N d) nb ((k + 1) * d)) ∧ Touch (fun x => x = q) w4 w5) := ⟨ho5, HT.out.trans t5⟩
      clear ho5 t5 HPUT HT
      go_wp2
      go_roundw
      case rel => exact ⟨k + 1, by go_num, by omega, HF⟩
      case measure => simp [intOf]; omega
    · have hnk : ¬ (k : Int) < (m : Int) := by omega
      have HF : Hid (DenX wr w.heap.size (q + 1) q n d (packF (bitsN N d) nb (m * d))) := by
        have : k = m := by omega
        subst this
        exact ⟨by rw [packF_len]; exact hblk, by rw [packF_len]; exact HR.out.1⟩
      clear HR hblk hbw
      go_wp2
      go_ret
      exact ⟨_, rfl, ⟨_, _, rfl, by omega, HF.out⟩, HBW.out⟩
end Go.Proofs.YtfcgnpchbcmdeaaGreat
