import Derived.Test.YtfcgnpchbcmdeaaGreatZpbi
import Derived.Sort.LotA
import Derived.Test.YtfcgnpchbcmdeaaGreatZpar
namespace Go.Proofs.YtfcgnpchbcmdeaaGreat
open Go.RowKit Go.Sort
theorem ordF_perm (m : Nat) (Os : List (List Bool)) : (ordF m Os).Perm (List.range (m + 1)) := by
  obtain ⟨h1, _, h3⟩ := (insertionSort_holds (lt := ltOf (cmpF (m := m + 1) Os)) (swoF Os) (idxF m) 0 (m + 1) (Nat.zero_le _) (by simp [idxF])).1;have e1 : (insertionSort (ltOf (cmpF (m := m + 1) Os)) (idxF m) 0 (m + 1)).extract 0 (m + 1) = insertionSort (ltOf (cmpF (m := m + 1) Os)) (idxF m) 0 (m + 1) := (by apply Array.extract_eq_self_of_le;rw [h1]; simp [idxF]);have e2 : (idxF m).extract 0 (m + 1) = idxF m := (by apply Array.extract_eq_self_of_le;simp [idxF]);rw [e1, e2] at h3;have h4 := h3.map (fun x => x.val);unfold ordF;refine h4.trans ?_
  have : (idxF m).toList.map (fun x => x.val) = List.range (m + 1) := by
    apply List.ext_getElem?;intro i;unfold idxF;rw [List.getElem?_map, Array.getElem?_toList, Array.getElem?_ofFn]
    by_cases h : i < m + 1
    rw [dif_pos h, List.getElem?_range h]; rfl;rw [dif_neg h, List.getElem?_eq_none (by simp; omega)]; rfl
  rw [this]
def allG (Gs : List GS) : List Nat := Gs.flatMap (fun G => G.fs)
theorem flatMap_set {α β : Type} (g : α -> List β) : ∀ (L : List α) (i : Nat) (y : α) (h : i < L.length) (t : List β), g y = g L[i] ++ t -> ((L.set i y).flatMap g).Perm (L.flatMap g ++ t)
  | [], i, y, h, t, e => by simp at h
  | a :: L, 0, y, h, t, e => by simp only [List.set_cons_zero, List.flatMap_cons];have e' : g y = g a ++ t := e;rw [e', List.append_assoc, List.append_assoc];exact List.Perm.append_left _ List.perm_append_comm
  | a :: L, i + 1, y, h, t, e => by simp only [List.set_cons_succ, List.flatMap_cons, List.append_assoc];exact List.Perm.append_left _ (flatMap_set g L i y (by simpa using h) t e)
theorem layStep_all (Ks : List KS) (Os : List (List Bool)) (n budget : Nat) (Gs : List GS) (f : Nat) : (allG (layStep Ks Os n budget Gs f)).Perm (allG Gs ++ [f]) := by
  unfold layStep allG;split
  · rename_i h
    exact flatMap_set (fun G : GS => G.fs) Gs _ _ h [f] (by
      rw [List.getD_eq_getElem?_getD, List.getElem?_eq_getElem h]
      rfl)
  rw [List.flatMap_append];simp [addG, newG]
theorem lay_all (Ks : List KS) (Os : List (List Bool)) (n budget : Nat) : ∀ (fs : List Nat) (Gs : List GS), (allG (fs.foldl (layStep Ks Os n budget) Gs)).Perm (allG Gs ++ fs)
  | [], Gs => by simp
  | f :: fs, Gs => by simp only [List.foldl_cons];refine (lay_all Ks Os n budget fs _).trans ?_;refine ((layStep_all Ks Os n budget Gs f).append_right fs).trans ?_;simp
theorem layF_all (m : Nat) (Ks : List KS) (Os : List (List Bool)) (n budget : Nat) : (allG (layF m Ks Os n budget)).Perm (List.range (m + 1)) := by
  unfold layF;refine (lay_all Ks Os n budget _ _).trans ?_
  simpa [allG] using ordF_perm m Os
theorem layF_nodup (m : Nat) (Ks : List KS) (Os : List (List Bool)) (n budget : Nat) : (allG (layF m Ks Os n budget)).Nodup := (layF_all m Ks Os n budget).nodup_iff.2 List.nodup_range
theorem layStep_pos (Ks : List KS) (Os : List (List Bool)) (n budget : Nat) (Gs : List GS) (f : Nat) (h : ∀ G ∈ Gs, 0 < G.fs.length) : ∀ G ∈ layStep Ks Os n budget Gs f, 0 < G.fs.length := by
  intro G hG;unfold layStep at hG;split at hG
  · rcases List.mem_or_eq_of_mem_set hG with hin | e
    exact h G hin;subst e; simp [addG]
  rcases List.mem_append.1 hG with hin | e
  exact h G hin;simp only [List.mem_cons, List.not_mem_nil, or_false] at e;subst e; simp [addG]
theorem lay_pos (Ks : List KS) (Os : List (List Bool)) (n budget : Nat) : ∀ (fs : List Nat) (Gs : List GS), (∀ G ∈ Gs, 0 < G.fs.length) -> ∀ G ∈ fs.foldl (layStep Ks Os n budget) Gs, 0 < G.fs.length
  | [], _, h => h
  | f :: fs, Gs, h => lay_pos Ks Os n budget fs _ (layStep_pos Ks Os n budget Gs f h)
theorem layF_pos (m : Nat) (Ks : List KS) (Os : List (List Bool)) (n budget : Nat) : ∀ G ∈ layF m Ks Os n budget, 0 < G.fs.length := lay_pos Ks Os n budget _ _ (by simp)
def KeysX (L : List XS) : Prop := L.Pairwise (fun x y => x.row ≠ y.row ∨ x.f ≠ y.f)
theorem putX_in (f : Nat) (O : List Bool) (B N : List Nat) : ∀ k, ∀ x ∈ putX f O B N k, x.f = f /\ x.row < k /\ x.bin = B.getD x.row 0
  | 0, x, h => by simp [putX] at h
  | k + 1, x, h => by
    rw [putX, List.mem_append] at h
    rcases h with h | h
    have := putX_in f O B N k x h; exact ⟨this.1, by omega, this.2.2⟩;unfold rowX at h;split at h;simp at h; subst h; exact ⟨rfl, by simp, rfl⟩;simp at h
theorem putX_keys (f : Nat) (O : List Bool) (B N : List Nat) : ∀ k, KeysX (putX f O B N k)
  | 0 => by simp [putX, KeysX]
  | k + 1 => by unfold KeysX;rw [putX, List.pairwise_append];refine ⟨putX_keys f O B N k, by unfold rowX; split <;> simp, fun x hx y hy => ?_⟩;have h1 := (putX_in f O B N k x hx).2.1;unfold rowX at hy;split at hy;simp at hy; subst hy; left; simp; omega;simp at hy
theorem colStep_keys (Ks : List KS) (Os : List (List Bool)) (Bb : List (List Nat)) (n : Nat) : ∀ (fs done : List Nat) (s : CS), KeysX s.xs -> (∀ x ∈ s.xs, x.f ∈ done) -> (done ++ fs).Nodup -> KeysX (fs.foldl (colStep Ks Os Bb n) s).xs /\ ∀ x ∈ (fs.foldl (colStep Ks Os Bb n) s).xs, x.f ∈ done ++ fs
  | [], done, s, h1, h2, _ => ⟨h1, by simpa using h2⟩
  | f :: fs, done, s, h1, h2, h3 => by
    simp only [List.foldl_cons];have e : done ++ f :: fs = (done ++ [f]) ++ fs := (by simp);rw [e] at h3 ⊢;refine colStep_keys Ks Os Bb n fs (done ++ [f]) _ ?_ ?_ h3;show KeysX (s.xs ++ putX f _ _ _ _);unfold KeysX;rw [List.pairwise_append];refine ⟨h1, putX_keys _ _ _ _ _, fun x hx y hy => .inr ?_⟩;rw [(putX_in _ _ _ _ _ y hy).1];intro he;have hm := h2 x hx;rw [he] at hm;have := (List.nodup_append.1 (List.nodup_append.1 h3).1).2.2;exact this f hm f (by simp) rfl;intro x hx
    rcases List.mem_append.1 hx with hx | hx
    exact List.mem_append_left _ (h2 x hx);rw [(putX_in _ _ _ _ _ x hx).1]; simp
theorem addB_keys (Os : List (List Bool)) (Bb : List (List Nat)) (n : Nat) : ∀ (Gs : List GS) (done : List Nat) (D : DSS), KeysX D.xs -> (∀ x ∈ D.xs, x.f ∈ done) -> (done ++ allG Gs).Nodup -> KeysX (Gs.foldl (addB Os Bb n) D).xs
  | [], done, D, h1, _, _ => h1
  | G :: Gs, done, D, h1, h2, h3 => by simp only [List.foldl_cons];have e : done ++ allG (G :: Gs) = (done ++ G.fs) ++ allG Gs := (by simp [allG]);rw [e] at h3;obtain ⟨a, b⟩ := colStep_keys D.ks Os Bb n G.fs done ⟨List.replicate n 0, D.xs, 1⟩ h1 h2 (List.nodup_append.1 h3).1;exact addB_keys Os Bb n Gs (done ++ G.fs) _ a b h3
theorem makeF_keys (m n budget : Nat) (es : List ES) (Bb : List (List Nat)) : KeysX (makeF m n budget es Bb).xs :=
  addB_keys _ _ _ _ [] _ (by simp [KeysX]) (by simp) (by simpa using layF_nodup m _ _ n budget)
theorem sorted_one {L X Y : List XS} (hk : KeysX L) (h1 : X.Perm L) (h2 : SortedX X) (h3 : Y.Perm L) (h4 : SortedX Y) : X = Y := by
  refine List.Perm.eq_of_pairwise (le := fun x y : XS => x.row < y.row ∨ x.row = y.row /\ x.f <= y.f) (fun a b ha hb hab hba => ?_) h2 h4 (h1.trans h3.symm);have ka : a ∈ L := h1.subset ha;have kb : b ∈ L := h3.subset hb;obtain ⟨i, hi, rfl⟩ := List.getElem_of_mem ka;obtain ⟨j, hj, rfl⟩ := List.getElem_of_mem kb
  rcases Nat.lt_trichotomy i j with h | h | h
  have := List.pairwise_iff_getElem.1 hk i j hi hj h;omega;subst h; rfl;have := List.pairwise_iff_getElem.1 hk j i hj hi h;omega
end Go.Proofs.YtfcgnpchbcmdeaaGreat

namespace Go.Proofs.YtfcgnpchbcmdeaaGreat
open Go.RowKit
theorem putN_in (off h : Nat) (O : List Bool) (B N : List Nat) (k : Nat) (hN : ∀ x ∈ N, x < off) (h0 : 0 < off) (hB : ∀ r, B.getD r 0 < h) : ∀ x ∈ putN off O B N k, x < off + h := by
  intro x hx;unfold putN at hx
  have hg : ∀ r, N.getD r 0 < off := fun r => by
    rw [List.getD_eq_getElem?_getD]
    rcases Nat.lt_or_ge r N.length with h1 | h1
    rw [List.getElem?_eq_getElem h1]; exact hN _ (List.getElem_mem h1);rw [List.getElem?_eq_none h1]; exact h0
  rcases List.mem_append.1 hx with hx | hx
  obtain ⟨r, _, rfl⟩ := List.mem_map.1 hx;unfold rowN;split;have := hB r; omega;have := hg r; omega;have := hN x (List.mem_of_mem_drop hx);omega
structure ColI (n : Nat) (s : CS) : Prop where
  len : s.N.length = n
  pos : 0 < s.off
  lt : ∀ x ∈ s.N, x < s.off
theorem colStep_in {Ks : List KS} {Os : List (List Bool)} {Bb : List (List Nat)} {n : Nat} : ∀ (fs : List Nat) (s : CS), (∀ f ∈ fs, ∀ r, (Bb.getD f []).getD r 0 < (Ks.getD f k0S).many) -> ColI n s -> ColI n (fs.foldl (colStep Ks Os Bb n) s)
  | [], s, _, h => h
  | f :: fs, s, hb, h => by simp only [List.foldl_cons];refine colStep_in fs _ (fun g hg => hb g (by simp [hg])) ⟨?_, ?_, ?_⟩;show (putN _ _ _ _ n).length = n;rw [putN_len _ _ _ _ (by rw [h.len]; exact Nat.le_refl _)]; exact h.len;show 0 < s.off + _;have := h.pos; omega;exact putN_in _ _ _ _ _ _ h.lt h.pos (hb f (by simp))
theorem colF_in {Ks : List KS} {Os : List (List Bool)} {Bb : List (List Nat)} {n : Nat} {xs : List XS} {fs : List Nat} (hb : ∀ f ∈ fs, ∀ r, (Bb.getD f []).getD r 0 < (Ks.getD f k0S).many) : ColI n (colF Ks Os Bb n xs fs) :=
  colStep_in fs _ hb ⟨by simp, by simp, by intro x hx; simp at hx; simp [hx.2]⟩
structure BOk (Ks : List KS) (n : Nat) (b : BS) : Prop where
  len : b.N.length = n
  le : ∀ x ∈ b.N, x <= b.g
  sum : b.g = sumM Ks b.fs
theorem addB_ok {Os : List (List Bool)} {Bb : List (List Nat)} {n : Nat} {Ks : List KS} : ∀ (Gs : List GS) (D : DSS), D.ks = Ks -> (∀ G ∈ Gs, ∀ f ∈ G.fs, ∀ r, (Bb.getD f []).getD r 0 < (Ks.getD f k0S).many) -> (∀ b ∈ D.bs, BOk Ks n b) -> (∀ b ∈ (Gs.foldl (addB Os Bb n) D).bs, BOk Ks n b) /\ (Gs.foldl (addB Os Bb n) D).bs.map (fun b => b.fs) = D.bs.map (fun b => b.fs) ++ Gs.map (fun G => G.fs)
  | [], D, _, _, h => ⟨h, by simp⟩
  | G :: Gs, D, hk, hb, h => by
    simp only [List.foldl_cons]
    obtain ⟨a, b⟩ := addB_ok (Os := Os) Gs (addB Os Bb n D G) hk (fun g hg => hb g (by simp [hg])) (fun b hb2 => by
      rcases List.mem_append.1 hb2 with h1 | h1
      exact h b h1;simp only [List.mem_cons, List.not_mem_nil, or_false] at h1;subst h1;have hc : ColI n (colF D.ks Os Bb n D.xs G.fs) := colF_in (by rw [hk]; exact hb G (by simp));refine ⟨hc.len, fun x hx => ?_, ?_⟩;have := hc.lt x hx;show x <= _ - 1;omega;show _ - 1 = sumM Ks G.fs
      rw [colF_off, hk]; omega)
    refine ⟨a, ?_⟩;rw [b];simp [addB]
def seatB (D : DSS) (f : Nat) : Nat := D.bs.findIdx (fun b => decide (f ∈ b.fs))
def seatP (D : DSS) (f : Nat) : Nat := (D.bs.getD (seatB D f) b0S).fs.idxOf f
theorem seat_of {D : DSS} {f : Nat} (hall : ∃ b ∈ D.bs, f ∈ b.fs) (hfl : ∀ b ∈ D.bs, b.fs.length <= 100) (hfk : ∀ b ∈ D.bs, ∀ x ∈ b.fs, x < D.ks.length) (hmn : ∀ i, i < D.ks.length -> (D.ks.getD i k0S).many <= 100) : SeatOk D f (seatB D f) (seatP D f) := by
  obtain ⟨b, hb, hf⟩ := hall;have hlt : seatB D f < D.bs.length := List.findIdx_lt_length_of_exists ⟨b, hb, by simpa using hf⟩
  have hg : ∀ i (h : i < D.bs.length), D.bs.getD i b0S = D.bs[i] := fun i h => by rw [List.getD_eq_getElem?_getD, List.getElem?_eq_getElem h]; rfl
  have hin : f ∈ (D.bs.getD (seatB D f) b0S).fs := (by rw [hg _ hlt];have := List.findIdx_getElem (p := fun b : BS => decide (f ∈ b.fs)) (w := hlt);exact of_decide_eq_true this);have hpl : seatP D f < (D.bs.getD (seatB D f) b0S).fs.length := List.idxOf_lt_length_of_mem hin;refine ⟨hlt, hpl, ?_, ?_, ?_, ?_, hmn⟩;rw [List.getD_eq_getElem?_getD, List.getElem?_eq_getElem hpl];exact List.getElem_idxOf hpl
  · intro i j hi hj hor
    rcases hor with h1 | h1
    have h2 := List.not_of_lt_findIdx (p := fun b : BS => decide (f ∈ b.fs)) (xs := D.bs) h1;intro e;refine absurd ?_ (of_decide_eq_false h2);rw [hg i (by omega)] at e hj;rw [List.getD_eq_getElem?_getD, List.getElem?_eq_getElem hj] at e;exact Eq.subst (motive := fun z => z ∈ _) e (List.getElem_mem _)
    rcases Nat.lt_or_ge i (seatB D f) with h3 | h3
    have h2 := List.not_of_lt_findIdx (p := fun b : BS => decide (f ∈ b.fs)) (xs := D.bs) h3;intro e;refine absurd ?_ (of_decide_eq_false h2);rw [hg i (by omega)] at e hj;rw [List.getD_eq_getElem?_getD, List.getElem?_eq_getElem hj] at e;exact Eq.subst (motive := fun z => z ∈ _) e (List.getElem_mem _);have e : i = seatB D f := (by omega);subst e;intro e2;rw [List.getD_eq_getElem?_getD, List.getElem?_eq_getElem hj] at e2;have h4 := List.not_of_lt_findIdx (p := (· == f)) (xs := (D.bs.getD (seatB D f) b0S).fs) (i := j) h1;simp only [beq_eq_false_iff_ne] at h4;exact h4 e2
  intro i hi;rw [hg i (by omega)];exact hfl _ (List.getElem_mem _);intro i j hi hj;rw [hg i (by omega)] at hj ⊢;rw [List.getD_eq_getElem?_getD, List.getElem?_eq_getElem hj];exact hfk _ (List.getElem_mem _) _ (List.getElem_mem _)
end Go.Proofs.YtfcgnpchbcmdeaaGreat

namespace Go.Proofs.YtfcgnpchbcmdeaaGreat
open Go.RowKit
def XIn (Bb : List (List Nat)) (n : Nat) (fs : List Nat) (x : XS) : Prop := x.row < n /\ x.f ∈ fs /\ x.bin = (Bb.getD x.f []).getD x.row 0
theorem colStep_xs (Ks : List KS) (Os : List (List Bool)) (Bb : List (List Nat)) (n : Nat) : ∀ (fs done : List Nat) (s : CS), (∀ x ∈ s.xs, XIn Bb n done x) -> (fs.foldl (colStep Ks Os Bb n) s).xs.length <= s.xs.length + fs.length * n /\ ∀ x ∈ (fs.foldl (colStep Ks Os Bb n) s).xs, XIn Bb n (done ++ fs) x
  | [], done, s, h => ⟨by simp, by simpa using h⟩
  | f :: fs, done, s, h => by
    simp only [List.foldl_cons]
    obtain ⟨a, b⟩ := colStep_xs Ks Os Bb n fs (done ++ [f]) (colStep Ks Os Bb n s f) (fun x hx => by
      rcases List.mem_append.1 hx with hx | hx
      obtain ⟨h1, h2, h3⟩ := h x hx;exact ⟨h1, List.mem_append_left _ h2, h3⟩;obtain ⟨h1, h2, h3⟩ := putX_in _ _ _ _ _ x hx
      exact ⟨h2, by rw [h1]; simp, by rw [h1]; exact h3⟩)
    refine ⟨?_, by rw [show done ++ f :: fs = (done ++ [f]) ++ fs by simp]; exact b⟩;have h1 : (colStep Ks Os Bb n s f).xs.length <= s.xs.length + n := (by show (s.xs ++ putX _ _ _ _ _).length <= _;rw [List.length_append];have := putX_len f (Os.getD f []) (Bb.getD f []) s.N n;omega);rw [List.length_cons, Nat.succ_mul];omega
theorem addB_xs (Os : List (List Bool)) (Bb : List (List Nat)) (n : Nat) : ∀ (Gs : List GS) (done : List Nat) (D : DSS), (∀ x ∈ D.xs, XIn Bb n done x) -> (Gs.foldl (addB Os Bb n) D).xs.length <= D.xs.length + (allG Gs).length * n /\ ∀ x ∈ (Gs.foldl (addB Os Bb n) D).xs, XIn Bb n (done ++ allG Gs) x
  | [], done, D, h => ⟨by simp, by simpa [allG] using h⟩
  | G :: Gs, done, D, h => by simp only [List.foldl_cons];obtain ⟨a, b⟩ := colStep_xs D.ks Os Bb n G.fs done ⟨List.replicate n 0, D.xs, 1⟩ h;obtain ⟨c, d⟩ := addB_xs Os Bb n Gs (done ++ G.fs) (addB Os Bb n D G) b;have e : allG (G :: Gs) = G.fs ++ allG Gs := rfl;refine ⟨?_, by rw [e, <- List.append_assoc]; exact d⟩;have h1 : (addB Os Bb n D G).xs.length <= D.xs.length + G.fs.length * n := a;rw [e, List.length_append, Nat.add_mul];omega
structure DatOk (n : Nat) (D : DSS) : Prop where
  n2 : n <= 200
  k0 : 0 < D.ks.length
  k4 : D.ks.length <= 4
  b0 : 0 < D.bs.length
  b4 : D.bs.length <= 4
  bok : ∀ b ∈ D.bs, BOk D.ks n b
  g40 : ∀ b ∈ D.bs, b.g <= 40
  f0 : ∀ b ∈ D.bs, 0 < b.fs.length
  f4 : ∀ b ∈ D.bs, b.fs.length <= 4
  fk : ∀ b ∈ D.bs, ∀ f ∈ b.fs, f < D.ks.length
  all : ∀ f, f < D.ks.length -> ∃ b ∈ D.bs, f ∈ b.fs
  mn : ∀ i, i < D.ks.length -> (D.ks.getD i k0S).many <= 18
  dn : ∀ i, i < D.ks.length -> (D.ks.getD i k0S).d < (D.ks.getD i k0S).many
  edg : ∀ i, i < D.ks.length -> EdgOk (D.ks.getD i k0S).e
  keys : KeysX D.xs
  xl : D.xs.length <= 800
  xin : ∀ x ∈ D.xs, x.row < n /\ x.f < D.ks.length /\ x.bin < 18
theorem makeF_ok {m n budget : Nat} {es : List ES} {Bb : List (List Nat)} (hm : m + 1 <= 4) (hn : n <= 200) (hk : BinOk m n es Bb) : DatOk n (makeF m n budget es Bb) := by
  have hks : (makeF m n budget es Bb).ks = ksF es Bb (m + 1) := addsF_ks _ _ _ _ _;have hkl : (ksF es Bb (m + 1)).length = m + 1 := ksF_len es Bb (m + 1)
  have hma : ∀ i, i < m + 1 -> ((ksF es Bb (m + 1)).getD i k0S).many = (es.getD i e0S).cnt + 2 := fun i hi => by rw [ksF_getD es Bb hi]; rfl
  have hma18 : ∀ i, i < m + 1 -> ((ksF es Bb (m + 1)).getD i k0S).many <= 18 := fun i hi => by rw [hma i hi]; have := hk.cn i hi; omega
  have hO : ∀ i, i < m + 1 -> ((osF es Bb (m + 1)).getD i []).length = n := fun i hi => by rw [osF_getD es Bb hi];unfold oF outsOf;rw [List.length_map];exact hk.lb i hi
  have hbin : ∀ f, f < m + 1 -> ∀ r, (Bb.getD f []).getD r 0 < ((ksF es Bb (m + 1)).getD f k0S).many := fun f hf r => by
    rw [hma f hf, List.getD_eq_getElem?_getD]
    rcases Nat.lt_or_ge r (Bb.getD f []).length with h1 | h1
    rw [List.getElem?_eq_getElem h1]; exact hk.bin f hf _ (List.getElem_mem h1);rw [List.getElem?_eq_none h1]; simp
  obtain ⟨hfit, hgl⟩ := layF_fit (budget := budget) hO (fun i hi => Nat.le_trans (hma18 i hi) (by decide));have hall := layF_all m (ksF es Bb (m + 1)) (osF es Bb (m + 1)) n budget;have hpos := layF_pos m (ksF es Bb (m + 1)) (osF es Bb (m + 1)) n budget;obtain ⟨hbo, hbf⟩ := addB_ok (Os := osF es Bb (m + 1)) (Bb := Bb) (n := n) (Ks := ksF es Bb (m + 1)) (layF m (ksF es Bb (m + 1)) (osF es Bb (m + 1)) n budget) ⟨ksF es Bb (m + 1), [], []⟩ rfl (fun G hG f hf => hbin f ((hfit G hG).fs f hf)) (by simp);obtain ⟨hxl, hxi⟩ := addB_xs (osF es Bb (m + 1)) Bb n (layF m (ksF es Bb (m + 1)) (osF es Bb (m + 1)) n budget) [] ⟨ksF es Bb (m + 1), [], []⟩ (by simp);have hbo' : ∀ b ∈ (makeF m n budget es Bb).bs, BOk (ksF es Bb (m + 1)) n b := hbo
  have hbf' : (makeF m n budget es Bb).bs.map (fun b => b.fs) = (layF m (ksF es Bb (m + 1)) (osF es Bb (m + 1)) n budget).map (fun G => G.fs) := (by rw [show (makeF m n budget es Bb).bs = _ from rfl]; exact hbf);have hxl' : (makeF m n budget es Bb).xs.length <= 0 + (allG (layF m (ksF es Bb (m + 1)) (osF es Bb (m + 1)) n budget)).length * n := hxl;have hxi' : ∀ x ∈ (makeF m n budget es Bb).xs, XIn Bb n ([] ++ allG (layF m (ksF es Bb (m + 1)) (osF es Bb (m + 1)) n budget)) x := hxi;have hkeys := makeF_keys m n budget es Bb;clear hbo hbf hxl hxi;generalize makeF m n budget es Bb = D at *;generalize layF m (ksF es Bb (m + 1)) (osF es Bb (m + 1)) n budget = Gs at *
  have hbl : D.bs.length = Gs.length := by have := congrArg List.length hbf'; simpa using this
  have hGb : ∀ b ∈ D.bs, ∃ G ∈ Gs, G.fs = b.fs := fun b hb => by have : b.fs ∈ D.bs.map (fun b => b.fs) := List.mem_map.2 ⟨b, hb, rfl⟩;rw [hbf'] at this;obtain ⟨G, hG, e⟩ := List.mem_map.1 this;exact ⟨G, hG, e⟩
  have hbG : ∀ G ∈ Gs, ∃ b ∈ D.bs, b.fs = G.fs := fun G hG => by have : G.fs ∈ Gs.map (fun G => G.fs) := List.mem_map.2 ⟨G, hG, rfl⟩;rw [<- hbf'] at this;obtain ⟨b, hb, e⟩ := List.mem_map.1 this;exact ⟨b, hb, e⟩
  have hin : ∀ f, f < m + 1 -> ∃ G ∈ Gs, f ∈ G.fs := fun f hf => by have : f ∈ allG Gs := hall.mem_iff.2 (List.mem_range.2 hf);exact List.mem_flatMap.1 this
  have hal : (allG Gs).length = m + 1 := (by rw [hall.length_eq, List.length_range]);constructor;exact hn;rw [hks, hkl]; omega;rw [hks, hkl]; exact hm;rw [hbl];obtain ⟨G, hG, _⟩ := hin 0 (by omega);exact List.length_pos_of_mem hG;rw [hbl]; omega;rw [hks]; exact hbo';intro b hb;obtain ⟨G, hG, e⟩ := hGb b hb;rw [(hbo' b hb).sum, <- e, <- (hfit G hG).sum];exact (hfit G hG).bins;intro b hb;obtain ⟨G, hG, e⟩ := hGb b hb;rw [<- e]; exact hpos G hG;intro b hb;obtain ⟨G, hG, e⟩ := hGb b hb;rw [<- e]; have := (hfit G hG).len; omega;intro b hb f hf;obtain ⟨G, hG, e⟩ := hGb b hb;rw [hks, hkl];exact (hfit G hG).fs f (by rw [e]; exact hf);intro f hf;rw [hks, hkl] at hf;obtain ⟨G, hG, hfG⟩ := hin f hf;obtain ⟨b, hb, e⟩ := hbG G hG;exact ⟨b, hb, by rw [e]; exact hfG⟩;intro i hi;rw [hks] at hi ⊢;rw [hkl] at hi;exact hma18 i hi
  intro i hi;rw [hks] at hi ⊢;rw [hkl] at hi;rw [hma i hi, ksF_getD es Bb hi];show dflF _ _ < _;have := mostF_in (Bb.getD i []) (show 0 < (es.getD i e0S).cnt + 2 by omega);rw [dflF_eq] at this;omega;intro i hi;rw [hks] at hi ⊢;rw [hkl] at hi;rw [ksF_getD es Bb hi];exact hk.ok i hi;exact hkeys;rw [hal] at hxl';have : (m + 1) * n <= 4 * 200 := Nat.mul_le_mul hm hn;omega;intro x hx;obtain ⟨h1, h2, h3⟩ := hxi' x hx;have hf : x.f < m + 1 := List.mem_range.1 (hall.mem_iff.1 (by simpa using h2));refine ⟨h1, by rw [hks, hkl]; exact hf, ?_⟩;rw [h3];exact Nat.lt_of_lt_of_le (hbin x.f hf x.row) (hma18 x.f hf)
end Go.Proofs.YtfcgnpchbcmdeaaGreat

namespace Go.Proofs.YtfcgnpchbcmdeaaGreat
open Go.RowKit
theorem putN_get (off : Nat) (O : List Bool) (B N : List Nat) {n r : Nat} (hr : r < n) : (putN off O B N n).getD r 0 = rowN off O B N r := by unfold putN;rw [List.getD_eq_getElem?_getD, List.getElem?_append_left (by simpa using hr)];simp [List.getElem?_range hr]
theorem mem_putX (f : Nat) (O : List Bool) (B N : List Nat) : ∀ (k : Nat) (x : XS), x ∈ putX f O B N k ↔ x.f = f /\ x.row < k /\ O.getD x.row false = true /\ N.getD x.row 0 ≠ 0 /\ x.bin = B.getD x.row 0
  | 0, x => by simp [putX]
  | k + 1, x => by
    rw [putX, List.mem_append, mem_putX f O B N k];obtain ⟨xr, xf, xb⟩ := x;simp only [rowX];constructor;rintro (⟨h1, h2, h3⟩ | h);exact ⟨h1, by omega, h3⟩;split at h;rename_i hc;simp only [List.mem_singleton, XS.mk.injEq] at h;obtain ⟨rfl, rfl, rfl⟩ := h;exact ⟨rfl, by omega, hc.1, hc.2, rfl⟩;simp at h;rintro ⟨h1, h2, h3, h4, h5⟩
    rcases Nat.lt_or_ge xr k with h | h
    exact .inl ⟨h1, h, h3, h4, h5⟩;have e : xr = k := (by omega);subst e;right;rw [if_pos ⟨h3, h4⟩];simp [h1, h5]
section
variable {Ks : List KS} {Os : List (List Bool)} {Bb : List (List Nat)} {n : Nat}
theorem col_later : ∀ (fs : List Nat) (s : CS), 0 < s.off -> ∀ r, r < n -> (s.N.getD r 0 ≠ 0 -> (fs.foldl (colStep Ks Os Bb n) s).N.getD r 0 = s.N.getD r 0) /\ (s.N.getD r 0 = 0 -> (fs.foldl (colStep Ks Os Bb n) s).N.getD r 0 = 0 ∨ s.off <= (fs.foldl (colStep Ks Os Bb n) s).N.getD r 0)
  | [], s, _, r, _ => ⟨fun _ => rfl, fun h => .inl h⟩
  | f :: fs, s, h0, r, hr => by
    simp only [List.foldl_cons];have hg : (colStep Ks Os Bb n s f).N.getD r 0 = rowN s.off (Os.getD f []) (Bb.getD f []) s.N r := putN_get _ _ _ _ hr;have ho : (colStep Ks Os Bb n s f).off = s.off + (Ks.getD f k0S).many := rfl;obtain ⟨a, b⟩ := col_later fs (colStep Ks Os Bb n s f) (by rw [ho]; omega) r hr;constructor;intro h;have e : (colStep Ks Os Bb n s f).N.getD r 0 = s.N.getD r 0 := (by rw [hg]; unfold rowN; rw [if_neg (fun hc => h hc.2)]);rw [a (by rw [e]; exact h), e];intro h
    by_cases hO : (Os.getD f []).getD r false = true
    have e : (colStep Ks Os Bb n s f).N.getD r 0 = s.off + (Bb.getD f []).getD r 0 := (by rw [hg]; unfold rowN; rw [if_pos ⟨hO, h⟩]);right;rw [a (by rw [e]; omega), e];omega;have e : (colStep Ks Os Bb n s f).N.getD r 0 = 0 := by rw [hg]; unfold rowN; rw [if_neg (fun hc => hO hc.1)]; exact h
    rcases b e with h1 | h1
    exact .inl h1;right; rw [ho] at h1; omega
theorem col_xs : ∀ (fs : List Nat) (s t : CS), s.N = t.N -> s.off = t.off -> (fs.foldl (colStep Ks Os Bb n) s).N = (fs.foldl (colStep Ks Os Bb n) t).N /\ (fs.foldl (colStep Ks Os Bb n) s).off = (fs.foldl (colStep Ks Os Bb n) t).off
  | [], _, _, h1, h2 => ⟨h1, h2⟩
  | f :: fs, s, t, h1, h2 => by simp only [List.foldl_cons];refine col_xs fs _ _ ?_ ?_;show putN _ _ _ _ _ = putN _ _ _ _ _;rw [h1, h2];show s.off + _ = t.off + _;rw [h2]
def colN (Ks : List KS) (Os : List (List Bool)) (Bb : List (List Nat)) (n : Nat) (fs : List Nat) : List Nat := (colF Ks Os Bb n [] fs).N
theorem colF_N (xs : List XS) (fs : List Nat) : (colF Ks Os Bb n xs fs).N = colN Ks Os Bb n fs := (col_xs fs ⟨List.replicate n 0, xs, 1⟩ ⟨List.replicate n 0, [], 1⟩ rfl rfl).1
theorem mem_col : ∀ (fs : List Nat) (s : CS) (x : XS), x ∈ (fs.foldl (colStep Ks Os Bb n) s).xs ↔ x ∈ s.xs ∨ ∃ A C, fs = A ++ x.f :: C /\ x.row < n /\ (Os.getD x.f []).getD x.row false = true /\ (A.foldl (colStep Ks Os Bb n) s).N.getD x.row 0 ≠ 0 /\ x.bin = (Bb.getD x.f []).getD x.row 0
  | [], s, x => by simp
  | f :: fs, s, x => by
    simp only [List.foldl_cons];rw [mem_col fs (colStep Ks Os Bb n s f) x];have e : x ∈ (colStep Ks Os Bb n s f).xs ↔ x ∈ s.xs ∨ x ∈ putX f (Os.getD f []) (Bb.getD f []) s.N n := List.mem_append;rw [e, mem_putX];constructor;rintro ((h | ⟨rfl, h⟩) | ⟨A, C, rfl, h⟩);exact .inl h;exact .inr ⟨[], fs, rfl, h⟩;exact .inr ⟨f :: A, C, rfl, h⟩;rintro (h | ⟨A, C, h1, h⟩);exact .inl (.inl h)
    cases A with
    | nil =>
      simp only [List.nil_append, List.cons.injEq] at h1;obtain ⟨rfl, rfl⟩ := h1;exact .inl (.inr ⟨rfl, h⟩)
    | cons g A =>
      simp only [List.cons_append, List.cons.injEq] at h1;obtain ⟨rfl, rfl⟩ := h1;exact .inr ⟨A, C, rfl, h⟩
theorem mem_adds : ∀ (Gs : List GS) (D : DSS) (x : XS), D.ks = Ks -> (x ∈ (Gs.foldl (addB Os Bb n) D).xs ↔ x ∈ D.xs ∨ ∃ G ∈ Gs, ∃ A C, G.fs = A ++ x.f :: C /\ x.row < n /\ (Os.getD x.f []).getD x.row false = true /\ (colN Ks Os Bb n A).getD x.row 0 ≠ 0 /\ x.bin = (Bb.getD x.f []).getD x.row 0)
  | [], D, x, _ => by simp
  | G :: Gs, D, x, hk => by
    simp only [List.foldl_cons];rw [mem_adds Gs (addB Os Bb n D G) x hk];have e : x ∈ (addB Os Bb n D G).xs ↔ x ∈ (G.fs.foldl (colStep Ks Os Bb n) ⟨List.replicate n 0, D.xs, 1⟩).xs := (by rw [<- hk]; rfl);rw [e, mem_col];have eN : ∀ A, (A.foldl (colStep Ks Os Bb n) ⟨List.replicate n 0, D.xs, 1⟩).N = colN Ks Os Bb n A := fun A => colF_N D.xs A;constructor;rintro ((h | ⟨A, C, h1, h2, h3, h4, h5⟩) | ⟨G', hG, h⟩);exact .inl h;exact .inr ⟨G, by simp, A, C, h1, h2, h3, by rw [eN] at h4; exact h4, h5⟩;exact .inr ⟨G', by simp [hG], h⟩;rintro (h | ⟨G', hG, A, C, h1, h2, h3, h4, h5⟩);exact .inl (.inl h)
    rcases List.mem_cons.1 hG with rfl | hG
    exact .inl (.inr ⟨A, C, h1, h2, h3, by rw [eN]; exact h4, h5⟩);exact .inr ⟨G', hG, A, C, h1, h2, h3, h4, h5⟩
theorem adds_N : ∀ (Gs : List GS) (D : DSS), D.ks = Ks -> (∀ b ∈ D.bs, b.N = colN Ks Os Bb n b.fs) -> ∀ b ∈ (Gs.foldl (addB Os Bb n) D).bs, b.N = colN Ks Os Bb n b.fs
  | [], _, _, h => h
  | G :: Gs, D, hk, h => by
    simp only [List.foldl_cons];refine adds_N Gs (addB Os Bb n D G) hk (fun b hb => ?_)
    rcases List.mem_append.1 hb with h1 | h1
    exact h b h1;simp only [List.mem_cons, List.not_mem_nil, or_false] at h1;subst h1;show (colF D.ks Os Bb n D.xs G.fs).N = _;rw [hk]; exact colF_N _ _
end
theorem DatOk.seat {n : Nat} {D : DSS} (h : DatOk n D) {f : Nat} (hf : f < D.ks.length) : SeatOk D f (seatB D f) (seatP D f) :=
  seat_of (h.all f hf) (fun b hb => Nat.le_trans (h.f4 b hb) (by decide)) h.fk (fun i hi => Nat.le_trans (h.mn i hi) (by decide))
theorem look_bin {m n budget : Nat} {es : List ES} {Bb : List (List Nat)} (hm : m + 1 <= 4) (hn : n <= 200) (hk : BinOk m n es Bb) {X : List XS} (hX : X.Perm (makeF m n budget es Bb).xs) {f row : Nat} (hf : f < m + 1) (hr : row < n) : lookF (makeF m n budget es Bb) X f (seatB (makeF m n budget es Bb) f) (seatP (makeF m n budget es Bb) f) row = (Bb.getD f []).getD row 0 := by
  have hd := makeF_ok (budget := budget) hm hn hk;have hks : (makeF m n budget es Bb).ks = ksF es Bb (m + 1) := addsF_ks _ _ _ _ _;have hkl : (ksF es Bb (m + 1)).length = m + 1 := ksF_len es Bb (m + 1);have hs := hd.seat (f := f) (by rw [hks, hkl]; exact hf)
  have hbin : ∀ g, g < m + 1 -> ∀ r, (Bb.getD g []).getD r 0 < ((ksF es Bb (m + 1)).getD g k0S).many := fun g hg r => by
    rw [ksF_getD es Bb hg];show _ < (es.getD g e0S).cnt + 2;rw [List.getD_eq_getElem?_getD]
    rcases Nat.lt_or_ge r (Bb.getD g []).length with h1 | h1
    rw [List.getElem?_eq_getElem h1]; exact hk.bin g hg _ (List.getElem_mem h1);rw [List.getElem?_eq_none h1]; simp
  have hmem : ∀ x, x ∈ (makeF m n budget es Bb).xs ↔ _ := fun x => mem_adds (Ks := ksF es Bb (m + 1)) (Os := osF es Bb (m + 1)) (Bb := Bb) (n := n) (layF m (ksF es Bb (m + 1)) (osF es Bb (m + 1)) n budget) ⟨ksF es Bb (m + 1), [], []⟩ x rfl;have hN : ∀ b ∈ (makeF m n budget es Bb).bs, b.N = colN (ksF es Bb (m + 1)) (osF es Bb (m + 1)) Bb n b.fs := adds_N (layF m (ksF es Bb (m + 1)) (osF es Bb (m + 1)) n budget) ⟨ksF es Bb (m + 1), [], []⟩ rfl (by simp)
  have hbf : (makeF m n budget es Bb).bs.map (fun b => b.fs) = (layF m (ksF es Bb (m + 1)) (osF es Bb (m + 1)) n budget).map (fun G => G.fs) := by have h1 := (addB_ok (Os := osF es Bb (m + 1)) (Bb := Bb) (n := n) (Ks := ksF es Bb (m + 1)) (layF m (ksF es Bb (m + 1)) (osF es Bb (m + 1)) n budget) ⟨ksF es Bb (m + 1), [], []⟩ rfl (fun G hG g hg => hbin g (List.mem_range.1 ((layF_all m (ksF es Bb (m + 1)) (osF es Bb (m + 1)) n budget).mem_iff.1 (List.mem_flatMap.2 ⟨G, hG, hg⟩)))) (by simp)).2;rw [show (makeF m n budget es Bb).bs = _ from rfl]; exact h1
  have hO : ((osF es Bb (m + 1)).getD f []).getD row false = decide ((Bb.getD f []).getD row 0 ≠ ((ksF es Bb (m + 1)).getD f k0S).d) := (by rw [osF_getD es Bb hf, ksF_getD es Bb hf];have hl : row < (Bb.getD f []).length := (by rw [hk.lb f hf]; exact hr);unfold oF outsOf;rw [List.getD_eq_getElem?_getD, List.getElem?_map, List.getElem?_eq_getElem hl, List.getD_eq_getElem?_getD (l := Bb.getD f []), List.getElem?_eq_getElem hl];rfl);have hfk := hd.fk;clear hd;generalize makeF m n budget es Bb = D at *;generalize layF m (ksF es Bb (m + 1)) (osF es Bb (m + 1)) n budget = Gs at *;rw [hks] at hfk;generalize seatB D f = bi at *;generalize seatP D f = p at *;have hbm : D.bs.getD bi b0S ∈ D.bs := (by rw [List.getD_eq_getElem?_getD, List.getElem?_eq_getElem hs.hb]; exact List.getElem_mem _);have hNb := hN _ hbm
  have hsp : (D.bs.getD bi b0S).fs = (D.bs.getD bi b0S).fs.take p ++ f :: (D.bs.getD bi b0S).fs.drop (p + 1) := (by have h1 := hs.at_;rw [List.getD_eq_getElem?_getD (l := (D.bs.getD bi b0S).fs), List.getElem?_eq_getElem hs.hp] at h1;simp only [Option.getD_some] at h1;have h2 := List.take_append_drop p (D.bs.getD bi b0S).fs;rw [List.drop_eq_getElem_cons hs.hp, h1] at h2;exact h2.symm);have hoff : offK D bi p = 1 + sumM (ksF es Bb (m + 1)) ((D.bs.getD bi b0S).fs.take p) := (by unfold offK; rw [hks]);have hfsb := hfk _ hbm;rw [hkl] at hfsb;have hG : ∃ G ∈ Gs, G.fs = (D.bs.getD bi b0S).fs := by have : (D.bs.getD bi b0S).fs ∈ D.bs.map (fun b => b.fs) := List.mem_map.2 ⟨_, hbm, rfl⟩;rw [hbf] at this;obtain ⟨G, hG, e⟩ := List.mem_map.1 this;exact ⟨G, hG, e⟩
  unfold lookF;rw [hNb, hoff, hks];generalize (D.bs.getD bi b0S).fs = fs at *;generalize fs.take p = A at *;generalize fs.drop (p + 1) = C at *;subst hsp;have hcol : ColI n (colF (ksF es Bb (m + 1)) (osF es Bb (m + 1)) Bb n [] A) := colF_in (fun g hg => hbin g (hfsb g (List.mem_append_left _ hg)));have hcoff := colF_off (ksF es Bb (m + 1)) (osF es Bb (m + 1)) Bb n [] A;have hlt : (colN (ksF es Bb (m + 1)) (osF es Bb (m + 1)) Bb n A).getD row 0 < 1 + sumM (ksF es Bb (m + 1)) A := by rw [<- hcoff, List.getD_eq_getElem?_getD];have hl : row < (colN (ksF es Bb (m + 1)) (osF es Bb (m + 1)) Bb n A).length := (by unfold colN; rw [hcol.len]; exact hr);rw [List.getElem?_eq_getElem hl];exact hcol.lt _ (List.getElem_mem _)
  have hfin : colN (ksF es Bb (m + 1)) (osF es Bb (m + 1)) Bb n (A ++ f :: C) = (C.foldl (colStep (ksF es Bb (m + 1)) (osF es Bb (m + 1)) Bb n) (colStep (ksF es Bb (m + 1)) (osF es Bb (m + 1)) Bb n (colF (ksF es Bb (m + 1)) (osF es Bb (m + 1)) Bb n [] A) f)).N := (by unfold colN colF;rw [List.foldl_append, List.foldl_cons]);have hso : (colStep (ksF es Bb (m + 1)) (osF es Bb (m + 1)) Bb n (colF (ksF es Bb (m + 1)) (osF es Bb (m + 1)) Bb n [] A) f).off = 1 + sumM (ksF es Bb (m + 1)) A + ((ksF es Bb (m + 1)).getD f k0S).many := by show (colF _ _ _ _ _ _).off + _ = _;rw [hcoff]
  have hsn : (colStep (ksF es Bb (m + 1)) (osF es Bb (m + 1)) Bb n (colF (ksF es Bb (m + 1)) (osF es Bb (m + 1)) Bb n [] A) f).N.getD row 0 = rowN (1 + sumM (ksF es Bb (m + 1)) A) ((osF es Bb (m + 1)).getD f []) (Bb.getD f []) (colN (ksF es Bb (m + 1)) (osF es Bb (m + 1)) Bb n A) row := (by rw [<- hcoff];exact putN_get _ _ _ _ hr);obtain ⟨la, lb⟩ := col_later (Ks := ksF es Bb (m + 1)) (Os := osF es Bb (m + 1)) (Bb := Bb) (n := n) C _ (by rw [hso]; omega) row hr;rw [<- hfin, hso, hsn] at lb;rw [<- hfin, hsn] at la;have hbf2 := hbin f hf row
  have hxin : ∀ x ∈ X, atX row f x -> (((osF es Bb (m + 1)).getD f []).getD row false = true /\ x.bin = (Bb.getD f []).getD row 0) := fun x hx ha => by
    rcases (hmem x).1 (hX.subset hx) with h1 | ⟨G, _, A', C', _, _, h3, _, h5⟩
    simp at h1;rw [ha.1, ha.2] at h3 h5;exact ⟨h3, h5⟩
  generalize (colN (ksF es Bb (m + 1)) (osF es Bb (m + 1)) Bb n (A ++ f :: C)).getD row 0 = x at *;generalize hna : (colN (ksF es Bb (m + 1)) (osF es Bb (m + 1)) Bb n A).getD row 0 = na at *;unfold rowN at la lb;rw [hna] at la lb;generalize 1 + sumM (ksF es Bb (m + 1)) A = off at *
  by_cases hOt : ((osF es Bb (m + 1)).getD f []).getD row false = true
  · by_cases hz : na = 0
    rw [if_pos ⟨hOt, hz⟩] at la lb;have hx : x = off + (Bb.getD f []).getD row 0 := la (by omega);rw [if_pos (by omega)];omega;rw [if_neg (fun hc => hz hc.2)] at la lb;have hx : x = na := la hz;rw [if_neg (by omega)];obtain ⟨G, hGm, hGf⟩ := hG;have hex : (⟨row, f, (Bb.getD f []).getD row 0⟩ : XS) ∈ D.xs := (hmem _).2 (.inr ⟨G, hGm, A, C, hGf, hr, hOt, by rw [hna]; exact hz, rfl⟩);have hexX := hX.symm.subset hex;unfold xbF
    cases hfd : X.find? (fun y => decide (atX row f y)) with
    | none =>
      rw [List.find?_eq_none] at hfd;exact absurd (decide_eq_true (show atX row f ⟨row, f, (Bb.getD f []).getD row 0⟩ from ⟨rfl, rfl⟩)) (hfd _ hexX)
    | some y =>
      have h1 := List.find?_some hfd;exact (hxin y (List.mem_of_find?_eq_some hfd) (of_decide_eq_true h1)).2
  rw [if_neg (fun hc => hOt hc.1)] at la lb
  have hnin : ¬ (off <= x /\ x < off + ((ksF es Bb (m + 1)).getD f k0S).many) := by
    intro hc
    by_cases hz : na = 0
    · rcases lb hz with h1 | h1 <;> omega
    have := la hz; omega
  rw [if_neg hnin]
  have hdef : (Bb.getD f []).getD row 0 = ((ksF es Bb (m + 1)).getD f k0S).d := by
    rw [hO] at hOt
    simpa using hOt
  unfold xbF
  cases hfd : X.find? (fun y => decide (atX row f y)) with
  | none => exact hdef.symm
  | some y =>
    have h1 := List.find?_some hfd;exact absurd (hxin y (List.mem_of_find?_eq_some hfd) (of_decide_eq_true h1)).1 hOt
end Go.Proofs.YtfcgnpchbcmdeaaGreat

namespace Go.Proofs.YtfcgnpchbcmdeaaGreat
open Go.RowKit
theorem info25' : (Tryz.prog.info? 25).map (fun i => (i.zero, i.size, i.bytes)) = some (some (.slice none 0 0), 1, 24) := by kernel_rfl
theorem make_lists (n : Nat) (hn : n <= 1000000) (W : World) : (Instr.makeSlice 84 (.int .i64 (n : Int)) (.int .i64 (n : Int))).run Tryz.prog W = .ok (.slice (some ⟨W.heap.size, 0, none⟩) n n) (W.alloc (.cells (madeCells #[.slice none 0 0] n) 25)) := by obtain ⟨i0, hinf, hz0, hz1, hz2⟩ := info_parts info25';have := run_make (P := Tryz.prog) W 84 25 i0 _ Tryz.underlying84 hinf hz0 .i64 .i64 (n : Int) (n : Int) (by omega) (by omega) (by rw [hz2]; omega) (by omega);rw [hz1] at this;rw [this, Int.toNat_natCast, Nat.mul_one];rfl
structure ListsX (w : World) (base q n i : Nat) (Ls : List (List Int)) : Prop where
  cur : ∃ c : Array Value, w.heap[q]? = some (.cells c 25 (0, 0)) /\ c.size = n /\ ∀ j, j < i -> ∃ v, c[j]? = some v /\ OwnI w base v (Ls.getD j [])
theorem ListsX.below {w w' : World} {base q n i : Nat} {Ls : List (List Int)} (h : ListsX w base q n i Ls) (hb : Below w.heap.size w w') : ListsX w' base q n i Ls := by
  obtain ⟨c, h1, h2, h3⟩ := h.cur
  exact ⟨c, (hb.block q (Array.getElem?_eq_some_iff.1 h1).1).trans h1, h2, fun j hj => by
    obtain ⟨v, hv, ho⟩ := h3 j hj
    exact ⟨v, hv, ho.below hb⟩⟩
theorem ListsX.put {w : World} {base q n i : Nat} {Ls : List (List Int)} {v : Value} (h : ListsX w base q n i Ls) (hi : i < n) (hv : OwnI w base v (Ls.getD i [])) : ListsX (w.setCell ⟨q, i, none⟩ v) base q n (i + 1) Ls := by
  obtain ⟨c, h1, h2, h3⟩ := h.cur;refine ⟨c.setIfInBounds i v, heap_setCell_same w q i c 25 v h1, by simp [h2], fun j hj => ?_⟩
  by_cases hji : j = i
  subst hji;exact ⟨v, by simp [h2, hi], own_put' hv h1 (by decide)⟩;obtain ⟨u, hu, ho⟩ := h3 j (by omega);exact ⟨u, by rw [Array.getElem?_setIfInBounds_ne (fun e => hji e.symm)]; exact hu, own_put' ho h1 (by decide)⟩
theorem ListsX.at {w : World} {base q n i : Nat} {Ls : List (List Int)} (h : ListsX w base q n i Ls) {j : Nat} (hj : j < i) : ∃ a c, w.cell? ⟨q, j, none⟩ = some (.slice a (Ls.getD j []).length c) /\ q < w.heap.size /\ OwnI w base (.slice a (Ls.getD j []).length c) (Ls.getD j []) := by obtain ⟨c, h1, h2, h3⟩ := h.cur;obtain ⟨u, hu, ho⟩ := h3 j hj;obtain ⟨a, cc, rfl⟩ := ho.shape;refine ⟨a, cc, ?_, (Array.getElem?_eq_some_iff.1 h1).1, ho⟩;rw [cell_of_row w q j c 25 (0, 0) h1];exact hu
def lisB (D : DSS) : List (List Int) := D.bs.map (fun b => natI b.fs)
theorem lisB_get {D : DSS} {i : Nat} (h : i < D.bs.length) : (lisB D).getD i [] = natI (D.bs.getD i b0S).fs := by unfold lisB;rw [List.getD_eq_getElem?_getD, List.getElem?_map, List.getElem?_eq_getElem h];simp [List.getD_eq_getElem?_getD, List.getElem?_eq_getElem h]
def BunE (w : World) (D : DSS) (x : Ending) (w' : World) : Prop := ∃ q, x = .returned (.slice (some ⟨q, 0, none⟩) D.bs.length D.bs.length) /\ w.heap.size <= q /\ ListsX w' w.heap.size q D.bs.length D.bs.length (lisB D) /\ Below w.heap.size w w'
set_option maxRecDepth 100000 in
set_option maxHeartbeats 8000000 in
theorem dsBundles_any (db : Nat) (vK vB vX : Value) (kvs bvs : List (Value × Value)) (X : List XS) (D : DSS) (w : World) (h : MadeX w db vK vB vX kvs bvs X D) (h0 : 0 < D.bs.length) (hbl : D.bs.length <= 1000) (hfs : ∀ i, i < D.bs.length -> 0 < (D.bs.getD i b0S).fs.length /\ (D.bs.getD i b0S).fs.length <= 1000) : Calls Tryz.prog 94 #[.pointer (some ⟨db, 0, none⟩)] w fun e w' => BunE w D e w' := by
  have HM : Hid (MadeX w db vK vB vX kvs bvs X D) := h;have HF : Hid (∀ i, i < D.bs.length -> 0 < (D.bs.getD i b0S).fs.length /\ (D.bs.getD i b0S).fs.length <= 1000) := hfs;obtain ⟨qb, cB, hvB, hqbl, _, _⟩ := h.ds.bn.at (i := 0) h0;subst hvB;have d1 : w.cell? ⟨db, 1, none⟩ = some (.slice (some ⟨qb, 0, none⟩) D.bs.length cB) := cell_of_row _ _ 1 _ 168 (0, 0) h.ds.blk;have hdl : db < w.heap.size := (Array.getElem?_eq_some_iff.1 h.ds.blk).1;have hmk : ∀ W : World, (Instr.makeSlice 84 (.int .i64 (D.bs.length : Int)) (.int .i64 (D.bs.length : Int))).run Tryz.prog W = .ok (.slice (some ⟨W.heap.size, 0, none⟩) D.bs.length D.bs.length) (W.alloc (.cells (madeCells #[.slice none 0 0] D.bs.length) 25)) := make_lists _ (by omega);clear h hfs;generalize hnb : D.bs.length = nb at *;have HN : Hid (D.bs.length = nb) := hnb;clear hnb;go_enter Tryz.func94, Tryz.ntmps94;go_upto_region 2 with fail
  generalize hW1 : w.alloc (.cells (madeCells #[.slice none 0 0] nb) 25) = w1;have hB1 : Below w.heap.size w w1 := by rw [<- hW1]; exact (Below.refl _ _).alloc (Nat.le_refl _) _
  have HL1 : Hid (ListsX w1 w.heap.size w.heap.size nb 0 (lisB D) /\ Below w.heap.size w w1) := (by refine ⟨⟨_, by rw [<- hW1]; exact heap_alloc_new _ _, by simp [madeCells], fun j hj => by omega⟩, hB1⟩);have d1' := (hB1.cell (p := ⟨db, 1, none⟩) hdl).trans d1;clear hW1 hB1 hmk d1;go_wp2_with fail
  go_loopw [17] (fun ti wr => ∃ (i : Nat), ti = .int .i64 i /\ i <= nb /\ Hid (ListsX wr w.heap.size w.heap.size nb i (lisB D) /\ Below w.heap.size w wr)) (fun ti _ => nb - (intOf ti).toNat)
  case atStart => exact ⟨0, rfl, Nat.zero_le _, HL1.out⟩
  case round =>
    obtain ⟨i, rfl, hib, HR⟩ := hrel
    by_cases hin : i < nb
    · have hiL : i < D.bs.length := (by rw [HN.out]; exact hin);obtain ⟨q', c', hv', hql, k0, k1⟩ := HM.out.ds.bn.at hiL;have hqq : q' = qb := (by injection hv' with h1; injection h1 with h1; injection h1 with h1 _; exact h1.symm);subst hqq;obtain ⟨hI, hcol⟩ := HM.out.ds.bn.each i hiL;obtain ⟨fa, fcc, hvf⟩ := hI.shape;obtain ⟨ct, cp, hvc⟩ := hcol.iface;rw [natI_len] at hvf;rw [hvf] at k0 hI;rw [hvc] at k1;obtain ⟨hf1, hf2⟩ := HF.out i hin;have e0 := (HR.out.2.cell (p := ⟨q', i * 2, none⟩) hql).trans k0;have e1 := (HR.out.2.cell (p := ⟨q', i * 2 + 1, none⟩) hql).trans k1;have HLI : Hid ((lisB D).getD i [] = natI (D.bs.getD i b0S).fs) := lisB_get hiL;have HI : Hid (OwnI w 0 (.slice fa (D.bs.getD i b0S).fs.length fcc) (natI (D.bs.getD i b0S).fs)) := hI
      have hq : ∃ qf, fa = some ⟨qf, 0, none⟩ := by
        rcases hI.2 with ⟨e, h1⟩ | ⟨g, cap, cur, e, _⟩
        rw [natI_len] at h1; omega;injection e with e1; exact ⟨g, e1⟩
      obtain ⟨qf, rfl⟩ := hq;have bi1 : (0 : Int) <= (i : Int) := (by omega);have bi2 : (i : Int) < (nb : Int) := (by omega);clear hvf hvc hI hcol k0 k1 hv';generalize hnf : (D.bs.getD i b0S).fs.length = nf at *;have HNF : Hid ((natI (D.bs.getD i b0S).fs).length = nf) := (by show _ = _; rw [natI_len]; exact hnf);clear hnf;go_upto_region 5 with fail;generalize hW2 : wr.alloc (.cells #[.slice (some ⟨qf, 0, none⟩) nf fcc, .iface ct (.pointer (some ⟨cp, 0, none⟩))] 163) = w2;have hB2 : Below wr.heap.size wr w2 := (by rw [<- hW2]; exact (Below.refl _ _).alloc (Nat.le_refl _) _);have hX2 : w2.heap[wr.heap.size]? = some (.cells #[.slice (some ⟨qf, 0, none⟩) nf fcc, .iface ct (.pointer (some ⟨cp, 0, none⟩))] 163 (0, 0)) := (by rw [<- hW2]; exact heap_alloc_new _ _);have x0 : w2.cell? ⟨wr.heap.size, 0, none⟩ = some (.slice (some ⟨qf, 0, none⟩) nf fcc) := cell_of_row _ _ 0 _ 163 (0, 0) hX2
      have HR2 : Hid (ListsX w2 w.heap.size w.heap.size nb i (lisB D) /\ Below w.heap.size w w2) := ⟨HR.out.1.below hB2, HR.out.2.trans (hB2.mono HR.out.2.size)⟩;clear hW2 hX2 e0 e1 hB2 HR;have hIw : OwnI w2 0 (.slice (some ⟨qf, 0, none⟩) nf fcc) (natI (D.bs.getD i b0S).fs) := HI.out.below HR2.out.2
      have HC := Tryz.slices_Clone_int qf 0 nf fcc (natI (D.bs.getD i b0S).fs) w2 (by rw [HNF.out]; exact Nat.le_refl _) (by omega) (fun j hj => by
        obtain ⟨q3, hq3, _, _, y0, _⟩ := hIw.atK HNF.out (k := j) (by rw [<- HNF.out]; exact hj);injection hq3 with hq3;injection hq3 with hq3 _;subst hq3;rw [Nat.zero_add]
        exact y0)
      clear hIw;go_wp2_with fail
      refine HC.mono ?_;clear HC;rintro e w3 ⟨v3, rfl, hr3, _, hb3⟩;have hL3 : ListsX w3 w.heap.size w.heap.size nb i (lisB D) := HR2.out.1.below hb3;have hsz2 : w.heap.size <= w2.heap.size := HR2.out.2.size;have hb3' : Below w.heap.size w w3 := HR2.out.2.trans (hb3.mono hsz2);have hO3 : OwnI w3 w.heap.size v3 ((lisB D).getD i []) := (by rw [HLI.out];rw [<- HNF.out, List.take_length] at hr3;exact OwnI.mono (b' := w2.heap.size) hr3 hsz2);obtain ⟨cu, hc1, hc2, _⟩ := hL3.cur;have y0 : w3.cell? ⟨w.heap.size, i, none⟩ = some (cu[i]'(by rw [hc2]; exact hin)) := by rw [cell_of_row _ _ i _ 25 (0, 0) hc1];exact Array.getElem?_eq_getElem _
      have f0 : w3.frozen? ⟨w.heap.size, i, none⟩ = false := frozen_of_row _ _ i _ 25 hc1;generalize (cu[i]'(by rw [hc2]; exact hin)) = u0 at y0;have HP : Hid (ListsX (w3.setCell ⟨w.heap.size, i, none⟩ v3) w.heap.size w.heap.size nb (i + 1) (lisB D) /\ Below w.heap.size w (w3.setCell ⟨w.heap.size, i, none⟩ v3)) := ⟨hL3.put hin hO3, hb3'.setCell (Nat.le_refl w.heap.size) _⟩
      obtain ⟨a3, n3, c3, rfl⟩ : ∃ a n c, v3 = .slice a n c := by
        rcases hr3.2 with ⟨rfl, _⟩ | ⟨g, cap, cur, rfl, _⟩
        exact ⟨_, _, _, rfl⟩;exact ⟨_, _, _, rfl⟩
      clear hL3 hb3' hO3 hc1 hc2 hb3 hr3;go_wp2;go_roundw;case rel => exact ⟨i + 1, by go_num, by omega, HP⟩
      case measure => simp [intOf]; omega
    have hni : ¬ (i : Int) < (nb : Int) := (by omega);have hie : i = nb := (by omega);subst hie;go_wp2;go_ret;refine ⟨w.heap.size, by rw [HN.out]; rfl, Nat.le_refl _, ?_, HR.out.2⟩;rw [HN.out];exact HR.out.1
theorem gBundles_any (gb db : Nat) (D : DSS) (w : World) (h : OutD w gb db D) (h0 : 0 < D.bs.length) (hbl : D.bs.length <= 1000) (hfs : ∀ i, i < D.bs.length -> 0 < (D.bs.getD i b0S).fs.length /\ (D.bs.getD i b0S).fs.length <= 1000) : Calls Tryz.prog 55 #[.pointer (some ⟨gb, 0, none⟩)] w fun e w' => BunE w D e w' := by
  have g0 : w.cell? ⟨gb, 0, none⟩ = some (.pointer (some ⟨db, 0, none⟩)) := cell_of_row _ _ 0 _ 110 (0, 0) h.gp;obtain ⟨vK, vB, vX, kvs, bvs, X, hX⟩ := h.md;have HB := dsBundles_any db vK vB vX kvs bvs X D w hX h0 hbl hfs;clear h hX hfs h0 hbl;go_enter Tryz.func55, Tryz.ntmps55;go_wp2_with fail
  refine HB.mono ?_;rintro e w4 ⟨q, rfl, h4⟩;have H4 : Hid (w.heap.size <= q /\ ListsX w4 w.heap.size q D.bs.length D.bs.length (lisB D) /\ Below w.heap.size w w4) := h4;clear h4;generalize hnb : D.bs.length = nb at *;go_wp2;go_ret;exact ⟨q, by rw [hnb]; rfl, by rw [hnb]; exact H4.out⟩
end Go.Proofs.YtfcgnpchbcmdeaaGreat

namespace Go.Proofs.YtfcgnpchbcmdeaaGreat
open Go.RowKit
theorem IntakeM.start {w : World} {base ib tb fb rb cb n : Nat} {wd : Nat -> Bool} {sc ct : Nat -> Int} {bins size budget : Int} (h : IntakeM w base ib tb fb rb cb n wd sc ct bins size budget) : ∃ K M, InX w K M ib tb rb fb cb n wd sc ct bins size budget RS.start 0 /\ (∀ k, M k -> base <= k) /\ base <= ib /\ base <= tb := by
  have hrb := h.tx.rd;unfold RB at hrb;refine ⟨fun k => base <= k /\ ∃ cur ty, w.heap[k]? = some (.cells cur ty (0, 0)) /\ (ty = 3 ∨ ty = 261 ∨ ty = 263), fun k => k = rb ∨ k = cb, ⟨h.ik, h.tx.tx, ⟨.slice none 0 0, .slice none 0 0, .slice none 0 0, fun _ => .slice none 0 0, ?_⟩, ?_, ?_⟩, ?_, h.lo, h.tx.lo.1⟩
  · refine ⟨h.tx.rd, World.ownsRow_nil _ _ _ _, World.ownsRow_nil _ _ _ _, World.ownsRow_nil _ _ _ _, ⟨_, h.tx.cl, ?_, fun i hi => ?_⟩, fun _ _ => World.ownsRow_nil _ _ _ _, FeatsF.of_made _ h.tx.fs ⟨h.tx.lo.2.1, ?_⟩ (fun k cur ty hk hc ht => ⟨hk, cur, ty, hc, by rcases ht with e | e; exact .inl e; exact .inr (.inl e)⟩), fun _ _ _ _ _ => .inl rfl, fun _ _ => .inl rfl, .inl rfl, .inr rfl, ?_, ?_, ?_, ?_, ?_, ?_⟩;simp [madeCells];rw [<- Array.getElem?_toList, made_one];exact List.getElem?_replicate_of_lt hi;obtain ⟨cur, h1, _⟩ := h.tx.fs;exact ⟨cur, 263, h1, .inr (.inr rfl)⟩;intro k hk; simp [Value.ownBlock] at hk;intro k hk; simp [Value.ownBlock] at hk;intro k hk; simp [Value.ownBlock] at hk;intro i k _ hk; simp [Value.ownBlock] at hk
    · rintro k ⟨_, cur, ty, hc, ht⟩;refine ⟨(Array.getElem?_eq_some_iff.1 hc).1, ?_⟩;rintro (e | e)
      · rw [e, hrb] at hc; rcases ht with e2 | e2 | e2 <;> (subst e2; simp at hc)
      rw [e, h.tx.cl] at hc; rcases ht with e2 | e2 | e2 <;> (subst e2; simp at hc)
    rintro k (e | e);rw [e]; exact (Array.getElem?_eq_some_iff.1 hrb).1;rw [e]; exact (Array.getElem?_eq_some_iff.1 h.tx.cl).1
  · refine ⟨?_, ?_⟩
    · rintro ⟨_, cur, ty, hc, ht⟩
      rw [h.ik] at hc; rcases ht with e2 | e2 | e2 <;> (subst e2; simp at hc)
    rintro (e | e);have := h.ik; rw [e, hrb] at this; simp at this;have := h.ik; rw [e, h.tx.cl] at this; simp at this
  · refine ⟨?_, ?_⟩
    · rintro ⟨_, cur, ty, hc, ht⟩
      rw [h.tx.tx] at hc; rcases ht with e2 | e2 | e2 <;> (subst e2; simp at hc)
    rintro (e | e);have := h.tx.tx; rw [e, hrb] at this; simp at this;have := h.tx.tx; rw [e, h.tx.cl] at this; simp at this
  rintro k (e | e);rw [e]; exact h.tx.lo.2.2.1;rw [e]; exact h.tx.lo.2.2.2
theorem rtakes_err {n : Nat} {wd : Nat -> Bool} {sc : Nat -> Int} : ∀ (l : List Int) (s : RS) (k : Nat) {z : Int} {p : Nat}, rtakes n wd sc s l k = .error (z, p) -> z = 2 ∨ z = 3
  | [], s, k, z, p, h => by cases h
  | c :: r, s, k, z, p, h => by
    unfold rtakes at h
    cases ht : rtake n wd sc s c with
    | error y => rw [ht] at h; injection h with h; injection h with h1 h2; rw [<- h1]; exact rtake_err ht
    | ok s1 => rw [ht] at h; exact rtakes_err r s1 (k + 1) h
theorem bytesL_len (b : ByteArray) : (bytesL b).length = b.size := by unfold bytesL; rw [List.length_map]; rfl
theorem bytesL_extract (b : ByteArray) (i j : Nat) : bytesL (b.extract i j) = ((bytesL b).take j).drop i := by unfold bytesL;rw [ByteArray.data_extract, Array.toList_extract, <- List.map_take, <- List.map_drop];congr 1;rw [List.extract_eq_take_drop, List.drop_take]
structure CloseOk (lw : List VS -> List Int -> Int -> Int -> ES) (m : Nat) (wd : Nat -> Bool) (ct : Nat -> Int) (bins : Int) (size : Nat) (s : RS) : Prop where
  wok : (∃ i, i < m + 1 /\ wd i = true) -> LwOk lw
  ok : ∀ i, i < m + 1 -> EdgOk (learnE lw (wd i) (ct i) bins size (s.cols i) s.ws) /\ (learnE lw (wd i) (ct i) bins size (s.cols i) s.ws).wd = wd i /\ (learnE lw (wd i) (ct i) bins size (s.cols i) s.ws).cnt <= 16
  num : ∀ i, i < m + 1 -> ∀ v ∈ s.cols i, (-1000000000 <= v.num /\ v.num <= 1000000000) /\ v.word.size <= 8
  ws : ∀ z ∈ s.ws, 0 <= z /\ z <= 99
def FedR (lw : List VS -> List Int -> Int -> Int -> ES) (m : Nat) (wd : Nat -> Bool) (ct : Nat -> Int) (bins : Int) (size budget len : Nat) (o : Except (Int × Nat) RS) (e : Ending) (w' : World) : Prop :=
  match o with
  | .error (z, p) => e = .returned (.tuple #[.pointer none, .int .i64 z, .int .i64 (p : Nat)])
  | .ok s => (s.wt ≠ 0 /\ e = .returned (.tuple #[.pointer none, .int .i64 2, .int .i64 (len : Nat)])) ∨
      (s.wt = 0 /\ ∃ gb db, e = .returned (.tuple #[.pointer (some ⟨gb, 0, none⟩), .int .i64 0, .int .i64 0]) /\ OutD w' gb db (makeF m s.ws.length budget ((List.range (m + 1)).map (fun i => learnE lw (wd i) (ct i) bins size (s.cols i) s.ws)) ((List.range (m + 1)).map (fun i => (s.cols i).map (binS (learnE lw (wd i) (ct i) bins size (s.cols i) s.ws))))))
def FedI (base : Nat) (K : Nat -> Prop) (ib tb rb fb cb n : Nat) (wd : Nat -> Bool) (sc ct : Nat -> Int) (bins size budget : Int) (len : Nat) (o : Except (Int × Nat) RS) (w : World) : Prop :=
  match o with
  | .error (z, p) => DeadX w ib false z (p : Nat) /\ (z = 2 ∨ z = 3)
  | .ok s => ∃ M, InX w K M ib tb rb fb cb n wd sc ct bins size budget s len /\ ∀ q, M q -> base <= q
def sizeS : Value -> Nat
  | .string b => b.size
  | _ => 0
section
variable {w wr : World} {K : Nat -> Prop} {ib tb rb fb cb m : Nat} {wd : Nat -> Bool} {sc ct : Nat -> Int} {bins : Int} {size budget : Nat}
theorem feed_more (b r : ByteArray) (k n base : Nat) (hr : bytesL r = (bytesL b).drop k) (hrs : r.size = b.size - k) (hk : k <= b.size) (hn : n <= r.size) (hb : b.size <= 200000000000000) (hm : m + 1 <= 4) (hsc : ∀ i, i < m + 1 -> wd i = false -> 0 <= sc i /\ sc i <= 3) (hbs : base <= wr.heap.size) (hib : base <= ib /\ base <= tb) (hF : FedI base K ib tb rb fb cb (m + 1) wd sc ct bins size budget k (rtakes (m + 1) wd sc RS.start ((bytesL b).take k) 0) wr) : Calls Tryz.prog 32 #[.pointer (some ⟨ib, 0, none⟩), .string (r.extract 0 n)] wr fun e w' => e = .returned (.tuple #[.int .i64 (fedAns (rtakes (m + 1) wd sc RS.start ((bytesL b).take (k + n)) 0)).1, .int .i64 (fedAns (rtakes (m + 1) wd sc RS.start ((bytesL b).take (k + n)) 0)).2]) /\ FedI base K ib tb rb fb cb (m + 1) wd sc ct bins size budget (k + n) (rtakes (m + 1) wd sc RS.start ((bytesL b).take (k + n)) 0) w' /\ Below base wr w' := by
  have hp : bytesL (r.extract 0 n) = ((bytesL b).drop k).take n := (by rw [bytesL_extract, List.drop_zero, hr]);have ht : (bytesL b).take (k + n) = (bytesL b).take k ++ bytesL (r.extract 0 n) := (by rw [hp, List.take_add]);have hl : ((bytesL b).take k).length = k := (by rw [List.length_take, bytesL_len]; omega);have hes : (r.extract 0 n).size = n := (by rw [<- bytesL_len, hp, List.length_take, List.length_drop, bytesL_len]; omega);have ha := rtakes_append (m + 1) wd sc ((bytesL b).take k) (bytesL (r.extract 0 n)) RS.start 0;rw [<- ht, hl] at ha
  cases ho : rtakes (m + 1) wd sc RS.start ((bytesL b).take k) 0 with
  | error q =>
    obtain ⟨z, p⟩ := q;rw [ho] at ha hF;rw [ha];refine (feed_fault (r.extract 0 n) ib z p wr hF.1 hF.2).mono ?_;rintro e w' ⟨rfl, x, rfl⟩;exact ⟨rfl, ⟨hF.1, hF.2⟩, below_drewN (Below.refl _ _) _⟩
  | ok s =>
    rw [ho] at ha hF;simp only at ha;obtain ⟨M, hX, hM⟩ := hF;rw [ha, Nat.zero_add];refine (feed_any (r.extract 0 n) hX (RInv.takes (by omega) hsc _ (RInv.start (by omega)) ho) (by omega) hm hsc (by rw [hes]; omega)).mono ?_;rintro e w' ⟨rfl, h1, h2⟩;refine ⟨rfl, ?_, h2.to_below hbs (fun q hq => ?_)⟩
    · cases hq : rtakes (m + 1) wd sc s (bytesL (r.extract 0 n)) k with
      | error q =>
        obtain ⟨z, p⟩ := q;rw [hq] at h1;exact ⟨h1, rtakes_err _ _ _ hq⟩
      | ok s' =>
        rw [hq, hes] at h1;obtain ⟨M', hX', hM'⟩ := h1;exact ⟨M', hX', fun q hq => by rcases hM' q hq with h | h; exact hM q h; omega⟩
    rcases hq with h | h | h
    exact hM q h;rw [h]; exact hib.1;rw [h]; exact hib.2
theorem close_end (lw : List VS -> List Int -> Int -> Int -> ES) (b : ByteArray) (base : Nat) (hm : m + 1 <= 4) (hsc : ∀ i, i < m + 1 -> wd i = false -> 0 <= sc i /\ sc i <= 3) (hc : 2 <= bins /\ bins <= 16 /\ bins <= size /\ size <= 32 /\ budget <= 20) (hbs : base <= wr.heap.size) (hib : base <= ib) (hcl : ∀ s, rtakes (m + 1) wd sc RS.start (bytesL b) 0 = .ok s -> s.wt = 0 -> CloseOk lw m wd ct bins size s) (hF : FedI base K ib tb rb fb cb (m + 1) wd sc ct bins size budget b.size (rtakes (m + 1) wd sc RS.start (bytesL b) 0) wr) : Calls Tryz.prog 50 #[.pointer (some ⟨ib, 0, none⟩)] wr fun e w' => ∃ (d : Option Addr) (z p : Int), e = .returned (.tuple #[.pointer d, .int .i64 z, .int .i64 p]) /\ FedR lw m wd ct bins size budget b.size (rtakes (m + 1) wd sc RS.start (bytesL b) 0) e w' /\ Below base wr w' /\ ((fedAns (rtakes (m + 1) wd sc RS.start (bytesL b) 0)).1 = 0 ∨ (fedAns (rtakes (m + 1) wd sc RS.start (bytesL b) 0)).1 ≠ 0 /\ d = none /\ z = (fedAns (rtakes (m + 1) wd sc RS.start (bytesL b) 0)).1 /\ p = (fedAns (rtakes (m + 1) wd sc RS.start (bytesL b) 0)).2) := by
  cases ho : rtakes (m + 1) wd sc RS.start (bytesL b) 0 with
  | error q =>
    obtain ⟨z, p⟩ := q;rw [ho] at hF;refine (close_fault ib z p wr hF.1 hF.2).mono ?_;rintro e w' ⟨rfl, x, rfl⟩;exact ⟨none, z, p, rfl, rfl, below_drewN (Below.refl _ _) _, .inr ⟨by show z ≠ 0; rcases hF.2 with e | e <;> omega, rfl, rfl, rfl⟩⟩
  | ok s =>
    rw [ho] at hF;obtain ⟨M, hX, hM⟩ := hF;have hI : RInv (m + 1) s := RInv.takes (by omega) hsc _ (RInv.start (by omega)) ho
    by_cases hwt : s.wt = 0
    have hK := hcl s ho hwt;refine (close_whole lw (fun i => learnE lw (wd i) (ct i) bins size (s.cols i) s.ws) hX hwt hI hm hc.2.2.2.2 hK.wok (fun _ => rfl) hK.ok hK.num hK.ws (by omega) hc.2.2.2.1 hc.1 hc.2.1).mono ?_;rintro e w' ⟨gb, db, rfl, h1, h2, h3, h4⟩;exact ⟨_, 0, 0, rfl, .inr ⟨hwt, gb, db, rfl, h3⟩, h4.2.to_below hbs (fun q hq => by rw [hq]; exact hib), .inl rfl⟩;refine (close_torn hX hwt).mono ?_;rintro e w' ⟨rfl, h4⟩;exact ⟨none, 2, _, rfl, .inl ⟨hwt, rfl⟩, h4.2.to_below hbs (fun q hq => by rw [hq]; exact hib), .inl rfl⟩
end
set_option maxRecDepth 100000 in
set_option maxHeartbeats 4000000 in
theorem keepFed_any (lw : List VS -> List Int -> Int -> Int -> ES) (b : ByteArray) (fk off m fc cn cc : Nat) (ca : Option Addr) (cz : List Int) (bins : Int) (size budget : Nat) (wd : Nat -> Bool) (sc ct : Nat -> Int) (w : World) (hF : Feats w fk off (m + 1) wd sc ct) (hc : confB (m + 1) bins size budget wd sc ct = true) (hcut : IntsV w ca cn cz) (hcn : cn <= 9223372036854775807) (hb : b.size <= 200000000000000) (hcl : ∀ s, rtakes (m + 1) wd sc RS.start (bytesL b) 0 = .ok s -> s.wt = 0 -> CloseOk lw m wd ct bins size s) : Calls Tryz.prog 25 #[.agg #[.slice (some ⟨fk, off, none⟩) (m + 1) fc, .int .i64 bins, .int .i64 (size : Nat), .int .i64 (budget : Nat)], .string b, .slice ca cn cc] w fun e w' => FedR lw m wd ct bins size budget b.size (rtakes (m + 1) wd sc RS.start (bytesL b) 0) e w' /\ Below w.heap.size w w' := by
  obtain ⟨h1, h4, c1, c2, c3, c4, c5, c6, hfe⟩ := conf_parts hc
  have HSC : Hid (∀ i, i < m + 1 -> wd i = false -> 0 <= sc i /\ sc i <= 3) := fun i hi hw => by have := hfe i hi;unfold featB at this;rw [hw] at this;simp at this;omega
  have hbl := hF.lt (by omega);obtain ⟨w0, hw0⟩ : ∃ w0, w0 = w.alloc (.cells #[.slice (some ⟨fk, off, none⟩) (m + 1) fc, .int .i64 bins, .int .i64 (size : Nat), .int .i64 (budget : Nat)] 37) := ⟨_, rfl⟩;have hb0 : Below w.heap.size w w0 := (by rw [hw0]; exact (Below.refl _ _).alloc (Nat.le_refl _) _);have hrow : w0.heap[w.heap.size]? = some (.cells #[.slice (some ⟨fk, off, none⟩) (m + 1) fc, .int .i64 bins, .int .i64 (size : Nat), .int .i64 (budget : Nat)] 37 (0, 0)) := (by rw [hw0]; exact heap_alloc_new w _);have k : ∀ o, w0.cell? ⟨fk, o, none⟩ = w.cell? ⟨fk, o, none⟩ := fun o => hb0.cell (p := ⟨fk, o, none⟩) hbl;have HR := reader_yes fk off (m + 1) fc bins size budget wd sc ct w0 ⟨hF.le, fun _ => by have := hb0.size; omega, fun i hi => (k _).trans (hF.c0 i hi), fun i hi => (k _).trans (hF.c1 i hi), fun i hi => (k _).trans (hF.c2 i hi)⟩ hc;have d0 := cell_of_row _ _ 0 _ 37 (0, 0) hrow
  have d1 := cell_of_row _ _ 1 _ 37 (0, 0) hrow;have d2 := cell_of_row _ _ 2 _ 37 (0, 0) hrow;have d3 := cell_of_row _ _ 3 _ 37 (0, 0) hrow;have HB0 : Hid (Below w.heap.size w w0) := hb0;have HCUT : Hid (IntsV w ca cn cz) := hcut;have HCL : Hid (∀ s, rtakes (m + 1) wd sc RS.start (bytesL b) 0 = .ok s -> s.wt = 0 -> CloseOk lw m wd ct bins size s) := hcl;clear hF hc hfe hb0 k hrow hcut hcl;have HN : Hid (m + 1 <= 4 /\ 2 <= bins /\ bins <= 16 /\ bins <= size /\ size <= 32 /\ budget <= 20) := ⟨h4, c1, c2, c3, by omega, by omega⟩;clear h1 h4 c1 c2 c3 c4 c5 c6;go_enter Tryz.func25, Tryz.ntmps25;go_upto_region 1 with fail;rw [<- hw0];clear hw0;go_wp2_with fail
  refine HR.mono ?_;rintro e w1 ⟨ib, tb, fb, rb, cb, rfl, hI, hb1⟩;have hs0 := HB0.out.size;obtain ⟨K, M0, hX0, hM0, hib, htb⟩ := hI.start;have HX0 : Hid (InX w1 K M0 ib tb rb fb cb (m + 1) wd sc ct bins size budget RS.start 0 /\ (∀ q, M0 q -> w.heap.size <= q)) := ⟨hX0, fun q hq => by have := hM0 q hq; omega⟩;have HB1 : Hid (Below w.heap.size w w1) := HB0.out.trans (hb1.mono hs0);have HIB : Hid (w.heap.size <= ib /\ w.heap.size <= tb) := ⟨by omega, by omega⟩;clear hI hb1 hX0 hM0 hib htb d0 d1 d2 d3 HR;go_wp2_with fail
  go_loopw [1, 10, 11, 12] (fun ts te tp ti wr => ∃ (k i : Nat) (r : ByteArray), ts = .string r /\ te = .int .i64 (fedAns (rtakes (m + 1) wd sc RS.start ((bytesL b).take k) 0)).1 /\ tp = .int .i64 (fedAns (rtakes (m + 1) wd sc RS.start ((bytesL b).take k) 0)).2 /\ ti = .int .i64 i /\ i <= k /\ k <= b.size /\ r.size = b.size - k /\ Hid (bytesL r = (bytesL b).drop k) /\ Hid (FedI w.heap.size K ib tb rb fb cb (m + 1) wd sc ct bins size budget k (rtakes (m + 1) wd sc RS.start ((bytesL b).take k) 0) wr) /\ Hid (Below w.heap.size w wr)) (fun ts _ _ _ _ => sizeS ts)
  case atStart => exact ⟨0, 0, b, rfl, rfl, rfl, rfl, Nat.le_refl _, Nat.zero_le _, by omega, rfl, ⟨M0, HX0.out⟩, HB1.out⟩
  case round =>
    obtain ⟨k, i, r, rfl, rfl, rfl, rfl, hik, hk, hrs, HR, HF, HB⟩ := hrel
    by_cases hr0 : 0 < r.size
    · have br : (0 : Int) < (r.size : Int) := (by omega);obtain ⟨n, hn⟩ : ∃ n : Nat, n = 1 + pickK (rawK cz i) r.size := ⟨_, rfl⟩;have hp := pickK_lt (rawK cz i) hr0;have hn1 : 1 <= n := (by omega);have hn2 : n <= r.size := (by omega);have q1 : IntKind.i64.wrap (1 + ((pickK (rawK cz i) r.size : Nat) : Int)) = (n : Int) := (by rw [wrapI (by omega) (by omega)]; omega);have b1 : (0 : Int) <= (n : Int) := (by omega);have b2 : (n : Int) <= (r.size : Int) := (by omega);have HFD := feed_more (size := size) (budget := budget) (bins := bins) (ct := ct) (rb := rb) (fb := fb) (cb := cb) (K := K) b r k n w.heap.size HR.out hrs hk hn2 hb HN.out.1 HSC.out HB.out.size HIB.out HF.out;have HRW := keepRaw_any ca cn cc i cz wr (HCUT.out.below HB.out) (by omega) hcn
      have HRF : Hid ((Lit.int .i64 (rawK cz i)).wf = true) := (by show _ = _;unfold rawK;split;decide;rename_i h0;have hl : i % cz.length < cz.length := Nat.mod_lt _ (by omega);rw [List.getD_eq_getElem?_getD, List.getElem?_eq_getElem hl];exact HCUT.out.2.1 _ (List.getElem_mem _));clear hn hp
      have HA : Hid ((fedAns (rtakes (m + 1) wd sc RS.start ((bytesL b).take k) 0)).1 = 0 ∨ (fedAns (rtakes (m + 1) wd sc RS.start ((bytesL b).take k) 0)).1 ≠ 0 /\ (fedAns (rtakes (m + 1) wd sc RS.start ((bytesL b).take (k + n)) 0)).1 = (fedAns (rtakes (m + 1) wd sc RS.start ((bytesL b).take k) 0)).1 /\ (fedAns (rtakes (m + 1) wd sc RS.start ((bytesL b).take (k + n)) 0)).2 = (fedAns (rtakes (m + 1) wd sc RS.start ((bytesL b).take k) 0)).2) := by
        cases ho : rtakes (m + 1) wd sc RS.start ((bytesL b).take k) 0 with
        | error q =>
          have ha := rtakes_append (m + 1) wd sc ((bytesL b).take k) (((bytesL b).drop k).take n) RS.start 0;rw [<- List.take_add, ho] at ha;rw [ha];obtain ⟨z, p⟩ := q;refine .inr ⟨?_, rfl, rfl⟩;show z ≠ 0
          rcases rtakes_err _ _ _ ho with e | e <;> omega
        | ok s => exact .inl rfl
      have HR2 : Hid (bytesL (r.extract n r.size) = (bytesL b).drop (k + n) /\ (r.extract n r.size).size = b.size - (k + n)) := by have e : bytesL (r.extract n r.size) = (bytesL b).drop (k + n) := (by rw [bytesL_extract, List.take_of_length_le (by rw [bytesL_len]; exact Nat.le_refl _), HR.out, List.drop_drop]);refine ⟨e, ?_⟩;rw [<- bytesL_len, e, List.length_drop, bytesL_len]
      obtain ⟨o2, ho2⟩ : ∃ o2, o2 = rtakes (m + 1) wd sc RS.start ((bytesL b).take (k + n)) 0 := ⟨_, rfl⟩;have HO2 : Hid (o2 = rtakes (m + 1) wd sc RS.start ((bytesL b).take (k + n)) 0) := ho2;rw [<- ho2] at HFD HA;clear ho2;obtain ⟨A1, hA1⟩ : ∃ A1, A1 = (fedAns (rtakes (m + 1) wd sc RS.start ((bytesL b).take k) 0)).1 := ⟨_, rfl⟩;obtain ⟨A2, hA2⟩ : ∃ A2, A2 = (fedAns (rtakes (m + 1) wd sc RS.start ((bytesL b).take k) 0)).2 := ⟨_, rfl⟩;rw [<- hA1, <- hA2] at HA ⊢;clear hA1 hA2 HF;obtain ⟨B1, hB1⟩ : ∃ B1, B1 = (fedAns o2).1 := ⟨_, rfl⟩;obtain ⟨B2, hB2⟩ : ∃ B2, B2 = (fedAns o2).2 := ⟨_, rfl⟩;rw [<- hB1, <- hB2] at HFD HA;have HBB : Hid (B1 = (fedAns o2).1 /\ B2 = (fedAns o2).2) := ⟨hB1, hB2⟩;clear hB1 hB2;generalize rawK cz i = y at *;have HPK := keepPick_any y r.size wr HRF.out (by omega) (by omega);generalize pickK y r.size = px at *;have HRS : Hid (r.size = b.size - k) := hrs
      clear hrs;go_wp2_with fail
      refine HRW.mono ?_;rintro e w2 ⟨rfl, hw2⟩;obtain rfl := hw2.symm;go_wp2_with fail
      refine HPK.mono ?_;rintro e w3 ⟨rfl, hw3⟩;obtain rfl := hw3.symm;go_wp2_with fail
      refine HFD.mono ?_;rintro e w4 ⟨rfl, hF4, hb4⟩;have HF4 : Hid (FedI w.heap.size K ib tb rb fb cb (m + 1) wd sc ct bins size budget (k + n) o2 w4) := hF4;have HB4 : Hid (Below w.heap.size w w4) := HB.out.trans hb4;clear hF4 hb4 HFD HRW HB;go_upto_region 11 with fail;go_cut [61] (fun v wx => v = .bool false /\ wx = w4)
      case first =>
        rcases HA.out with h0 | ⟨h0, h1, h2⟩
        · subst h0;go_wp2;go_meet
          exact ⟨rfl, rfl⟩
        subst h1 h2;have q2 : (B1 == 0) = false := (by rw [beq_eq_false_iff_ne]; exact h0);go_wp2;go_meet
        exact ⟨rfl, rfl⟩
      case rest =>
        obtain ⟨rfl, hwx⟩ := hcut;obtain rfl := hwx.symm;clear hwx;go_wp2;go_roundw;case rel => exact ⟨k + n, i + 1, r.extract n r.size, rfl, by rw [<- HO2.out, <- HBB.out.1], by rw [<- HO2.out, <- HBB.out.2], by go_num, by omega, by have := HRS.out; omega, HR2.out.2, HR2.out.1, by rw [<- HO2.out]; exact HF4.out, HB4.out⟩
        case measure =>
          show (r.extract n r.size).size < r.size;have := HRS.out;rw [HR2.out.2]; omega
    have hk2 : k = b.size := (by omega);subst hk2;have et : (bytesL b).take b.size = bytesL b := List.take_of_length_le (by rw [bytesL_len]; exact Nat.le_refl _);have hF := HF.out;rw [et] at hF ⊢;have HCE := close_end lw b w.heap.size HN.out.1 HSC.out HN.out.2 HB.out.size HIB.out.1 HCL.out hF;have r0 : ¬ (0 : Int) < (r.size : Int) := (by omega);obtain ⟨o, ho⟩ : ∃ o, o = rtakes (m + 1) wd sc RS.start (bytesL b) 0 := ⟨_, rfl⟩;rw [<- ho] at HCE ⊢;have HO : Hid (o = rtakes (m + 1) wd sc RS.start (bytesL b) 0) := ho;clear ho hF et HF HCL hrs hr0;obtain ⟨A1, hA1⟩ : ∃ A1, A1 = (fedAns o).1 := ⟨_, rfl⟩;obtain ⟨A2, hA2⟩ : ∃ A2, A2 = (fedAns o).2 := ⟨_, rfl⟩;rw [<- hA1, <- hA2] at HCE ⊢;clear hA1 hA2;go_wp2_with fail
    refine HCE.mono ?_;rintro e w4 ⟨d, z, p, rfl, hR4, hb4, hz⟩;have HR4 : Hid (FedR lw m wd ct bins size budget b.size o (.returned (.tuple #[.pointer d, .int .i64 z, .int .i64 p])) w4) := hR4;have HB4 : Hid (Below w.heap.size w w4) := HB.out.trans hb4;have HZ : Hid (A1 = 0 ∨ A1 ≠ 0 /\ d = none /\ z = A1 /\ p = A2) := hz;clear hR4 hb4 hz HCE HB;go_upto_region 17 with fail;go_cut [88] (fun v wx => v = .bool false /\ wx = w4)
    case first =>
      rcases HZ.out with h0 | ⟨h0, h1, h2, h3⟩
      · subst h0;go_wp2;go_meet
        exact ⟨rfl, rfl⟩
      subst h1 h2 h3;have q2 : (z == 0) = false := (by rw [beq_eq_false_iff_ne]; exact h0);go_wp2;go_meet
      exact ⟨rfl, rfl⟩
    case rest =>
      obtain ⟨rfl, hwx⟩ := hcut;obtain rfl := hwx.symm;clear hwx;go_wp2;refine bodyPost_ret (v := .tuple #[.pointer d, .int .i64 z, .int .i64 p]) (by simp [results, Tryz.results25, go_sem]) rfl ?_;rw [<- HO.out];exact ⟨HR4.out, HB4.out⟩
end Go.Proofs.YtfcgnpchbcmdeaaGreat
