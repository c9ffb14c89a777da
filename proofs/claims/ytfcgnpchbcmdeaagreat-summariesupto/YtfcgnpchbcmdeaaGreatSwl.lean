/-
  The contract of the program's rank: each entry of a list in memory has its ranks.
-/
import Derived.Test.YtfcgnpchbcmdeaaGreatSwi
namespace Go.Proofs.YtfcgnpchbcmdeaaGreat
open Go.RowKit

/-- A value with its weight, not ranked yet. -/
def raw (p : Int × Int) : Ent := ⟨p.1, 0, 0, p.2⟩

theorem flat_at {A B : List Ent} {x : Ent} {k c : Nat} (hk : A.length = k) (hc : c < 4) (u : Value) : (flat (A ++ x :: B)).set (k * 4 + c) u = flat A ++ ((cellsE x).set c u ++ flat B) := by
  rw [flat_append]
  have hl : (flat A).length = k * 4 := by rw [flat_len, hk]
  rw [List.set_append_right _ _ (by omega), show k * 4 + c - (flat A).length = c by omega]
  congr 1
  simp only [flat]
  rw [List.set_append_left _ _ (by simpa [cellsE] using hc)]

theorem flat_set1 {A B : List Ent} {x : Ent} {k : Nat} (hk : A.length = k) (y : Int) : (flat (A ++ x :: B)).set (k * 4 + 1) (.int .i64 y) = flat (A ++ ⟨x.v, y, x.hi, x.wt⟩ :: B) := by
  rw [flat_at hk (by omega), flat_append]; rfl
theorem flat_set2 {A B : List Ent} {x : Ent} {k : Nat} (hk : A.length = k) (y : Int) : (flat (A ++ x :: B)).set (k * 4 + 2) (.int .i64 y) = flat (A ++ ⟨x.v, x.lo, y, x.wt⟩ :: B) := by
  rw [flat_at hk (by omega), flat_append]; rfl
theorem flat_set3 {A B : List Ent} {x : Ent} {k : Nat} (hk : A.length = k) (y : Int) : (flat (A ++ x :: B)).set (k * 4 + 3) (.int .i64 y) = flat (A ++ ⟨x.v, x.lo, x.hi, y⟩ :: B) := by
  rw [flat_at hk (by omega), flat_append]; rfl

/-- The four cells of the entry at a place. -/
theorem OwnE.at {w : World} {base g cap : Nat} {A B : List Ent} {x : Ent} {k n : Nat} (h : OwnE w base (.slice (some ⟨g, 0, none⟩) n cap) (A ++ x :: B)) (hn : n = (A ++ x :: B).length) (hk : A.length = k) : w.cell? ⟨g, k * 4, none⟩ = some (.int .i64 x.v) ∧ w.cell? ⟨g, k * 4 + 1, none⟩ = some (.int .i64 x.lo) ∧ w.cell? ⟨g, k * 4 + 2, none⟩ = some (.int .i64 x.hi) ∧ w.cell? ⟨g, k * 4 + 3, none⟩ = some (.int .i64 x.wt) ∧ ∀ o, w.frozen? ⟨g, o, none⟩ = false := by
  subst hn
  have key : ∀ c, c < 4 → w.cell? ⟨g, k * 4 + c, none⟩ = (cellsE x)[c]? := fun c hc => by
    rw [World.ownsRow.cellAt h (k * 4 + c) (by simp; omega), flat_append]
    have hl : (flat A).length = k * 4 := by rw [flat_len, hk]
    rw [List.getElem?_append_right (by omega), show k * 4 + c - (flat A).length = c by omega]
    simp only [flat]
    rw [List.getElem?_append_left (by simpa [cellsE] using hc)]
  exact ⟨key 0 (by omega), key 1 (by omega), key 2 (by omega), key 3 (by omega), fun o => World.ownsRow.frozenAt h o⟩

theorem OwnE.store {w : World} {base g cap n j : Nat} {L L' : List Ent} {u : Value} (h : OwnE w base (.slice (some ⟨g, 0, none⟩) n cap) L) (hn : n = L.length) (hl : L'.length = L.length) (he : (flat L).set j u = flat L') : OwnE (w.setCell ⟨g, j, none⟩ u) base (.slice (some ⟨g, 0, none⟩) n cap) L' := by
  subst hn
  have := (World.ownsRow.stored h j u).1
  unfold OwnE
  rw [hl, ← he]
  exact this

theorem sumW_take_le {M : List (Int × Int)} (hp : ∀ p ∈ M, 0 ≤ p.2) (k : Nat) : 0 ≤ sumW (M.take k) ∧ sumW (M.take k) ≤ sumW M := by
  have h1 : ∀ N : List (Int × Int), (∀ p ∈ N, 0 ≤ p.2) → 0 ≤ sumW N := by
    intro N hN
    induction N with
    | nil => simp [sumW]
    | cons p r ih => simp only [sumW]; have := hN p (by simp); have := ih (fun x hx => hN x (by simp [hx])); omega
  have h2 := sumW_append (M.take k) (M.drop k)
  rw [List.take_append_drop] at h2
  have h3 := h1 (M.take k) (fun p hp' => hp p (List.mem_of_mem_take hp'))
  have h4 := h1 (M.drop k) (fun p hp' => hp p (List.mem_of_mem_drop hp'))
  omega

/-- The list behind k rounds. -/
def rankK (M : List (Int × Int)) (k : Nat) : List Ent := rankL 0 (M.take k) ++ (M.drop k).map raw

theorem rankK_len (M : List (Int × Int)) (k : Nat) : (rankK M k).length = M.length := by
  simp [rankK, rankL_len]; omega

set_option maxHeartbeats 1000000 in
theorem rank_any (g cap : Nat) (M : List (Int × Int)) (base : Nat) (w : World) (h : OwnE w base (.slice (some ⟨g, 0, none⟩) M.length cap) (M.map raw)) (hp : ∀ p ∈ M, 0 ≤ p.2) (hs : sumW M ≤ 1000000000000) (hl : M.length ≤ 4194304) :
    Calls Tryz.prog 84 #[.slice (some ⟨g, 0, none⟩) M.length cap] w fun e w' => e = .returned (.tuple #[]) ∧ OwnE w' base (.slice (some ⟨g, 0, none⟩) M.length cap) (rankL 0 M) ∧ w.grownBy w' (some g) := by
  have HO : Hid (OwnE w base (.slice (some ⟨g, 0, none⟩) M.length cap) (M.map raw)) := h
  have HP : Hid (∀ p ∈ M, 0 ≤ p.2) := hp
  clear h hp
  go_enter Tryz.func84, Tryz.ntmps84
  go_wp2_with fail
  go_loopw [2, 7] (fun tt ti wr => ∃ k : Nat, k ≤ M.length ∧ ti = .int .i64 k ∧ tt = .int .i64 (sumW (M.take k)) ∧ Hid (OwnE wr base (.slice (some ⟨g, 0, none⟩) M.length cap) (rankK M k) ∧ w.grownBy wr (some g))) (fun _ ti _ => M.length - (intOf ti).toNat)
  case atStart => exact ⟨0, Nat.zero_le _, rfl, rfl, by simpa [rankK, rankL] using HO.out, grown_refl _ _⟩
  case round =>
    obtain ⟨k, hk, rfl, rfl, HR⟩ := hrel
    obtain ⟨hown, hgr⟩ := HR.out
    have HG : Hid (w.grownBy wr (some g)) := hgr
    by_cases hkl : k < M.length
    · have hsp : M.drop k = M[k] :: M.drop (k + 1) := List.drop_eq_getElem_cons hkl
      have hcat : rankK M k = rankL 0 (M.take k) ++ raw M[k] :: (M.drop (k + 1)).map raw := by unfold rankK; rw [hsp]; rfl
      have hlenA : (rankL 0 (M.take k)).length = k := by rw [rankL_len]; simp; omega
      have hlenR := rankK_len M k
      rw [hcat] at hown hlenR
      obtain ⟨c0, c1, c2, c3, cf⟩ := hown.at (by rw [hlenR]) hlenA
      have ht := sumW_take_le HP.out k
      have ht2 := sumW_take_le HP.out (k + 1)
      have hts : sumW (M.take (k + 1)) = sumW (M.take k) + M[k].2 := by rw [List.take_succ_eq_append_getElem hkl, sumW_append]; simp [sumW]
      have HN : Hid (OwnE ((wr.setCell ⟨g, k * 4 + 1, none⟩ (.int .i64 (sumW (M.take k)))).setCell ⟨g, k * 4 + 2, none⟩ (.int .i64 (sumW (M.take k) + M[k].2))) base (.slice (some ⟨g, 0, none⟩) M.length cap) (rankK M (k + 1))) := by
        have s1 := hown.store (by rw [hlenR]) (by simp) (flat_set1 hlenA (sumW (M.take k)))
        have s2 := s1.store (by rw [← hlenR]; simp) (by simp) (flat_set2 hlenA (sumW (M.take k) + M[k].2))
        have e : rankK M (k + 1) = rankL 0 (M.take k) ++ (⟨M[k].1, sumW (M.take k), sumW (M.take k) + M[k].2, M[k].2⟩ : Ent) :: (M.drop (k + 1)).map raw := by
          unfold rankK
          rw [List.take_succ_eq_append_getElem hkl, rankL_append]
          simp [rankL]
        rw [e]
        exact s2
      have HTS : Hid (sumW (M.take (k + 1)) = sumW (M.take k) + M[k].2) := hts
      have hw0 := HP.out M[k] (List.getElem_mem hkl)
      simp only [raw] at c0 c1 c2 c3
      rw [hts] at ht2
      clear hsp hcat hown hts hgr HR
      generalize sumW (M.take k) = tot at *
      generalize M[k].2 = wt at *
      generalize M[k].1 = vv at *
      have bk1 : (0 : Int) ≤ (k : Int) := by omega
      have bk2 : (k : Int) < (M.length : Int) := by omega
      go_wp2
      go_roundw
      case rel => exact ⟨k + 1, by omega, by go_num, by rw [HTS.out], HN.out, grown_set (grown_set HG.out _ _) _ _⟩
      case measure => simp [intOf]; omega
    · have hke : M.length = k := by omega
      have HF : Hid (OwnE wr base (.slice (some ⟨g, 0, none⟩) M.length cap) (rankL 0 M)) := by
        have : rankK M k = rankL 0 M := by unfold rankK; rw [List.take_of_length_le (by omega), List.drop_eq_nil_of_le (by omega)]; simp
        rw [← this]; exact hown
      clear hown hgr HR hke
      go_wp2
      go_end0
      exact ⟨rfl, HF.out, HG.out⟩
end Go.Proofs.YtfcgnpchbcmdeaaGreat
