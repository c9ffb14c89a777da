/-
  The contract of the program's mergeEqual: a sorted list in memory has each value once, with all its weight.
-/
import Derived.Test.YtfcgnpchbcmdeaaGreatSwl
import Derived.Deep.Light
namespace Go.Proofs.YtfcgnpchbcmdeaaGreat
open Go.RowKit

theorem wpList_append_into {w : World} {ops : Array Oper} {rest : List Oper} {o : Oper} {a : Act} {Q : Exit → Act → World → Prop} (hgd : o.guard = none) (s x : Operand)
    (ho : o.op = .call { callee := .builtin .append, args := #[s, x], argTypes := #[29, 29] }) (i : TypeInfo) (hi : Tryz.prog.info? 98 = some i) (hsize : i.size = 4)
    (base g cap n m : Nat) (A B : List Ent) (y z : Ent) (hA : A.length = m) (hn : n = (A ++ y :: B).length) (hs : a.eval s = .slice (some ⟨g, 0, none⟩) m cap) (h0 : OwnE w base (.slice (some ⟨g, 0, none⟩) n cap) (A ++ y :: B))
    (ad : Addr) (c : Nat) (hx : a.eval x = .slice (some ad) 1 c) (hnews : ∀ j u, [Value.int .i64 z.v, .int .i64 z.lo, .int .i64 z.hi, .int .i64 z.wt][j]? = some u → w.cell? (ad.add j) = some u)
    (h : ∀ w', OwnE w' base (.slice (some ⟨g, 0, none⟩) n cap) (A ++ z :: B) → w.grownBy w' (some g) → wpList Tryz.prog ops Q rest (a.put o.dst (.slice (some ⟨g, 0, none⟩) (m + 1) cap)) w') : wpList Tryz.prog ops Q (o :: rest) a w := by
  subst hn
  rcases h0.2 with ⟨e, _⟩ | ⟨g', cap', cur, e, hb, hg, hnc, hcm, hcs, htake⟩
  · simp at e
  simp only [Value.slice.injEq, Option.some.injEq, Addr.mk.injEq, and_true, true_and] at e
  obtain ⟨rfl, rfl⟩ := e
  have hlen : (A ++ y :: B).length = m + 1 + B.length := by simp [hA]; omega
  have hfa : (flat A).length = m * 4 := by rw [flat_len, hA]
  refine wpList_plain hgd fun K hK => ?_
  have hrun := run_append_room (P := Tryz.prog) w 29 o.type 98 i Tryz.underlying29 hi g m cap cur hg ad 1 c [.int .i64 z.v, .int .i64 z.lo, .int .i64 z.hi, .int .i64 z.wt] (by rw [hsize]; rfl) hnews (four_one z.v z.lo z.hi z.wt) (by omega) (by rw [hsize, hcs]; simp; omega)
  rw [hsize] at hrun
  have hcl : cur.toList = flat (A ++ y :: B) ++ cur.toList.drop ((A ++ y :: B).length * 4) := by rw [← htake, List.take_append_drop]
  have hnew : cur.toList.take (m * 4) ++ [Value.int .i64 z.v, .int .i64 z.lo, .int .i64 z.hi, .int .i64 z.wt] ++ cur.toList.drop (m * 4 + 4) = flat (A ++ z :: B) ++ cur.toList.drop ((A ++ y :: B).length * 4) := by
    rw [hcl]
    generalize cur.toList.drop ((A ++ y :: B).length * 4) = T
    rw [flat_append, flat_append]
    have e1 : (flat A ++ flat (y :: B) ++ T).take (m * 4) = flat A := by rw [List.append_assoc, ← hfa, List.take_left]
    have e2 : (flat A ++ flat (y :: B) ++ T).drop (m * 4 + 4) = flat B ++ T := by
      rw [List.append_assoc, ← List.drop_drop, ← hfa, List.drop_left]
      simp [flat, cellsE]
    have e3 : List.drop ((A ++ y :: B).length * 4) (flat A ++ flat (y :: B) ++ T) = T := by
      rw [← flat_append, ← flat_len, List.drop_left]
    rw [e1, e2, e3]
    simp [flat, cellsE]
  have hsz : (flat (A ++ z :: B) ++ cur.toList.drop ((A ++ y :: B).length * 4)).length = cap * 4 := by
    have hct : cur.toList.length = cap * 4 := by rw [Array.length_toList, hcs]
    rw [List.length_append, flat_len, List.length_drop, hct]
    rw [hlen] at hnc ⊢
    have : (A ++ z :: B).length = m + 1 + B.length := by simp [hA] <;> omega
    omega
  unfold Oper.wp
  simp only [execOp, ho, resolve, invoke, builtin, Sem.run_bind, Sem.run_pure, Result.andThen_ok, List.map_toArray, List.map_cons, List.map_nil, hs, hx, hrun]
  refine hK _ _ (h _ ?_ ?_)
  · refine ⟨by rw [flat_len], .inr ⟨g, cap, _, by simp, hb, setRow_heap w g cur _ 98 _ hg, ?_, hcm, ?_, ?_⟩⟩
    · simpa using hnc
    · simp only [List.length_cons, List.length_nil] at hnew ⊢
      rw [List.size_toArray]; simp only [Nat.zero_add, Nat.reduceAdd]; rw [hnew]; exact hsz
    · simp only [List.length_cons, List.length_nil, Nat.zero_add, Nat.reduceAdd]
      rw [hnew, show (A ++ z :: B).length * 4 = (flat (A ++ z :: B)).length by rw [flat_len], List.take_left]
  · exact ⟨rfl, rfl, rfl, by simp [World.setRow], fun k _ hk => setRow_other w g k _ (fun e => hk (by rw [e]))⟩

theorem OwnE.pfx {w : World} {base g cap n m : Nat} {A B : List Ent} (h : OwnE w base (.slice (some ⟨g, 0, none⟩) n cap) (A ++ B)) (hn : n = (A ++ B).length) (hm : m = A.length) : OwnE w base (.slice (some ⟨g, 0, none⟩) m cap) A := by
  subst hn hm
  rcases h.2 with ⟨e, _⟩ | ⟨g', cap', cur, e, hb, hg, hnc, hcm, hcs, htake⟩
  · simp at e
  simp only [Value.slice.injEq, Option.some.injEq, Addr.mk.injEq, and_true, true_and] at e
  obtain ⟨rfl, rfl⟩ := e
  refine ⟨flat_len A, .inr ⟨g, cap, cur, rfl, hb, hg, by simp at hnc; omega, hcm, hcs, ?_⟩⟩
  have : (flat (A ++ B)).take (A.length * 4) = flat A := by rw [flat_append, ← flat_len, List.take_left]
  rw [← this, ← htake, List.take_take]
  congr 1
  simp <;> omega

theorem wOf_le {ps : List (Int × Int)} (hp : ∀ p ∈ ps, 1 ≤ p.2) (v : Int) : wOf ps v ≤ sumW ps := by
  induction ps with
  | nil => simp [wOf, sumW]
  | cons p r ih =>
    have h1 := ih (fun q hq => hp q (by simp [hq]))
    have h2 := hp p (by simp)
    simp only [wOf, sumW]
    split <;> omega

theorem one_new_at (W : World) {n : Nat} (hW : W.heap.size = n) (c : Array Value) : ∀ j u, c.toList[j]? = some u → (W.alloc (.cells c 98)).cell? ((⟨n, 0, none⟩ : Addr).add j) = some u := by
  subst hW; exact one_new W c 98

theorem grown_alloc {w w' : World} {r : Option Nat} (h : w.grownBy w' r) (o : Obj) : w.grownBy (w'.alloc o) r :=
  ⟨h.os, h.tape, h.output, by have := h.size; simp; omega, fun k hk hne => (Below.heap_alloc w' o k (Nat.lt_of_lt_of_le hk h.size)).trans (h.block k hk hne)⟩
theorem grown_trans {w w' w'' : World} {r : Option Nat} (h : w.grownBy w' r) (k : w'.grownBy w'' r) : w.grownBy w'' r :=
  ⟨k.os.trans h.os, k.tape.trans h.tape, k.output.trans h.output, Nat.le_trans h.size k.size, fun i hi hne => (k.block i (Nat.lt_of_lt_of_le hi h.size) hne).trans (h.block i hi hne)⟩
theorem grown_below {w w' : World} {r : Option Nat} (h : Below w.heap.size w w') : w.grownBy w' r := ⟨h.os, h.tape, h.output, h.size, fun k hk _ => h.block k hk⟩

/-- What the block holds behind i rounds. -/
structure MergeR (S : List (Int × Int)) (i : Nat) (M : List (Int × Int)) (G : List Ent) : Prop where
  sum : IsSum (S.take i) M
  len : M.length + G.length = i

def mergeK (S : List (Int × Int)) (i : Nat) (M : List (Int × Int)) (G : List Ent) : List Ent := M.map raw ++ (G ++ (S.drop i).map raw)

theorem mergeK_len {S : List (Int × Int)} {i : Nat} {M : List (Int × Int)} {G : List Ent} (h : MergeR S i M G) (hi : i ≤ S.length) : (mergeK S i M G).length = S.length := by
  have := h.len
  simp [mergeK]; omega

theorem take_succP {S : List (Int × Int)} {i : Nat} (hi : i < S.length) : S.take (i + 1) = S.take i ++ [S[i]] := List.take_succ_eq_append_getElem hi

theorem merge_same {S : List (Int × Int)} {i : Nat} {M : List (Int × Int)} {G : List Ent} {v w : Int} (h : MergeR S i (M ++ [(v, w)]) G) (hi : i < S.length) (he : v = S[i].1) : MergeR S (i + 1) (M ++ [(v, w + S[i].2)]) (G ++ [raw S[i]]) := by
  refine ⟨?_, by have := h.len; simp at this ⊢; omega⟩
  rw [take_succP hi]
  have := h.sum.same S[i].2
  rw [show S[i] = (v, S[i].2) from Prod.ext he.symm rfl]
  exact this

theorem merge_more {S : List (Int × Int)} {i : Nat} {M : List (Int × Int)} {G : List Ent} (h : MergeR S i M G) (hi : i < S.length) (hs : S.Pairwise fun p q => p.1 ≤ q.1) (hne : ∀ v w N, M = N ++ [(v, w)] → v ≠ S[i].1) : IsSum (S.take (i + 1)) (M ++ [S[i]]) := by
  rw [take_succP hi]
  refine h.sum.more S[i] fun q hq => ?_
  have hle : q.1 ≤ S[i].1 := by
    obtain ⟨j, hj, e⟩ := List.mem_iff_getElem.1 hq
    rw [List.getElem_take] at e
    rw [← e]
    exact List.pairwise_iff_getElem.1 hs j i (by simp at hj; omega) hi (by simp at hj; omega)
  rcases Int.lt_or_eq_of_le hle with h1 | h1
  · exact h1
  · exfalso
    obtain ⟨r, hr, er⟩ := h.sum.all q hq
    have hM : M ≠ [] := List.ne_nil_of_mem hr
    have hsp : M = M.dropLast ++ [M.getLast hM] := (List.dropLast_concat_getLast hM).symm
    refine hne (M.getLast hM).1 (M.getLast hM).2 M.dropLast hsp ?_
    have h2 : (M.getLast hM).1 ≤ S[i].1 := by
      obtain ⟨q', hq', eq'⟩ := h.sum.sub _ (List.getLast_mem hM)
      obtain ⟨j, hj, e⟩ := List.mem_iff_getElem.1 hq'
      rw [List.getElem_take] at e
      rw [← eq', ← e]
      exact List.pairwise_iff_getElem.1 hs j i (by simp at hj; omega) hi (by simp at hj; omega)
    have h3 : r.1 ≤ (M.getLast hM).1 := by
      have hrise := h.sum.rise
      rw [hsp] at hr hrise
      rcases List.mem_append.1 hr with hr | hr
      · have := (List.pairwise_append.1 hrise).2.2 r hr (M.getLast hM) (by simp); omega
      · simp at hr; rw [hr]; exact Int.le_refl _
    omega

theorem merge_split {S : List (Int × Int)} {i : Nat} {M : List (Int × Int)} {G : List Ent} (h : MergeR S i M G) (hi : i < S.length) :
    ∃ y B G', mergeK S i M G = M.map raw ++ y :: B ∧ mergeK S (i + 1) (M ++ [S[i]]) G' = M.map raw ++ raw S[i] :: B ∧ (M ++ [S[i]]).length + G'.length = i + 1 := by
  have hl := h.len
  have hsp : S.drop i = S[i] :: S.drop (i + 1) := List.drop_eq_getElem_cons hi
  cases G with
  | nil => exact ⟨raw S[i], (S.drop (i + 1)).map raw, [], by unfold mergeK; rw [hsp, List.map_cons, List.nil_append], by unfold mergeK; simp, by simp at hl ⊢; omega⟩
  | cons y G => exact ⟨y, G ++ raw S[i] :: (S.drop (i + 1)).map raw, G ++ [raw S[i]], by unfold mergeK; rw [hsp, List.map_cons]; rfl, by unfold mergeK; simp, by simp at hl ⊢; omega⟩

set_option maxRecDepth 100000 in
set_option maxHeartbeats 2000000 in
theorem mergeEqual_any (g cap : Nat) (S : List (Int × Int)) (base : Nat) (w : World) (h : OwnE w base (.slice (some ⟨g, 0, none⟩) S.length cap) (S.map raw)) (hs : S.Pairwise fun p q => p.1 ≤ q.1) (hp : ∀ p ∈ S, 1 ≤ p.2 ∧ p.2 ≤ 1000) (hl : S.length ≤ 2097152) :
    Calls Tryz.prog 83 #[.slice (some ⟨g, 0, none⟩) S.length cap] w fun e w' => ∃ M, e = .returned (.slice (some ⟨g, 0, none⟩) M.length cap) ∧ IsSum S M ∧ M.length ≤ S.length ∧ OwnE w' base (.slice (some ⟨g, 0, none⟩) M.length cap) (M.map raw) ∧ w.grownBy w' (some g) := by
  obtain ⟨i0, hinf, hz0, hz1, hz2⟩ := info_parts info98
  have hgw : g < w.heap.size := (World.ownsRow.lt h g rfl).2
  have hcap : S.length ≤ cap := by
    rcases h.2 with ⟨e, _⟩ | ⟨g', cap', cur, e, hb, hg, hnc, _⟩
    · simp at e
    · simp only [Value.slice.injEq, Option.some.injEq, Addr.mk.injEq, and_true] at e
      simp at hnc; omega
  have HO : Hid (OwnE w base (.slice (some ⟨g, 0, none⟩) S.length cap) (S.map raw)) := h
  have HS : Hid (S.Pairwise fun p q => p.1 ≤ q.1) := hs
  have HP : Hid (∀ p ∈ S, 1 ≤ p.2 ∧ p.2 ≤ 1000) := hp
  clear h hs hp
  go_enter Tryz.func83, Tryz.ntmps83
  go_wp2_with fail
  go_loopw [3, 11] (fun tm ti wr => ∃ (i : Nat) (M : List (Int × Int)) (G : List Ent), i ≤ S.length ∧ ti = .int .i64 i ∧ tm = .slice (some ⟨g, 0, none⟩) M.length cap ∧ Hid (MergeR S i M G ∧ OwnE wr base (.slice (some ⟨g, 0, none⟩) S.length cap) (mergeK S i M G) ∧ w.grownBy wr (some g))) (fun _ ti _ => S.length - (intOf ti).toNat)
  case atStart => exact ⟨0, [], [], Nat.zero_le _, rfl, rfl, ⟨IsSum.nil, rfl⟩, by simpa [mergeK] using HO.out, grown_refl _ _⟩
  case round =>
    obtain ⟨i, M, G, hi, rfl, rfl, HR⟩ := hrel
    obtain ⟨hR, hown, hgr⟩ := HR.out
    have HG : Hid (w.grownBy wr (some g)) := hgr
    have hsz := hgr.size
    have hgr2 : g < wr.heap.size := by omega
    by_cases hil : i < S.length
    · have hRl := hR.len
      have hsp : S.drop i = S[i] :: S.drop (i + 1) := List.drop_eq_getElem_cons hil
      have hcat : mergeK S i M G = (M.map raw ++ G) ++ raw S[i] :: (S.drop (i + 1)).map raw := by unfold mergeK; rw [hsp, List.map_cons, List.append_assoc]
      have hml := mergeK_len hR (by omega)
      have hown' := hown
      rw [hcat] at hown'
      obtain ⟨c0, c1, c2, c3, cf⟩ := hown'.at (by rw [← hcat, hml]) (show (M.map raw ++ G).length = i by simp; omega)
      simp only [raw] at c0 c1 c2 c3
      have hpi := HP.out S[i] (List.getElem_mem hil)
      have bi1 : (0 : Int) ≤ (i : Int) := by omega
      have bi2 : (i : Int) < (S.length : Int) := by omega
      have HOW : Hid (OwnE wr base (.slice (some ⟨g, 0, none⟩) S.length cap) (mergeK S i M G)) := hown
      clear hown hown' hgr HR
      rcases List.eq_nil_or_concat M with hM | ⟨N, p, hM⟩
      · subst hM
        obtain ⟨y, B, G2, hs1, hs2, hs3⟩ := merge_split hR hil
        have hRn : MergeR S (i + 1) ([] ++ [S[i]]) G2 := ⟨merge_more hR hil HS.out (fun v w N e => by simp at e), hs3⟩
        have HRN : Hid (MergeR S (i + 1) ([] ++ [S[i]]) G2) := hRn
        have HS2 : Hid (mergeK S (i + 1) ([] ++ [S[i]]) G2 = [].map raw ++ raw S[i] :: B) := hs2
        have HOY : Hid (OwnE wr base (.slice (some ⟨g, 0, none⟩) S.length cap) ([].map raw ++ y :: B)) := hs1 ▸ HOW.out
        have HLN : Hid (S.length = ([].map raw ++ y :: B).length) := show _ = _ by rw [← hs1, hml]
        clear hRn hs1 hs2 hs3
        generalize S[i] = q at *
        go_wp2_with fail
        go_big_quiet (fail)
        go_wp2_with (at_builtin; refine wpList_append_into rfl (.tmp 40) (.tmp 42) rfl i0 hinf hz1 base g cap S.length 0 [] B y (raw q) rfl HLN.out rfl (HOY.out.below (by repeat (first | with_reducible exact Below.refl _ _ | with_reducible refine below_drewN ?_ _ | with_reducible refine Below.drew ?_ | with_reducible refine Below.alloc ?_ (by simp <;> omega) _))) ⟨wr.heap.size + 1, 0, none⟩ 1 rfl (one_new_at _ (by simp) #[.int .i64 q.1, .int .i64 0, .int .i64 0, .int .i64 q.2]) ?_)
        intro w5 hown5 hg5
        have HW5 : Hid (OwnE w5 base (.slice (some ⟨g, 0, none⟩) S.length cap) (mergeK S (i + 1) ([] ++ [q]) G2)) := by rw [HS2.out]; exact hown5
        have HG5 : Hid (w.grownBy w5 (some g)) := grown_trans HG.out (grown_trans (grown_below (by repeat (first | with_reducible exact Below.refl _ _ | with_reducible refine below_drewN ?_ _ | with_reducible refine Below.drew ?_ | with_reducible refine Below.alloc ?_ (by simp <;> omega) _))) hg5)
        clear hown5 hg5
        go_wp2
        go_roundw
        case rel => exact ⟨i + 1, [] ++ [q], G2, by omega, by go_num, by simp, HRN.out, HW5.out, HG5.out⟩
        case measure => simp [intOf]; omega
      · rw [List.concat_eq_append] at hM
        subst hM
        obtain ⟨pv, pw⟩ := p
        have hcat2 : mergeK S i (N ++ [(pv, pw)]) G = N.map raw ++ raw (pv, pw) :: (G ++ (S.drop i).map raw) := by unfold mergeK; simp
        have hown2 := HOW.out
        rw [hcat2] at hown2
        obtain ⟨d0, d1, d2, d3, _⟩ := hown2.at (by rw [← hcat2, hml]) (show (N.map raw).length = N.length by simp)
        simp only [raw] at d0 d1 d2 d3
        have hpw : pw = wOf (S.take i) pv := hR.sum.wt (pv, pw) (by simp)
        have hpt : ∀ r ∈ S.take i, 1 ≤ r.2 := fun r hr => (HP.out r (List.mem_of_mem_take hr)).1
        have hpw1 : 0 ≤ pw ∧ pw ≤ 1000 * 2097152 := by
          have h1 := wOf_pos hpt pv
          have h2 := wOf_le hpt pv
          have h3 := sumW_le (ps := S.take i) (fun r hr => (HP.out r (List.mem_of_mem_take hr)).2)
          have h4 : (S.take i).length ≤ 2097152 := by simp; omega
          omega
        have bl1 : (0 : Int) ≤ (N.length : Int) := by omega
        have hNi : N.length < i := by have := hR.len; simp at this; omega
        have bl2 : (N.length : Int) < (N.length : Int) + 1 := by omega
        have dg : decide ((0 : Int) ≤ (N.length : Int)) = true := decide_eq_true (by omega)
        by_cases hv : pv = S[i].1
        · have hRn := merge_same hR hil hv
          have HRN : Hid (MergeR S (i + 1) (N ++ [(pv, pw + S[i].2)]) (G ++ [raw S[i]])) := hRn
          have HE2 : Hid (mergeK S (i + 1) (N ++ [(pv, pw + S[i].2)]) (G ++ [raw S[i]]) = N.map raw ++ (⟨pv, 0, 0, pw + S[i].2⟩ : Ent) :: (G ++ (S.drop i).map raw)) := show _ = _ by
            unfold mergeK; rw [hsp]; simp only [List.map_append, List.map_cons, List.map_nil, List.append_assoc, List.cons_append, List.nil_append, raw]
          have HOW2 : Hid (OwnE wr base (.slice (some ⟨g, 0, none⟩) S.length cap) (N.map raw ++ raw (pv, pw) :: (G ++ (S.drop i).map raw))) := hown2
          have HLL : Hid (S.length = (N.map raw ++ raw (pv, pw) :: (G ++ (S.drop i).map raw)).length) := show _ = _ by rw [← hcat2, hml]
          have hvb : (pv == S[i].1) = true := beq_iff_eq.2 hv
          clear hRn hpw hown2 hcat2 hv
          generalize S[i] = q at *
          go_wp2_with fail
          go_big_quiet (fail)
          go_wp2_with fail
          go_region
          all_goals go_wp2
          all_goals
            go_roundw
            case rel =>
              refine ⟨i + 1, N ++ [(pv, pw + q.2)], G ++ [raw q], by omega, by go_num, by simp, HRN.out, ?_, ?_⟩
              · rw [HE2.out]
                exact (HOW2.out.below (by repeat (first | with_reducible exact Below.refl _ _ | with_reducible refine below_drewN ?_ _ | with_reducible refine Below.drew ?_ | with_reducible refine Below.alloc ?_ (by simp <;> omega) _))).store HLL.out (by simp) (flat_set3 (by simp) _)
              · refine grown_set (grown_trans HG.out (grown_below ?_)) _ _
                repeat (first | with_reducible exact Below.refl _ _ | with_reducible refine below_drewN ?_ _ | with_reducible refine Below.drew ?_ | with_reducible refine Below.alloc ?_ (by simp <;> omega) _)
            case measure => simp [intOf]; omega
        · have hvb : (pv == S[i].1) = false := beq_eq_false_iff_ne.2 hv
          obtain ⟨y, B, G2, hs1, hs2, hs3⟩ := merge_split hR hil
          have hRn : MergeR S (i + 1) ((N ++ [(pv, pw)]) ++ [S[i]]) G2 := ⟨merge_more hR hil HS.out (fun v w N2 e => by have := (List.append_inj_right' e rfl); simp at this; rw [← this.1]; exact hv), hs3⟩
          have HRN : Hid (MergeR S (i + 1) ((N ++ [(pv, pw)]) ++ [S[i]]) G2) := hRn
          have HS2 : Hid (mergeK S (i + 1) ((N ++ [(pv, pw)]) ++ [S[i]]) G2 = (N ++ [(pv, pw)]).map raw ++ raw S[i] :: B) := hs2
          have HOY : Hid (OwnE wr base (.slice (some ⟨g, 0, none⟩) S.length cap) ((N ++ [(pv, pw)]).map raw ++ y :: B)) := hs1 ▸ HOW.out
          have HLN : Hid (S.length = ((N ++ [(pv, pw)]).map raw ++ y :: B).length) := show _ = _ by rw [← hs1, hml]
          clear hRn hs1 hs2 hs3
          clear hpw hown2 hcat2 hv
          generalize S[i] = q at *
          go_wp2_with fail
          go_big_quiet (fail)
          go_wp2_with (at_builtin; refine wpList_append_into rfl (.tmp 40) (.tmp 42) rfl i0 hinf hz1 base g cap S.length (N ++ [(pv, pw)]).length ((N ++ [(pv, pw)]).map raw) B y (raw q) (by simp) HLN.out rfl (HOY.out.below (by repeat (first | with_reducible exact Below.refl _ _ | with_reducible refine below_drewN ?_ _ | with_reducible refine Below.drew ?_ | with_reducible refine Below.alloc ?_ (by simp <;> omega) _))) ⟨wr.heap.size + 1, 0, none⟩ 1 rfl (one_new_at _ (by simp) #[.int .i64 q.1, .int .i64 0, .int .i64 0, .int .i64 q.2]) ?_)
          intro w5 hown5 hg5
          have HW5 : Hid (OwnE w5 base (.slice (some ⟨g, 0, none⟩) S.length cap) (mergeK S (i + 1) ((N ++ [(pv, pw)]) ++ [q]) G2)) := by rw [HS2.out]; simp only [List.map_append, List.map_cons, List.map_nil, List.append_assoc, List.cons_append, List.nil_append]; exact hown5
          have HG5 : Hid (w.grownBy w5 (some g)) := grown_trans HG.out (grown_trans (grown_below (by repeat (first | with_reducible exact Below.refl _ _ | with_reducible refine below_drewN ?_ _ | with_reducible refine Below.drew ?_ | with_reducible refine Below.alloc ?_ (by simp <;> omega) _))) hg5)
          clear hown5 hg5
          go_wp2
          go_roundw
          case rel => exact ⟨i + 1, (N ++ [(pv, pw)]) ++ [q], G2, by omega, by go_num, by simp, HRN.out, HW5.out, HG5.out⟩
          case measure => simp [intOf]; omega
    · have hie : S.length = i := by omega
      have HF : Hid (IsSum S M ∧ OwnE wr base (.slice (some ⟨g, 0, none⟩) M.length cap) (M.map raw)) := by
        refine ⟨by have := hR.sum; rwa [List.take_of_length_le (by omega)] at this, ?_⟩
        have hd : mergeK S i M G = M.map raw ++ G := by unfold mergeK; rw [List.drop_eq_nil_of_le (by omega)]; simp
        rw [hd] at hown
        exact hown.pfx (by have := hR.len; simp; omega) (by simp)
      have HL : Hid (M.length ≤ S.length) := show _ ≤ _ by have := hR.len; omega
      clear hown hgr HR hie hR
      go_wp2
      go_ret
      exact ⟨M, rfl, HF.out.1, HL.out, HF.out.2, HG.out⟩
end Go.Proofs.YtfcgnpchbcmdeaaGreat
