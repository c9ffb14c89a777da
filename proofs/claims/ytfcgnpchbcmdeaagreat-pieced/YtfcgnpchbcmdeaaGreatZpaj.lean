import Derived.Test.YtfcgnpchbcmdeaaGreatZpai
import Derived.Test.YtfcgnpchbcmdeaaGreatZpaf
import Derived.Deep.DeepCutAuto
namespace Go.Proofs.YtfcgnpchbcmdeaaGreat
open Go.RowKit
theorem one_new (w : World) (c : Array Value) (t : TypeId) : ∀ j u, c.toList[j]? = some u -> (w.alloc (.cells c t)).cell? ((⟨w.heap.size, 0, none⟩ : Addr).add j) = some u := by
  intro j u hu;have hadd : (⟨w.heap.size, 0, none⟩ : Addr).add j = ⟨w.heap.size, j, none⟩ := (by unfold Addr.add; split <;> simp_all);rw [hadd];rw [cell_of_row (w.alloc (.cells c t)) w.heap.size j c t (0, 0) (heap_alloc_new w _)]
  simpa using hu
theorem OwnE.more {w : World} {base : Nat} {v : Value} {L : List Ent} {x : Ent} (h : w.ownsRow base 98 4 v (L.length + 1) (flat L ++ [.int .i64 x.v, .int .i64 x.lo, .int .i64 x.hi, .int .i64 x.wt])) : OwnE w base v (L ++ [x]) := by unfold OwnE;rw [flat_append, flat_one, List.length_append];exact h
end Go.Proofs.YtfcgnpchbcmdeaaGreat

namespace Go.Proofs.YtfcgnpchbcmdeaaGreat
open Go.RowKit
theorem info3 : (Tryz.prog.info? 3).map (fun i => (i.zero, i.size, i.bytes)) = some (some (.int .i64 0), 1, 8) := by kernel_rfl
def OwnI (w : World) (base : Nat) (v : Value) (zs : List Int) : Prop := w.ownsRow base 3 1 v zs.length (zs.map (Value.int .i64))
theorem OwnI.nil (w : World) (base : Nat) : OwnI w base (.slice none 0 0) [] := World.ownsRow_nil w base 3 1
theorem OwnI.below {w w' : World} {base : Nat} {v : Value} {zs : List Int} (h : OwnI w base v zs) (hb : Below w.heap.size w w') : OwnI w' base v zs := by
  refine ⟨h.1, ?_⟩
  rcases h.2 with hn | ⟨g, cap, cur, e, hg, hh, r⟩
  exact .inl hn;exact .inr ⟨g, cap, cur, e, hg, (hb.block g (Array.getElem?_eq_some_iff.1 hh).1).trans hh, r⟩
theorem OwnI.kept {w w' : World} {base : Nat} {v : Value} {zs : List Int} {row : Option Nat} (h : OwnI w base v zs) (hg : w.grownBy w' row) (hne : v.ownBlock = none ∨ v.ownBlock ≠ row) : OwnI w' base v zs := World.ownsRow.kept h hg hne
theorem OwnI.more {w : World} {base : Nat} {v : Value} {zs : List Int} {x : Int} (h : w.ownsRow base 3 1 v (zs.length + 1) (zs.map (Value.int .i64) ++ [.int .i64 x])) : OwnI w base v (zs ++ [x]) := by unfold OwnI;rw [List.map_append, List.length_append];exact h
def Apart (v u : Value) : Prop := v.ownBlock = none ∨ u.ownBlock = none ∨ v.ownBlock ≠ u.ownBlock
theorem Apart.symm {v u : Value} (h : Apart v u) : Apart u v := by
  rcases h with h | h | h
  exact .inr (.inl h);exact .inl h;exact .inr (.inr (Ne.symm h))
theorem Apart.keeps {v u : Value} (h : Apart v u) : u.ownBlock = none ∨ u.ownBlock ≠ v.ownBlock := by
  rcases h with h | h | h
  · cases hu : u.ownBlock with
    | none => exact .inl rfl
    | some k => exact .inr (by rw [h]; simp)
  exact .inl h;exact .inr (Ne.symm h)
theorem Apart.moved {w : World} {base : Nat} {v v' u : Value} {zs : List Int} (h : Apart v u) (hu : OwnI w base u zs) (hv : v'.ownBlock = v.ownBlock ∨ v'.ownBlock = some w.heap.size) : Apart v' u := by
  rcases hv with hv | hv
  unfold Apart; rw [hv]; exact h
  cases hk : u.ownBlock with
  | none => exact .inr (.inl hk)
  | some k =>
    have := (World.ownsRow.lt hu k hk).2;refine .inr (.inr ?_);rw [hv, hk];simp; omega
end Go.Proofs.YtfcgnpchbcmdeaaGreat

namespace Go.Proofs.YtfcgnpchbcmdeaaGreat
open Go.RowKit
structure Touch (S : Nat -> Prop) (w w' : World) : Prop where
  os : w'.os = w.os
  tape : w'.tape = w.tape
  output : w'.output = w.output
  size : w.heap.size <= w'.heap.size
  block : ∀ k, k < w.heap.size -> ¬ S k -> w'.heap[k]? = w.heap[k]?
theorem Touch.refl (S : Nat -> Prop) (w : World) : Touch S w w := ⟨rfl, rfl, rfl, Nat.le_refl _, fun _ _ _ => rfl⟩
theorem Touch.trans {S : Nat -> Prop} {a b c : World} (h : Touch S a b) (k : Touch S b c) : Touch S a c :=
  ⟨k.os.trans h.os, k.tape.trans h.tape, k.output.trans h.output, Nat.le_trans h.size k.size, fun i hi hs => (k.block i (Nat.lt_of_lt_of_le hi h.size) hs).trans (h.block i hi hs)⟩
theorem Touch.mono {S S' : Nat -> Prop} {a b : World} (h : Touch S a b) (hs : ∀ k, k < a.heap.size -> S k -> S' k) : Touch S' a b :=
  ⟨h.os, h.tape, h.output, h.size, fun k hk hn => h.block k hk (fun e => hn (hs k hk e))⟩
theorem Touch.of_below {S : Nat -> Prop} {a b : World} (h : Below a.heap.size a b) : Touch S a b := ⟨h.os, h.tape, h.output, h.size, fun k hk _ => h.block k hk⟩
theorem Touch.below {S : Nat -> Prop} {a b c : World} (h : Touch S a b) (k : Below b.heap.size b c) : Touch S a c := h.trans (.of_below k)
theorem Touch.alloc {S : Nat -> Prop} {a b : World} (h : Touch S a b) (o : Obj) : Touch S a (b.alloc o) := h.below ((Below.refl _ _).alloc (Nat.le_refl _) _)
theorem Touch.drew {S : Nat -> Prop} {a b : World} (h : Touch S a b) : Touch S a b.drew := h.below (Below.refl _ _).drew
theorem Touch.setCell {S : Nat -> Prop} {a b : World} (h : Touch S a b) {p : Addr} (hp : p.block < a.heap.size -> S p.block) (u : Value) : Touch S a (b.setCell p u) :=
  ⟨h.os, h.tape, h.output, by have := h.size; simpa [World.setCell] using this, fun k hk hn => (Below.heap_setCell b p u k (fun e => hn (e ▸ hp (e ▸ hk)))).trans (h.block k hk hn)⟩
theorem Touch.grown {S : Nat -> Prop} {a b c : World} {row : Option Nat} (h : Touch S a b) (hg : b.grownBy c row) (hr : ∀ k, row = some k -> k < a.heap.size -> S k) : Touch S a c :=
  ⟨hg.os.trans h.os, hg.tape.trans h.tape, hg.output.trans h.output, Nat.le_trans h.size hg.size, fun k hk hn => (hg.block k (Nat.lt_of_lt_of_le hk h.size) (fun e => hn (hr k e.symm hk))).trans (h.block k hk hn)⟩
theorem Touch.row {S : Nat -> Prop} {a b : World} (h : Touch S a b) {base : Nat} {e : TypeId} {size : Nat} {v : Value} {n : Nat} {xs : List Value} (hr : a.ownsRow base e size v n xs) (hs : ∀ k, v.ownBlock = some k -> ¬ S k) : b.ownsRow base e size v n xs := by
  refine ⟨hr.1, ?_⟩
  rcases hr.2 with hn | ⟨g, cap, cur, rfl, hb, hgg, rest⟩
  exact .inl hn;exact .inr ⟨g, cap, cur, rfl, hb, (h.block g (Array.getElem?_eq_some_iff.1 hgg).1 (hs g rfl)).trans hgg, rest⟩
theorem Touch.at_ {S : Nat -> Prop} {a b : World} (h : Touch S a b) {g : Nat} {o : Obj} (hg : a.heap[g]? = some o) (hs : ¬ S g) : b.heap[g]? = some o := (h.block g (Array.getElem?_eq_some_iff.1 hg).1 hs).trans hg
theorem run_append_mark {P : Program} (w : World) (base : Nat) (t ty e : TypeId) (i : TypeInfo) (z : Value) (size bytes : Nat) (ht : P.underlying t = some (.slice e)) (hi : P.info? e = some i) (hz : i.zero = some z) (hsize : i.size = size) (hby : i.bytes = bytes) (hzs : z.cells.size = size) (hsz : 0 < size) (v : Value) (n : Nat) (xs : List Value) (hown : w.ownsRow base e size v n xs) (a : Addr) (m c : Nat) (news : List Value) (hl : news.length = m * size) (hnews : ∀ j u, news[j]? = some u -> w.cell? (a.add j) = some u) (h1 : ∀ u ∈ news, u.oneCell' = true) (hm : 0 < m) (h63 : n + m <= maxLen) (hbytes : (n + m) * bytes <= 140737488355328) (hbase : base <= w.heap.size) : ∃ v' w', (Builtin.append_ #[t, t] ty #[v, .slice (some a) m c]).run P w = .ok v' w' /\ w'.ownsRow base e size v' (n + m) (xs ++ news) /\ w.grownBy w' v.ownBlock /\ (v'.ownBlock = v.ownBlock ∨ v'.ownBlock = some w.heap.size /\ Below w.heap.size w w') /\ w'.ownsRow base e size v n xs /\ ∃ g cap, v' = .slice (some ⟨g, 0, none⟩) (n + m) cap := by
  obtain ⟨v', w', hr, h2, h3, h4, h5, h6⟩ := run_append_keep (P := P) w base t ty e i z size bytes ht hi hz hsize hby hzs hsz v n xs hown a m c news hl hnews h1 hm h63 hbytes hbase;refine ⟨v', w', hr, h2, h3, ?_, h5, h6⟩
  subst hsize hby
  rcases hown.2 with ⟨rfl, rfl⟩ | ⟨g, cap, cur, rfl, hbg, hg, hnc, hcm, hcs, htake⟩
  have hr2 := run_append_nil (P := P) w t ty e i z ht hi hz a m c news hl hnews hm (by simp only [maxLen] at h63; omega) (by simp only [Nat.zero_add] at hbytes; omega);rw [hr] at hr2;simp only [Result.ok.injEq] at hr2;right;refine ⟨by rw [hr2.1]; rfl, ?_⟩;rw [hr2.2];exact ((Below.refl _ _).drew).alloc (by simp) _
  by_cases hroom : n + m <= cap
  have hfit : n * i.size + news.length <= cur.size := (by rw [hl, hcs, <- Nat.add_mul]; exact Nat.mul_le_mul_right _ hroom);have hr2 := run_append_room (P := P) w t ty e i ht hi g n cap cur hg a m c news hl hnews h1 hroom hfit;rw [hr] at hr2;simp only [Result.ok.injEq] at hr2;left; rw [hr2.1]; rfl;have holds : ∀ j u, xs[j]? = some u -> w.cell? ((⟨g, 0, none⟩ : Addr).add j) = some u := hown.cells (g := g) rfl;have hr2 := run_append_grow (P := P) w t ty e i z ht hi hz ⟨g, 0, none⟩ n cap xs hown.1 holds a m c news hl hnews (by omega) (by simp only [maxLen] at h63; omega) (growslice_fits (by omega) hbytes);rw [hr] at hr2;simp only [Result.ok.injEq] at hr2;right;refine ⟨by rw [hr2.1]; rfl, ?_⟩;rw [hr2.2];exact ((Below.refl _ _).drew).alloc (by simp) _
theorem wpList_append_mark {P : Program} {w : World} {ops : Array Oper} {rest : List Oper} {o : Oper} {a : Act} {Q : Exit -> Act -> World -> Prop} (hgd : o.guard = none) (s x : Operand) (t : TypeId) (ho : o.op = .call { callee := .builtin .append, args := #[s, x], argTypes := #[t, t] }) (base : Nat) (e : TypeId) (i : TypeInfo) (z : Value) (size bytes : Nat) (ht : P.underlying t = some (.slice e)) (hi : P.info? e = some i) (hz : i.zero = some z) (hsize : i.size = size) (hby : i.bytes = bytes) (hzs : z.cells.size = size) (hsz : 0 < size) (v : Value) (n : Nat) (xs : List Value) (hs : a.eval s = v) (hown : w.ownsRow base e size v n xs) (ad : Addr) (m c : Nat) (news : List Value) (hx : a.eval x = .slice (some ad) m c) (hl : news.length = m * size) (hnews : ∀ j u, news[j]? = some u -> w.cell? (ad.add j) = some u) (h1 : ∀ u ∈ news, u.oneCell' = true) (hm : 0 < m) (h63 : n + m <= maxLen) (hbytes : (n + m) * bytes <= 140737488355328) (hbase : base <= w.heap.size) (h : ∀ v' w', Hid (w'.ownsRow base e size v' (n + m) (xs ++ news) /\ w.grownBy w' v.ownBlock /\ (v'.ownBlock = v.ownBlock ∨ v'.ownBlock = some w.heap.size /\ Below w.heap.size w w') /\ w'.ownsRow base e size v n xs /\ ∃ g cap, v' = .slice (some ⟨g, 0, none⟩) (n + m) cap) -> wpList P ops Q rest (a.put o.dst v') w') : wpList P ops Q (o :: rest) a w := by
  refine wpList_plain hgd fun K hK => ?_;obtain ⟨v', w', hr, h2⟩ := run_append_mark (P := P) w base t o.type e i z size bytes ht hi hz hsize hby hzs hsz v n xs hown ad m c news hl hnews h1 hm h63 hbytes hbase;unfold Oper.wp;simp only [execOp, ho, resolve, invoke, builtin, Sem.run_bind, Sem.run_pure, Result.andThen_ok, List.map_toArray, List.map_cons, List.map_nil, hs, hx, hr];exact hK _ _ (h v' w' h2)
theorem types_apart {w : World} {b1 b2 e1 e2 s1 s2 n1 n2 : Nat} {v u : Value} {xs ys : List Value} (h : w.ownsRow b1 e1 s1 v n1 xs) (g : w.ownsRow b2 e2 s2 u n2 ys) (hne : e1 ≠ e2) : u.ownBlock = none ∨ u.ownBlock ≠ v.ownBlock := by
  rcases g.2 with ⟨rfl, _⟩ | ⟨g1, cap1, cur1, rfl, _, hg1, _⟩
  exact .inl rfl
  rcases h.2 with ⟨rfl, _⟩ | ⟨g2, cap2, cur2, rfl, _, hg2, _⟩
  exact .inr (by simp [Value.ownBlock]);refine .inr fun e => ?_;simp [Value.ownBlock] at e;rw [e, hg2] at hg1;simp at hg1;exact hne hg1.2
theorem row_type {w : World} {base e size n : Nat} {v : Value} {xs : List Value} (h : w.ownsRow base e size v n xs) {k : Nat} (hk : v.ownBlock = some k) : ∃ cur, w.heap[k]? = some (.cells cur e (0, 0)) := by
  rcases h.2 with ⟨rfl, _⟩ | ⟨g2, cap2, cur2, rfl, _, hg2, _⟩
  · cases hk
  simp [Value.ownBlock] at hk; subst hk; exact ⟨_, hg2⟩
end Go.Proofs.YtfcgnpchbcmdeaaGreat

namespace Go.Proofs.YtfcgnpchbcmdeaaGreat
open Go.RowKit
theorem OwnI.alloc {w : World} {base : Nat} {v : Value} {zs : List Int} (h : OwnI w base v zs) (o : Obj) : OwnI (w.alloc o) base v zs := World.ownsRow.alloc h o
theorem wpList_append_int {w : World} {ops : Array Oper} {rest : List Oper} {o : Oper} {a : Act} {Q : Exit -> Act -> World -> Prop} (hgd : o.guard = none) (s x : Operand) (ho : o.op = .call { callee := .builtin .append, args := #[s, x], argTypes := #[25, 25] }) (base : Nat) (v : Value) (zs : List Int) (z : Int) (hs : a.eval s = v) (hown : OwnI w base v zs) (g c : Nat) (hx : a.eval x = .slice (some ⟨g, 0, none⟩) 1 c) (hg : w.cell? ⟨g, 0, none⟩ = some (.int .i64 z)) (hl : zs.length <= 1000000000) (hbase : base <= w.heap.size) (h : ∀ v' w', Hid (OwnI w' base v' (zs ++ [z]) /\ w.grownBy w' v.ownBlock /\ (v'.ownBlock = v.ownBlock ∨ v'.ownBlock = some w.heap.size /\ Below w.heap.size w w')) -> wpList Tryz.prog ops Q rest (a.put o.dst v') w') : wpList Tryz.prog ops Q (o :: rest) a w := by
  obtain ⟨i0, hinf, hz0, hz1, hz2⟩ := info_parts info3;refine wpList_append_mark hgd s x 25 ho base 3 i0 (.int .i64 0) 1 8 Tryz.underlying25 hinf hz0 hz1 hz2 rfl (by decide) v zs.length (zs.map (Value.int .i64)) hs hown ⟨g, 0, none⟩ 1 c [.int .i64 z] hx rfl ?_ ?_ (by decide) (by unfold maxLen; omega) (by omega) hbase ?_
  · intro j u hj
    cases j with
    | zero => simp at hj; subst hj; simpa [Addr.add] using hg
    | succ j => simp at hj
  intro u hu; simp at hu; subst hu; rfl;intro v' w' H;obtain ⟨h1, h2, h3, _, _⟩ := H.out;exact h v' w' ⟨OwnI.more h1, h2, h3⟩
def shareR (bins tot hi : Int) : Int := bins * hi / tot
def boundsB (tot bins : Int) : Int -> List Ent -> List Int
  | _, [] => []
  | share, e :: r => if share <= shareR bins tot e.hi then e.v :: boundsB tot bins (shareR bins tot e.hi + 1) r else boundsB tot bins share r
def boundsL (L : List Ent) (bins : Int) : List Int :=
  if L.length = 0 then [] else if (L.length : Int) <= bins then (L.take (L.length - 1)).map (fun e => e.v) else boundsB (totalL L) bins 1 (L.take (L.length - 1))
theorem drop_getD {L : List Ent} {k m : Nat} (hk : k < m) (hm : m <= L.length) : (L.take m).drop k = L.getD k e0 :: (L.take m).drop (k + 1) := by have h : k < (L.take m).length := (by simp; omega);rw [List.drop_eq_getElem_cons h];simp [List.getD, show k < L.length by omega]
theorem shareR_in {bins tot hi : Int} (h0 : 0 <= bins) (h1 : bins <= 16) (h2 : 0 <= hi) (h3 : hi <= tot) (h4 : 1 <= tot) : 0 <= shareR bins tot hi /\ shareR bins tot hi <= 16 := by
  unfold shareR;have a1 : 0 <= bins * hi := Int.mul_nonneg h0 h2;have a2 : bins * hi <= 16 * tot := Int.mul_le_mul h1 h3 h2 (by omega);constructor;exact Int.ediv_nonneg a1 (by omega);have := Int.ediv_le_ediv (show 0 < tot by omega) a2
  rwa [Int.mul_ediv_cancel _ (by omega)] at this
set_option maxHeartbeats 400000 in
theorem sharesReached_any (hi tot bins : Int) (w : World) (h0 : 0 <= bins) (h1 : bins <= 16) (h2 : 0 <= hi) (h3 : hi <= tot) (h4 : 1 <= tot) (h5 : tot <= 1000000000000) : Calls Tryz.prog 317 #[.int .i64 hi, .int .i64 tot, .int .i64 bins] w fun e w' => e = .returned (.int .i64 (shareR bins tot hi)) /\ w' = w := by
  have a1 : 0 <= bins * hi := Int.mul_nonneg h0 h2;have a2 : bins * hi <= 16 * 1000000000000 := Int.mul_le_mul h1 (by omega) h2 (by omega);have a3 := shareR_in h0 h1 h2 h3 h4;have hne : tot ≠ 0 := (by omega);have hnb : (tot == 0) = false := beq_eq_false_iff_ne.2 hne
  have HT : Hid (shareR bins tot hi = (bins * hi).tdiv tot) := show _ = _ by unfold shareR; rw [Int.tdiv_eq_ediv_of_nonneg a1]
  unfold Hid at HT;rw [HT] at a3 ⊢;obtain ⟨b1, b2⟩ := a3;clear HT;go_enter Tryz.func317, Tryz.ntmps317;go_wp2;go_ret;exact ⟨rfl, rfl⟩
end Go.Proofs.YtfcgnpchbcmdeaaGreat
