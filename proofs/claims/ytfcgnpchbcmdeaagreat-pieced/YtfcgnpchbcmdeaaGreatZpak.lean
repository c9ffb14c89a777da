import Derived.Test.YtfcgnpchbcmdeaaGreatZpaj
import Derived.Test.YtfcgnpchbcmdeaaGreatZpag
import Derived.Test.YtfcgnpchbcmdeaaGreatZpai
import Derived.Test.YtfcgnpchbcmdeaaGreatZpah
import Derived.Deep.RegionWith
import Derived.Deep.DeepCutAuto
namespace Go.Proofs.YtfcgnpchbcmdeaaGreat
set_option maxRecDepth 100000
set_option maxHeartbeats 2000000
open Go.RowKit
theorem bounds_few (b off : Nat) (L : List Ent) (cap : Nat) (bins : Int) (w : World) (h : EntsAt w b off L) (hcap : L.length <= cap) (h0 : L.length ≠ 0) (hl : L.length <= 4194304) (hfew : (L.length : Int) <= bins) : Calls Tryz.prog 273 #[.slice (some ⟨b, off, none⟩) L.length cap, .int .i64 bins] w fun e w' => ∃ v, e = .returned v /\ OwnI w' w.heap.size v (boundsL L bins) /\ Below w.heap.size w w' := by
  obtain ⟨i0, hinf, hz0, hz1, hz2⟩ := info_parts info3
  have HB : Hid (boundsL L bins = (L.take (L.length - 1)).map (fun e => e.v)) := show _ = _ by unfold boundsL; rw [if_neg h0, if_pos hfew]
  have hbl := h.lt (by omega);have HE : Hid (EntsAt w b off L) := h;obtain ⟨m, hm⟩ : ∃ m, L.length = m + 1 := ⟨L.length - 1, by omega⟩;have HL : Hid (L.length = m + 1) := hm;rw [hm] at hcap hl hfew ⊢;have hne : (((m : Int) + 1) == 0) = false := beq_eq_false_iff_ne.2 (by omega);have hfew2 : (m : Int) + 1 <= bins := (by omega);clear h h0 hm hfew;go_enter Tryz.func273, Tryz.ntmps273;go_wp2_with fail
  go_loopw [28, 6] (fun ti o wr => ∃ k : Nat, ti = .int .i64 k /\ k <= m /\ Hid (OwnI wr w.heap.size o ((L.take k).map (fun e => e.v))) /\ Below w.heap.size w wr) (fun ti _ _ => m - (intOf ti).toNat)
  case atStart => exact ⟨0, rfl, Nat.zero_le _, OwnI.nil _ _, Below.refl _ _⟩
  case round =>
    obtain ⟨k, rfl, hk, HO, hbel⟩ := hrel
    by_cases hkm : k < m
    · have hA := HE.out;have hkl : k < L.length := by rw [HL.out]; omega
      obtain ⟨a0, a1, a2, a3⟩ : wr.cell? ⟨b, off + k * 4, none⟩ = some (.int .i64 (L.getD k e0).v) /\ wr.cell? ⟨b, off + k * 4 + 1, none⟩ = some (.int .i64 (L.getD k e0).lo) /\ wr.cell? ⟨b, off + k * 4 + 2, none⟩ = some (.int .i64 (L.getD k e0).hi) /\ wr.cell? ⟨b, off + k * 4 + 3, none⟩ = some (.int .i64 (L.getD k e0).wt) :=
        ⟨(hbel.cell (p := ⟨b, _, none⟩) hbl).trans (hA.v k hkl), (hbel.cell (p := ⟨b, _, none⟩) hbl).trans (hA.lo k hkl), (hbel.cell (p := ⟨b, _, none⟩) hbl).trans (hA.hi k hkl), (hbel.cell (p := ⟨b, _, none⟩) hbl).trans (hA.wt k hkl)⟩
      have HX : Hid ((L.take (k + 1)).map (fun e => e.v) = (L.take k).map (fun e => e.v) ++ [(L.getD k e0).v]) := show _ = _ by rw [take_snocE L hkl]; simp
      have HLEN : Hid (((L.take k).map (fun e => e.v)).length = k) := show _ = _ by simp; omega
      generalize (L.take k).map (fun e => e.v) = out at *;generalize L.getD k e0 = x at *;have bi1 : (0 : Int) <= (k : Int) := (by omega);have bi2 : (k : Int) < (m : Int) := (by omega);have hsz := hbel.size;clear hA hkl;have hlo : out.length <= 1000000000 := (by rw [HLEN.out]; omega);go_wp2_with (at_builtin; refine wpList_append_int rfl (.tmp 32) (.tmp 35) rfl w.heap.size _ out x.v rfl ((HO.out.alloc _).alloc _) (wr.heap.size + 1) 1 rfl ?_ hlo ?_ ?_)
      · simp [go_sem]
      simp; omega;intro v3 w3 H3;have hb4 : Below w.heap.size w w3 := by obtain ⟨q1, q2, q3⟩ := H3.out;exact hbel.trans ((((Below.refl _ _).alloc hsz _).alloc (by simp; omega) _).grown q2 (by simp; omega) (fun k hk => (HO.out.lt k hk).1))
      have HF : Hid (OwnI w3 w.heap.size v3 (out ++ [x.v])) := H3.out.1;clear H3;go_wp2;go_roundw;case rel => exact ⟨k + 1, by go_num, by omega, by rw [HX.out]; exact HF, hb4⟩
      case measure => simp [intOf]; omega
    have hkm2 : ¬ (k : Int) < (m : Int) := by omega
    have HF : Hid (OwnI wr w.heap.size u6 (boundsL L bins)) := show OwnI _ _ _ _ by rw [HB.out, HL.out];have : k = m := (by omega);subst this;exact HO.out
    clear HO;go_wp2;go_ret;exact ⟨_, rfl, HF.out, hbel⟩
theorem bounds_many (b off : Nat) (L : List Ent) (cap : Nat) (bins : Int) (w : World) (h : EntsAt w b off L) (g : Good L) (hcap : L.length <= cap) (hl : L.length <= 4194304) (hb1 : 2 <= bins) (hb2 : bins <= 16) (hmany : bins < (L.length : Int)) : Calls Tryz.prog 273 #[.slice (some ⟨b, off, none⟩) L.length cap, .int .i64 bins] w fun e w' => ∃ v, e = .returned v /\ OwnI w' w.heap.size v (boundsL L bins) /\ Below w.heap.size w w' := by
  have h0 : L.length ≠ 0 := (by omega);have hbl := h.lt (by omega);have HE : Hid (EntsAt w b off L) := h;have HG : Hid (Good L) := g;obtain ⟨m, hm⟩ : ∃ m, L.length = m + 1 := ⟨L.length - 1, by omega⟩;have HL : Hid (L.length = m + 1) := hm
  have HB : Hid (boundsL L bins = boundsB (totalL L) bins 1 (L.take m)) := show _ = _ by unfold boundsL; rw [if_neg h0, if_neg (by omega), hm]; rfl
  have ht : totalL L = (L.getD m e0).hi := (by unfold totalL; rw [if_neg h0, hm]; rfl);have c0 := h.hi m (by omega);rw [<- ht] at c0;have t1 : 1 <= totalL L := (by have := g.at (show m < L.length by omega); rw [ht]; omega);have t2 : totalL L <= 1000000000000 := (total_pos g).2;have HTOT : Hid (∀ k, k < L.length -> (L.getD k e0).hi <= totalL L) := fun k hk => total_at g hk;rw [hm] at hcap hl hmany ⊢;have hne : (((m : Int) + 1) == 0) = false := beq_eq_false_iff_ne.2 (by omega);have hmany2 : ¬ (m : Int) + 1 <= bins := (by omega);have b1 : (0 : Int) <= (m : Int) + 1 - 1 := (by omega);have b2 : (m : Int) + 1 - 1 < (m : Int) + 1 := (by omega);clear h g h0 hm hmany ht;generalize totalL L = tot at *;go_enter Tryz.func273, Tryz.ntmps273;go_wp2_with fail
  go_loopw [48, 6, 10] (fun ti o ts wr => ∃ (k : Nat) (share : Int) (out : List Int), ti = .int .i64 k /\ ts = .int .i64 share /\ 1 <= share /\ share <= 17 /\ k <= m /\ out.length <= k /\ Hid (OwnI wr w.heap.size o out) /\ Hid (out ++ boundsB tot bins share ((L.take m).drop k) = boundsL L bins) /\ Below w.heap.size w wr) (fun ti _ _ _ => m - (intOf ti).toNat)
  case atStart => exact ⟨0, 1, [], rfl, rfl, by decide, by decide, Nat.zero_le _, Nat.le_refl _, OwnI.nil _ _, by show _ = _; rw [HB.out]; rfl, Below.refl _ _⟩
  case round =>
    clear c0;obtain ⟨k, share, out, rfl, rfl, hs1, hs2, hk, hol, HO, HR, hbel⟩ := hrel
    by_cases hkm : k < m
    · have hA := HE.out;have hkl : k < L.length := by rw [HL.out]; omega
      obtain ⟨a0, a1, a2, a3⟩ : wr.cell? ⟨b, off + k * 4, none⟩ = some (.int .i64 (L.getD k e0).v) /\ wr.cell? ⟨b, off + k * 4 + 1, none⟩ = some (.int .i64 (L.getD k e0).lo) /\ wr.cell? ⟨b, off + k * 4 + 2, none⟩ = some (.int .i64 (L.getD k e0).hi) /\ wr.cell? ⟨b, off + k * 4 + 3, none⟩ = some (.int .i64 (L.getD k e0).wt) :=
        ⟨(hbel.cell (p := ⟨b, _, none⟩) hbl).trans (hA.v k hkl), (hbel.cell (p := ⟨b, _, none⟩) hbl).trans (hA.lo k hkl), (hbel.cell (p := ⟨b, _, none⟩) hbl).trans (hA.hi k hkl), (hbel.cell (p := ⟨b, _, none⟩) hbl).trans (hA.wt k hkl)⟩
      have hx1 : 0 <= (L.getD k e0).hi := (by have := HG.out.at hkl; omega);have hx2 := HTOT.out k hkl;have hd : (L.take m).drop k = L.getD k e0 :: (L.take m).drop (k + 1) := drop_getD hkm (by rw [HL.out]; omega);have hr := HR.out;rw [hd] at hr;clear hd HR;generalize L.getD k e0 = x at *;have hsh := shareR_in (show 0 <= bins by omega) hb2 hx1 hx2 t1;obtain ⟨s1, s2⟩ := hsh;have bi1 : (0 : Int) <= (k : Int) := (by omega);have bi2 : (k : Int) < (m : Int) := (by omega);have hsz := hbel.size;have hlo : out.length <= 1000000000 := (by omega);simp only [boundsB] at hr;have HSC : Hid (∀ W : World, Calls Tryz.prog 317 #[.int .i64 x.hi, .int .i64 tot, .int .i64 bins] W fun e w' => e = .returned (.int .i64 (shareR bins tot x.hi)) /\ w' = W) := fun W => sharesReached_any x.hi tot bins W (by omega) hb2 hx1 hx2 t1 t2;generalize shareR bins tot x.hi = r at *;clear hA hkl hx1 hx2
      by_cases hc : share <= r
      · rw [if_pos hc] at hr;have HR : Hid (out ++ x.v :: boundsB tot bins (r + 1) ((L.take m).drop (k + 1)) = boundsL L bins) := hr;clear hr;go_wp2_with fail
        refine (HSC.out _).mono ?_;rintro e w1 ⟨rfl, rfl⟩;go_wp2_with (at_builtin; refine wpList_append_int rfl (.tmp 60) (.tmp 63) rfl w.heap.size _ out x.v rfl ((HO.out.alloc _).alloc _) (wr.heap.size + 1) 1 rfl ?_ hlo ?_ ?_)
        · simp [go_sem]
        simp; omega;intro v3 w3 H3;have hb4 : Below w.heap.size w w3 := by obtain ⟨q1, q2, q3⟩ := H3.out;exact hbel.trans ((((Below.refl _ _).alloc hsz _).alloc (by simp; omega) _).grown q2 (by simp; omega) (fun k hk => (HO.out.lt k hk).1))
        have HF : Hid (OwnI w3 w.heap.size v3 (out ++ [x.v])) := H3.out.1;clear H3;go_wp2;go_roundw;case rel => exact ⟨k + 1, r + 1, out ++ [x.v], by go_num, by go_num, by omega, by omega, by omega, by simp; omega, HF, by show _ = _; rw [List.append_assoc]; exact HR.out, hb4⟩
        case measure => simp [intOf]; omega
      rw [if_neg hc] at hr;have HR : Hid (out ++ boundsB tot bins share ((L.take m).drop (k + 1)) = boundsL L bins) := hr;clear hr;go_wp2_with fail
      refine (HSC.out _).mono ?_;rintro e w1 ⟨rfl, rfl⟩;have HF := HO.out.alloc (.cells #[.int .i64 x.v, .int .i64 x.lo, .int .i64 x.hi, .int .i64 x.wt] 98);have HFF : Hid (OwnI (wr.alloc (.cells #[.int .i64 x.v, .int .i64 x.lo, .int .i64 x.hi, .int .i64 x.wt] 98)) w.heap.size u6 out) := HF;clear HF;go_wp2;go_roundw;case rel => exact ⟨k + 1, share, out, by go_num, rfl, by omega, by omega, by omega, by omega, HFF, HR, hbel.trans ((Below.refl _ _).alloc hsz _)⟩
      case measure => simp [intOf]; omega
    have hkm2 : ¬ (k : Int) < (m : Int) := by omega
    have HF : Hid (OwnI wr w.heap.size u6 (boundsL L bins)) := show OwnI _ _ _ _ by have := HR.out;rw [List.drop_eq_nil_of_le (by simp; omega)] at this;simp only [boundsB, List.append_nil] at this;rw [<- this];exact HO.out
    clear HO HR;go_wp2;go_ret;exact ⟨_, rfl, HF.out, hbel⟩
theorem bounds_any (a : Option Addr) (L : List Ent) (cap : Nat) (bins : Int) (w : World) (h : EntsV w a L) (g : Good L) (hcap : L.length <= cap) (hb1 : 2 <= bins) (hb2 : bins <= 16) : Calls Tryz.prog 273 #[.slice a L.length cap, .int .i64 bins] w fun e w' => ∃ v, e = .returned v /\ OwnI w' w.heap.size v (boundsL L bins) /\ Below w.heap.size w w' := by
  obtain ⟨hl, h0 | ⟨b, off, rfl, hA⟩⟩ := h
  · have hB : boundsL L bins = [] := (by unfold boundsL; rw [if_pos h0]);rw [hB, h0];go_enter Tryz.func273, Tryz.ntmps273;go_wp2;go_ret;exact ⟨_, rfl, OwnI.nil _ _, Below.refl _ _⟩
  by_cases h0 : L.length = 0
  · have hB : boundsL L bins = [] := (by unfold boundsL; rw [if_pos h0]);rw [hB, h0];go_enter Tryz.func273, Tryz.ntmps273;go_wp2;go_ret;exact ⟨_, rfl, OwnI.nil _ _, Below.refl _ _⟩
  by_cases hf : (L.length : Int) <= bins
  exact bounds_few b off L cap bins w hA hcap h0 hl hf;exact bounds_many b off L cap bins w hA g hcap hl hb1 hb2 (by omega)
end Go.Proofs.YtfcgnpchbcmdeaaGreat

namespace Go.Proofs.YtfcgnpchbcmdeaaGreat
def insP (p : Int × Int) : List (Int × Int) -> List (Int × Int)
  | [] => [p]
  | q :: r => if p.1 < q.1 then p :: q :: r else if p.1 = q.1 then (q.1, q.2 + p.2) :: r else q :: insP p r
def sumOf : List (Int × Int) -> List (Int × Int)
  | [] => []
  | p :: r => insP p (sumOf r)
theorem insP_vals (p : Int × Int) : ∀ (M : List (Int × Int)) (x : Int), (∃ q ∈ insP p M, q.1 = x) ↔ (p.1 = x ∨ ∃ q ∈ M, q.1 = x)
  | [], x => by simp [insP]
  | q :: r, x => by simp only [insP];split;simp;split;rename_i h; simp [h];have ih := insP_vals p r x;simp only [List.mem_cons, exists_eq_or_imp];rw [ih];constructor;rintro (h | h | h);exact .inr (.inl h);exact .inl h;exact .inr (.inr h);rintro (h | h | h);exact .inr (.inl h);exact .inl h;exact .inr (.inr h)
theorem insP_rise (p : Int × Int) : ∀ (M : List (Int × Int)), M.Pairwise (fun p q => p.1 < q.1) -> (insP p M).Pairwise fun p q => p.1 < q.1
  | [], _ => by simp [insP]
  | q :: r, h => by
    rw [List.pairwise_cons] at h;simp only [insP];split
    · rename_i hc;rw [List.pairwise_cons, List.pairwise_cons];refine ⟨fun x hx => ?_, h⟩
      rcases List.mem_cons.1 hx with rfl | hx
      exact hc;have := h.1 x hx; omega
    split;rw [List.pairwise_cons]; exact h;rename_i h1 h2;rw [List.pairwise_cons];refine ⟨fun x hx => ?_, insP_rise p r h.2⟩
    rcases (insP_vals p r x.1).1 ⟨x, hx, rfl⟩ with e | ⟨y, hy, e⟩
    omega;have := h.1 y hy; omega
theorem insP_wt (p : Int × Int) : ∀ (M : List (Int × Int)), M.Pairwise (fun p q => p.1 < q.1) -> ∀ q ∈ insP p M, (q.1 ≠ p.1 -> q ∈ M) /\ (q.1 = p.1 -> (∃ z, (q.1, z) ∈ M /\ q.2 = z + p.2) ∨ (q.2 = p.2 /\ ∀ y ∈ M, y.1 ≠ q.1))
  | [], _, q, hq => by simp [insP] at hq; subst hq;exact ⟨fun h => absurd rfl h, fun _ => .inr ⟨rfl, by simp⟩⟩
  | x :: r, h, q, hq => by
    rw [List.pairwise_cons] at h;simp only [insP] at hq;split at hq
    · rename_i hc
      rcases List.mem_cons.1 hq with rfl | hq
      · refine ⟨fun h => absurd rfl h, fun _ => .inr ⟨rfl, fun y hy => ?_⟩⟩
        rcases List.mem_cons.1 hy with rfl | hy
        omega;have := h.1 y hy; omega
      refine ⟨fun _ => hq, fun e => ?_⟩
      rcases List.mem_cons.1 hq with rfl | hy
      omega;have := h.1 q hy; omega
    split at hq
    · rename_i h1 h2
      rcases List.mem_cons.1 hq with rfl | hq
      refine ⟨fun e => absurd h2.symm e, fun _ => .inl ⟨x.2, by simp, rfl⟩⟩;refine ⟨fun _ => by simp [hq], fun e => ?_⟩;have := h.1 q hq; omega
    rename_i h1 h2
    rcases List.mem_cons.1 hq with rfl | hq
    exact ⟨fun _ => by simp, fun e => absurd e.symm h2⟩;obtain ⟨i1, i2⟩ := insP_wt p r h.2 q hq;refine ⟨fun e => by simp [i1 e], fun e => ?_⟩
    rcases i2 e with ⟨z, hz, e2⟩ | ⟨e2, hn⟩
    exact .inl ⟨z, by simp [hz], e2⟩;refine .inr ⟨e2, fun y hy => ?_⟩
    rcases List.mem_cons.1 hy with rfl | hy
    omega;exact hn y hy
theorem sumOf_is : ∀ ps : List (Int × Int), IsSum ps (sumOf ps)
  | [] => IsSum.nil
  | p :: r => by
    have ih := sumOf_is r;have hv := insP_vals p (sumOf r);refine ⟨insP_rise p _ ih.rise, fun q hq => ?_, fun q hq => ?_, fun q hq => ?_⟩
    · rcases (hv q.1).1 ⟨q, hq, rfl⟩ with e | ⟨y, hy, e⟩
      exact ⟨p, by simp, e⟩;obtain ⟨z, hz, e2⟩ := ih.sub y hy;exact ⟨z, by simp [hz], by omega⟩
    · rcases List.mem_cons.1 hq with rfl | hq
      obtain ⟨x, hx, e⟩ := (hv q.1).2 (.inl rfl);exact ⟨x, hx, e⟩;obtain ⟨y, hy, e⟩ := ih.all q hq;obtain ⟨x, hx, e2⟩ := (hv q.1).2 (.inr ⟨y, hy, e⟩);exact ⟨x, hx, e2⟩
    obtain ⟨i1, i2⟩ := insP_wt p (sumOf r) ih.rise q hq;simp only [wOf]
    by_cases e : q.1 = p.1
    · rw [if_pos e.symm]
      rcases i2 e with ⟨z, hz, e2⟩ | ⟨e2, hn⟩
      have := ih.wt _ hz;simp only at this;omega
      have : wOf r q.1 = 0 := wOf_none (fun y hy he => by
        obtain ⟨x, hx, e3⟩ := ih.all y hy
        exact hn x hx (by omega))
      omega
    rw [if_neg (fun h => e h.symm), ih.wt q (i1 e)]; omega
theorem sumOf_eq {ps M : List (Int × Int)} (h : IsSum ps M) : sumOf ps = M := (sumOf_is ps).unique h
def sumE (vs ws : List Int) : List Ent := rankL 0 (sumOf (pairsOf vs ws))
theorem total_join (a b : List Ent) : totalL (joinL a b) = totalL a + totalL b := by
  by_cases h : 0 < a.length ∨ 0 < b.length
  exact joinF_total a b _ 0 0 (Nat.zero_le _) (Nat.zero_le _) (by omega) (by omega);have ha : a.length = 0 := (by omega);have hb : b.length = 0 := (by omega);have hj : (joinL a b).length = 0 := (by have := joinL_len a b; omega);simp [totalL, ha, hb, hj]
theorem total_cut {L : List Ent} (size : Int) : totalL (cutL L size) = totalL L := by unfold cutL;split;rfl;rw [total_snoc]; unfold totalL; rw [if_neg (by omega)]
theorem kept_len' {L : List Ent} (s : Nat) : ∀ k, (keptK L s k).length <= k + 1
  | 0 => by simp [keptK]
  | k + 1 => by have := kept_len' (L := L) s k;simp only [keptK];split;omega;simp; omega
theorem cutL_len (L : List Ent) {size : Int} (h : 2 <= size) : ((cutL L size).length : Int) <= size := by unfold cutL;split;omega;have := kept_len' (L := L) (max size 2).toNat ((max size 2).toNat - 2);simp; omega
def takeInL (size : Int) : List (List Ent) -> List Ent -> List (List Ent)
  | [], l => [l]
  | o :: r, l => if o.length = 0 then l :: r else [] :: takeInL size r (cutL (joinL o l) size)
def totals : List (List Ent) -> Int
  | [] => 0
  | l :: r => totalL l + totals r
structure LevOk (Ls : List (List Ent)) : Prop where
  good : ∀ l ∈ Ls, Good l
  len : ∀ l ∈ Ls, l.length <= 32
theorem totals_pos : ∀ {Ls : List (List Ent)}, (∀ l ∈ Ls, Good l) -> 0 <= totals Ls
  | [], _ => by simp [totals]
  | l :: r, h => by have := (total_pos (h l (by simp))).1;have := totals_pos (Ls := r) (fun l hl => h l (by simp [hl]));simp only [totals]; omega
theorem LevOk.nil : LevOk [] := ⟨by simp, by simp⟩
theorem takeIn_ok {size : Int} (hs : 2 <= size) (hs2 : size <= 32) : ∀ {Ls : List (List Ent)} {l : List Ent}, LevOk Ls -> Good l -> l.length <= 32 -> totals Ls + totalL l <= 1000000000000 -> LevOk (takeInL size Ls l) /\ totals (takeInL size Ls l) = totals Ls + totalL l
  | [], l, h, g, hl, ht => by refine ⟨⟨?_, ?_⟩, ?_⟩;simp [takeInL, g];simp [takeInL, hl];simp [takeInL, totals]
  | o :: r, l, h, g, hl, ht => by
    have go := h.good o (by simp);have hr : LevOk r := ⟨fun x hx => h.good x (by simp [hx]), fun x hx => h.len x (by simp [hx])⟩;have p1 := totals_pos hr.good;have p2 := (total_pos go).1;have p3 := (total_pos g).1;simp only [totals] at ht;simp only [takeInL];split
    · rename_i h0;refine ⟨⟨fun x hx => ?_, fun x hx => ?_⟩, ?_⟩
      · rcases List.mem_cons.1 hx with rfl | hx
        exact g;exact hr.good x hx
      · rcases List.mem_cons.1 hx with rfl | hx
        exact hl;exact hr.len x hx
      have : totalL o = 0 := (by unfold totalL; rw [if_pos h0]);simp only [totals]; omega
    have gj := joinL_good go g (by omega);have gc : Good (cutL (joinL o l) size) := gj.sub (cutL_sub gj size);have tc : totalL (cutL (joinL o l) size) = totalL o + totalL l := (by rw [total_cut, total_join]);have lc := cutL_len (joinL o l) hs;obtain ⟨i1, i2⟩ := takeIn_ok hs hs2 hr gc (by omega) (by omega);refine ⟨⟨fun x hx => ?_, fun x hx => ?_⟩, ?_⟩
    · rcases List.mem_cons.1 hx with rfl | hx
      exact Good.nil;exact i1.good x hx
    · rcases List.mem_cons.1 hx with rfl | hx
      simp;exact i1.len x hx
    have : totalL ([] : List Ent) = 0 := rfl;simp only [totals]; omega
theorem takeIn_len (size : Int) : ∀ (Ls : List (List Ent)) (l : List Ent), (takeInL size Ls l).length <= Ls.length + 1
  | [], l => by simp [takeInL]
  | o :: r, l => by have := takeIn_len size r (cutL (joinL o l) size);simp only [takeInL];split;simp;simp; omega
def blocksF (size : Nat) : Nat -> List (List Ent) -> List Int -> List Int -> List (List Ent)
  | 0, Ls, _, _ => Ls
  | f + 1, Ls, vs, ws => if vs.length = 0 then Ls else blocksF size f (takeInL size Ls (sumE (vs.take size) (ws.take size))) (vs.drop size) (ws.drop size)
def foldLev (size : Int) : List Ent -> List (List Ent) -> List Ent
  | all, [] => all
  | all, l :: r => foldLev size (cutL (joinL all l) size) r
def inBlocksL (size : Nat) (vs ws : List Int) : List Ent := foldLev size [] (blocksF size vs.length [] vs ws)
end Go.Proofs.YtfcgnpchbcmdeaaGreat

namespace Go.Proofs.YtfcgnpchbcmdeaaGreat
open Go.RowKit
set_option maxHeartbeats 1000000 in
theorem seenFrom_any (a : Option Addr) (L : List Ent) (cap j : Nat) (x : Ent) (w : World) (h : EntsV w a L) (g : Good L) (hj : j <= L.length) (hx : 0 <= x.lo /\ 0 <= x.hi /\ x.lo <= 1000000000000 /\ x.hi <= 1000000000000) : Calls Tryz.prog 85 #[.slice a L.length cap, .int .i64 j, .agg #[.int .i64 x.v, .int .i64 x.lo, .int .i64 x.hi, .int .i64 x.wt]] w fun e w' => e = .returned (.agg #[.int .i64 (seen L j x).v, .int .i64 (seen L j x).lo, .int .i64 (seen L j x).hi, .int .i64 (seen L j x).wt]) /\ Below w.heap.size w w' := by
  obtain ⟨x1, x2, x3, x4⟩ := hx;have hb := perh_le g hj;have ht := total_pos g;have HE : Hid (EntsV w a L) := h;have HG : Hid (Good L) := g;clear h g;obtain ⟨b1, b2, b3⟩ := hb;have hlow : 0 <= belowL L j /\ belowL L j <= 1000000000000 := (by omega);have hper : 0 <= perhL L j /\ perhL L j <= 1000000000000 := (by omega);obtain ⟨l1, l2⟩ := hlow;obtain ⟨p1, p2⟩ := hper;clear b1 b2 b3 ht
  have HS : Hid (seen L j x = ⟨x.v, x.lo + belowL L j, x.hi + perhL L j, x.wt⟩) := show _ = _ from rfl
  go_enter Tryz.func85, Tryz.ntmps85;go_wp2_with fail
  go_region_with (go_at_call 152; refine (surelyBelow_any a L cap j _ ?_ HG.out hj).mono ?_; exact HE.out.below (by repeat (first | with_reducible exact Below.refl _ _ | with_reducible refine Below.drew ?_ | with_reducible refine below_drewN ?_ _ | with_reducible refine Below.setCell ?_ (by simp) _ | with_reducible refine Below.alloc ?_ (by simp <;> omega) _)); rintro e w' ⟨rfl, n, rfl⟩)
  all_goals go_wp2_with fail
  all_goals go_region_with (go_at_call 153; refine (perhapsBelow_any a L cap j _ ?_ HG.out hj).mono ?_; exact HE.out.below (by repeat (first | with_reducible exact Below.refl _ _ | with_reducible refine Below.drew ?_ | with_reducible refine below_drewN ?_ _ | with_reducible refine Below.setCell ?_ (by simp) _ | with_reducible refine Below.alloc ?_ (by simp <;> omega) _)); rintro e w' ⟨rfl, n2, rfl⟩)
  all_goals go_wp2
  all_goals exact bodyPost_ret (v := .agg #[.int .i64 x.v, .int .i64 (x.lo + belowL L j), .int .i64 (x.hi + perhL L j), .int .i64 x.wt]) (by simp [results, Tryz.results85, go_sem]) rfl ⟨by rw [HS.out], (by repeat (first | with_reducible exact Below.refl _ _ | with_reducible refine Below.drew ?_ | with_reducible refine below_drewN ?_ _ | with_reducible refine Below.setCell ?_ (by simp) _ | with_reducible refine Below.alloc ?_ (by simp <;> omega) _))⟩
end Go.Proofs.YtfcgnpchbcmdeaaGreat
