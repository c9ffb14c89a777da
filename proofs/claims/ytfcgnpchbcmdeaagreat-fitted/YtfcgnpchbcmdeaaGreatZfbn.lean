import Derived.Test.YtfcgnpchbcmdeaaGreatZfbl
namespace Go.Proofs.YtfcgnpchbcmdeaaGreat
open Go.RowKit
def seenF (Rs : List RawR) (f : Nat) : Nat -> List Int
  | 0 => []
  | k + 1 => if (Rs.getD k r0R).ms.getD f false = false /\ (Rs.getD k r0R).ns.getD f 0 ∉ seenF Rs f k then seenF Rs f k ++ [(Rs.getD k r0R).ns.getD f 0] else seenF Rs f k
theorem seenF_len (Rs : List RawR) (f : Nat) : ∀ k, (seenF Rs f k).length <= k
  | 0 => by simp [seenF]
  | k + 1 => by have := seenF_len Rs f k;simp only [seenF];split;simp; omega;omega
theorem seenF_nodup (Rs : List RawR) (f : Nat) : ∀ k, (seenF Rs f k).Nodup
  | 0 => by simp [seenF]
  | k + 1 => by have ih := seenF_nodup Rs f k;simp only [seenF];split;rename_i h;rw [List.nodup_append];refine ⟨ih, List.pairwise_singleton _ _, fun a ha b hb e => ?_⟩;rw [List.mem_singleton] at hb;rw [e, hb] at ha;exact h.2 ha;exact ih
theorem mem_seenF (Rs : List RawR) (f : Nat) (x : Int) : ∀ k, k <= Rs.length -> (x ∈ seenF Rs f k ↔ ∃ j, j < k /\ (Rs.getD j r0R).ms.getD f false = false /\ (Rs.getD j r0R).ns.getD f 0 = x)
  | 0, _ => by simp [seenF]
  | k + 1, hk => by
    have ih := mem_seenF Rs f x k (by omega)
    have hs : (∃ j, j < k + 1 /\ (Rs.getD j r0R).ms.getD f false = false /\ (Rs.getD j r0R).ns.getD f 0 = x) ↔ (∃ j, j < k /\ (Rs.getD j r0R).ms.getD f false = false /\ (Rs.getD j r0R).ns.getD f 0 = x) ∨ ((Rs.getD k r0R).ms.getD f false = false /\ (Rs.getD k r0R).ns.getD f 0 = x) := by
      constructor
      · rintro ⟨j, hj, h⟩
        by_cases e : j = k
        exact .inr (e ▸ h);exact .inl ⟨j, by omega, h⟩
      rintro (⟨j, hj, h⟩ | h);exact ⟨j, by omega, h⟩;exact ⟨k, by omega, h⟩
    rw [hs, <- ih];simp only [seenF];split;rename_i h;rw [List.mem_append, List.mem_singleton];constructor;rintro (h1 | h1);exact .inl h1;exact .inr ⟨h.1, h1.symm⟩;rintro (h1 | h1);exact .inl h1;exact .inr h1.2.symm;rename_i h;constructor;exact .inl;rintro (h1 | h1);exact h1;refine Classical.byContradiction fun hn => h ⟨h1.1, ?_⟩;rw [h1.2]; exact hn
def binR (bz : List Int) (R : RawR) (f : Nat) : Nat := if R.ms.getD f false = true then bz.length + 1 else bz.countP (fun b => decide (b < R.ns.getD f 0))
def noneOf (S : List Int) (k : Nat) (v : Int) : Bool := (S.take k).all fun y => !decide (y = v)
theorem noneOf_succ {S : List Int} {k : Nat} (h : k < S.length) (v : Int) : noneOf S (k + 1) v = (noneOf S k v && !decide (S.getD k 0 = v)) := by have e : S.take (k + 1) = S.take k ++ [S.getD k 0] := (by rw [List.take_succ_eq_append_getElem h]; simp [List.getD, h]);unfold noneOf;rw [e]; simp
theorem noneOf_all (S : List Int) (v : Int) : noneOf S S.length v = decide (v ∉ S) := by
  unfold noneOf;rw [List.take_length]
  by_cases h : v ∈ S
  simp [h];simp only [h, not_false_eq_true, decide_true, List.all_eq_true, Bool.not_eq_true', decide_eq_false_iff_not];intro y hy e;exact h (e ▸ hy)
def someOf (S : List Int) (k : Nat) (v : Int) : Bool := !noneOf S k v
theorem someOf_succ {S : List Int} {k : Nat} (h : k < S.length) (v : Int) : someOf S (k + 1) v = (someOf S k v || decide (S.getD k 0 = v)) := by unfold someOf; rw [noneOf_succ h]; simp
def ltOfB (bz : List Int) (k : Nat) (v : Int) : Nat := (bz.take k).countP (fun b => decide (b < v))
theorem ltOfB_succ {bz : List Int} {k : Nat} (h : k < bz.length) (v : Int) : ltOfB bz (k + 1) v = ltOfB bz k v + (if bz.getD k 0 < v then 1 else 0) := by have e : bz.take (k + 1) = bz.take k ++ [bz.getD k 0] := (by rw [List.take_succ_eq_append_getElem h]; simp [List.getD, h]);unfold ltOfB;rw [e, List.countP_append];simp only [List.countP_singleton, decide_eq_true_eq]
theorem ltOfB_le (bz : List Int) (k : Nat) (v : Int) : ltOfB bz k v <= k := by unfold ltOfB;exact Nat.le_trans List.countP_le_length (by rw [List.length_take]; omega)
theorem cellLt {w : World} {b o : Nat} {v : Value} (h : w.cell? ⟨b, o, none⟩ = some v) : b < w.heap.size := by apply Classical.byContradiction;intro hn;unfold World.cell? at h;simp [hn] at h
set_option maxRecDepth 100000 in
set_option maxHeartbeats 16000000 in
theorem numbersFit_any (gb fk fm fc f n cap base bc bins size budget : Nat) (a ba : Option Addr) (Rs : List RawR) (bz : List Int) (w : World) (hR : RowsM w base (.slice a n cap) Rs) (hn : n = Rs.length) (hn2 : n <= 200) (hf : HasF Rs f) (hfl : f <= 1000) (hb : OwnI w 0 (.slice ba bz.length bc) bz) (h1 : bz.length < bins) (h2 : ∀ x ∈ bz, x ∈ seenF Rs f n) (h3 : bz.Pairwise (· < ·)) (h4 : 0 < (seenF Rs f n).length -> (seenF Rs f n).length <= bins -> bz.length = (seenF Rs f n).length - 1) (hb2 : bins <= 16) (hL : ∀ W, Below w.heap.size w W -> ∀ i, i < n -> Calls Tryz.prog 44 #[.pointer (some ⟨gb, 0, none⟩), .int .i64 (i : Nat), .int .i64 (f : Nat)] W fun e w' => e = .returned (.tuple #[.int .i64 (binR bz (Rs.getD i r0R) f : Nat), .int .i64 0]) /\ Below W.heap.size W w') : Calls Tryz.prog 29 #[.pointer (some ⟨gb, 0, none⟩), .slice a n cap, .agg #[.slice (some ⟨fk, 0, none⟩) fm fc, .int .i64 (bins : Nat), .int .i64 (size : Nat), .int .i64 (budget : Nat)], .int .i64 (f : Nat), .slice ba bz.length bc] w fun e w' => e = .returned (.bool true) /\ Below w.heap.size w w' := by
  have HN : Hid (n = Rs.length) := hn;have HF : Hid (HasF Rs f) := hf;obtain ⟨w0, hw0⟩ : ∃ w0, w0 = w.alloc (.cells #[.slice (some ⟨fk, 0, none⟩) fm fc, .int .i64 (bins : Nat), .int .i64 (size : Nat), .int .i64 (budget : Nat)] 37) := ⟨_, rfl⟩;have HR0 : Hid (w0.heap[w.heap.size]? = some (.cells #[.slice (some ⟨fk, 0, none⟩) fm fc, .int .i64 (bins : Nat), .int .i64 (size : Nat), .int .i64 (budget : Nat)] 37 (0, 0)) /\ w0.heap.size = w.heap.size + 1) := ⟨by rw [hw0]; exact heap_alloc_new w _, by rw [hw0]; simp⟩;have hB0 : Below w.heap.size w w0 := (by rw [hw0]; exact (Below.refl _ _).alloc (Nat.le_refl _) _);have HBW : Hid (∀ W, Below w0.heap.size w0 W -> Below w.heap.size w W) := fun W hW => hB0.trans (hW.mono (by have := HR0.out.2; omega));have HRO : Hid (∀ W, Below w0.heap.size w0 W -> RowsM W base (.slice a n cap) Rs) := fun W hW => hR.below (HBW.out W hW)
  have HC1 : Hid (∀ W, Below w0.heap.size w0 W -> W.cell? ⟨w.heap.size, 1, none⟩ = some (.int .i64 (bins : Nat))) := fun W hW => by have hlt : w.heap.size < w0.heap.size := (by have := HR0.out.2; omega);exact cell_of_row _ _ 1 _ 37 (0, 0) ((hW.block _ hlt).trans HR0.out.1)
  have HLK : Hid (∀ W, Below w0.heap.size w0 W -> ∀ i, i < n -> Calls Tryz.prog 44 #[.pointer (some ⟨gb, 0, none⟩), .int .i64 (i : Nat), .int .i64 (f : Nat)] W fun e w' => e = .returned (.tuple #[.int .i64 (binR bz (Rs.getD i r0R) f : Nat), .int .i64 0]) /\ Below W.heap.size W w') := fun W hW i hi => hL W (HBW.out W hW) i hi;obtain ⟨nb, hnb⟩ : ∃ nb, nb = bz.length := ⟨_, rfl⟩;have HNB : Hid (bz.length = nb) := hnb.symm
  have HBZ : Hid (∀ W, Below w0.heap.size w0 W -> OwnI W 0 (.slice ba nb bc) bz) := fun W hW => by rw [hnb]; exact hb.below (HBW.out W hW)
  have H2 : Hid (∀ x ∈ bz, x ∈ seenF Rs f n) := h2;have H3 : Hid (bz.Pairwise (· < ·)) := h3;have H4 : Hid (0 < (seenF Rs f n).length -> (seenF Rs f n).length <= bins -> nb = (seenF Rs f n).length - 1) := (by rw [<- hnb] at h4; exact h4);rw [<- hnb] at h1 ⊢;clear hR hn hf hb h2 h3 h4 hL hnb hB0;have g1 : ¬ (bins : Int) <= (nb : Int) := (by omega);have bf1 : (0 : Int) <= (f : Int) := (by omega);go_enter Tryz.func29, Tryz.ntmps29;go_wp2_with fail
  rw [<- hw0];clear hw0;go_loopw [11, 12] (fun ts ti wr => ∃ i : Nat, i <= n /\ ti = .int .i64 i /\ Hid (OwnI wr w0.heap.size ts (seenF Rs f i)) /\ Hid (Below w0.heap.size w0 wr)) (fun _ ti _ => n - (intOf ti).toNat)
  case atStart => exact ⟨0, Nat.zero_le _, rfl, OwnI.nil _ _, Below.refl _ _⟩
  case round =>
    obtain ⟨i, hi, rfl, HS, HB⟩ := hrel;obtain ⟨sa, sc, rfl⟩ := HS.out.shape;have hsl := seenF_len Rs f i
    by_cases hin : i < n
    · have bi1 : (0 : Int) <= (i : Int) := (by omega);have bi2 : (i : Int) < (n : Int) := (by omega);obtain ⟨g, mg, ml, mc, ng, nl, nc, sg, sl, sc2, rfl, hA⟩ := (HRO.out wr HB.out).at_ HN.out HF.out hin;have hC : ∀ W, Below wr.heap.size wr W -> RowsM W base (.slice (some ⟨g, 0, none⟩) n cap) Rs := fun W hW => HRO.out W (HB.out.trans (hW.mono HB.out.size));obtain ⟨hg, c0, c1, c2, c3, l1, l2, l3, m1, m2, m3⟩ := hA;have hmg := cellLt m1;have hng := cellLt m2;have HCC : Hid (∀ W, Below wr.heap.size wr W -> W.cell? ⟨g, i * 4 + 2, none⟩ = some (.slice (some ⟨ng, 0, none⟩) nl nc) /\ W.cell? ⟨ng, f, none⟩ = some (.int .i64 ((Rs.getD i r0R).ns.getD f 0))) := fun W hW => ⟨(hW.cell (p := ⟨g, i * 4 + 2, none⟩) hg).trans c2, (hW.cell (p := ⟨ng, f, none⟩) hng).trans m2⟩;have bm : (f : Int) < (ml : Int) := (by omega);have bn : (f : Int) < (nl : Int) := by omega
      have HSD : Hid (seenF Rs f (i + 1) = if (Rs.getD i r0R).ms.getD f false = false /\ (Rs.getD i r0R).ns.getD f 0 ∉ seenF Rs f i then seenF Rs f i ++ [(Rs.getD i r0R).ns.getD f 0] else seenF Rs f i) := rfl;generalize (Rs.getD i r0R).ms.getD f false = mb at *;generalize (Rs.getD i r0R).ns.getD f 0 = v at *;generalize seenF Rs f i = S at *;clear hC c0 c3 m3 l3 c2 m2;go_wp2_with fail
      obtain ⟨wo, hwo⟩ : ∃ wo, wo = wr := ⟨_, rfl⟩;subst hwo;go_loopw [13, 14] (fun tf tk wr => ∃ k : Nat, k <= S.length /\ tk = .int .i64 k /\ tf = .bool (!mb && noneOf S k v) /\ Hid (Below wo.heap.size wo wr)) (fun _ tk _ => S.length - (intOf tk).toNat)
      case atStart => exact ⟨0, Nat.zero_le _, rfl, by simp [noneOf], Below.refl _ _⟩
      case round =>
        obtain ⟨k, hk, rfl, rfl, HBI⟩ := hrel
        by_cases hks : k < S.length
        · have bk1 : (0 : Int) <= (k : Int) := (by omega);have bk2 : (k : Int) < (S.length : Int) := (by omega);obtain ⟨q, rfl, _, _, y1, _⟩ := (HS.out.below HBI.out).atK rfl hks;obtain ⟨e1, e2⟩ := HCC.out wr HBI.out;have HNS : Hid (noneOf S (k + 1) v = (noneOf S k v && !decide (S.getD k 0 = v))) := noneOf_succ hks v;generalize S.getD k 0 = y at *
          cases hfr : (!mb && noneOf S k v) with
          | false =>
            have HQ : Hid ((!mb && noneOf S (k + 1) v) = false) := (by show _ = _; rw [HNS.out, <- Bool.and_assoc, hfr]; rfl);clear hfr HNS;go_upto_region 11 with fail;go_quiet (fail);go_wp2;go_roundw;case rel => exact ⟨k + 1, by omega, by go_num, by rw [HQ.out], below_drewN HBI.out _⟩
            case measure => simp [intOf]; omega
          | true =>
            by_cases hy : y = v
            · have HQ : Hid ((!mb && noneOf S (k + 1) v) = false) := (by show _ = _; rw [HNS.out, hy]; simp);clear hfr HNS;subst hy;go_upto_region 11 with fail;go_quiet (fail);go_wp2;go_roundw;case rel => exact ⟨k + 1, by omega, by go_num, by rw [HQ.out], below_drewN HBI.out _⟩
              case measure => simp [intOf]; omega
            have hyb : (y == v) = false := (by rw [beq_eq_false_iff_ne]; exact hy);have HQ : Hid ((!mb && noneOf S (k + 1) v) = true) := (by show _ = _; rw [HNS.out, <- Bool.and_assoc, hfr]; simp [hy]);clear hfr HNS;go_upto_region 11 with fail;go_quiet (fail);go_wp2;go_roundw;case rel => exact ⟨k + 1, by omega, by go_num, by rw [HQ.out]; simp [hy], below_drewN HBI.out _⟩
            case measure => simp [intOf]; omega
        have hnk : ¬ (k : Int) < (S.length : Int) := (by omega);have hkk : k = S.length := (by omega);subst hkk;rw [noneOf_all];have HB1 : Hid (Below w0.heap.size w0 wr) := HB.out.trans (HBI.out.mono HB.out.size);have HS1 : Hid (OwnI wr w0.heap.size (.slice sa S.length sc) S) := HS.out.below HBI.out
        by_cases hfr : mb = false /\ v ∉ S
        · have HQ : Hid (seenF Rs f (i + 1) = S ++ [v]) := (by show _ = _; rw [HSD.out, if_pos hfr]);obtain ⟨e1, e2⟩ := HCC.out wr HBI.out;have hfb : (!mb && decide (v ∉ S)) = true := (by simp [hfr]);have hlo : S.length <= 1000000000 := (by omega);rw [hfb];clear HSD hfr hfb HCC;go_wp2_with (at_builtin; refine wpList_append_int rfl (.tmp 66) (.tmp 75) rfl w0.heap.size _ S v rfl (HS1.out.alloc _) wr.heap.size 1 rfl ?_ hlo ?_ ?_)
          have := HB1.out.size; omega;intro v3 w3 H3;have hb4 : Below w0.heap.size w0 w3 := by obtain ⟨q1, q2, q3⟩ := H3.out;have hsz := HB1.out.size;exact HB1.out.trans (((Below.refl _ _).alloc hsz _).grown q2 (by simp; omega) (fun k hk => (HS1.out.lt k hk).1))
          have HF3 : Hid (OwnI w3 w0.heap.size v3 (S ++ [v])) := H3.out.1;clear H3;go_wp2;go_roundw;case rel => exact ⟨i + 1, by omega, by go_num, by show OwnI _ _ _ _; rw [HQ.out]; exact HF3.out, hb4⟩
          case measure => simp [intOf]; omega
        have HQ : Hid (seenF Rs f (i + 1) = S) := by show _ = _; rw [HSD.out, if_neg hfr]
        have hfb : (!mb && decide (v ∉ S)) = false := by
          cases mb
          simp at hfr ⊢; exact hfr;rfl
        rw [hfb];clear HSD hfr hfb HCC;go_wp2;go_roundw;case rel => exact ⟨i + 1, by omega, by go_num, by show OwnI _ _ _ _; rw [HQ.out]; exact HS1.out, HB1.out⟩
        case measure => simp [intOf]; omega
    have hni : ¬ (i : Int) < (n : Int) := (by omega);have hii : i = n := (by omega);subst hii;clear hin hi;generalize hSS : seenF Rs f i = S at *;have hsl2 : S.length <= 200 := (by omega);clear hsl hSS;go_wp2_with fail
    obtain ⟨wo, hwo⟩ : ∃ wo, wo = wr := ⟨_, rfl⟩;subst hwo;have HTB : Hid (∀ W, Below wo.heap.size wo W -> Below w0.heap.size w0 W) := fun W hW => HB.out.trans (hW.mono HB.out.size);go_loopw [15] (fun tk wr => ∃ k : Nat, k <= nb /\ tk = .int .i64 k /\ Hid (Below wo.heap.size wo wr)) (fun tk _ => nb - (intOf tk).toNat)
    case atStart => exact ⟨0, Nat.zero_le _, rfl, Below.refl _ _⟩
    case round =>
      obtain ⟨k, hk, rfl, HBK⟩ := hrel
      by_cases hkn : k < nb
      · have bk1 : (0 : Int) <= (k : Int) := (by omega);have bk2 : (k : Int) < (nb : Int) := (by omega);obtain ⟨qb, rfl, hqb, _, x1, _⟩ := (HBZ.out wr (HTB.out wr HBK.out)).atK HNB.out hkn;have hmem : bz.getD k 0 ∈ S := H2.out _ (by rw [List.getD_eq_getElem?_getD, List.getElem?_eq_getElem (by rw [HNB.out]; exact hkn)]; exact List.getElem_mem _);have HXS : Hid (someOf S S.length (bz.getD k 0) = true) := by show _ = _; unfold someOf; rw [noneOf_all, decide_eq_false (fun h => h hmem)]; rfl
        have HUP : Hid (∀ j, k = j + 1 -> bz.getD j 0 < bz.getD k 0) := fun j hj => by have h1 := HNB.out;have := List.pairwise_iff_getElem.1 H3.out j k (by omega) (by omega) (by omega);rw [List.getD_eq_getElem?_getD, List.getD_eq_getElem?_getD, List.getElem?_eq_getElem (by omega), List.getElem?_eq_getElem (by omega)];exact this
        have HCX : Hid (∀ W, Below wr.heap.size wr W -> ∀ j, j < nb -> W.cell? ⟨qb, j, none⟩ = some (.int .i64 (bz.getD j 0))) := fun W hW j hj => by obtain ⟨q2, e, _, _, y, _⟩ := (HBZ.out W (HTB.out W (HBK.out.trans (hW.mono HBK.out.size)))).atK HNB.out hj;simp only [Option.some.injEq, Addr.mk.injEq, and_true] at e;rw [e]; exact y
        obtain ⟨x, hx⟩ : ∃ x, x = bz.getD k 0 := ⟨_, rfl⟩;rw [<- hx] at x1 HXS;have HX : Hid (x = bz.getD k 0) := hx;clear hx hmem;go_wp2_with fail
        obtain ⟨wk, hwk⟩ : ∃ wk, wk = wr := ⟨_, rfl⟩;subst hwk;clear x1;go_loopw [16, 17] (fun tt tj wr => ∃ j : Nat, j <= S.length /\ tj = .int .i64 j /\ tt = .bool (someOf S j x) /\ Hid (Below wk.heap.size wk wr)) (fun _ tj _ => S.length - (intOf tj).toNat)
        case atStart => exact ⟨0, Nat.zero_le _, rfl, by simp [someOf, noneOf], Below.refl _ _⟩
        case round =>
          obtain ⟨j, hj, rfl, rfl, HBJ⟩ := hrel;have x1 : wr.cell? ⟨qb, k, none⟩ = some (.int .i64 x) := by rw [HX.out]; exact HCX.out wr HBJ.out k hkn
          by_cases hjs : j < S.length
          · have bj1 : (0 : Int) <= (j : Int) := (by omega);have bj2 : (j : Int) < (S.length : Int) := (by omega);obtain ⟨q, rfl, _, _, y1, _⟩ := (HS.out.below (HBK.out.trans (HBJ.out.mono HBK.out.size))).atK rfl hjs;have HNS : Hid (someOf S (j + 1) x = (someOf S j x || decide (S.getD j 0 = x))) := someOf_succ hjs x;generalize S.getD j 0 = y at *
            cases hfr : someOf S j x with
            | true =>
              have HQ : Hid (someOf S (j + 1) x = true) := (by show _ = _; rw [HNS.out, hfr]; rfl);clear hfr HNS;go_upto_region 21 with fail;go_quiet (fail);go_wp2;go_roundw;case rel => exact ⟨j + 1, by omega, by go_num, by rw [HQ.out], below_drewN HBJ.out _⟩
              case measure => simp [intOf]; omega
            | false =>
              have HQ : Hid (someOf S (j + 1) x = (y == x)) := (by show _ = _; rw [HNS.out, hfr, Bool.false_or]; by_cases h : y = x <;> simp [h]);clear hfr HNS;go_upto_region 21 with fail;go_quiet (fail);go_wp2;go_roundw;case rel => exact ⟨j + 1, by omega, by go_num, by rw [HQ.out], below_drewN HBJ.out _⟩
              case measure => simp [intOf]; omega
          have hnj : ¬ (j : Int) < (S.length : Int) := (by omega);have hjj : j = S.length := (by omega);subst hjj;rw [HXS.out]
          cases k with
          | zero =>
            go_upto_region 22 with fail;go_quiet (fail);go_wp2;go_roundw;case rel => exact ⟨1, by omega, by go_num, below_drewN (HBK.out.trans (HBJ.out.mono HBK.out.size)) _⟩
            case measure => simp [intOf]; omega
          | succ j =>
            have x0 : wr.cell? ⟨qb, j, none⟩ = some (.int .i64 (bz.getD j 0)) := HCX.out wr HBJ.out j (by omega);have hlt := HUP.out j rfl;rw [<- HX.out] at hlt;have b1 : (0 : Int) <= (j : Int) + 1 - 1 := (by omega);have b2 : (j : Int) + 1 - 1 < (nb : Int) := (by omega);have b3 : (0 : Int) < (j : Int) + 1 := (by omega);have b4 : ¬ x <= bz.getD j 0 := (by omega);generalize bz.getD j 0 = y at *;go_upto_region 22 with fail;go_quiet (fail);go_wp2;go_roundw;case rel => exact ⟨j + 1 + 1, by omega, by go_num, below_drewN (HBK.out.trans (HBJ.out.mono HBK.out.size)) _⟩
            case measure => simp [intOf]; omega
      have hnk : ¬ (k : Int) < (nb : Int) := (by omega);have hC1 := HC1.out wr (HTB.out wr HBK.out);have HBN : Hid (Below w0.heap.size w0 wr) := HTB.out wr HBK.out;clear H2 H3
      have HGO : Hid ((¬ (0 : Int) < (S.length : Int)) ∨ ((0 : Int) < (S.length : Int) /\ (S.length : Int) <= (bins : Int) /\ ((nb : Int) != (S.length : Int) - 1) = false) ∨ ((0 : Int) < (S.length : Int) /\ ¬ (S.length : Int) <= (bins : Int))) := by
        rcases Nat.eq_zero_or_pos S.length with h | h
        exact .inl (by omega)
        by_cases h5 : S.length <= bins
        have h6 := H4.out h h5;refine .inr (.inl ⟨by omega, by omega, ?_⟩);rw [bne_eq_false_iff_eq];omega;exact .inr (.inr ⟨by omega, by omega⟩)
      clear H4
      rcases HGO.out with r1 | ⟨r1, r2, r3⟩ | ⟨r1, r2⟩
      all_goals
        clear HGO;go_wp2_with fail
        clear HBK HTB HB HS r1 hC1;go_loopw [18] (fun ti wr => ∃ j : Nat, j <= i /\ ti = .int .i64 j /\ Hid (Below w0.heap.size w0 wr)) (fun ti _ => i - (intOf ti).toNat)
        case atStart => exact ⟨0, Nat.zero_le _, rfl, HBN.out⟩
        case round =>
          clear HBN;obtain ⟨j, hj, rfl, HBN⟩ := hrel
          by_cases hjn : j < i
          · have bj1 : (0 : Int) <= (j : Int) := (by omega);have bj2 : (j : Int) < (i : Int) := (by omega);obtain ⟨g, mg, ml, mc, ng, nl, nc, sg, sl, sc2, rfl, hA⟩ := (HRO.out wr HBN.out).at_ HN.out HF.out hjn;obtain ⟨hg, c0, c1, c2, c3, l1, l2, l3, m1, m2, m3⟩ := hA;have hmg := cellLt m1;have hng := cellLt m2;have HCC : Hid (∀ W, Below wr.heap.size wr W -> W.cell? ⟨g, j * 4 + 1, none⟩ = some (.slice (some ⟨mg, 0, none⟩) ml mc) /\ W.cell? ⟨mg, f, none⟩ = some (.bool ((Rs.getD j r0R).ms.getD f false)) /\ W.cell? ⟨g, j * 4 + 2, none⟩ = some (.slice (some ⟨ng, 0, none⟩) nl nc) /\ W.cell? ⟨ng, f, none⟩ = some (.int .i64 ((Rs.getD j r0R).ns.getD f 0))) := fun W hW => ⟨(hW.cell (p := ⟨g, j * 4 + 1, none⟩) hg).trans c1, (hW.cell (p := ⟨mg, f, none⟩) hmg).trans m1, (hW.cell (p := ⟨g, j * 4 + 2, none⟩) hg).trans c2, (hW.cell (p := ⟨ng, f, none⟩) hng).trans m2⟩
            have HLJ : Hid (∀ W, Below wr.heap.size wr W -> Calls Tryz.prog 44 #[.pointer (some ⟨gb, 0, none⟩), .int .i64 (j : Nat), .int .i64 (f : Nat)] W fun e w' => e = .returned (.tuple #[.int .i64 (binR bz (Rs.getD j r0R) f : Nat), .int .i64 0]) /\ Below W.heap.size W w') := fun W hW => HLK.out W (HBN.out.trans (hW.mono HBN.out.size)) j hjn;have HBZ2 : Hid (∀ W, Below wr.heap.size wr W -> OwnI W 0 (.slice ba nb bc) bz) := fun W hW => HBZ.out W (HBN.out.trans (hW.mono HBN.out.size));have HBR : Hid (binR bz (Rs.getD j r0R) f = if (Rs.getD j r0R).ms.getD f false = true then nb + 1 else ltOfB bz nb ((Rs.getD j r0R).ns.getD f 0)) := (by show _ = _; unfold binR ltOfB; rw [<- HNB.out, List.take_length]);have bm : (f : Int) < (ml : Int) := (by omega);have bn : (f : Int) < (nl : Int) := (by omega);generalize (Rs.getD j r0R).ms.getD f false = mb at *
            generalize (Rs.getD j r0R).ns.getD f 0 = v at *;generalize binR bz (Rs.getD j r0R) f = R at *;clear c0 c1 c2 c3 m1 m2 m3 l1 l2 l3 hg hmg hng;go_wp2_with fail
            obtain ⟨wk, hwk⟩ : ∃ wk, wk = wr := ⟨_, rfl⟩;subst hwk;go_loopw [19, 20] (fun tw tk wr => ∃ k : Nat, k <= nb /\ tk = .int .i64 k /\ tw = .int .i64 (ltOfB bz k v : Nat) /\ Hid (Below wk.heap.size wk wr)) (fun _ tk _ => nb - (intOf tk).toNat)
            case atStart => exact ⟨0, Nat.zero_le _, rfl, rfl, Below.refl _ _⟩
            case round =>
              obtain ⟨k, hk, rfl, rfl, HBJ⟩ := hrel;obtain ⟨e1, e2, e3, e4⟩ := HCC.out wr HBJ.out;have hle := ltOfB_le bz k v
              by_cases hkn : k < nb
              · have bk1 : (0 : Int) <= (k : Int) := (by omega);have bk2 : (k : Int) < (nb : Int) := (by omega);obtain ⟨qb, rfl, _, _, x1, _⟩ := (HBZ2.out wr HBJ.out).atK HNB.out hkn;have HNS : Hid (ltOfB bz (k + 1) v = ltOfB bz k v + (if bz.getD k 0 < v then 1 else 0)) := ltOfB_succ (by rw [HNB.out]; exact hkn) v;generalize ltOfB bz k v = A at *;generalize bz.getD k 0 = y at *;clear e1 e2
                by_cases hy : y < v
                · have HQ : Hid (ltOfB bz (k + 1) v = A + 1) := (by show _ = _; rw [HNS.out, if_pos hy]);clear HNS;go_upto_region 33 with fail;go_quiet (fail);go_wp2;go_roundw;case rel => exact ⟨k + 1, by omega, by go_num, by rw [HQ.out]; go_num, below_drewN HBJ.out _⟩
                  case measure => simp [intOf]; omega
                have HQ : Hid (ltOfB bz (k + 1) v = A) := (by show _ = _; rw [HNS.out, if_neg hy]; rfl);clear HNS;go_upto_region 33 with fail;go_quiet (fail);go_wp2;go_roundw;case rel => exact ⟨k + 1, by omega, by go_num, by rw [HQ.out], below_drewN HBJ.out _⟩
                case measure => simp [intOf]; omega
              have hnk : ¬ (k : Int) < (nb : Int) := (by omega);have hkk : k = nb := (by omega);subst hkk;clear e3 e4 hk hkn;have hbr := HBR.out;generalize ltOfB bz k v = A at *
              cases mb with
              | true =>
                have HQ : Hid (R = k + 1) := (by rw [if_pos rfl] at hbr; exact hbr);clear hbr HBR;go_wp2_with fail
                refine (HLJ.out wr HBJ.out).mono ?_;rintro e w2 ⟨rfl, hb2⟩;rw [HQ.out];have HB2 : Hid (Below w0.heap.size w0 w2) := HBN.out.trans ((HBJ.out.trans (hb2.mono HBJ.out.size)).mono HBN.out.size);clear hb2;go_wp2;go_roundw;case rel => exact ⟨j + 1, by omega, by go_num, HB2.out⟩
                case measure => simp [intOf]; omega
              | false =>
                have HQ : Hid (R = A) := (by rw [if_neg (by decide)] at hbr; exact hbr);clear hbr HBR;go_wp2_with fail
                refine (HLJ.out wr HBJ.out).mono ?_;rintro e w2 ⟨rfl, hb2⟩;rw [HQ.out];have HB2 : Hid (Below w0.heap.size w0 w2) := HBN.out.trans ((HBJ.out.trans (hb2.mono HBJ.out.size)).mono HBN.out.size);clear hb2;go_wp2;go_roundw;case rel => exact ⟨j + 1, by omega, by go_num, HB2.out⟩
                case measure => simp [intOf]; omega
          have hnj : ¬ (j : Int) < (i : Int) := (by omega);go_wp2;go_ret;exact ⟨rfl, HBW.out _ HBN.out⟩
end Go.Proofs.YtfcgnpchbcmdeaaGreat
