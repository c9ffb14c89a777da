/-
  The contract of granarykeep's True, over what is said of its head and of Summary.
-/
import Derived.Test.YtfcgnpchbcmdeaaGreatZtaq
import Derived.Test.YtfcgnpchbcmdeaaGreatZtbk
import Derived.Test.YtfcgnpchbcmdeaaGreatZtaj
import Derived.Test.YtfcgnpchbcmdeaaGreatZtak
import Derived.Deep.RegionHeld3
namespace Go.Proofs.YtfcgnpchbcmdeaaGreat
open Go.RowKit

/-- What is said of Summary. -/
def SummarySaid : Prop := ∀ (va wa : Option Addr) (vl vc wl wc : Nat) (vz wz : List Int) (w : World), IntsV w va vl vz → IntsV w wa wl wz → vl ≤ 2097152 → wl ≤ 2097152 →
    Calls Tryz.prog 19 #[.slice va vl vc, .slice wa wl wc] w fun e w' => ∃ v M, e = .returned v ∧ IsSum (pairsOf vz wz) M ∧ OwnE w' w.heap.size v (rankL 0 M) ∧ Below w.heap.size w w'
/-- What is said of head. -/
def HeadSaid : Prop := ∀ w : World, Calls Tryz.prog 16 #[] w fun e w' => e = .returned (.bool true) ∧ Below w.heap.size w w'

def valK (vz : List Int) (k : Nat) : List Int := (List.range k).map fun i => ((pickK (vz.getD i 0) 50 : Nat) : Int) - 25
def wgtK (wz : List Int) (k : Nat) : List Int := (List.range k).map fun i => 1 + ((pickK (rawK wz i) 9 : Nat) : Int)
theorem valK_len (vz : List Int) (k : Nat) : (valK vz k).length = k := by simp [valK]
theorem wgtK_len (wz : List Int) (k : Nat) : (wgtK wz k).length = k := by simp [wgtK]
theorem valK_succ (vz : List Int) (k : Nat) : valK vz (k + 1) = valK vz k ++ [((pickK (vz.getD k 0) 50 : Nat) : Int) - 25] := by simp [valK, List.range_succ]
theorem wgtK_succ (wz : List Int) (k : Nat) : wgtK wz (k + 1) = wgtK wz k ++ [1 + ((pickK (rawK wz k) 9 : Nat) : Int)] := by simp [wgtK, List.range_succ]
theorem valK_in {vz : List Int} {k : Nat} {z : Int} (h : z ∈ valK vz k) : -25 ≤ z ∧ z ≤ 24 := by
  obtain ⟨i, _, rfl⟩ := List.mem_map.1 h
  have := pickK_lt (vz.getD i 0) (show 0 < 50 by omega)
  omega
theorem wgtK_in {wz : List Int} {k : Nat} {z : Int} (h : z ∈ wgtK wz k) : 1 ≤ z ∧ z ≤ 9 := by
  obtain ⟨i, _, rfl⟩ := List.mem_map.1 h
  have := pickK_lt (rawK wz i) (show 0 < 9 by omega)
  omega
theorem ints_below {w w' : World} {a : Option Addr} {n : Nat} {zs : List Int} (h : IntsV w a n zs) (hb : Below w.heap.size w w') : IntsV w' a n zs := by
  rcases h with ⟨h1, h2, h3 | ⟨b, off, rfl, hlt, hc⟩⟩
  · exact ⟨h1, h2, .inl h3⟩
  · exact ⟨h1, h2, .inr ⟨b, off, rfl, Nat.lt_of_lt_of_le hlt hb.size, fun i hi => (hb.cell (p := ⟨b, off + i, none⟩) hlt).trans (hc i hi)⟩⟩
theorem rawK_wf {w : World} {a : Option Addr} {n : Nat} {zs : List Int} (h : IntsV w a n zs) (i : Nat) : (Lit.int .i64 (rawK zs i)).wf = true := by
  unfold rawK
  split
  · decide
  · rename_i h0
    have hl : i % zs.length < zs.length := Nat.mod_lt _ (by omega)
    rw [List.getD_eq_getElem?_getD, List.getElem?_eq_getElem hl]
    exact h.2.1 _ (List.getElem_mem _)
theorem getD_wf {w : World} {a : Option Addr} {n : Nat} {zs : List Int} (h : IntsV w a n zs) {i : Nat} (hi : i < n) : (Lit.int .i64 (zs.getD i 0)).wf = true := by
  have hl : i < zs.length := by rw [h.1]; exact hi
  rw [List.getD_eq_getElem?_getD, List.getElem?_eq_getElem hl]
  exact h.2.1 _ (List.getElem_mem _)

theorem OwnI.seenK {w : World} {base : Nat} {v : Value} {zs : List Int} (h : OwnI w base v zs) (hr : ∀ z ∈ zs, -1000 ≤ z ∧ z ≤ 1000) : ∃ a c, v = .slice a zs.length c ∧ IntsV w a zs.length zs ∧ zs.length ≤ c ∧ (0 < zs.length → ∃ g, a = some ⟨g, 0, none⟩) := by
  have h' := h
  have wf : ∀ z ∈ zs, (Lit.int .i64 z).wf = true := fun z hz => by
    have := hr z hz
    simp [Lit.wf, IntKind.min, IntKind.max, IntKind.bits, IntKind.signed]; omega
  rcases h.2 with ⟨rfl, h0⟩ | ⟨g, cap, cur, rfl, _, hh, hnc, _⟩
  · exact ⟨none, 0, by rw [h0], ⟨rfl, wf, .inl h0⟩, by omega, fun e => by omega⟩
  · refine ⟨_, cap, rfl, ⟨rfl, wf, .inr ⟨g, 0, rfl, (Array.getElem?_eq_some_iff.1 hh).1, fun i hi => ?_⟩⟩, hnc, fun _ => ⟨g, rfl⟩⟩
    rw [Nat.zero_add, World.ownsRow.cellAt h' i (by omega)]
    simp [List.getD, hi]

/-- A true summary of values that there are. -/
structure SumP (V : List Int) (ps : List (Int × Int)) (S : List Ent) : Prop where
  good : Good S
  true : SumTrue ps S
  from_ : ∀ e ∈ S, e.v ∈ V

theorem SumP.len {V : List Int} {ps : List (Int × Int)} {S : List Ent} (h : SumP V ps S) : S.length ≤ V.length := h.good.len h.from_
theorem SumTrue.swap {a b : List (Int × Int)} {S : List Ent} (h : SumTrue (b ++ a) S) : SumTrue (a ++ b) S := by
  refine ⟨fun e he => ?_, fun q hq => h.least q (by simp at hq ⊢; exact hq.symm), fun q hq => h.most q (by simp at hq ⊢; exact hq.symm), ?_⟩
  · have := h.each e he
    rw [lowW_append, wOf_app] at this ⊢
    omega
  · rw [h.total, sumW_append, sumW_append]; omega
theorem SumP.nil (V : List Int) : SumP V [] [] := ⟨Good.nil, SumTrue.nil, by simp⟩
theorem SumP.join {V : List Int} {a b : List (Int × Int)} {S T : List Ent} (h : SumP V a S) (k : SumP V b T) (pa : Pos a) (pb : Pos b) (hs : sumW a + sumW b ≤ 1000000000000) : SumP V (a ++ b) (joinL S T) := by
  refine ⟨joinL_good h.good k.good (by rw [h.true.total, k.true.total]; exact hs), SumTrue.join pa pb h.good k.good h.true k.true, fun f hf => ?_⟩
  rcases joinL_from h.good k.good f hf with ⟨e, he, hv⟩ | ⟨e, he, hv⟩
  · rw [← hv]; exact h.from_ e he
  · rw [← hv]; exact k.from_ e he
theorem SumP.join' {V : List Int} {a b : List (Int × Int)} {S T : List Ent} (h : SumP V a S) (k : SumP V b T) (pa : Pos a) (pb : Pos b) (hs : sumW a + sumW b ≤ 1000000000000) : SumP V (a ++ b) (joinL T S) := by
  have := k.join h pb pa (by omega)
  exact ⟨this.good, this.true.swap, this.from_⟩
theorem SumP.cut {V : List Int} {a : List (Int × Int)} {S : List Ent} (h : SumP V a S) (size : Int) : SumP V a (cutL S size) :=
  ⟨h.good.sub (cutL_sub h.good size), h.true.cut h.good size, fun e he => h.from_ e ((cutL_sub h.good size).subset he)⟩

theorem pairs_id {vs ws : List Int} (hv : ∀ z ∈ vs, -25 ≤ z ∧ z ≤ 24) (hw : ∀ z ∈ ws, 1 ≤ z ∧ z ≤ 9) : pairsOf vs ws = vs.zip ws := by
  unfold pairsOf
  conv => rhs; rw [← List.map_id (vs.zip ws)]
  apply List.map_congr_left
  rintro ⟨a, b⟩ h
  obtain ⟨h1, h2⟩ := List.of_mem_zip h
  have := hv a h1
  have := hw b h2
  show (clampV a, clampW b) = (a, b)
  unfold clampV clampW
  rw [if_neg (by omega), if_neg (by omega), if_neg (by omega)]
theorem zip_part (vs ws : List Int) (a n : Nat) : ((vs.drop a).take n).zip ((ws.drop a).take n) = ((vs.zip ws).drop a).take n := by
  simp only [List.zip, List.drop_zipWith, List.take_zipWith]
theorem SumP.block {V W : List Int} {a n : Nat} {M : List (Int × Int)} (hv : ∀ z ∈ V, -25 ≤ z ∧ z ≤ 24) (hw : ∀ z ∈ W, 1 ≤ z ∧ z ≤ 9) (hl : V.length ≤ 200) (h : IsSum (pairsOf ((V.drop a).take n) ((W.drop a).take n)) M) : SumP V (((V.zip W).drop a).take n) (rankL 0 M) := by
  have e : pairsOf ((V.drop a).take n) ((W.drop a).take n) = ((V.zip W).drop a).take n := by
    rw [pairs_id (fun z hz => hv z (List.mem_of_mem_drop (List.mem_of_mem_take hz))) (fun z hz => hw z (List.mem_of_mem_drop (List.mem_of_mem_take hz))), zip_part]
  have g := h.good (by simp; omega)
  rw [e] at h
  refine ⟨g, SumTrue.of_sum h, fun x hx => ?_⟩
  obtain ⟨p, hp, h1, _⟩ := (rank_vals M 0).1 x hx
  obtain ⟨q, hq, h2⟩ := h.sub p hp
  rw [← h1, ← h2]
  exact (List.of_mem_zip (List.mem_of_mem_drop (List.mem_of_mem_take hq))).1

set_option maxRecDepth 100000 in
set_option maxHeartbeats 4000000 in
theorem keepTrue_any (hS : SummarySaid) (hH : HeadSaid) (va wa ha : Option Addr) (vn vc wn wc hn hc : Nat) (vz wz hz : List Int) (size : Int) (w : World) (hv : IntsV w va vn vz) (hw : IntsV w wa wn wz) (hh : IntsV w ha hn hz) (hsz : (Lit.int .i64 size).wf = true) (lv : vn ≤ 9223372036854775807) (lw : wn ≤ 9223372036854775807) (lh : hn ≤ 9223372036854775807) :
    Calls Tryz.prog 6 #[.slice va vn vc, .slice wa wn wc, .int .i64 size, .slice ha hn hc] w fun e w' => e = .returned (.bool true) ∧ Below w.heap.size w w' := by
  obtain ⟨j0, jinf, jz0, jz1, jz2⟩ := info_parts info3
  have HV : Hid (IntsV w va vn vz) := hv
  have HW : Hid (IntsV w wa wn wz) := hw
  have HH : Hid (IntsV w ha hn hz) := hh
  have HS : Hid SummarySaid := hS
  have HHD : Hid HeadSaid := hH
  clear hv hw hh hS hH
  obtain ⟨N, hN⟩ : ∃ N, N = min vn 200 := ⟨_, rfl⟩
  have HN : Hid (N = min vn 200) := hN
  clear hN
  go_enter Tryz.func6, Tryz.ntmps6
  go_wp2_with fail
  refine (HHD.out w).mono ?_
  rintro e w1 ⟨rfl, hb1⟩
  have HB1 : Hid (Below w.heap.size w w1) := hb1
  clear hb1
  go_wp2_with fail
  go_loopw [10, 11, 12] (fun tv tw ti wr => ∃ k : Nat, k ≤ N ∧ ti = .int .i64 k ∧ Hid (OwnI wr w.heap.size tv (valK vz k) ∧ OwnI wr w.heap.size tw (wgtK wz k) ∧ Apart tv tw) ∧ Hid (Below w.heap.size w wr)) (fun _ _ ti _ => N - (intOf ti).toNat)
  case atStart => exact ⟨0, Nat.zero_le _, rfl, ⟨OwnI.nil _ _, OwnI.nil _ _, .inl rfl⟩, HB1.out⟩
  case round =>
    clear HB1
    obtain ⟨k, hk, rfl, HR, HB⟩ := hrel
    by_cases hkk : k < N
    · have hkv : k < vn := by have := HN.out; omega
      have hk2 : k < 200 := by have := HN.out; omega
      obtain ⟨b1, o1, rfl, hb1, hv3⟩ : ∃ b off, va = some ⟨b, off, none⟩ ∧ b < w.heap.size ∧ ∀ i, i < vn → w.cell? ⟨b, off + i, none⟩ = some (.int .i64 (vz.getD i 0)) := by
        rcases HV.out.2.2 with e | e
        · omega
        · exact e
      have d1 : wr.cell? ⟨b1, o1 + k, none⟩ = some (.int .i64 (vz.getD k 0)) := (HB.out.cell (p := ⟨b1, o1 + k, none⟩) hb1).trans (hv3 k hkv)
      have HWF : Hid ((Lit.int .i64 (vz.getD k 0)).wf = true) := getD_wf HV.out hkv
      have HWF2 : Hid ((Lit.int .i64 (rawK wz k)).wf = true) := rawK_wf HW.out k
      have bk1 : (0 : Int) ≤ (k : Int) := by omega
      have bk2 : (k : Int) < (vn : Int) := by omega
      have bk3 : (k : Int) < 200 := by omega
      obtain ⟨cx, hcx⟩ : ∃ cx : Int, cx = ((pickK (vz.getD k 0) 50 : Nat) : Int) - 25 := ⟨_, rfl⟩
      obtain ⟨cy, hcy⟩ : ∃ cy : Int, cy = 1 + ((pickK (rawK wz k) 9 : Nat) : Int) := ⟨_, rfl⟩
      have p1 := pickK_lt (vz.getD k 0) (show 0 < 50 by omega)
      have p2 := pickK_lt (rawK wz k) (show 0 < 9 by omega)
      have q1 : IntKind.i64.wrap (((pickK (vz.getD k 0) 50 : Nat) : Int) - 25) = cx := by rw [wrapI2 (by omega) (by omega), hcx]
      have q2 : IntKind.i64.wrap (1 + ((pickK (rawK wz k) 9 : Nat) : Int)) = cy := by rw [wrapI2 (by omega) (by omega), hcy]
      have HVS : Hid (valK vz (k + 1) = valK vz k ++ [cx]) := by show _ = _; rw [hcx]; exact valK_succ vz k
      have HWS : Hid (wgtK wz (k + 1) = wgtK wz k ++ [cy]) := by show _ = _; rw [hcy]; exact wgtK_succ wz k
      have HRW : Hid (∀ W, Below w.heap.size w W → Calls Tryz.prog 18 #[.slice wa wn wc, .int .i64 (k : Nat)] W fun e w' => e = .returned (.int .i64 (rawK wz k)) ∧ w' = W) := fun W hW => keepRaw_any wa wn wc k wz W (ints_below HW.out hW) (by omega) lw
      clear hcx hcy hv3 p1 p2
      obtain ⟨ho1, ho2, hap⟩ := HR.out
      have HO1 : Hid (OwnI wr w.heap.size u10 (valK vz k)) := ho1
      have HO2 : Hid (OwnI wr w.heap.size u11 (wgtK wz k)) := ho2
      have HAP : Hid (Apart u10 u11) := hap
      have lQ : (valK vz k).length = k := valK_len vz k
      have lR : (wgtK wz k).length = k := wgtK_len wz k
      have hsw := HB.out.size
      clear HR ho1 ho2 hap
      generalize valK vz k = Q at *
      generalize wgtK wz k = R at *
      generalize vz.getD k 0 = x at *
      generalize rawK wz k = y at *
      go_wp2_with fail
      refine (keepPick_any x 50 _ HWF.out (by omega) (by omega)).mono ?_
      rintro e w2 ⟨rfl, hw2⟩
      obtain rfl := hw2.symm
      generalize pickK x 50 = px at *
      go_wp2_with (at_builtin; go_loud (refine wpList_append_keep rfl (.tmp 33) (.tmp 40) 25 rfl w.heap.size 3 j0 (.int .i64 0) 1 8 Tryz.underlying25 jinf jz0 jz1 jz2 rfl (by decide) u10 Q.length (Q.map (Value.int .i64)) rfl (HO1.out.below ((Below.refl _ _).alloc (Nat.le_refl _) _)) ⟨wr.heap.size, 0, none⟩ 1 1 [.int .i64 cx] rfl rfl (one_int wr rfl cx) (by simp [Value.oneCell']) (by decide) (by unfold maxLen; (try simp); omega) (by (try simp); omega) (by (try simp); omega) ?_))
      intro v1 w3 hX
      obtain ⟨hn1, hg1, hm1, _, gg1, cc1, hf1⟩ := hX.out
      have hO2 : OwnI (wr.alloc (.cells #[.int .i64 cx] 3)) w.heap.size u11 R := HO2.out.below ((Below.refl _ _).alloc (Nat.le_refl _) _)
      have HV1 : Hid (OwnI w3 w.heap.size v1 (Q ++ [cx])) := OwnI.more (by rw [lQ]; exact hn1)
      have HU1 : Hid (OwnI w3 w.heap.size u11 R) := hO2.kept hg1 HAP.out.keeps
      have HA1 : Hid (Apart v1 u11) := HAP.out.moved hO2 (by simpa using hm1)
      have hbl : ∀ q, u10.ownBlock = some q → w.heap.size ≤ q := fun q hq => (World.ownsRow.lt HO1.out q hq).1
      have HB3 : Hid (Below w.heap.size w w3) := (HB.out.alloc hsw _).grown hg1 (by simp; omega) hbl
      have hsz1 := HB3.out.size
      clear hX hn1 hg1 hm1 hO2 hbl hf1 d1
      go_wp2_with fail
      refine (HRW.out _ HB3.out).mono ?_
      rintro e w4 ⟨rfl, hw4⟩
      obtain rfl := hw4.symm
      go_wp2_with fail
      refine (keepPick_any y 9 _ HWF2.out (by omega) (by omega)).mono ?_
      rintro e w5 ⟨rfl, hw5⟩
      obtain rfl := hw5.symm
      generalize pickK y 9 = py at *
      go_wp2_with (at_builtin; refine wpList_append_keep rfl (.tmp 42) (.tmp 48) 25 rfl w.heap.size 3 j0 (.int .i64 0) 1 8 Tryz.underlying25 jinf jz0 jz1 jz2 rfl (by decide) u11 R.length (R.map (Value.int .i64)) rfl (HU1.out.below ((Below.refl _ _).alloc (Nat.le_refl _) _)) ⟨w3.heap.size, 0, none⟩ 1 1 [.int .i64 cy] rfl rfl (one_int w3 rfl cy) (by simp [Value.oneCell']) (by decide) (by unfold maxLen; (try simp); omega) (by (try simp); omega) (by (try simp); omega) ?_)
      intro v2 w6 hX
      obtain ⟨hn2, hg2, hm2, _, gg2, cc2, hf2⟩ := hX.out
      have hV2 : OwnI (w3.alloc (.cells #[.int .i64 cy] 3)) w.heap.size v1 (Q ++ [cx]) := HV1.out.below ((Below.refl _ _).alloc (Nat.le_refl _) _)
      have HU2 : Hid (OwnI w6 w.heap.size v2 (R ++ [cy])) := OwnI.more (by rw [lR]; exact hn2)
      have HV2 : Hid (OwnI w6 w.heap.size v1 (Q ++ [cx])) := hV2.kept hg2 HA1.out.symm.keeps
      have HA2 : Hid (Apart v1 v2) := (HA1.out.symm.moved hV2 (by simpa using hm2)).symm
      have hbl2 : ∀ q, u11.ownBlock = some q → w.heap.size ≤ q := fun q hq => (World.ownsRow.lt HU1.out q hq).1
      have HB6 : Hid (Below w.heap.size w w6) := (HB3.out.alloc hsz1 _).grown hg2 (by simp; omega) hbl2
      clear hX hn2 hg2 hm2 hV2 hbl2 hf2
      go_wp2
      go_roundw
      case rel => exact ⟨k + 1, by omega, by go_num, ⟨by rw [HVS.out]; exact HV2.out, by rw [HWS.out]; exact HU2.out, HA2.out⟩, HB6.out⟩
      case measure => simp [intOf]; omega
    · have hkN : k = N := by omega
      subst hkN
      have HKN : Hid (k = min vn 200) := HN
      go_upto_region 7 with fail
      go_cut [30] (fun v wx => v = .bool false ∧ wx = wr)
      case first =>
        by_cases hvn : vn ≤ 200
        · have q : ¬ (k : Int) < (vn : Int) := by have := HKN.out; omega
          go_wp2
          go_meet
          exact ⟨rfl, rfl⟩
        · have q : (k : Int) < (vn : Int) := by have := HKN.out; omega
          have q2 : ¬ (k : Int) < 200 := by have := HKN.out; omega
          go_wp2
          go_meet
          exact ⟨rfl, rfl⟩
      case rest =>
        obtain ⟨rfl, hwx⟩ := hcut
        obtain rfl := hwx.symm
        clear hwx
        obtain ⟨ho1, ho2, _⟩ := HR.out
        obtain ⟨V, hV⟩ : ∃ V, V = valK vz k := ⟨_, rfl⟩
        obtain ⟨Wt, hWt⟩ : ∃ Wt, Wt = wgtK wz k := ⟨_, rfl⟩
        rw [← hV] at ho1
        rw [← hWt] at ho2
        have HVI : Hid (∀ z ∈ V, -25 ≤ z ∧ z ≤ 24) := fun z hz => by rw [hV] at hz; exact valK_in hz
        have HWI : Hid (∀ z ∈ Wt, 1 ≤ z ∧ z ≤ 9) := fun z hz => by rw [hWt] at hz; exact wgtK_in hz
        obtain ⟨a1, c1, rfl, hI1, hc1, hg1⟩ := ho1.seenK (fun z hz => by have := HVI.out z hz; omega)
        obtain ⟨a2, c2, rfl, hI2, hc2, hg2⟩ := ho2.seenK (fun z hz => by have := HWI.out z hz; omega)
        have lV : V.length = k := by rw [hV]; exact valK_len vz k
        have lW : Wt.length = k := by rw [hWt]; exact wgtK_len wz k
        have hk200 : k ≤ 200 := by have := HKN.out; omega
        rw [lV] at hI1 hc1 hg1 ⊢
        rw [lW] at hI2 hc2 hg2 ⊢
        have HLN : Hid (V.length = k ∧ Wt.length = k) := ⟨lV, lW⟩
        clear lV lW hV hWt ho1 ho2 HR
        generalize wr = wl at *
        have HI1 : Hid (IntsV wl a1 k V) := hI1
        have HI2 : Hid (IntsV wl a2 k Wt) := hI2
        have HG1 : Hid (0 < k → ∃ g, a1 = some ⟨g, 0, none⟩) := hg1
        have HG2 : Hid (0 < k → ∃ g, a2 = some ⟨g, 0, none⟩) := hg2
        clear hI1 hI2 hg1 hg2
        go_wp2_with fail
        refine (keepPick_any size 20 _ hsz (by omega) (by omega)).mono ?_
        rintro e w2 ⟨rfl, hw2⟩
        obtain rfl := hw2.symm
        obtain ⟨sz, hszz⟩ : ∃ sz : Int, sz = 2 + ((pickK size 20 : Nat) : Int) := ⟨_, rfl⟩
        have psz := pickK_lt size (show 0 < 20 by omega)
        have qsz : IntKind.i64.wrap (2 + ((pickK size 20 : Nat) : Int)) = sz := by rw [wrapI2 (by omega) (by omega), hszz]
        have hs2 : 2 ≤ sz := by omega
        clear psz hszz
        generalize pickK size 20 = px at *
        have HPP : Hid (Pos (V.zip Wt)) := fun q hq => (HWI.out _ (List.of_mem_zip hq).2).1
        have HPL : Hid ((V.zip Wt).length = k) := by show _ = _; rw [List.length_zip, HLN.out.1, HLN.out.2]; omega
        have HSU : Hid (sumW (V.zip Wt) ≤ 1000 * (V.zip Wt).length) := sumW_le fun q hq => by have := HWI.out _ (List.of_mem_zip hq).2; omega
        go_wp2_with fail
        go_loopw [13, 14, 15] (fun ts tt ta wr => ∃ (a : Nat) (S : List Ent), a ≤ k ∧ ta = .int .i64 a ∧ tt = .int .i64 (sumW ((V.zip Wt).take a)) ∧ Hid (OwnE wr wl.heap.size ts S ∧ SumP V ((V.zip Wt).take a) S) ∧ Hid (Below wl.heap.size wl wr)) (fun _ _ ta _ => k - (intOf ta).toNat)
        case atStart => exact ⟨0, [], Nat.zero_le _, rfl, rfl, ⟨OwnE.nil _ _, SumP.nil V⟩, Below.refl _ _⟩
        case round =>
          obtain ⟨a, S, hale, rfl, rfl, HR, HBB⟩ := hrel
          by_cases hak : a < k
          · obtain ⟨hoS, hPS⟩ := HR.out
            have lS := hPS.len
            rw [HLN.out.1] at lS
            obtain ⟨sa, cs, rfl, hES, hcs, _⟩ := hoS.seen (by omega)
            have HOS : Hid (OwnE wr wl.heap.size (.slice sa S.length cs) S ∧ SumP V ((V.zip Wt).take a) S) := ⟨hoS, hPS⟩
            obtain ⟨g1, rfl⟩ := HG1.out (by omega)
            obtain ⟨g2, rfl⟩ := HG2.out (by omega)
            clear HR hoS hPS hES
            obtain ⟨n0, hn0⟩ : ∃ n0 : Nat, n0 = 1 + pickK (rawK hz a) 12 := ⟨_, rfl⟩
            obtain ⟨n, hnn⟩ : ∃ n : Nat, n = min n0 (k - a) := ⟨_, rfl⟩
            have p12 := pickK_lt (rawK hz a) (show 0 < 12 by omega)
            have HN0 : Hid (n0 = 1 + pickK (rawK hz a) 12 ∧ n = min n0 (k - a) ∧ 1 ≤ n ∧ a + n ≤ k) := ⟨hn0, hnn, by omega, by omega⟩
            have q1 : IntKind.i64.wrap (1 + ((pickK (rawK hz a) 12 : Nat) : Int)) = (n0 : Int) := by rw [wrapI2 (by omega) (by omega)]; omega
            have HRW : Hid (∀ W (i : Nat), i ≤ 1000 → Below wl.heap.size wl W → Calls Tryz.prog 18 #[.slice ha hn hc, .int .i64 (i : Nat)] W fun e w' => e = .returned (.int .i64 (rawK hz i)) ∧ w' = W) := fun W i hi hW => keepRaw_any ha hn hc i hz W (ints_below HH.out (HB.out.trans (hW.mono HB.out.size))) (by omega) lh
            have HRF : Hid (∀ i, (Lit.int .i64 (rawK hz i)).wf = true) := fun i => rawK_wf HH.out i
            have bak : (a : Int) < (k : Int) := by omega
            clear hn0 hnn p12
            go_wp2_with fail
            refine (HRW.out _ a (by omega) HBB.out).mono ?_
            rintro e w3 ⟨rfl, hw3⟩
            obtain rfl := hw3.symm
            go_wp2_with fail
            refine (keepPick_any _ 12 _ (HRF.out a) (by omega) (by omega)).mono ?_
            rintro e w4 ⟨rfl, hw4⟩
            obtain rfl := hw4.symm
            generalize pickK (rawK hz a) 12 = px at *
            have q2 : IntKind.i64.wrap ((k : Int) - (a : Int)) = (k : Int) - (a : Int) := wrapI2 (by omega) (by omega)
            go_upto_if 67 with fail
            go_cut [16] (fun v wx => v = .int .i64 (n : Nat) ∧ wx = wr)
            case first =>
              by_cases hc : (k : Int) - (a : Int) < (n0 : Int)
              · have E1 : Hid ((n : Int) = (k : Int) - (a : Int)) := by show _ = _; have := HN0.out; omega
                go_wp2
                go_meet
                exact ⟨by rw [E1.out], rfl⟩
              · have E1 : Hid ((n : Int) = (n0 : Int)) := by show _ = _; have := HN0.out; omega
                go_wp2
                go_meet
                exact ⟨by rw [E1.out], rfl⟩
            case rest =>
              obtain ⟨rfl, hwx⟩ := hcut
              obtain rfl := hwx.symm
              clear hwx q1 q2
              have hn1 := HN0.out.2.2.1
              have han := HN0.out.2.2.2
              obtain ⟨te, hte⟩ : ∃ te, te = a + n := ⟨_, rfl⟩
              have hle1 : (a : Int) ≤ (te : Int) := by omega
              have hle2 : (te : Int) ≤ (c1 : Int) := by omega
              have hle3 : (te : Int) ≤ (c2 : Int) := by omega
              have hne1 : ¬ c1 = a := by omega
              have hne2 : ¬ c2 = a := by omega
              have q3 : IntKind.i64.wrap ((a : Int) + (n : Int)) = (te : Int) := by rw [wrapI2 (by omega) (by omega)]; omega
              have q4 : te - a = n := by omega
              have HTE : Hid (te = a + n) := hte
              clear hte
              have h19 : Hid (∀ W : World, Below wl.heap.size wl W → Calls Tryz.prog 19 #[.slice (some ⟨g1, a, none⟩) n (c1 - a), .slice (some ⟨g2, a, none⟩) n (c2 - a)] W fun e w' => ∃ v T, e = .returned v ∧ OwnE w' W.heap.size v T ∧ SumP V (((V.zip Wt).drop a).take n) T ∧ Below W.heap.size W w') := by
                intro W hW
                have p1 := (ints_below HI1.out hW).part (fr := a) (m := n) (by omega)
                have p2 := (ints_below HI2.out hW).part (fr := a) (m := n) (by omega)
                rw [Nat.zero_add] at p1 p2
                refine (HS.out _ _ _ (c1 - a) _ (c2 - a) _ _ W p1 p2 (by omega) (by omega)).mono ?_
                rintro e w' ⟨v, M, rfl, hM, ho, hb⟩
                exact ⟨v, _, rfl, ho, SumP.block HVI.out HWI.out (by rw [HLN.out.1]; exact hk200) hM, hb⟩
              go_wp2_with fail
              go_region_held3 (fun _ => True) (trivial) (first | (go_at_call 19; refine (h19.out _ HBB.out.drew).mono ?_; rintro e w3 ⟨vT, T, rfl, hoT, hPT, hbT⟩))
              have HB3 : Hid (Below wl.heap.size wl w3) := HBB.out.drew.trans (hbT.mono (by have := HBB.out.size; simpa using this))
              have HT3 : Hid (OwnE w3 wl.heap.size vT T ∧ SumP V (((V.zip Wt).drop a).take n) T) := ⟨hoT.mono (by have := HBB.out.size; simpa using this), hPT⟩
              have HS3 : Hid (OwnE w3 wl.heap.size (.slice sa S.length cs) S ∧ SumP V ((V.zip Wt).take a) S) := ⟨HOS.out.1.below ((Below.refl _ _).drew.trans (hbT.mono (by simp))), HOS.out.2⟩
              clear hoT hPT hbT h19 HOS HBB
              go_wp2_with fail
              generalize wr = wy at *
              go_loopw [14, 18] (fun tt ti wr => ∃ j : Nat, a ≤ j ∧ j ≤ te ∧ ti = .int .i64 j ∧ tt = .int .i64 (sumW ((V.zip Wt).take j)) ∧ wr = w3) (fun _ ti _ => te - (intOf ti).toNat)
              case atStart => exact ⟨a, Nat.le_refl _, by have := HTE.out; omega, rfl, rfl, rfl⟩
              case round =>
                obtain ⟨j, hj1, hj2, rfl, rfl, hwj⟩ := hrel
                obtain rfl := hwj.symm
                clear hwj
                by_cases hjt : j < te
                · have bj1 : (0 : Int) ≤ (j : Int) := by omega
                  have bj2 : (j : Int) < (k : Int) := by have := HTE.out; omega
                  have bj3 : (j : Int) < (te : Int) := by omega
                  obtain ⟨_, _, h0 | ⟨gb, go, e, hgl, hgc⟩⟩ := ints_below HI2.out HB3.out
                  · omega
                  injection e with e
                  injection e with e1 e2
                  subst e1 e2
                  have c0 : w3.cell? ⟨g2, j, none⟩ = some (.int .i64 (Wt.getD j 0)) := by have := hgc j (by omega); rwa [Nat.zero_add] at this
                  have hsu := sumW_take HPP.out j
                  have hsu2 := sumW_nonneg (HPP.out.take j)
                  have hsl := HSU.out
                  rw [HPL.out] at hsl
                  have hsn : (V.zip Wt).take (j + 1) = (V.zip Wt).take j ++ [(V.getD j 0, Wt.getD j 0)] := zip_take_succ (by rw [HLN.out.1]; omega) (by rw [HLN.out.2]; omega)
                  have HSN : Hid (sumW ((V.zip Wt).take (j + 1)) = sumW ((V.zip Wt).take j) + Wt.getD j 0) := by show _ = _; rw [hsn, sumW_append]; simp [sumW]
                  have hwj := HWI.out (Wt.getD j 0) (by
                    have hl : j < Wt.length := by rw [HLN.out.2]; omega
                    rw [List.getD_eq_getElem?_getD, List.getElem?_eq_getElem hl]; exact List.getElem_mem _)
                  have q5 : IntKind.i64.wrap (sumW ((V.zip Wt).take j) + Wt.getD j 0) = sumW ((V.zip Wt).take j) + Wt.getD j 0 := wrapI2 (by omega) (by omega)
                  clear hgc hsn hsu hsu2 hsl
                  generalize sumW ((V.zip Wt).take j) = sj at *
                  generalize Wt.getD j 0 = wj at *
                  go_wp2
                  go_roundw
                  case rel => exact ⟨j + 1, by omega, by omega, by go_num, by rw [HSN.out], by simp⟩
                  case measure => simp [intOf]; omega
                · have hjte : j = te := by omega
                  subst hjte
                  have bj3 : ¬ (j : Int) < (j : Int) := by omega
                  have lT := HT3.out.2.len
                  rw [HLN.out.1] at lT
                  obtain ⟨ta, tc, rfl, _, _, _⟩ := HT3.out.1.seen (by omega)
                  have HTK : Hid ((V.zip Wt).take j = (V.zip Wt).take a ++ ((V.zip Wt).drop a).take n) := by show _ = _; rw [HTE.out, List.take_add]
                  have HSB : Hid (sumW ((V.zip Wt).take a) + sumW (((V.zip Wt).drop a).take n) ≤ 1000000000000) := by
                    have h1 := sumW_take HPP.out j
                    rw [HTK.out, sumW_append] at h1
                    have h2 := HSU.out
                    rw [HPL.out] at h2
                    show _ ≤ _
                    omega
                  have HPA : Hid (Pos ((V.zip Wt).take a) ∧ Pos (((V.zip Wt).drop a).take n)) := ⟨HPP.out.take a, fun q hq => HPP.out q (List.mem_of_mem_drop (List.mem_of_mem_take hq))⟩
                  obtain ⟨p2, hp2⟩ : ∃ p2, p2 = pickK (rawK hz a) 2 := ⟨_, rfl⟩
                  have hp2l : p2 < 2 := by rw [hp2]; exact pickK_lt _ (by omega)
                  obtain ⟨p3, hp3⟩ : ∃ p3, p3 = pickK (rawK hz (a + 1)) 3 := ⟨_, rfl⟩
                  have HP2 : Hid (p2 = pickK (rawK hz a) 2 ∧ p3 = pickK (rawK hz (a + 1)) 3) := ⟨hp2, hp3⟩
                  clear hp2 hp3
                  go_wp2_with fail
                  refine (HRW.out _ a (by omega) HB3.out).mono ?_
                  rintro e w5 ⟨rfl, hw5⟩
                  obtain rfl := hw5.symm
                  go_wp2_with fail
                  refine (keepPick_any _ 2 _ (HRF.out a) (by omega) (by omega)).mono ?_
                  rintro e w6 ⟨rfl, hw6⟩
                  obtain rfl := hw6.symm
                  rw [← HP2.out.1]
                  go_upto_if 103 with fail
                  go_cut [13] (fun v wx => ∃ U, Hid (OwnE wx wl.heap.size v U ∧ SumP V ((V.zip Wt).take j) U) ∧ Hid (Below wl.heap.size wl wx))
                  case first =>
                    obtain ⟨eT, hET, _⟩ : ∃ (_ : True), EntsV w3 ta T ∧ True := ⟨trivial, by
                      obtain ⟨a', c', e, h, _⟩ := HT3.out.1.seen (by omega)
                      injection e with e1 _ _
                      subst e1
                      exact ⟨h, trivial⟩⟩
                    obtain ⟨eS, hES, _⟩ : ∃ (_ : True), EntsV w3 sa S ∧ True := ⟨trivial, by
                      obtain ⟨a', c', e, h, _⟩ := HS3.out.1.seen (by omega)
                      injection e with e1 _ _
                      subst e1
                      exact ⟨h, trivial⟩⟩
                    have HJ1 : Hid (Calls Tryz.prog 20 #[.slice sa S.length cs, .slice ta T.length tc] w3 fun e w' => ∃ v, e = .returned v ∧ OwnE w' w3.heap.size v (joinL S T) ∧ Below w3.heap.size w3 w') := granJoin_any sa ta S T cs tc w3 hES hET HS3.out.2.good HT3.out.2.good
                    have HJ2 : Hid (Calls Tryz.prog 20 #[.slice ta T.length tc, .slice sa S.length cs] w3 fun e w' => ∃ v, e = .returned v ∧ OwnE w' w3.heap.size v (joinL T S) ∧ Below w3.heap.size w3 w') := granJoin_any ta sa T S tc cs w3 hET hES HT3.out.2.good HS3.out.2.good
                    clear hET hES
                    by_cases h0 : p2 = 0
                    · have q6 : ((p2 : Int) == 0) = true := by rw [h0]; rfl
                      have H0 : Hid (p2 = 0) := h0
                      clear h0
                      go_wp2_with fail
                      refine HJ1.out.mono ?_
                      rintro e w7 ⟨v7, rfl, ho7, hb7⟩
                      have HF : Hid (OwnE w7 wl.heap.size v7 (joinL S T) ∧ SumP V ((V.zip Wt).take j) (joinL S T)) := ⟨ho7.mono HB3.out.size, by rw [HTK.out]; exact HS3.out.2.join HT3.out.2 HPA.out.1 HPA.out.2 HSB.out⟩
                      have HB7 : Hid (Below wl.heap.size wl w7) := HB3.out.trans (hb7.mono HB3.out.size)
                      clear ho7 hb7
                      go_wp2
                      go_meet
                      exact ⟨_, HF.out, HB7.out⟩
                    · have q6 : ((p2 : Int) == 0) = false := by rw [beq_eq_false_iff_ne]; omega
                      go_wp2_with fail
                      refine HJ2.out.mono ?_
                      rintro e w7 ⟨v7, rfl, ho7, hb7⟩
                      have HF : Hid (OwnE w7 wl.heap.size v7 (joinL T S) ∧ SumP V ((V.zip Wt).take j) (joinL T S)) := ⟨ho7.mono HB3.out.size, by rw [HTK.out]; exact HS3.out.2.join' HT3.out.2 HPA.out.1 HPA.out.2 HSB.out⟩
                      have HB7 : Hid (Below wl.heap.size wl w7) := HB3.out.trans (hb7.mono HB3.out.size)
                      clear ho7 hb7
                      go_wp2
                      go_meet
                      exact ⟨_, HF.out, HB7.out⟩
                  case rest =>
                    obtain ⟨U, HU, HB7⟩ := hcut
                    clear HT3 HS3 HB3 HTK HSB HPA
                    have q7 : IntKind.i64.wrap ((a : Int) + 1) = ((a + 1 : Nat) : Int) := by rw [wrapI2 (by omega) (by omega)]; omega
                    go_wp2_with fail
                    refine (HRW.out _ (a + 1) (by omega) HB7.out).mono ?_
                    rintro e w5 ⟨rfl, hw5⟩
                    obtain rfl := hw5.symm
                    go_wp2_with fail
                    refine (keepPick_any _ 3 _ (HRF.out (a + 1)) (by omega) (by omega)).mono ?_
                    rintro e w6 ⟨rfl, hw6⟩
                    obtain rfl := hw6.symm
                    rw [← HP2.out.2]
                    clear q7
                    have lU := HU.out.2.len
                    rw [HLN.out.1] at lU
                    obtain ⟨ua, uc, rfl, hEU, hnU, _⟩ := HU.out.1.seen (by omega)
                    have HCU := granCut_any ua U uc sz _ hEU HU.out.2.good hnU
                    clear hEU hnU
                    go_upto_if 115 with fail
                    go_cut [13] (fun v wx => ∃ U', Hid (OwnE wx wl.heap.size v U' ∧ SumP V ((V.zip Wt).take j) U') ∧ Hid (Below wl.heap.size wl wx))
                    case first =>
                      by_cases h0 : p3 = 0
                      · have q6 : ¬ (0 : Int) < (p3 : Int) := by omega
                        have H0 : Hid (p3 = 0) := h0
                        clear h0
                        go_wp2
                        go_meet
                        exact ⟨_, HU.out, HB7.out⟩
                      · have q6 : (0 : Int) < (p3 : Int) := by omega
                        go_wp2_with fail
                        refine HCU.mono ?_
                        rintro e w7 ⟨v7, rfl, ho7, hb7⟩
                        have hP7 := HU.out.2.cut sz
                        have l7 := hP7.len
                        rw [HLN.out.1] at l7
                        obtain ⟨xa, xc, rfl, _, _, _⟩ := ho7.seen (by omega)
                        have HF : Hid (OwnE w7 wl.heap.size (.slice xa (cutL U sz).length xc) (cutL U sz) ∧ SumP V ((V.zip Wt).take j) (cutL U sz)) := ⟨ho7.mono HB7.out.size, hP7⟩
                        have HB8 : Hid (Below wl.heap.size wl w7) := HB7.out.trans (hb7.mono HB7.out.size)
                        have q8 : ¬ sz < ((cutL U sz).length : Int) := by have := cutL_len U hs2; omega
                        clear ho7 hb7 hP7
                        generalize cutL U sz = X at *
                        go_wp2
                        go_meet
                        exact ⟨_, HF.out, HB8.out⟩
                    case rest =>
                      obtain ⟨X, HX, HB9⟩ := hcut
                      clear HU HB7 HCU
                      have lX := HX.out.2.len
                      rw [HLN.out.1] at lX
                      obtain ⟨xa, xc, rfl, _, _, _⟩ := HX.out.1.seen (by omega)
                      have hjk : j ≤ k := by have := HTE.out; omega
                      have hj1 : 1 ≤ j := by have := HTE.out; omega
                      have b0 : (0 : Int) ≤ (j : Int) := by omega
                      have hc10 : ¬ c1 = 0 := by omega
                      have hc20 : ¬ c2 = 0 := by omega
                      have h22 : Hid (∀ W : World, Below wc.heap.size wc W → Calls Tryz.prog 22 #[.slice xa X.length xc, .slice (some ⟨g1, 0, none⟩) j c1, .slice (some ⟨g2, 0, none⟩) j c2, .int .i64 (sumW ((V.zip Wt).take j))] W fun e w' => e = .returned (.bool true) ∧ Below W.heap.size W w') := by
                        intro W hW
                        have hWl : Below wl.heap.size wl W := HB9.out.trans (hW.mono HB9.out.size)
                        have p1 := (ints_below HI1.out hWl).part (fr := 0) (m := j) (by omega)
                        have p2 := (ints_below HI2.out hWl).part (fr := 0) (m := j) (by omega)
                        have ez : ((V.drop 0).take j).zip ((Wt.drop 0).take j) = (V.zip Wt).take j := by rw [zip_part]; rfl
                        have hXW := HX.out.1.below hW
                        obtain ⟨a', c', e, hE, _⟩ := hXW.seen (by omega)
                        injection e with e1 _ _
                        subst e1
                        have hsm := sumW_take HPP.out j
                        have hsl := HSU.out
                        rw [HPL.out] at hsl
                        refine keepBounded_any xa _ _ X xc j c1 c2 _ _ _ W hE p1 p2 HX.out.2.good ?_ ?_ ?_ ?_ (by omega) (by omega)
                        · rw [ez]; exact HPP.out.take j
                        · rw [ez]; exact HX.out.2.true
                        · intro e
                          have hm : ((V.zip Wt).take j) ≠ [] := fun e2 => by
                            have h3 : ((V.zip Wt).take j).length = 0 := by rw [e2]; rfl
                            rw [List.length_take, HPL.out] at h3
                            omega
                          obtain ⟨q, hq⟩ := List.exists_mem_of_ne_nil _ hm
                          obtain ⟨x, hx, _⟩ := HX.out.2.true.least q hq
                          rw [e] at hx
                          simp at hx
                        · rw [ez]
                      go_wp2_with fail
                      go_region_held3 (fun _ => True) (trivial) (first | (go_at_call 22; refine (h22.out _ (Below.refl _ _).drew).mono ?_; rintro e wz2 ⟨rfl, hbz⟩))
                      have HZ : Hid (OwnE wz2 wl.heap.size (.slice xa X.length xc) X ∧ SumP V ((V.zip Wt).take j) X) := ⟨HX.out.1.below ((Below.refl _ _).drew.trans (hbz.mono (by simp))), HX.out.2⟩
                      have HBZ : Hid (Below wl.heap.size wl wz2) := HB9.out.drew.trans (hbz.mono (by have := HB9.out.size; simpa using this))
                      clear hbz h22 HX HB9
                      go_wp2
                      go_roundw
                      case rel => exact ⟨j, X, hjk, rfl, rfl, HZ.out, HBZ.out⟩
                      case measure => simp [intOf]; have := HTE.out; omega
          · have hak2 : a = k := by omega
            subst hak2
            have bak : ¬ (a : Int) < (a : Int) := by omega
            go_wp2
            go_ret
            exact ⟨rfl, HB.out.trans (HBB.out.mono HB.out.size)⟩
end Go.Proofs.YtfcgnpchbcmdeaaGreat
