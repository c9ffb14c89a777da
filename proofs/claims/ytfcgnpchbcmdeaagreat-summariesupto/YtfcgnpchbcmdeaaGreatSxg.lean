/-
  The contracts of the steps that join two summaries, and that cut one.
-/
import Derived.Test.YtfcgnpchbcmdeaaGreatSxf
import Derived.Test.YtfcgnpchbcmdeaaGreatSwj
namespace Go.Proofs.YtfcgnpchbcmdeaaGreat
open Go.RowKit

theorem LentE.touch {S : Nat → Prop} {w w' : World} {base : Nat} {o : Value} {a : Option Addr} {c : Nat} {L : List Ent} (h : LentE w base o a c L) (t : Touch S w w') (hs : ∀ k, o.ownBlock = some k → ¬ S k) : LentE w' base o a c L := by
  rcases h with h | ⟨p, g, h1, h2, h3, h4⟩
  · exact .inl h
  · exact .inr ⟨p, g, h1, h2, h3, t.row h4 (fun k hk => hs k (by rw [h2]; exact hk))⟩
theorem ents_lt {w : World} {a : Option Addr} {L : List Ent} (h : EntsV w a L) : ∀ b off, a = some ⟨b, off, none⟩ → 0 < L.length → b < w.heap.size := fun b off e h0 => by
  rcases h.2 with h | ⟨b', off', e', hA⟩
  · omega
  · rw [e] at e'; simp at e'; have := hA.lt h0; omega
theorem ents_below {w w' : World} {a : Option Addr} {L : List Ent} (h : EntsV w a L) {B : Nat} (hb : Below B w w') (hB : ∀ b off, a = some ⟨b, off, none⟩ → 0 < L.length → b < B) : EntsV w' a L := by
  refine ⟨h.1, ?_⟩
  rcases h.2 with h | ⟨b, off, rfl, hA⟩
  · exact .inl h
  · exact .inr ⟨b, off, rfl, hA.block hb.size (fun h0 => hb.block b (hB b off rfl h0))⟩
theorem ents_nil {w : World} {a : Option Addr} {L : List Ent} {c : Nat} (h : EntsV w a L) (hz : a = none → c = 0) : a = none → L = [] ∧ c = 0 := fun e => by
  rcases h.2 with h | ⟨b', off', e', hA⟩
  · exact ⟨List.eq_nil_of_length_eq_zero h, hz e⟩
  · rw [e] at e'; cases e'
theorem GoodU.mem {U : List Int} {Ls : List (List Ent)} (h : ∀ L ∈ Ls, GoodU U L) {L : List Ent} (hm : L = [] ∨ L ∈ Ls) : GoodU U L := by
  rcases hm with rfl | hm
  · exact .nil U
  · exact h L hm

set_option maxRecDepth 100000 in
set_option maxHeartbeats 4000000 in
theorem summary_k3 (g : Nat) (c : Array Value) (Ls : List (List Ent)) (nx : Int) (U : List Int) (pk bb : Int) (fa : Option Addr) (fl fc : Nat) (bins size budget : Int) (va : Option Addr) (vl vc : Nat) (wa : Option Addr) (wl wc : Nat) (st : ByteArray) (x y : Int) (w : World)
    (hS : StateE w g c Ls nx) (hG : ∀ L ∈ Ls, GoodU U L) (hn : nx ≤ 9000000) (hU : U.length ≤ 2097152) :
    Calls Tryz.prog 70 #[.pointer (some ⟨g, 0, none⟩), .agg #[.int .i64 3, .int .i64 pk, .int .i64 bb, .slice fa fl fc, .int .i64 bins, .int .i64 size, .int .i64 budget, .slice va vl vc, .slice wa wl wc, .string st, .int .i64 x, .int .i64 y]] w
      fun e w' => PostS U g c nx w e w' := by
  have HS : Hid (StateE w g c Ls nx ∧ ∀ L ∈ Ls, GoodU U L) := ⟨hS, hG⟩
  have HLL : Hid (∀ L ∈ Ls, L.length ≤ 4194304) := fun L hL => by have := (hG L hL).len; omega
  have hgl := hS.lt
  clear hS hG
  have HB0 : Hid (Below w.heap.size w (w.alloc (.cells #[.int .i64 3, .int .i64 pk, .int .i64 bb, .slice fa fl fc, .int .i64 bins, .int .i64 size, .int .i64 budget, .slice va vl vc, .slice wa wl wc, .string st, .int .i64 x, .int .i64 y] 93))) := (Below.refl _ _).alloc (Nat.le_refl _) _
  have e2 : (w.alloc (.cells #[.int .i64 3, .int .i64 pk, .int .i64 bb, .slice fa fl fc, .int .i64 bins, .int .i64 size, .int .i64 budget, .slice va vl vc, .slice wa wl wc, .string st, .int .i64 x, .int .i64 y] 93)).cell? ⟨w.heap.size, 2, none⟩ = some (.int .i64 bb) := by simp
  have hs0 : (w.alloc (.cells #[.int .i64 3, .int .i64 pk, .int .i64 bb, .slice fa fl fc, .int .i64 bins, .int .i64 size, .int .i64 budget, .slice va vl vc, .slice wa wl wc, .string st, .int .i64 x, .int .i64 y] 93)).heap.size = w.heap.size + 1 := by simp
  go_enter Tryz.func70, Tryz.ntmps70
  go_wp2_with fail
  generalize w.alloc (.cells #[.int .i64 3, .int .i64 pk, .int .i64 bb, .slice fa fl fc, .int .i64 bins, .int .i64 size, .int .i64 budget, .slice va vl vc, .slice wa wl wc, .string st, .int .i64 x, .int .i64 y] 93) = wb at *
  have HST0 : Hid (StateE wb g c Ls nx) := HS.out.1.below HB0.out
  refine (sum_any g c Ls nx pk wb HST0.out (by omega) HLL.out).mono ?_
  rintro e w1 ⟨p, P, rfl, hoP, hmP, hb1⟩
  have HGP : Hid (GoodU U P) := GoodU.mem HS.out.2 hmP
  have hlP := HGP.out.len
  obtain ⟨a1, c1, rfl, hE1, hz1⟩ := hoP.view (by omega)
  have HE1 : Hid (EntsV w1 a1 P) := hE1.below hb1
  have HZ1 : Hid (a1 = none → c1 = 0) := hz1
  have HST1 : Hid (StateE w1 g c Ls nx) := HST0.out.below hb1
  have HB1 : Hid (Below w.heap.size w w1) := HB0.out.trans (hb1.mono (by omega))
  have hs1 : w.heap.size + 1 ≤ w1.heap.size := by have := hb1.size; omega
  have f2 : w1.cell? ⟨w.heap.size, 2, none⟩ = some (.int .i64 bb) := (hb1.cell (p := ⟨w.heap.size, 2, none⟩) (by simp; omega)).trans e2
  clear hoP hmP hb1 hE1 hz1 e2
  go_wp2_with fail
  refine (sum_any g c Ls nx bb w1 HST1.out (by omega) HLL.out).mono ?_
  rintro e w2 ⟨q, Q, rfl, hoQ, hmQ, hb2⟩
  have HGQ : Hid (GoodU U Q) := GoodU.mem HS.out.2 hmQ
  have hlQ := HGQ.out.len
  obtain ⟨a2, c2, rfl, hE2, hz2⟩ := hoQ.view (by omega)
  have HEP : Hid (EntsV w2 a1 P) := HE1.out.below hb2
  have HEQ : Hid (EntsV w2 a2 Q) := hE2.below hb2
  have HZ2 : Hid (a2 = none → c2 = 0) := hz2
  have HB2 : Hid (Below w.heap.size w w2) := HB1.out.trans (hb2.mono (by omega))
  have hs2 : w1.heap.size ≤ w2.heap.size := hb2.size
  have HST2 : Hid (StateE w2 g c Ls nx) := HST1.out.below hb2
  have HT1 : Hid (∀ W, EntsV W a1 P → Calls Tryz.prog 117 #[.slice a1 P.length c1] W fun e w' => e = .returned (.int .i64 (totalL P)) ∧ w' = W) := fun W h => total28 a1 P c1 W h
  have HT2 : Hid (∀ W, EntsV W a2 Q → Calls Tryz.prog 117 #[.slice a2 Q.length c2] W fun e w' => e = .returned (.int .i64 (totalL Q)) ∧ w' = W) := fun W h => total28 a2 Q c2 W h
  obtain ⟨tp1, tp2⟩ := total_pos HGP.out.1
  obtain ⟨tq1, tq2⟩ := total_pos HGQ.out.1
  have HTP : Hid (∀ h : totalL P + totalL Q ≤ 1000000000000, Good (joinL P Q)) := fun h => joinL_good HGP.out.1 HGQ.out.1 h
  clear hoQ hmQ hb2 hE2 hz2 f2 HE1
  generalize totalL P = tp at *
  generalize totalL Q = tq at *
  by_cases htot : 1000000000000 < tp + tq
  · have HF : Hid (∃ c' Ls' nx', StateE w2 g c' Ls' nx' ∧ (∀ L ∈ Ls', GoodU U L) ∧ nx' ≤ nx + 1 ∧ (∀ j, j ≠ 0 → j ≠ 4 → j ≠ 5 → j ≠ 12 → c'[j]? = c[j]?) ∧ Below g w w2 ∧ Frame w w2) :=
      ⟨c, Ls, nx, HST2.out, HS.out.2, by omega, fun _ _ _ _ _ => rfl, HB2.out.mono (by omega), Frame.of_below HB2.out⟩
    go_wp2_with fail
    refine (HT1.out w2 HEP.out).mono ?_
    rintro e w' ⟨rfl, rfl⟩
    go_wp2_with fail
    refine (HT2.out _ HEQ.out).mono ?_
    rintro e w'' ⟨rfl, rfl⟩
    go_wp2
    go_ret
    exact ⟨rfl, HF.out⟩
  · have HGJ : Hid (GoodU U (joinL P Q)) := ⟨HTP.out (by omega), fun f hf => by
      rcases joinL_from HGP.out.1 HGQ.out.1 f hf with ⟨e, he, h⟩ | ⟨e, he, h⟩
      · rw [← h]; exact HGP.out.2 e he
      · rw [← h]; exact HGQ.out.2 e he⟩
    have hlen : (joinL P Q).length ≤ 4194304 := by have := HGJ.out.len; omega
    go_wp2_with fail
    refine (HT1.out w2 HEP.out).mono ?_
    rintro e w' ⟨rfl, rfl⟩
    go_wp2_with fail
    refine (HT2.out _ HEQ.out).mono ?_
    rintro e w'' ⟨rfl, rfl⟩
    generalize w'' = w2 at *
    have HLP : Hid (∀ b off, a1 = some ⟨b, off, none⟩ → 0 < P.length → b < w2.heap.size) := ents_lt HEP.out
    have HLQ : Hid (∀ b off, a2 = some ⟨b, off, none⟩ → 0 < Q.length → b < w2.heap.size) := ents_lt HEQ.out
    go_wp2_with fail
    refine (lentE_any a1 c1 P w2 HEP.out (ents_nil HEP.out HZ1.out) (by omega)).mono ?_
    rintro e w3 ⟨o1, rfl, hl1, hb3⟩
    obtain ⟨b1, d1, rfl, _, _⟩ := hl1.view (by omega)
    have HL1 : Hid (LentE w3 w2.heap.size (.slice b1 P.length d1) a1 c1 P) := hl1
    have HD3 : Hid (Below w2.heap.size w2 w3) := hb3
    have hs3 : w2.heap.size ≤ w3.heap.size := hb3.size
    clear hl1 hb3
    go_wp2_with fail
    refine (lentE_any a2 c2 Q w3 (ents_below HEQ.out HD3.out HLQ.out) (ents_nil HEQ.out HZ2.out) (by omega)).mono ?_
    rintro e w4 ⟨o2, rfl, hl2, hb4⟩
    obtain ⟨b2, d2, rfl, hi2, _⟩ := hl2.view (by omega)
    obtain ⟨_, _, e1, hi1, _⟩ := (HL1.out.below hb4).view (by omega)
    simp only [Value.slice.injEq] at e1
    obtain ⟨rfl, _, rfl⟩ := e1
    have HI1 : Hid (EntsV w4 b1 P) := hi1
    have HI2 : Hid (EntsV w4 b2 Q) := hi2
    have HL14 : Hid (LentE w4 w2.heap.size (.slice b1 P.length d1) a1 c1 P) := HL1.out.below hb4
    have HL2 : Hid (LentE w4 w3.heap.size (.slice b2 Q.length d2) a2 c2 Q) := hl2
    have HD4 : Hid (Below w2.heap.size w2 w4) := HD3.out.trans (hb4.mono (by omega))
    have hs4 : w3.heap.size ≤ w4.heap.size := hb4.size
    have HK1 : Hid (∀ k, (Value.slice b1 P.length d1).ownBlock = some k → w2.heap.size ≤ k ∧ k < w3.heap.size) := fun k hk => HL1.out.own hk
    have HK2 : Hid (∀ k, (Value.slice b2 Q.length d2).ownBlock = some k → w3.heap.size ≤ k ∧ k < w4.heap.size) := fun k hk => HL2.out.own hk
    clear hl2 hb4 hi1 hi2
    go_wp2_with fail
    refine (granJoin_any b1 b2 P Q d1 d2 w4 HI1.out HI2.out HGP.out.1 HGQ.out.1).mono ?_
    rintro e w5 ⟨v, rfl, ho, hb5⟩
    have HO5 : Hid (OwnE w5 w4.heap.size v (joinL P Q)) := ho
    have HL15 : Hid (LentE w5 w2.heap.size (.slice b1 P.length d1) a1 c1 P) := HL14.out.below hb5
    have HL25 : Hid (LentE w5 w3.heap.size (.slice b2 Q.length d2) a2 c2 Q) := HL2.out.below hb5
    have HD5 : Hid (Below w2.heap.size w2 w5) := HD4.out.trans (hb5.mono (by omega))
    have hs5 : w4.heap.size ≤ w5.heap.size := hb5.size
    clear ho hb5
    go_wp2_with fail
    refine (stillE_any a1 c1 w2.heap.size P (.slice b1 P.length d1) w5 HL15.out (ents_below HEP.out HD5.out HLP.out) HLP.out (by omega)).mono ?_
    rintro e w6 ⟨rfl, hg6⟩
    have HD6 : Hid (Below w2.heap.size w2 w6) := HD5.out.grown hg6 (by omega) (fun k hk => (HK1.out k hk).1)
    have HL26 : Hid (LentE w6 w3.heap.size (.slice b2 Q.length d2) a2 c2 Q) := HL25.out.touch (grown_touch hg6) (fun k hk e => by have h1 := HK1.out k e.symm; have h2 := HK2.out k hk; omega)
    have HO6 : Hid (OwnE w6 w4.heap.size v (joinL P Q)) := (grown_touch hg6).row HO5.out (fun k hk e => by have h1 := HK1.out k e.symm; have h2 := (World.ownsRow.lt HO5.out k hk).1; omega)
    have hs6 : w5.heap.size ≤ w6.heap.size := hg6.size
    clear hg6
    go_wp2_with fail
    refine (stillE_any a2 c2 w3.heap.size Q (.slice b2 Q.length d2) w6 HL26.out (ents_below HEQ.out HD6.out HLQ.out) (fun b off e h0 => by have := HLQ.out b off e h0; omega) (by omega)).mono ?_
    rintro e w7 ⟨rfl, hg7⟩
    have HD7 : Hid (Below w2.heap.size w2 w7) := HD6.out.grown hg7 (by omega) (fun k hk => by have := (HK2.out k hk).1; omega)
    have HO7 : Hid (OwnE w7 w4.heap.size v (joinL P Q)) := (grown_touch hg7).row HO6.out (fun k hk e => by have h1 := HK2.out k e.symm; have h2 := (World.ownsRow.lt HO6.out k hk).1; omega)
    have hs7 : w6.heap.size ≤ w7.heap.size := hg7.size
    clear hg7
    go_wp2_with fail
    refine (refJoin_any a1 a2 P Q c1 c2 w7 (ents_below HEP.out HD7.out HLP.out) (ents_below HEQ.out HD7.out HLQ.out) HGP.out.1 HGQ.out.1).mono ?_
    rintro e w8 ⟨u, rfl, hu, hb8⟩
    have HO8 : Hid (OwnE w8 w2.heap.size v (joinL P Q)) := row_base (HO7.out.below hb8) (by omega)
    have HU8 : Hid (OwnE w8 w2.heap.size u (joinL P Q)) := row_base hu (by omega)
    have HAP : Hid (Apart v u) := by
      by_cases hv : v.ownBlock = none
      · exact .inl hv
      · right; right
        intro e
        obtain ⟨k, hk⟩ := Option.ne_none_iff_exists'.1 hv
        have h1 := (World.ownsRow.lt HO7.out k hk).2
        have h2 := (World.ownsRow.lt hu k (e.symm.trans hk)).1
        omega
    have HD8 : Hid (Below w2.heap.size w2 w8) := HD7.out.trans (hb8.mono (by omega))
    clear hu hb8
    go_wp2_with fail
    refine (summed_any g c Ls nx v u (joinL P Q) w2 w8 HST2.out HD8.out HO8.out HU8.out HAP.out hlen (by omega)).mono ?_
    rintro e w9 ⟨rfl, c', hst, hcc, hbg, hsz, hfr⟩
    have HF : Hid (∃ c' Ls' nx', StateE w9 g c' Ls' nx' ∧ (∀ L ∈ Ls', GoodU U L) ∧ nx' ≤ nx + 1 ∧ (∀ j, j ≠ 0 → j ≠ 4 → j ≠ 5 → j ≠ 12 → c'[j]? = c[j]?) ∧ Below g w w9 ∧ Frame w w9) :=
      ⟨c', _, nx + 1, hst, fun L hL => by rcases List.mem_append.1 hL with h | h; exact HS.out.2 L h; simp at h; rw [h]; exact HGJ.out, Int.le_refl _, hcc, ((HB2.out.mono (by omega)).trans (HD8.out.mono (by omega))).trans hbg, (Frame.of_below HB2.out).trans hfr⟩
    clear hst hcc hbg hsz hfr
    go_wp2
    go_ret
    exact ⟨rfl, HF.out⟩

set_option maxRecDepth 100000 in
set_option maxHeartbeats 4000000 in
theorem summary_k4 (g : Nat) (c : Array Value) (Ls : List (List Ent)) (nx : Int) (U : List Int) (pk bb : Int) (fa : Option Addr) (fl fc : Nat) (bins size budget : Int) (va : Option Addr) (vl vc : Nat) (wa : Option Addr) (wl wc : Nat) (st : ByteArray) (x y : Int) (w : World)
    (hS : StateE w g c Ls nx) (hG : ∀ L ∈ Ls, GoodU U L) (hn : nx ≤ 9000000) (hU : U.length ≤ 2097152) :
    Calls Tryz.prog 70 #[.pointer (some ⟨g, 0, none⟩), .agg #[.int .i64 4, .int .i64 pk, .int .i64 bb, .slice fa fl fc, .int .i64 bins, .int .i64 size, .int .i64 budget, .slice va vl vc, .slice wa wl wc, .string st, .int .i64 x, .int .i64 y]] w
      fun e w' => PostS U g c nx w e w' := by
  have HS : Hid (StateE w g c Ls nx ∧ ∀ L ∈ Ls, GoodU U L) := ⟨hS, hG⟩
  have HLL : Hid (∀ L ∈ Ls, L.length ≤ 4194304) := fun L hL => by have := (hG L hL).len; omega
  have hgl := hS.lt
  clear hS hG
  have HB0 : Hid (Below w.heap.size w (w.alloc (.cells #[.int .i64 4, .int .i64 pk, .int .i64 bb, .slice fa fl fc, .int .i64 bins, .int .i64 size, .int .i64 budget, .slice va vl vc, .slice wa wl wc, .string st, .int .i64 x, .int .i64 y] 93))) := (Below.refl _ _).alloc (Nat.le_refl _) _
  have e10 : (w.alloc (.cells #[.int .i64 4, .int .i64 pk, .int .i64 bb, .slice fa fl fc, .int .i64 bins, .int .i64 size, .int .i64 budget, .slice va vl vc, .slice wa wl wc, .string st, .int .i64 x, .int .i64 y] 93)).cell? ⟨w.heap.size, 10, none⟩ = some (.int .i64 x) := by simp
  have hs0 : (w.alloc (.cells #[.int .i64 4, .int .i64 pk, .int .i64 bb, .slice fa fl fc, .int .i64 bins, .int .i64 size, .int .i64 budget, .slice va vl vc, .slice wa wl wc, .string st, .int .i64 x, .int .i64 y] 93)).heap.size = w.heap.size + 1 := by simp
  go_enter Tryz.func70, Tryz.ntmps70
  go_wp2_with fail
  generalize w.alloc (.cells #[.int .i64 4, .int .i64 pk, .int .i64 bb, .slice fa fl fc, .int .i64 bins, .int .i64 size, .int .i64 budget, .slice va vl vc, .slice wa wl wc, .string st, .int .i64 x, .int .i64 y] 93) = wb at *
  have HST0 : Hid (StateE wb g c Ls nx) := HS.out.1.below HB0.out
  refine (sum_any g c Ls nx pk wb HST0.out (by omega) HLL.out).mono ?_
  rintro e w2 ⟨p, P, rfl, hoP, hmP, hb1⟩
  have HGP : Hid (GoodU U P) := GoodU.mem HS.out.2 hmP
  have hlP := HGP.out.len
  obtain ⟨a1, c1, rfl, hE1, hz1⟩ := hoP.view (by omega)
  have HEP : Hid (EntsV w2 a1 P) := hE1.below hb1
  have HZ1 : Hid (a1 = none → c1 = 0) := hz1
  have HST2 : Hid (StateE w2 g c Ls nx) := HST0.out.below hb1
  have HB2 : Hid (Below w.heap.size w w2) := HB0.out.trans (hb1.mono (by omega))
  have hs2 : w.heap.size + 1 ≤ w2.heap.size := by have := hb1.size; omega
  have f10 : w2.cell? ⟨w.heap.size, 10, none⟩ = some (.int .i64 x) := (hb1.cell (p := ⟨w.heap.size, 10, none⟩) (by simp; omega)).trans e10
  have HLP : Hid (∀ b off, a1 = some ⟨b, off, none⟩ → 0 < P.length → b < w2.heap.size) := ents_lt (hE1.below hb1)
  have HGC : Hid (GoodU U (cutL P x)) := ⟨HGP.out.1.sub (cutL_sub HGP.out.1 x), fun e he => HGP.out.2 e ((cutL_sub HGP.out.1 x).subset he)⟩
  have hlen : (cutL P x).length ≤ 4194304 := by have := HGC.out.len; omega
  clear hoP hmP hb1 hE1 hz1 e10
  go_wp2_with fail
  refine (lentE_any a1 c1 P w2 HEP.out (ents_nil HEP.out HZ1.out) (by omega)).mono ?_
  rintro e w3 ⟨o1, rfl, hl1, hb3⟩
  obtain ⟨b1, d1, rfl, hi1, hn1⟩ := hl1.view (by omega)
  have HI1 : Hid (EntsV w3 b1 P) := hi1
  have HN1 : Hid (b1 = none → d1 = 0) := hn1
  have HL1 : Hid (LentE w3 w2.heap.size (.slice b1 P.length d1) a1 c1 P) := hl1
  have HD3 : Hid (Below w2.heap.size w2 w3) := hb3
  have hs3 : w2.heap.size ≤ w3.heap.size := hb3.size
  have g10 : w3.cell? ⟨w.heap.size, 10, none⟩ = some (.int .i64 x) := (hb3.cell (p := ⟨w.heap.size, 10, none⟩) (by simp; omega)).trans f10
  have HK1 : Hid (∀ k, (Value.slice b1 P.length d1).ownBlock = some k → w2.heap.size ≤ k ∧ k < w3.heap.size) := fun k hk => hl1.own hk
  clear hl1 hb3 f10 hi1 hn1
  go_wp2_with fail
  refine (granCut_any b1 P d1 x w3 HI1.out HGP.out.1 HN1.out).mono ?_
  rintro e w5 ⟨v, rfl, ho, hb5⟩
  have HO5 : Hid (OwnE w5 w3.heap.size v (cutL P x)) := ho
  have HL15 : Hid (LentE w5 w2.heap.size (.slice b1 P.length d1) a1 c1 P) := HL1.out.below hb5
  have HD5 : Hid (Below w2.heap.size w2 w5) := HD3.out.trans (hb5.mono (by omega))
  have hs5 : w3.heap.size ≤ w5.heap.size := hb5.size
  have h10 : w5.cell? ⟨w.heap.size, 10, none⟩ = some (.int .i64 x) := (hb5.cell (p := ⟨w.heap.size, 10, none⟩) (by simp; omega)).trans g10
  clear ho hb5 g10
  go_wp2_with fail
  refine (stillE_any a1 c1 w2.heap.size P (.slice b1 P.length d1) w5 HL15.out (ents_below HEP.out HD5.out HLP.out) HLP.out (by omega)).mono ?_
  rintro e w6 ⟨rfl, hg6⟩
  have HD6 : Hid (Below w2.heap.size w2 w6) := HD5.out.grown hg6 (by omega) (fun k hk => (HK1.out k hk).1)
  have HO6 : Hid (OwnE w6 w3.heap.size v (cutL P x)) := (grown_touch hg6).row HO5.out (fun k hk e => by have h1 := HK1.out k e.symm; have h2 := (World.ownsRow.lt HO5.out k hk).1; omega)
  have k10 : w6.cell? ⟨w.heap.size, 10, none⟩ = some (.int .i64 x) := hg6.cell h10 (fun e => by have := HK1.out _ e.symm; simp at this; omega)
  have hs6 : w5.heap.size ≤ w6.heap.size := hg6.size
  clear hg6 h10
  go_wp2_with fail
  refine (refCut_any a1 P c1 x w6 (ents_below HEP.out HD6.out HLP.out) HGP.out.1 HZ1.out (by omega)).mono ?_
  rintro e w8 ⟨u, rfl, hu, hb8⟩
  have HO8 : Hid (OwnE w8 w2.heap.size v (cutL P x)) := row_base (HO6.out.below hb8) (by omega)
  have HU8 : Hid (OwnE w8 w2.heap.size u (cutL P x)) := row_base hu (by omega)
  have HAP : Hid (Apart v u) := by
    by_cases hv : v.ownBlock = none
    · exact .inl hv
    · right; right
      intro e
      obtain ⟨k, hk⟩ := Option.ne_none_iff_exists'.1 hv
      have h1 := (World.ownsRow.lt HO6.out k hk).2
      have h2 := (World.ownsRow.lt hu k (e.symm.trans hk)).1
      omega
  have HD8 : Hid (Below w2.heap.size w2 w8) := HD6.out.trans (hb8.mono (by omega))
  clear hu hb8 k10
  go_wp2_with fail
  refine (summed_any g c Ls nx v u (cutL P x) w2 w8 HST2.out HD8.out HO8.out HU8.out HAP.out hlen (by omega)).mono ?_
  rintro e w9 ⟨rfl, c', hst, hcc, hbg, hsz, hfr⟩
  have HF : Hid (∃ c' Ls' nx', StateE w9 g c' Ls' nx' ∧ (∀ L ∈ Ls', GoodU U L) ∧ nx' ≤ nx + 1 ∧ (∀ j, j ≠ 0 → j ≠ 4 → j ≠ 5 → j ≠ 12 → c'[j]? = c[j]?) ∧ Below g w w9 ∧ Frame w w9) :=
    ⟨c', _, nx + 1, hst, fun L hL => by rcases List.mem_append.1 hL with h | h; exact HS.out.2 L h; simp at h; rw [h]; exact HGC.out, Int.le_refl _, hcc, ((HB2.out.mono (by omega)).trans (HD8.out.mono (by omega))).trans hbg, (Frame.of_below HB2.out).trans hfr⟩
  clear hst hcc hbg hsz hfr
  go_wp2
  go_ret
  exact ⟨rfl, HF.out⟩
end Go.Proofs.YtfcgnpchbcmdeaaGreat
