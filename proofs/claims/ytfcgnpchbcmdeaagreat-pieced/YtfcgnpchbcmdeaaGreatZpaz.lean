import Derived.Test.YtfcgnpchbcmdeaaGreatZpax
import Derived.Test.YtfcgnpchbcmdeaaGreatZpay
import Derived.Deep.RegionHeld3
namespace Go.Proofs.YtfcgnpchbcmdeaaGreat
set_option maxRecDepth 100000
set_option maxHeartbeats 4000000
open Go.RowKit
theorem width_any (r d : Int) (w : World) : Calls Tryz.prog 330 #[.agg #[.int .i64 r, .int .i64 d]] w fun e w' => e = .returned (.int .i64 d) /\ w' = w.alloc (.cells #[.int .i64 r, .int .i64 d] 379) := by go_enter Tryz.func330, Tryz.ntmps330;go_wp2;go_ret;exact ⟨rfl, rfl⟩
theorem rows_any (r d : Int) (w : World) : Calls Tryz.prog 299 #[.agg #[.int .i64 r, .int .i64 d]] w fun e w' => e = .returned (.int .i64 r) /\ w' = w.alloc (.cells #[.int .i64 r, .int .i64 d] 379) := by go_enter Tryz.func299, Tryz.ntmps299;go_wp2;go_ret;exact ⟨rfl, rfl⟩
theorem OwnB.put {w : World} {base g cap n k : Nat} {zs : List Int} (h : OwnB w base (.slice (some ⟨g, 0, none⟩) n cap) zs) (hn : n = zs.length) (z : Int) : OwnB (w.setCell ⟨g, k, none⟩ (.int .u8 z)) base (.slice (some ⟨g, 0, none⟩) n cap) (zs.set k z) /\ w.grownBy (w.setCell ⟨g, k, none⟩ (.int .u8 z)) (some g) := by subst hn;obtain ⟨h1, h2⟩ := World.ownsRow.stored h k (.int .u8 z);refine ⟨?_, h2⟩;unfold OwnB;rw [List.length_set, List.map_set];exact h1
theorem OwnB.cellK {w : World} {base g cap n k : Nat} {zs : List Int} (h : OwnB w base (.slice (some ⟨g, 0, none⟩) n cap) zs) (hn : n = zs.length) (hk : k < n) : w.cell? ⟨g, k, none⟩ = some (.int .u8 (zs.getD k 0)) /\ w.frozen? ⟨g, k, none⟩ = false := by subst hn;refine ⟨?_, World.ownsRow.frozenAt h k⟩;rw [World.ownsRow.cellAt h k (by omega)];simp [List.getD, hk]
theorem OwnB.alloc {w : World} {base : Nat} {v : Value} {zs : List Int} (h : OwnB w base v zs) (o : Obj) : OwnB (w.alloc o) base v zs := World.ownsRow.alloc h o
theorem put_any (db base rows d q c nb row n : Nat) (f : Nat -> Nat) (w : World) (hblk : w.heap[db]? = some (.cells #[.int .i64 (rows : Nat), .int .i64 (d : Nat), .slice (some ⟨q, 0, none⟩) nb c] 396 (0, 0))) (hB : OwnB w base (.slice (some ⟨q, 0, none⟩) nb c) (packF f nb (row * d))) (hf : ∀ t, f t <= 1) (hfn : ∀ i, i < d -> f (row * d + i) = n / 2 ^ i % 2) (hnb : row * d + d <= 8 * nb) (hr : row <= 200) (hd : d <= 6) : Calls Tryz.prog 331 #[.pointer (some ⟨db, 0, none⟩), .int .i64 row, .int .i64 n] w fun e w' => e = .returned (.tuple #[]) /\ OwnB w' base (.slice (some ⟨q, 0, none⟩) nb c) (packF f nb (row * d + d)) /\ Touch (fun k => k = q) w w' := by
  have c0 : w.cell? ⟨db, 0, none⟩ = some (.int .i64 (rows : Nat)) := cell_of_row _ _ 0 _ 396 (0, 0) hblk;have c1 : w.cell? ⟨db, 1, none⟩ = some (.int .i64 (d : Nat)) := cell_of_row _ _ 1 _ 396 (0, 0) hblk;have hdl : db < w.heap.size := (Array.getElem?_eq_some_iff.1 hblk).1
  have hqd : db ≠ q := fun e => by obtain ⟨cur, hc⟩ := row_type hB (k := q) rfl;rw [e, hc] at hblk;simp at hblk
  have hm0 : row * d <= 1200 := Nat.mul_le_mul hr hd;have hm2 : (row : Int) * (d : Int) = ((row * d : Nat) : Int) := (by simp);have HFN : Hid (∀ i, i < d -> f (row * d + i) = n / 2 ^ i % 2) := hfn;have HF : Hid (∀ t, f t <= 1) := hf;have HBLK : Hid (w.heap[db]? = some (.cells #[.int .i64 (rows : Nat), .int .i64 (d : Nat), .slice (some ⟨q, 0, none⟩) nb c] 396 (0, 0))) := hblk;have HOB : Hid (OwnB w base (.slice (some ⟨q, 0, none⟩) nb c) (packF f nb (row * d))) := hB;clear hblk hB hf hfn;generalize row * d = P at *;go_enter Tryz.func331, Tryz.ntmps331;go_wp2_with fail
  refine (width_any _ _ _).mono ?_;rintro e w1 ⟨rfl, rfl⟩;go_wp2_with fail
  refine (width_any _ _ _).mono ?_;rintro e w1 ⟨rfl, rfl⟩;go_wp2_with fail
  go_loopw [21] (fun ti wr => ∃ k : Nat, ti = .int .i64 k /\ k <= d /\ Hid (OwnB wr base (.slice (some ⟨q, 0, none⟩) nb c) (packF f nb (P + k)) /\ Touch (fun x => x = q) w wr)) (fun ti _ => d - (intOf ti).toNat)
  case atStart => exact ⟨0, rfl, Nat.zero_le _, (HOB.out.alloc _).alloc _, ((Touch.refl _ _).alloc _).alloc _⟩
  case round =>
    clear HOB c0 c1;obtain ⟨k, rfl, hk, HR⟩ := hrel
    by_cases hkd : k < d
    · have hblk2 : wr.heap[db]? = some (.cells #[.int .i64 (rows : Nat), .int .i64 (d : Nat), .slice (some ⟨q, 0, none⟩) nb c] 396 (0, 0)) := HR.out.2.at_ HBLK.out hqd;have c2 : wr.drew.cell? ⟨db, 2, none⟩ = some (.slice (some ⟨q, 0, none⟩) nb c) := cell_of_row _ _ 2 _ 396 (0, 0) hblk2;obtain ⟨T, hT⟩ : ∃ T, T = P + k := ⟨_, rfl⟩;obtain ⟨J, hJ⟩ : ∃ J, J = T / 8 := ⟨_, rfl⟩;obtain ⟨R, hR⟩ : ∃ R, R = T % 8 := ⟨_, rfl⟩;have hJn : J < nb := (by omega);obtain ⟨cf1, cf2⟩ := HR.out.1.cellK (k := J) (by rw [packF_len]) hJn;rw [packF_getD f _ hJn] at cf1;obtain ⟨y, hy⟩ : ∃ y, y = byteF f (P + k) J := ⟨_, rfl⟩;obtain ⟨bt, hbt⟩ : ∃ bt, bt = n / 2 ^ k % 2 := ⟨_, rfl⟩;have hfb : f T = bt := (by rw [hT, HFN.out k hkd, hbt]);have hy256 : y < 256 := (by rw [hy]; exact byteF_lt HF.out _ _);have hyl : y < 2 ^ R := (by rw [hy, hJ, hR, <- hT]; exact byteF_here HF.out T);have hb1 : bt <= 1 := by omega
      have hR8 : R < 8 := by omega
      have h2R : 2 ^ R <= 128 := by
        have : (2 : Nat) ^ R <= 2 ^ 7 := Nat.pow_le_pow_right (by decide) (by omega)
        simpa using this
      have hbm : bt * 2 ^ R <= 1 * 2 ^ R := Nat.mul_le_mul_right _ hb1;have hnx : byteF f (P + k + 1) J = y + bt * 2 ^ R := by rw [hy, hJ, hR, <- hT, byteF_at, hfb]
      have HSET : Hid ((packF f nb (P + k)).set J ((y + bt * 2 ^ R : Nat) : Int) = packF f nb (P + (k + 1))) := by show _ = _;rw [<- hnx];have := packF_set f nb (P + k);rw [<- hT, <- hJ, hT] at this;exact this
      have hor : y ||| bt * 2 ^ R = y + bt * 2 ^ R := or_bit hyl
      have q1 : (P : Int) + (k : Int) = (T : Int) := (by omega);have q2 : (T : Int).tdiv 8 = (J : Int) := (by rw [Int.tdiv_eq_ediv_of_nonneg (by omega)]; omega);have q3 : (T : Int) / 8 = (J : Int) := (by omega);have q4 : (T : Int).tmod 8 = (R : Int) := (by rw [Int.tmod_eq_emod_of_nonneg (by omega)]; omega);have q5 : (T : Int) % 8 = (R : Int) := by omega
      have q6 : bits BinOp.and IntKind.u8 ((n : Int) / 2 ^ k % 256) 1 = (bt : Int) := by have e : ((n : Int) / 2 ^ k % 256) = ((n / 2 ^ k % 256 : Nat) : Int) := (by simp);rw [e];have := (bitsU8 (n / 2 ^ k % 256) 1 (by omega) (by decide)).1;rw [and_one] at this;rw [hbt];rw [show ((1 : Nat) : Int) = 1 from rfl] at this;rw [this];have : n / 2 ^ k % 256 % 2 = n / 2 ^ k % 2 := (by omega);rw [this]
      have q7 : IntKind.i64.wrap (T : Int) = (T : Int) := wrapI (by omega) (by omega);have q8 : IntKind.i64.wrap (J : Int) = (J : Int) := wrapI (by omega) (by omega);obtain ⟨z, hz⟩ : ∃ z, z = bt * 2 ^ R := ⟨_, rfl⟩;have hz256 : z < 256 := by omega
      have q9 : IntKind.u8.wrap ((bt : Int) * 2 ^ R) = (z : Int) := by
        rw [wraps_u8 _ (by exact_mod_cast Nat.zero_le (bt * 2 ^ R)) (by
          have : ((bt : Int) * 2 ^ R) = ((bt * 2 ^ R : Nat) : Int) := by simp
          rw [this, <- hz]; omega)]
        rw [hz]; simp
      obtain ⟨u, hu⟩ : ∃ u, u = y + z := ⟨_, rfl⟩;have q10 : bits BinOp.or IntKind.u8 (y : Int) (z : Int) = (u : Int) := by rw [(bitsU8 y z hy256 hz256).2, hz, hor, hu, hz]
      rw [<- hz, <- hu] at HSET;have br1 : (0 : Int) <= (R : Int) := (by omega);have br2 : (R : Int) <= 8 := (by omega);clear hz hu hor hbm hyl;rw [<- hy] at cf1;have d1 : wr.drew.cell? ⟨q, J, none⟩ = some (.int .u8 (y : Nat)) := cf1;have fq : wr.drew.frozen? ⟨q, J, none⟩ = false := cf2;have bk1 : (0 : Int) <= (k : Int) := (by omega);have bk2 : (k : Int) < (d : Int) := (by omega);have bj1 : (0 : Int) <= (J : Int) := (by omega);have bj2 : (J : Int) < (nb : Int) := (by omega);have bT : (T : Int) <= 1300 := (by omega);have HRR : Hid (OwnB wr base (.slice (some ⟨q, 0, none⟩) nb c) (packF f nb (P + k)) /\ Touch (fun x => x = q) w wr) := HR;have HQ3 : Hid (P + k = T) := hT.symm;clear hblk2 hT hJ hR cf1 cf2 hy hbt hfb hnx HR;go_upto_region 5 with fail
      refine wp_region_S (fun w' => w'.cell? ⟨db, 2, none⟩ = some (.slice (some ⟨q, 0, none⟩) nb c) /\ w'.cell? ⟨q, J, none⟩ = some (.int .u8 (y : Nat))) 18 (by kernel_rfl) ⟨c2, d1⟩ (fun hHeld => ?_);refine tkM [1, 2, 3, 8, 9, 16, 17, 18] 0 (v := ?_) ?_ ?_
      rotate_left;· intro w hSw;(try dsimp only at hSw);go_simp;try with_reducible rfl
      try simp only [Act.put, sA, sB, sC]
      refine tkM [2, 3, 8, 9, 16, 17, 18] 1 (v := ?_) ?_ ?_
      rotate_left;· intro w hSw;(try dsimp only at hSw);go_simp;try with_reducible rfl
      try simp only [Act.put, sA, sB, sC]
      refine tkM [3, 8, 9, 16, 17, 18] 2 (v := ?_) ?_ ?_
      rotate_left;· intro w hSw;(try dsimp only at hSw);go_simp;try with_reducible rfl
      try simp only [Act.put, sA, sB, sC]
      refine tkM [8, 9, 16, 17, 18] 3 (v := ?_) ?_ ?_
      rotate_left
      · intro w hSw;try obtain ⟨_, _⟩ := hSw
        (try dsimp only at hSw)
        go_simp;try with_reducible rfl
      try simp only [Act.put, sA, sB, sC]
      refine tkM [6, 7, 8, 9, 16, 17, 18] 4 (v := ?_) ?_ ?_
      rotate_left;· intro w hSw;(try dsimp only at hSw);go_simp;try with_reducible rfl
      try simp only [Act.put, sA, sB, sC]
      refine tkM [6, 7, 8, 9, 16, 17, 18] 5 (v := ?_) ?_ ?_
      rotate_left;· intro w hSw;(try dsimp only at hSw);go_simp;try with_reducible rfl
      try simp only [Act.put, sA, sB, sC]
      refine tkM [7, 8, 9, 16, 17, 18] 6 (v := ?_) ?_ ?_
      rotate_left;· intro w hSw;(try dsimp only at hSw);go_simp;try with_reducible rfl
      try simp only [Act.put, sA, sB, sC]
      refine tkM [8, 9, 16, 17, 18] 7 (v := ?_) ?_ ?_
      rotate_left;· intro w hSw;(try dsimp only at hSw);go_simp;try with_reducible rfl
      try simp only [Act.put, sA, sB, sC]
      refine tkM [9, 16, 17, 18] 8 (v := ?_) ?_ ?_
      rotate_left;· intro w hSw;(try dsimp only at hSw);go_simp;try with_reducible rfl
      try simp only [Act.put, sA, sB, sC]
      refine tkM [16, 17, 18] 9 (v := ?_) ?_ ?_
      rotate_left
      · intro w hSw;try obtain ⟨_, _⟩ := hSw
        (try dsimp only at hSw)
        go_simp;try with_reducible rfl
      try simp only [Act.put, sA, sB, sC]
      refine tkM [15, 16, 17, 18] 10 (v := ?_) ?_ ?_
      rotate_left;· intro w hSw;(try dsimp only at hSw);go_simp;try with_reducible rfl
      try simp only [Act.put, sA, sB, sC]
      refine tkM [13, 14, 15, 16, 17, 18] 11 (v := ?_) ?_ ?_
      rotate_left;· intro w hSw;(try dsimp only at hSw);go_simp;try with_reducible rfl
      try simp only [Act.put, sA, sB, sC]
      refine tkM [13, 14, 15, 16, 17, 18] 12 (v := ?_) ?_ ?_
      rotate_left;· intro w hSw;(try dsimp only at hSw);go_simp;try with_reducible rfl
      try simp only [Act.put, sA, sB, sC]
      refine tkM [14, 15, 16, 17, 18] 13 (v := ?_) ?_ ?_
      rotate_left;· intro w hSw;(try dsimp only at hSw);go_simp;try with_reducible rfl
      try simp only [Act.put, sA, sB, sC]
      refine tkM [15, 16, 17, 18] 14 (v := ?_) ?_ ?_
      rotate_left;· intro w hSw;(try dsimp only at hSw);go_simp;try with_reducible rfl
      try simp only [Act.put, sA, sB, sC]
      refine tkM [16, 17, 18] 15 (v := ?_) ?_ ?_
      rotate_left;· intro w hSw;(try dsimp only at hSw);go_simp;try with_reducible rfl
      try simp only [Act.put, sA, sB, sC]
      refine tkM [17, 18] 16 (v := ?_) ?_ ?_
      rotate_left;· intro w hSw;(try dsimp only at hSw);go_simp;try with_reducible rfl
      try simp only [Act.put, sA, sB, sC]
      refine tkM [18] 17 (v := ?_) ?_ ?_
      rotate_left;· intro w hSw;(try dsimp only at hSw);go_simp;try with_reducible rfl
      try simp only [Act.put, sA, sB, sC]
      refine wpAnyS_lastL (i := 18) (by kernel_rfl) rfl (by kernel_rfl) (fun KK hK => ?_);go_simp;refine hK.out _ _ ?_;clear hK KK;try simp only [Act.put, sA, sB, sC]
      refine wpAnyS_done (by kernel_rfl) ?_ _;have HF2 : Hid (OwnB (wr.setCell ⟨q, J, none⟩ (.int .u8 (u : Nat))).drew base (.slice (some ⟨q, 0, none⟩) nb c) (packF f nb (P + (k + 1))) /\ Touch (fun x => x = q) w (wr.setCell ⟨q, J, none⟩ (.int .u8 (u : Nat))).drew) := by rw [<- HSET.out];exact ⟨World.ownsRow.drew (HRR.out.1.put (by rw [packF_len]) _).1, (HRR.out.2.setCell (p := ⟨q, J, none⟩) (fun _ => rfl) _).drew⟩
      clear HRR hHeld c2 d1 fq q1 q2 q3 q4 q5 q6 q7 q8 q9 q10;go_wp2;go_roundw;case rel => exact ⟨k + 1, by go_num, by omega, HF2⟩
      case measure => simp [intOf]; omega
    have hnk : ¬ (k : Int) < (d : Int) := (by omega);have HF2 : Hid (OwnB wr base (.slice (some ⟨q, 0, none⟩) nb c) (packF f nb (P + d)) /\ Touch (fun x => x = q) w wr) := (by have : k = d := (by omega);subst this;exact HR);clear HR;go_wp2;go_end0;exact ⟨rfl, HF2.out.1, HF2.out.2⟩
end Go.Proofs.YtfcgnpchbcmdeaaGreat

namespace Go.Proofs.YtfcgnpchbcmdeaaGreat
open Go.RowKit
theorem make_bytes (n : Nat) (hn : n <= 1000000) (W : World) : (Instr.makeSlice 66 (.int .i64 (n : Int)) (.int .i64 (n : Int))).run Tryz.prog W = .ok (.slice (some ⟨W.heap.size, 0, none⟩) n n) (W.alloc (.cells (madeCells #[.int .u8 0] n) 5)) := by obtain ⟨i0, hinf, hz0, hz1, hz2⟩ := info_parts info5;have := run_make (P := Tryz.prog) W 66 5 i0 _ Tryz.underlying66 hinf hz0 .i64 .i64 (n : Int) (n : Int) (by omega) (by omega) (by rw [hz2]; omega) (by omega);rw [hz1] at this;rw [this, Int.toNat_natCast, Nat.mul_one];rfl
theorem made_bytes (n : Nat) (W : World) (base : Nat) (hn : n <= 1000000) (hb : base <= W.heap.size) : OwnB (W.alloc (.cells (madeCells #[.int .u8 0] n) 5)) base (.slice (some ⟨W.heap.size, 0, none⟩) n n) (List.replicate n 0) := by
  have := World.ownsRow_lit (base := base) (size := 1) (e := 5) W (madeCells #[.int .u8 0] n) n hb (by unfold maxLen; omega) (by simp [madeCells]);rw [made_one] at this;unfold OwnB
  simpa using this
def bitsN (N : List Nat) (d t : Nat) : Nat := N.getD (t / d) 0 / 2 ^ (t % d) % 2
theorem bitsN_le (N : List Nat) (d : Nat) : ∀ t, bitsN N d t <= 1 := fun t => by unfold bitsN; omega
theorem bitsN_at (N : List Nat) {d row i : Nat} (h : i < d) : bitsN N d (row * d + i) = N.getD row 0 / 2 ^ i % 2 := by unfold bitsN;have e1 : (row * d + i) / d = row := (by rw [Nat.mul_comm, Nat.mul_add_div (by omega), Nat.div_eq_of_lt h, Nat.add_zero]);have e2 : (row * d + i) % d = i := (by rw [Nat.mul_comm, Nat.mul_add_mod, Nat.mod_eq_of_lt h]);rw [e1, e2]
structure DenX (w : World) (base db q n d : Nat) (bs : List Int) : Prop where
  blk : w.heap[db]? = some (.cells #[.int .i64 (n : Nat), .int .i64 (d : Nat), .slice (some ⟨q, 0, none⟩) bs.length bs.length] 396 (0, 0))
  row : OwnB w base (.slice (some ⟨q, 0, none⟩) bs.length bs.length) bs
def DenV (w : World) (base : Nat) (v : Value) (n d : Nat) (bs : List Int) : Prop := ∃ db q, v = .pointer (some ⟨db, 0, none⟩) /\ base <= db /\ DenX w base db q n d bs
set_option maxRecDepth 100000 in
set_option maxHeartbeats 4000000 in
theorem newDense_any (va : Option Addr) (n d m vc : Nat) (N : List Nat) (w : World) (hv : OwnI w 0 (.slice va m vc) (natI N)) (hN : N.length = m) (hmn : m <= n) (hn : n <= 200) (hd : d <= 6) : Calls Tryz.prog 301 #[.agg #[.int .i64 n, .int .i64 d], .slice va m vc] w fun e w' => ∃ v, e = .returned v /\ DenV w' w.heap.size v n d (packF (bitsN N d) ((n * d + 7) / 8) (m * d)) /\ Below w.heap.size w w' := by
  have HV : Hid (OwnI w 0 (.slice va m vc) (natI N) /\ N.length = m) := ⟨hv, hN⟩;obtain ⟨P, hP⟩ : ∃ P, P = n * d := ⟨_, rfl⟩;have hP0 : P <= 1200 := (by rw [hP]; exact Nat.mul_le_mul hn hd);have hm2 : (n : Int) * (d : Int) = (P : Int) := (by rw [hP]; simp);obtain ⟨nb, hnb⟩ : ∃ nb, nb = (P + 7) / 8 := ⟨_, rfl⟩;have HNB : Hid (nb = (n * d + 7) / 8 /\ P = n * d /\ nb = (P + 7) / 8) := ⟨by rw [hnb, hP], hP, hnb⟩;have q1 : ((P : Int) + 7).tdiv 8 = (nb : Int) := (by rw [Int.tdiv_eq_ediv_of_nonneg (by omega)]; omega);have q2 : IntKind.i64.wrap (P : Int) = (P : Int) := wrapI (by omega) (by omega);have q3 : IntKind.i64.wrap ((P : Int) + 7) = (P : Int) + 7 := wrapI (by omega) (by omega);have q4 : IntKind.i64.wrap (nb : Int) = (nb : Int) := wrapI (by omega) (by omega);have hmk := make_bytes nb (by omega);have hnb2 : nb <= 151 := (by omega);rw [<- HNB.out.1];clear hv hN hP hnb
  go_enter Tryz.func301, Tryz.ntmps301;go_upto_region 1 with fail;obtain ⟨w0, hw0⟩ : ∃ w0, w0 = w.alloc (.cells #[.int .i64 (n : Nat), .int .i64 (d : Nat)] 379) := ⟨_, rfl⟩;rw [<- hw0];have hs0 : w0.heap.size = w.heap.size + 1 := (by rw [hw0]; simp);have d0 : w0.cell? ⟨w.heap.size, 0, none⟩ = some (.int .i64 (n : Nat)) := (by rw [hw0]; simp [go_sem]);have d1 : w0.cell? ⟨w.heap.size, 1, none⟩ = some (.int .i64 (d : Nat)) := (by rw [hw0]; simp [go_sem]);have HB0 : Hid (Below w.heap.size w w0) := (by show Below _ _ _; rw [hw0]; exact (Below.refl _ _).alloc (Nat.le_refl _) _);have hlt0 : w.heap.size < w0.heap.size := (by omega);have HS0 : Hid (w0.heap.size = w.heap.size + 1) := hs0;clear hw0 hs0
  go_region_held3 (fun w' => w'.cell? ⟨w.heap.size, 0, none⟩ = some (.int .i64 (n : Nat)) /\ w'.cell? ⟨w.heap.size, 1, none⟩ = some (.int .i64 (d : Nat))) (exact ⟨(Below.cell (B := w0.heap.size) (w := w0) (p := ⟨w.heap.size, 0, none⟩) (by repeat (first | with_reducible exact Below.refl _ _ | with_reducible apply Below.drew | (refine Below.alloc ?_ (by first | omega | (simp; omega) | simp) _))) hlt0).trans d0, (Below.cell (B := w0.heap.size) (w := w0) (p := ⟨w.heap.size, 1, none⟩) (by repeat (first | with_reducible exact Below.refl _ _ | with_reducible apply Below.drew | (refine Below.alloc ?_ (by first | omega | (simp; omega) | simp) _))) hlt0).trans d1⟩) (first | (go_at_call 299; refine (rows_any _ _ _).mono ?_; rintro e w1 ⟨rfl, rfl⟩) | (go_at_call 330; refine (width_any _ _ _).mono ?_; rintro e w1 ⟨rfl, rfl⟩))
  obtain ⟨w4, hw4⟩ : ∃ w4, w4 = ((((w0.alloc (.cells #[.int .i64 (n : Nat), .int .i64 (d : Nat)] 379)).alloc (.cells #[.int .i64 (n : Nat), .int .i64 (d : Nat)] 379)).alloc (.cells (madeCells #[.int .u8 0] nb) 5)).alloc (.cells #[.int .i64 (n : Nat), .int .i64 (d : Nat), .slice (some ⟨w0.heap.size + 1 + 1, 0, none⟩) nb nb] 396)).drew := ⟨_, rfl⟩;rw [<- hw4];have hs4 : w4.heap.size = w0.heap.size + 1 + 1 + 1 + 1 := by rw [hw4]; simp
  have HB4 : Hid (Below w.heap.size w w4) := by show Below _ _ _;rw [hw4];exact (HB0.out.trans ((((((Below.refl _ _).alloc (by omega) _).alloc (by simp; omega) _).alloc (by simp; omega) _).alloc (by simp; omega) _).drew))
  have hb4 : w4.heap[w0.heap.size + 1 + 1 + 1]? = some (.cells #[.int .i64 (n : Nat), .int .i64 (d : Nat), .slice (some ⟨w0.heap.size + 1 + 1, 0, none⟩) nb nb] 396 (0, 0)) := by rw [hw4];have := heap_alloc_new (((w0.alloc (.cells #[.int .i64 (n : Nat), .int .i64 (d : Nat)] 379)).alloc (.cells #[.int .i64 (n : Nat), .int .i64 (d : Nat)] 379)).alloc (.cells (madeCells #[.int .u8 0] nb) 5)) (.cells #[.int .i64 (n : Nat), .int .i64 (d : Nat), .slice (some ⟨w0.heap.size + 1 + 1, 0, none⟩) nb nb] 396);rw [show (((w0.alloc (.cells #[.int .i64 (n : Nat), .int .i64 (d : Nat)] 379)).alloc (.cells #[.int .i64 (n : Nat), .int .i64 (d : Nat)] 379)).alloc (.cells (madeCells #[.int .u8 0] nb) 5)).heap.size = w0.heap.size + 1 + 1 + 1 by simp] at this;exact this
  have hO4 : OwnB w4 w.heap.size (.slice (some ⟨w0.heap.size + 1 + 1, 0, none⟩) nb nb) (packF (bitsN N d) nb 0) := by rw [packF_zero, hw4];have := made_bytes nb ((w0.alloc (.cells #[.int .i64 (n : Nat), .int .i64 (d : Nat)] 379)).alloc (.cells #[.int .i64 (n : Nat), .int .i64 (d : Nat)] 379)) w.heap.size (by omega) (by simp; omega);have h2 := (this.alloc (.cells #[.int .i64 (n : Nat), .int .i64 (d : Nat), .slice (some ⟨w0.heap.size + 1 + 1, 0, none⟩) nb nb] 396));rw [show ((w0.alloc (.cells #[.int .i64 (n : Nat), .int .i64 (d : Nat)] 379)).alloc (.cells #[.int .i64 (n : Nat), .int .i64 (d : Nat)] 379)).heap.size = w0.heap.size + 1 + 1 by simp] at h2;exact h2
  have HBK : Hid (w4.heap[w0.heap.size + 1 + 1 + 1]? = some (.cells #[.int .i64 (n : Nat), .int .i64 (d : Nat), .slice (some ⟨w0.heap.size + 1 + 1, 0, none⟩) nb nb] 396 (0, 0))) := hb4;have HO4 : Hid (OwnB w4 w.heap.size (.slice (some ⟨w0.heap.size + 1 + 1, 0, none⟩) nb nb) (packF (bitsN N d) nb 0)) := hO4;clear hw4 hb4 hO4 d0 d1 hmk q1 q2 q3 q4;have hqge : w.heap.size <= w0.heap.size + 1 + 1 := (by omega);have HQ : Hid (w0.heap.size + 1 + 1 + 1 < w4.heap.size /\ w0.heap.size + 1 + 1 + 1 ≠ w0.heap.size + 1 + 1) := ⟨by omega, by omega⟩;generalize w0.heap.size + 1 + 1 = q at *;go_wp2_with fail
  go_loopw [21] (fun ti wr => ∃ k : Nat, ti = .int .i64 k /\ k <= m /\ Hid (OwnB wr w.heap.size (.slice (some ⟨q, 0, none⟩) nb nb) (packF (bitsN N d) nb (k * d)) /\ Touch (fun x => x = q) w4 wr)) (fun ti _ => m - (intOf ti).toNat)
  case atStart => exact ⟨0, rfl, Nat.zero_le _, by rw [Nat.zero_mul]; exact ⟨HO4.out, Touch.refl _ _⟩⟩
  case round =>
    clear HO4;obtain ⟨k, rfl, hk, HR⟩ := hrel;have hbw : Below w.heap.size w wr := (by have t := HR.out.2;have h4 := HB4.out;exact ⟨t.os.trans h4.os, t.tape.trans h4.tape, t.output.trans h4.output, Nat.le_trans h4.size t.size, fun x hx => (t.block x (by have := h4.size; omega) (by omega)).trans (h4.block x hx)⟩);have HBW : Hid (Below w.heap.size w wr) := hbw;have hblk : wr.heap[q + 1]? = some (.cells #[.int .i64 (n : Nat), .int .i64 (d : Nat), .slice (some ⟨q, 0, none⟩) nb nb] 396 (0, 0)) := HR.out.2.at_ HBK.out HQ.out.2;have HBLK : Hid (wr.heap[q + 1]? = some (.cells #[.int .i64 (n : Nat), .int .i64 (d : Nat), .slice (some ⟨q, 0, none⟩) nb nb] 396 (0, 0))) := hblk
    by_cases hkm : k < m
    · obtain ⟨qv, hqv, hql, _, hc, _⟩ := HV.out.1.atK (by rw [natI_len]; exact HV.out.2) hkm;subst hqv;have a0 := (hbw.cell (p := ⟨qv, k, none⟩) hql).trans hc;rw [natI_getD] at a0;have hk1 : k * d + d = (k + 1) * d := (by rw [Nat.add_mul, Nat.one_mul]);have hk2 : (k + 1) * d <= n * d := Nat.mul_le_mul_right _ (by omega)
      have HPUT : Hid (Calls Tryz.prog 331 #[.pointer (some ⟨q + 1, 0, none⟩), .int .i64 k, .int .i64 ((N.getD k 0 : Nat) : Int)] wr fun e w' => e = .returned (.tuple #[]) /\ OwnB w' w.heap.size (.slice (some ⟨q, 0, none⟩) nb nb) (packF (bitsN N d) nb (k * d + d)) /\ Touch (fun x => x = q) wr w') :=
        put_any (q + 1) w.heap.size n d q nb nb k (N.getD k 0) (bitsN N d) wr hblk HR.out.1 (bitsN_le N d) (fun i hi => bitsN_at N hi) (by have := HNB.out; omega) (by omega) hd
      rw [hk1] at HPUT;generalize N.getD k 0 = x at *;have bk1 : (0 : Int) <= (k : Int) := (by omega);have bk2 : (k : Int) < (m : Int) := (by omega);have HT : Hid (Touch (fun x => x = q) w4 wr) := HR.out.2;clear hc hk1 hk2 HR hblk hbw;go_wp2_with fail
      refine HPUT.out.mono ?_;rintro e w5 ⟨rfl, ho5, t5⟩;have HF : Hid (OwnB w5 w.heap.size (.slice (some ⟨q, 0, none⟩) nb nb) (packF (bitsN N d) nb ((k + 1) * d)) /\ Touch (fun x => x = q) w4 w5) := ⟨ho5, HT.out.trans t5⟩;clear ho5 t5 HPUT HT;go_wp2;go_roundw;case rel => exact ⟨k + 1, by go_num, by omega, HF⟩
      case measure => simp [intOf]; omega
    have hnk : ¬ (k : Int) < (m : Int) := (by omega);have HF : Hid (DenX wr w.heap.size (q + 1) q n d (packF (bitsN N d) nb (m * d))) := (by have : k = m := (by omega);subst this;exact ⟨by rw [packF_len]; exact hblk, by rw [packF_len]; exact HR.out.1⟩);clear HR hblk hbw;go_wp2;go_ret;exact ⟨_, rfl, ⟨_, _, rfl, by omega, HF.out⟩, HBW.out⟩
end Go.Proofs.YtfcgnpchbcmdeaaGreat

namespace Go.Proofs.YtfcgnpchbcmdeaaGreat
set_option maxRecDepth 100000
set_option maxHeartbeats 4000000
open Go.RowKit
def nzL (N : List Nat) : List Bool := N.map (fun x => decide (x ≠ 0))
def nzN (N : List Nat) : Nat := cntT (nzL N)
theorem nzL_len (N : List Nat) : (nzL N).length = N.length := by simp [nzL]
theorem nzL_getD {N : List Nat} {k : Nat} (h : k < N.length) : (nzL N).getD k false = decide (N.getD k 0 ≠ 0) := by simp [nzL, List.getD, h]
theorem notZero_any (va : Option Addr) (m c : Nat) (N : List Nat) (w : World) (hv : OwnI w 0 (.slice va m c) (natI N)) (hN : N.length = m) (hm : m <= 200) : Calls Tryz.prog 298 #[.slice va m c] w fun e w' => e = .returned (.int .i64 (nzN N : Nat)) /\ w' = w := by
  have HV : Hid (OwnI w 0 (.slice va m c) (natI N) /\ N.length = m) := ⟨hv, hN⟩;clear hv hN;go_enter Tryz.func298, Tryz.ntmps298;go_wp2_with fail
  go_loop [8, 3] (fun ti tn => ∃ k : Nat, ti = .int .i64 k /\ k <= m /\ tn = .int .i64 (cntT ((nzL N).take k) : Nat) /\ cntT ((nzL N).take k) <= k) (fun ti _ => m - (intOf ti).toNat)
  case atStart => exact ⟨0, rfl, Nat.zero_le _, rfl, Nat.le_refl _⟩
  case round =>
    obtain ⟨k, rfl, hk, rfl, hkc⟩ := hrel
    by_cases hkm : k < m
    · obtain ⟨q, rfl, hql, _, a0, _⟩ := HV.out.1.atK (by rw [natI_len]; exact HV.out.2) hkm;rw [natI_getD] at a0;have hs := cntT_snoc ((nzL N).take k) ((nzL N).getD k false);rw [<- take_snocB _ (by rw [nzL_len]; have := HV.out.2; omega), nzL_getD (by have := HV.out.2; omega)] at hs;have HS : Hid (cntT ((nzL N).take (k + 1)) = cntT ((nzL N).take k) + (if decide (N.getD k 0 ≠ 0) = true then 1 else 0)) := hs;clear hs;generalize cntT ((nzL N).take k) = t at *;generalize N.getD k 0 = x at *;have bk1 : (0 : Int) <= (k : Int) := (by omega);have bk2 : (k : Int) < (m : Int) := by omega
      by_cases hx : x = 0
      · subst hx;have HS2 : Hid (cntT ((nzL N).take (k + 1)) = t) := (by have := HS.out; rw [if_neg (by decide)] at this; exact this);clear HS;go_wp2;go_roundw;case rel => exact ⟨k + 1, by go_num, by omega, by rw [HS2.out], by rw [HS2.out]; omega⟩
        case measure => simp [intOf]; omega
      have hne : ((x : Int) != 0) = true := (by rw [bne_iff_ne]; omega);have HS2 : Hid (cntT ((nzL N).take (k + 1)) = t + 1) := (by have := HS.out; rw [if_pos (by simpa using hx)] at this; exact this);clear HS hx;go_wp2;go_roundw;case rel => exact ⟨k + 1, by go_num, by omega, by rw [HS2.out]; go_num, by rw [HS2.out]; omega⟩
      case measure => simp [intOf]; omega
    have hnk : ¬ (k : Int) < (m : Int) := (by omega);have HF : Hid (cntT ((nzL N).take k) = nzN N) := (by show _ = _; rw [List.take_of_length_le (by rw [nzL_len]; have := HV.out.2; omega)]; rfl);generalize cntT ((nzL N).take k) = t at *;go_wp2;go_ret;exact ⟨by rw [HF.out]; rfl, rfl⟩
theorem bitsOf_any (g : Nat) (w : World) (hg : g <= 1000) : Calls Tryz.prog 282 #[.int .i64 g] w fun e w' => e = .returned (.int .i64 (Lib.bitLen g : Nat)) /\ w' = w := by
  have HL : Hid (Calls Tryz.prog 150 #[.int .u64 (g : Nat)] w fun e w' => e = .returned (.int .i64 (Lib.bitLen g : Nat)) /\ w' = w) := (by have := Tryz.bits_Len (g : Nat) w (by omega) (by omega);rw [Int.toNat_natCast] at this;exact this);generalize Lib.bitLen g = b at *;go_enter Tryz.func282, Tryz.ntmps282;go_wp2_with fail
  refine HL.out.mono ?_;rintro e w1 ⟨rfl, rfl⟩;go_wp2;go_ret;exact ⟨rfl, rfl⟩
def spF (N : List Nat) : Nat -> List (Nat × Nat)
  | 0 => []
  | k + 1 => spF N k ++ (if N.getD k 0 = 0 then [] else [(k, N.getD k 0)])
theorem spF_len (N : List Nat) : ∀ k, (spF N k).length <= k
  | 0 => by simp [spF]
  | k + 1 => by have := spF_len N k;simp only [spF];split;simp; omega;simp; omega
def cellsC (p : Nat × Nat) : List Value := [.int .i64 (p.1 : Nat), .int .i64 (p.2 : Nat)]
def flatC : List (Nat × Nat) -> List Value
  | [] => []
  | p :: L => cellsC p ++ flatC L
theorem flatC_append (a b : List (Nat × Nat)) : flatC (a ++ b) = flatC a ++ flatC b := by
  induction a with
  | nil => rfl
  | cons e L ih => simp [flatC, ih]
theorem info405 : (Tryz.prog.info? 405).map (fun i => (i.zero, i.size, i.bytes)) = some (some (.agg #[.int .i64 0, .int .i64 0]), 2, 16) := by kernel_rfl
def OwnC (w : World) (base : Nat) (v : Value) (L : List (Nat × Nat)) : Prop := w.ownsRow base 405 2 v L.length (flatC L)
theorem OwnC.more {w : World} {base : Nat} {v : Value} {L : List (Nat × Nat)} {x : Nat × Nat} (h : w.ownsRow base 405 2 v (L.length + 1) (flatC L ++ cellsC x)) : OwnC w base v (L ++ [x]) := by
  unfold OwnC;rw [flatC_append, List.length_append]
  simpa [flatC] using h
theorem OwnC.shape {w : World} {base : Nat} {v : Value} {L : List (Nat × Nat)} (h : OwnC w base v L) : ∃ a c, v = .slice a L.length c := by
  rcases h.2 with ⟨rfl, h0⟩ | ⟨q, p, cur, rfl, _⟩
  exact ⟨none, 0, by rw [h0]⟩;exact ⟨_, _, rfl⟩
structure SpaX (w : World) (base sb n d : Nat) (vc : Value) (L : List (Nat × Nat)) : Prop where
  blk : w.heap[sb]? = some (.cells #[.int .i64 (n : Nat), .int .i64 (d : Nat), vc] 403 (0, 0))
  row : OwnC w base vc L
def SpaV (w : World) (base : Nat) (v : Value) (n d : Nat) (L : List (Nat × Nat)) : Prop := ∃ sb vc, v = .pointer (some ⟨sb, 0, none⟩) /\ base <= sb /\ SpaX w base sb n d vc L
theorem newSparse_any (va : Option Addr) (n d m vc : Nat) (N : List Nat) (w : World) (hv : OwnI w 0 (.slice va m vc) (natI N)) (hN : N.length = m) (hm : m <= 200) : Calls Tryz.prog 300 #[.agg #[.int .i64 n, .int .i64 d], .slice va m vc] w fun e w' => ∃ v, e = .returned v /\ SpaV w' w.heap.size v n d (spF N m) /\ Below w.heap.size w w' := by
  have HV : Hid (OwnI w 0 (.slice va m vc) (natI N) /\ N.length = m) := ⟨hv, hN⟩;obtain ⟨i0, hinf, hz0, hz1, hz2⟩ := info_parts info405;clear hv hN;obtain ⟨w0, hw0⟩ : ∃ w0, w0 = (w.alloc (.cells #[.int .i64 (n : Nat), .int .i64 (d : Nat)] 379)).alloc (.cells #[.int .i64 (n : Nat), .int .i64 (d : Nat), .slice none 0 0] 403) := ⟨_, rfl⟩;have HB0 : Hid (Below w.heap.size w w0) := (by show Below _ _ _; rw [hw0]; exact ((Below.refl _ _).alloc (Nat.le_refl _) _).alloc (by simp) _);have hs0 : w0.heap.size = w.heap.size + 1 + 1 := by rw [hw0]; simp
  have HK0 : Hid (w0.heap[w.heap.size + 1]? = some (.cells #[.int .i64 (n : Nat), .int .i64 (d : Nat), .slice none 0 0] 403 (0, 0))) := (by show _ = _;rw [hw0];have := heap_alloc_new (w.alloc (.cells #[.int .i64 (n : Nat), .int .i64 (d : Nat)] 379)) (.cells #[.int .i64 (n : Nat), .int .i64 (d : Nat), .slice none 0 0] 403);rw [show (w.alloc (.cells #[.int .i64 (n : Nat), .int .i64 (d : Nat)] 379)).heap.size = w.heap.size + 1 by simp] at this;exact this);go_enter Tryz.func300, Tryz.ntmps300;go_wp2_with fail
  go_loopw [13] (fun ti wr => ∃ (k : Nat) (vk : Value), ti = .int .i64 k /\ k <= m /\ Hid (SpaX wr (w.heap.size + 1 + 1) (w.heap.size + 1) n d vk (spF N k) /\ Touch (fun x => x = w.heap.size + 1) w0 wr)) (fun ti _ => m - (intOf ti).toNat)
  case atStart =>
    refine ⟨0, .slice none 0 0, rfl, Nat.zero_le _, ?_, ?_⟩;rw [<- hw0];exact ⟨HK0.out, World.ownsRow_nil _ _ _ _⟩;rw [<- hw0]; exact Touch.refl _ _
  case round =>
    clear hw0 HK0;obtain ⟨k, vk, rfl, hk, HR⟩ := hrel;have hsz := HR.out.2.size
    by_cases hkm : k < m
    · obtain ⟨qv, hqv, hql, _, hc, _⟩ := HV.out.1.atK (by rw [natI_len]; exact HV.out.2) hkm;subst hqv;have a0 : wr.cell? ⟨qv, k, none⟩ = some (.int .i64 ((N.getD k 0 : Nat) : Int)) := by rw [natI_getD] at hc;rw [World.cell?_of_block (a := ⟨qv, k, none⟩) ((HR.out.2.block qv (by omega) (by omega)).trans (HB0.out.block qv hql))];exact hc
      have HSP : Hid (spF N (k + 1) = spF N k ++ (if N.getD k 0 = 0 then [] else [(k, N.getD k 0)])) := rfl;obtain ⟨ca, cc, hvk⟩ := HR.out.1.row.shape;subst hvk;have c2 : wr.cell? ⟨w.heap.size + 1, 2, none⟩ = some (.slice ca (spF N k).length cc) := cell_of_row _ _ 2 _ 403 (0, 0) HR.out.1.blk;have hll := spF_len N k;clear hc;generalize N.getD k 0 = x at *;have bk1 : (0 : Int) <= (k : Int) := (by omega);have bk2 : (k : Int) < (m : Int) := by omega
      by_cases hx : x = 0
      · subst hx;have HF : Hid (SpaX wr (w.heap.size + 1 + 1) (w.heap.size + 1) n d (.slice ca (spF N k).length cc) (spF N (k + 1)) /\ Touch (fun x => x = w.heap.size + 1) w0 wr) := by rw [HSP.out, if_pos rfl, List.append_nil];exact HR.out
        clear HR HSP;go_wp2;go_roundw;case rel => exact ⟨k + 1, _, by go_num, by omega, HF⟩
        case measure => simp [intOf]; omega
      have hne : ((x : Int) != 0) = true := (by rw [bne_iff_ne]; omega);have HS2 : Hid (spF N (k + 1) = spF N k ++ [(k, x)]) := (by have := HSP.out; rw [if_neg hx] at this; exact this);clear HSP hx;have hlt : w.heap.size + 1 < wr.heap.size := (Array.getElem?_eq_some_iff.1 HR.out.1.blk).1;have HRW : Hid (wr.ownsRow (w.heap.size + 1 + 1) 405 2 (.slice ca (spF N k).length cc) (spF N k).length (flatC (spF N k))) := HR.out.1.row;generalize hgl : (spF N k).length = sl at *;go_wp2_with (at_builtin; refine wpList_append_mark rfl (.tmp 24) (.tmp 28) 401 rfl (w.heap.size + 1 + 1) 405 i0 (.agg #[.int .i64 0, .int .i64 0]) 2 16 Tryz.underlying401 hinf hz0 hz1 hz2 rfl (by decide) _ sl (flatC (spF N k)) rfl (HRW.out.alloc _) ⟨wr.heap.size, 0, none⟩ 1 1 [.int .i64 (k : Nat), .int .i64 (x : Nat)] rfl rfl ?_ ?_ ?_ ?_ ?_ ?_ ?_)
      exact one_new wr #[.int .i64 (k : Nat), .int .i64 (x : Nat)] 405
      · intro u hu; simp at hu; rcases hu with rfl | rfl <;> rfl
      decide;unfold maxLen; omega;omega;simp; omega;intro v4 w4 H4;obtain ⟨r4, g4, d4, _, _⟩ := H4.out;have hblk4 : w4.heap[w.heap.size + 1]? = some (.cells #[.int .i64 (n : Nat), .int .i64 (d : Nat), .slice ca sl cc] 403 (0, 0)) := (by rw [g4.block (w.heap.size + 1) (by simp; omega) (fun e => row_ne HRW.out e.symm HR.out.1.blk (by decide) rfl)];have := HR.out.1.blk;exact (Below.heap_alloc wr _ _ hlt).trans this);have c4 : w4.cell? ⟨w.heap.size + 1, 2, none⟩ = some (.slice ca sl cc) := cell_of_row _ _ 2 _ 403 (0, 0) hblk4;have f4 : w4.frozen? ⟨w.heap.size + 1, 2, none⟩ = false := frozen_of_row _ _ 2 _ 403 hblk4;have hO4 : OwnC w4 (w.heap.size + 1 + 1) v4 (spF N (k + 1)) := (by rw [HS2.out];refine OwnC.more ?_;rw [hgl];exact r4);obtain ⟨a5, c5, hv5⟩ := hO4.shape
      have HF : Hid (SpaX (w4.setCell ⟨w.heap.size + 1, 2, none⟩ v4) (w.heap.size + 1 + 1) (w.heap.size + 1) n d v4 (spF N (k + 1)) /\ Touch (fun x => x = w.heap.size + 1) w0 (w4.setCell ⟨w.heap.size + 1, 2, none⟩ v4)) := by refine ⟨⟨heap_setCell_same _ _ 2 _ 403 _ hblk4, own_put' hO4 hblk4 (by decide)⟩, ?_⟩;have t1 : Touch (fun x => x = w.heap.size + 1) w0 (wr.alloc (.cells #[.int .i64 (k : Nat), .int .i64 (x : Nat)] 405)) := HR.out.2.alloc _;have t2 := t1.grown g4 (fun q hq hlt2 => by have := (World.ownsRow.lt HRW.out q hq).1; omega);exact t2.setCell (p := ⟨w.heap.size + 1, 2, none⟩) (fun _ => rfl) v4
      rw [hv5] at HF;subst hv5;clear H4 r4 g4 d4 hblk4 hO4 HRW HR HS2 hgl;generalize (spF N (k + 1)).length = s5 at *;go_wp2;go_roundw;case rel => exact ⟨k + 1, _, by go_num, by omega, HF⟩
      case measure => simp [intOf]; omega
    have hnk : ¬ (k : Int) < (m : Int) := by omega
    have HF : Hid (SpaV wr w.heap.size (.pointer (some ⟨w.heap.size + 1, 0, none⟩)) n d (spF N m) /\ Below w.heap.size w wr) := by
      have : k = m := (by omega);subst this;have t := HR.out.2;have h0 := HB0.out;refine ⟨⟨_, _, rfl, by omega, HR.out.1.blk, ?_⟩, ⟨t.os.trans h0.os, t.tape.trans h0.tape, t.output.trans h0.output, Nat.le_trans h0.size t.size, fun x hx => (t.block x (by omega) (by omega)).trans (h0.block x hx)⟩⟩;have hr := HR.out.1.row;refine ⟨hr.1, ?_⟩
      rcases hr.2 with hn | ⟨g, cap, cur, e, hg, r⟩
      exact .inl hn;exact .inr ⟨g, cap, cur, e, by omega, r⟩
    clear HR;go_wp2;go_ret;exact ⟨_, rfl, HF.out.1, HF.out.2⟩
end Go.Proofs.YtfcgnpchbcmdeaaGreat

namespace Go.Proofs.YtfcgnpchbcmdeaaGreat
open Go.RowKit
theorem bitLen_six : ∀ g : Fin 64, Lib.bitLen g.val <= 6 := by decide +kernel
theorem bitLen_le {g : Nat} (h : g < 64) : Lib.bitLen g <= 6 := bitLen_six ⟨g, h⟩
theorem bitLen_pos64 : ∀ g : Fin 64, g.val < 2 ^ Lib.bitLen g.val := by decide +kernel
theorem bitLen_lt {g : Nat} (h : g < 64) : g < 2 ^ Lib.bitLen g := bitLen_pos64 ⟨g, h⟩
def ColV (w : World) (base : Nat) (v : Value) (N : List Nat) (g : Nat) : Prop :=
  (4 * nzN N < N.length /\ ∃ p, v = .iface 380 p /\ SpaV w base p N.length (Lib.bitLen g) (spF N N.length)) ∨
  (¬ 4 * nzN N < N.length /\ ∃ p, v = .iface 382 p /\ DenV w base p N.length (Lib.bitLen g) (packF (bitsN N (Lib.bitLen g)) ((N.length * Lib.bitLen g + 7) / 8) (N.length * Lib.bitLen g)))
set_option maxRecDepth 100000 in
set_option maxHeartbeats 4000000 in
theorem colOf_any (va : Option Addr) (m vc g : Nat) (N : List Nat) (w : World) (hv : OwnI w 0 (.slice va m vc) (natI N)) (hN : N.length = m) (hm : m <= 200) (hg : g < 64) : Calls Tryz.prog 257 #[.slice va m vc, .int .i64 g] w fun e w' => ∃ v, e = .returned v /\ ColV w' w.heap.size v N g /\ Below w.heap.size w w' := by
  have hb6 := bitLen_le hg;have HBO : Hid (Calls Tryz.prog 282 #[.int .i64 g] w fun e w' => e = .returned (.int .i64 (Lib.bitLen g : Nat)) /\ w' = w) := bitsOf_any g w (by omega);have hnz : nzN N <= m := (by have := cntT_le (nzL N); rw [nzL_len] at this; unfold nzN; omega);have HNZ : Hid (∀ W : World, Below w.heap.size w W -> Calls Tryz.prog 298 #[.slice va m vc] W fun e w' => e = .returned (.int .i64 (nzN N : Nat)) /\ w' = W) := fun W hW => notZero_any va m vc N W (hv.below hW) hN hm;have HSP : Hid (∀ W : World, Below w.heap.size w W -> Calls Tryz.prog 300 #[.agg #[.int .i64 m, .int .i64 (Lib.bitLen g : Nat)], .slice va m vc] W fun e w' => ∃ v, e = .returned v /\ SpaV w' W.heap.size v m (Lib.bitLen g) (spF N m) /\ Below W.heap.size W w') := fun W hW => newSparse_any va m (Lib.bitLen g) m vc N W (hv.below hW) hN hm
  have HDE : Hid (∀ W : World, Below w.heap.size w W -> Calls Tryz.prog 301 #[.agg #[.int .i64 m, .int .i64 (Lib.bitLen g : Nat)], .slice va m vc] W fun e w' => ∃ v, e = .returned v /\ DenV w' W.heap.size v m (Lib.bitLen g) (packF (bitsN N (Lib.bitLen g)) ((m * Lib.bitLen g + 7) / 8) (m * Lib.bitLen g)) /\ Below W.heap.size W w') := fun W hW => newDense_any va m (Lib.bitLen g) m vc N W (hv.below hW) hN (Nat.le_refl _) hm hb6
  have HCV : Hid (∀ (W : World) (v : Value), ((4 * nzN N < m /\ ∃ p, v = .iface 380 p /\ SpaV W w.heap.size p m (Lib.bitLen g) (spF N m)) ∨ (¬ 4 * nzN N < m /\ ∃ p, v = .iface 382 p /\ DenV W w.heap.size p m (Lib.bitLen g) (packF (bitsN N (Lib.bitLen g)) ((m * Lib.bitLen g + 7) / 8) (m * Lib.bitLen g)))) -> ColV W w.heap.size v N g) := fun W v h => by unfold ColV;rw [hN];exact h
  clear hv hN;generalize Lib.bitLen g = d at *;generalize nzN N = z at *;have b1 : (4 : Int) * (z : Int) <= 800 := (by omega);have q1 : IntKind.i64.wrap (4 * (z : Int)) = 4 * (z : Int) := wrapI (by omega) (by omega);go_enter Tryz.func257, Tryz.ntmps257;go_wp2_with fail
  refine HBO.out.mono ?_;rintro e w1 ⟨rfl, hw1⟩;obtain rfl := hw1.symm;clear hw1;go_upto_region 2 with fail;obtain ⟨w0, hw0⟩ : ∃ w0, w0 = w.alloc (.cells #[.int .i64 (m : Nat), .int .i64 (d : Nat)] 379) := ⟨_, rfl⟩;rw [<- hw0];have hs0 : w0.heap.size = w.heap.size + 1 := (by rw [hw0]; simp);have d0 : w0.cell? ⟨w.heap.size, 0, none⟩ = some (.int .i64 (m : Nat)) := (by rw [hw0]; simp [go_sem]);have d1 : w0.cell? ⟨w.heap.size, 1, none⟩ = some (.int .i64 (d : Nat)) := (by rw [hw0]; simp [go_sem]);have HB0 : Hid (Below w.heap.size w w0) := (by show Below _ _ _; rw [hw0]; exact (Below.refl _ _).alloc (Nat.le_refl _) _);have hlt0 : w.heap.size < w0.heap.size := (by omega);clear hw0 hs0
  go_region_held3 (fun w' => w'.cell? ⟨w.heap.size, 0, none⟩ = some (.int .i64 (m : Nat)) /\ w'.cell? ⟨w.heap.size, 1, none⟩ = some (.int .i64 (d : Nat))) (exact ⟨(Below.cell (B := w0.heap.size) (w := w0) (p := ⟨w.heap.size, 0, none⟩) (by repeat (first | with_reducible exact Below.refl _ _ | with_reducible apply Below.drew | (refine Below.alloc ?_ (by first | omega | (simp; omega) | simp) _))) hlt0).trans d0, (Below.cell (B := w0.heap.size) (w := w0) (p := ⟨w.heap.size, 1, none⟩) (by repeat (first | with_reducible exact Below.refl _ _ | with_reducible apply Below.drew | (refine Below.alloc ?_ (by first | omega | (simp; omega) | simp) _))) hlt0).trans d1⟩) (first | (go_at_call 298; refine (HNZ.out _ HB0.out.drew).mono ?_; rintro e w1 ⟨rfl, rfl⟩) | (go_at_call 299; refine (rows_any _ _ _).mono ?_; rintro e w1 ⟨rfl, rfl⟩))
  generalize hw3 : (w0.alloc (.cells #[.int .i64 (m : Nat), .int .i64 (d : Nat)] 379)).drew = w3;have HB3 : Hid (Below w.heap.size w w3) := (by show Below _ _ _; rw [<- hw3]; exact (HB0.out.alloc (by omega) _).drew);have hs3 : w3.heap.size = w0.heap.size + 1 := (by rw [<- hw3]; simp);have e0 : w3.cell? ⟨w.heap.size, 0, none⟩ = some (.int .i64 (m : Nat)) := (by rw [<- hw3]; exact (Below.cell (B := w0.heap.size) (w := w0) (p := ⟨w.heap.size, 0, none⟩) ((Below.refl _ _).alloc (Nat.le_refl _) _).drew hlt0).trans d0);have e1 : w3.cell? ⟨w.heap.size, 1, none⟩ = some (.int .i64 (d : Nat)) := (by rw [<- hw3]; exact (Below.cell (B := w0.heap.size) (w := w0) (p := ⟨w.heap.size, 1, none⟩) ((Below.refl _ _).alloc (Nat.le_refl _) _).drew hlt0).trans d1);have hsz3 := HB3.out.size;clear hw3 d0 d1 HB0 HNZ HBO
  by_cases hc : 4 * z < m
  · have hc2 : (4 : Int) * (z : Int) < (m : Int) := (by omega);go_wp2_with fail
    refine (HSP.out _ HB3.out).mono ?_;rintro e w4 ⟨v4, rfl, hS4, hb4⟩;obtain ⟨sb, vc4, rfl, h1, h2⟩ := hS4
    have HF : Hid (ColV w4 w.heap.size (.iface 380 (.pointer (some ⟨sb, 0, none⟩))) N g /\ Below w.heap.size w w4) := by
      refine ⟨HCV.out w4 _ (.inl ⟨hc, _, rfl, sb, vc4, rfl, by omega, h2.blk, ?_⟩), HB3.out.trans (hb4.mono hsz3)⟩;have hr := h2.row;refine ⟨hr.1, ?_⟩
      rcases hr.2 with hn | ⟨g, cap, cur, e, hg, r⟩
      exact .inl hn;exact .inr ⟨g, cap, cur, e, by omega, r⟩
    clear h1 h2 hb4 HSP HDE HCV;go_wp2;go_ret;exact ⟨_, rfl, HF.out.1, HF.out.2⟩
  have hc2 : ¬ (4 : Int) * (z : Int) < (m : Int) := (by omega);go_wp2_with fail
  refine (HDE.out _ HB3.out).mono ?_;rintro e w4 ⟨v4, rfl, hS4, hb4⟩;obtain ⟨db, q, rfl, h1, h2⟩ := hS4
  have HF : Hid (ColV w4 w.heap.size (.iface 382 (.pointer (some ⟨db, 0, none⟩))) N g /\ Below w.heap.size w w4) := by
    refine ⟨HCV.out w4 _ (.inr ⟨hc, _, rfl, db, q, rfl, by omega, h2.blk, ?_⟩), HB3.out.trans (hb4.mono hsz3)⟩;have hr := h2.row;refine ⟨hr.1, ?_⟩
    rcases hr.2 with hn | ⟨g, cap, cur, e, hg, r⟩
    exact .inl hn;exact .inr ⟨g, cap, cur, e, by omega, r⟩
  clear h1 h2 hb4 HSP HDE HCV;go_wp2;go_ret;exact ⟨_, rfl, HF.out.1, HF.out.2⟩
end Go.Proofs.YtfcgnpchbcmdeaaGreat

namespace Go.Proofs.YtfcgnpchbcmdeaaGreat
open Go.RowKit
structure XS where
  row : Nat
  f : Nat
  bin : Nat
structure BS where
  fs : List Nat
  N : List Nat
  g : Nat
structure DSS where
  ks : List KS
  bs : List BS
  xs : List XS
def cellsX (x : XS) : List Value := [.int .i64 (x.row : Nat), .int .i64 (x.f : Nat), .int .i64 (x.bin : Nat)]
def flatX : List XS -> List Value
  | [] => []
  | x :: L => cellsX x ++ flatX L
theorem flatX_append (a b : List XS) : flatX (a ++ b) = flatX a ++ flatX b := by
  induction a with
  | nil => rfl
  | cons e L ih => simp [flatX, ih]
theorem flatX_len (L : List XS) : (flatX L).length = L.length * 3 := by
  induction L with
  | nil => rfl
  | cons e L ih => simp [flatX, cellsX, ih]; omega
theorem info184 : (Tryz.prog.info? 184).map (fun i => (i.zero, i.size, i.bytes)) = some (some (.agg #[.int .i64 0, .int .i64 0, .int .i64 0]), 3, 24) := by kernel_rfl
theorem info163 : (Tryz.prog.info? 163).map (fun i => (i.zero, i.size, i.bytes)) = some (some (.agg #[.slice none 0 0, .nilIface]), 2, 40) := by kernel_rfl
def OwnX (w : World) (base : Nat) (v : Value) (L : List XS) : Prop := w.ownsRow base 184 3 v L.length (flatX L)
theorem OwnX.more {w : World} {base : Nat} {v : Value} {L : List XS} {x : XS} (h : w.ownsRow base 184 3 v (L.length + 1) (flatX L ++ cellsX x)) : OwnX w base v (L ++ [x]) := by
  unfold OwnX;rw [flatX_append, List.length_append]
  simpa [flatX] using h
theorem OwnX.shape {w : World} {base : Nat} {v : Value} {L : List XS} (h : OwnX w base v L) : ∃ a c, v = .slice a L.length c := by
  rcases h.2 with ⟨rfl, h0⟩ | ⟨q, p, cur, rfl, _⟩
  exact ⟨none, 0, by rw [h0]⟩;exact ⟨_, _, rfl⟩
def STy (S : Nat -> Prop) (w : World) : Prop := ∀ k cur ty, w.heap[k]? = some (.cells cur ty (0, 0)) -> S k -> ty = 168 ∨ ty = 163 ∨ ty = 184
theorem STy.row {S : Nat -> Prop} {w : World} (h : STy S w) {base e size n : Nat} {v : Value} {xs : List Value} (hr : w.ownsRow base e size v n xs) (h1 : e ≠ 168) (h2 : e ≠ 163) (h3 : e ≠ 184) : ∀ k, v.ownBlock = some k -> ¬ S k := fun k hk hs => by
  obtain ⟨cur, hc⟩ := row_type hr hk
  rcases h k cur e hc hs with e1 | e1 | e1
  exact h1 e1;exact h2 e1;exact h3 e1
theorem STy.at {S : Nat -> Prop} {w : World} (h : STy S w) {k ty : Nat} {cur : Array Value} (hc : w.heap[k]? = some (.cells cur ty (0, 0))) (h1 : ty ≠ 168) (h2 : ty ≠ 163) (h3 : ty ≠ 184) : ¬ S k := fun hs => by
  rcases h k cur ty hc hs with e1 | e1 | e1
  exact h1 e1;exact h2 e1;exact h3 e1
theorem DenV.touch {S : Nat -> Prop} {w w' : World} {base : Nat} {v : Value} {n d : Nat} {bs : List Int} (h : DenV w base v n d bs) (t : Touch S w w') (hs : STy S w) : DenV w' base v n d bs := by obtain ⟨db, q, e, hb, hX⟩ := h;exact ⟨db, q, e, hb, t.at_ hX.blk (hs.at hX.blk (by decide) (by decide) (by decide)), t.row hX.row (hs.row hX.row (by decide) (by decide) (by decide))⟩
theorem SpaV.touch {S : Nat -> Prop} {w w' : World} {base : Nat} {v : Value} {n d : Nat} {L : List (Nat × Nat)} (h : SpaV w base v n d L) (t : Touch S w w') (hs : STy S w) : SpaV w' base v n d L := by obtain ⟨db, q, e, hb, hX⟩ := h;exact ⟨db, q, e, hb, t.at_ hX.blk (hs.at hX.blk (by decide) (by decide) (by decide)), t.row hX.row (hs.row hX.row (by decide) (by decide) (by decide))⟩
theorem ColV.touch {S : Nat -> Prop} {w w' : World} {base : Nat} {v : Value} {N : List Nat} {g : Nat} (h : ColV w base v N g) (t : Touch S w w') (hs : STy S w) : ColV w' base v N g := by
  rcases h with ⟨h1, p, e, h2⟩ | ⟨h1, p, e, h2⟩
  exact .inl ⟨h1, p, e, h2.touch t hs⟩;exact .inr ⟨h1, p, e, h2.touch t hs⟩
theorem STy.none (w : World) : STy (fun _ => False) w := fun _ _ _ _ h => h.elim
theorem ColV.below {w w' : World} {base : Nat} {v : Value} {N : List Nat} {g : Nat} (h : ColV w base v N g) (hb : Below w.heap.size w w') : ColV w' base v N g := h.touch (Touch.of_below hb) (STy.none w)
theorem ColV.zero {w : World} {base : Nat} {v : Value} {N : List Nat} {g : Nat} (h : ColV w base v N g) : ColV w 0 v N g := by
  rcases h with ⟨h1, p, e, sb, vc, e2, hb, hX⟩ | ⟨h1, p, e, db, q, e2, hb, hX⟩
  · refine .inl ⟨h1, p, e, sb, vc, e2, Nat.zero_le _, hX.blk, hX.row.1, ?_⟩
    rcases hX.row.2 with hn | ⟨g, cap, cur, e, hg, r⟩
    exact .inl hn;exact .inr ⟨g, cap, cur, e, Nat.zero_le _, r⟩
  refine .inr ⟨h1, p, e, db, q, e2, Nat.zero_le _, hX.blk, hX.row.1, ?_⟩
  rcases hX.row.2 with hn | ⟨g, cap, cur, e, hg, r⟩
  exact .inl hn;exact .inr ⟨g, cap, cur, e, Nat.zero_le _, r⟩
theorem ColV.iface {w : World} {base : Nat} {v : Value} {N : List Nat} {g : Nat} (h : ColV w base v N g) : ∃ t p, v = .iface t (.pointer (some ⟨p, 0, none⟩)) := by
  rcases h with ⟨_, p, e, sb, vc, e2, _⟩ | ⟨_, p, e, db, q, e2, _⟩
  exact ⟨380, sb, by rw [e, e2]⟩;exact ⟨382, db, by rw [e, e2]⟩
def b0S : BS := ⟨[], [], 0⟩
def flatBu : List (Value × Value) -> List Value
  | [] => []
  | v :: L => [v.1, v.2] ++ flatBu L
theorem flatBu_append (a b : List (Value × Value)) : flatBu (a ++ b) = flatBu a ++ flatBu b := by
  induction a with
  | nil => rfl
  | cons e L ih => simp [flatBu, ih]
structure BunX (w : World) (vB : Value) (vs : List (Value × Value)) (Bs : List BS) : Prop where
  row : w.ownsRow 0 163 2 vB Bs.length (flatBu vs)
  len : vs.length = Bs.length
  each : ∀ i, i < Bs.length -> OwnI w 0 (vs.getD i vv0).1 (natI (Bs.getD i b0S).fs) /\ ColV w 0 (vs.getD i vv0).2 (Bs.getD i b0S).N (Bs.getD i b0S).g
def rowN (off : Nat) (O : List Bool) (B N : List Nat) (r : Nat) : Nat := if O.getD r false = true /\ N.getD r 0 = 0 then off + B.getD r 0 else N.getD r 0
def rowX (f : Nat) (O : List Bool) (B N : List Nat) (r : Nat) : List XS := if O.getD r false = true /\ N.getD r 0 ≠ 0 then [⟨r, f, B.getD r 0⟩] else []
def putN (off : Nat) (O : List Bool) (B N : List Nat) (k : Nat) : List Nat := (List.range k).map (rowN off O B N) ++ N.drop k
def putX (f : Nat) (O : List Bool) (B N : List Nat) : Nat -> List XS
  | 0 => []
  | k + 1 => putX f O B N k ++ rowX f O B N k
theorem putN_len (off : Nat) (O : List Bool) (B N : List Nat) {k : Nat} (h : k <= N.length) : (putN off O B N k).length = N.length := by simp [putN]; omega
theorem putN_zero (off : Nat) (O : List Bool) (B N : List Nat) : putN off O B N 0 = N := by simp [putN]
theorem putN_at (off : Nat) (O : List Bool) (B N : List Nat) {k : Nat} : (putN off O B N k).getD k 0 = N.getD k 0 := by simp [putN, List.getD, List.getElem?_append_right]
theorem putN_set (off : Nat) (O : List Bool) (B N : List Nat) {k : Nat} (h : k < N.length) : (putN off O B N k).set k (rowN off O B N k) = putN off O B N (k + 1) := by unfold putN;rw [List.drop_eq_getElem_cons h, List.set_append_right _ _ (by simp), List.length_map, List.length_range, Nat.sub_self, List.set_cons_zero, List.range_succ, List.map_append, List.append_assoc];rfl
theorem putN_same (off : Nat) (O : List Bool) (B N : List Nat) {k : Nat} (h : k < N.length) (e : rowN off O B N k = N.getD k 0) : putN off O B N (k + 1) = putN off O B N k := by
  rw [<- putN_set off O B N h, e];apply List.ext_getElem;simp;intro i h1 h2;rw [List.getElem_set]
  by_cases ei : k = i
  subst ei;rw [if_pos rfl];have := putN_at off O B N (k := k);rw [<- this];simp [List.getD, h2];rw [if_neg ei]
theorem putX_len (f : Nat) (O : List Bool) (B N : List Nat) : ∀ k, (putX f O B N k).length <= k
  | 0 => by simp [putX]
  | k + 1 => by have := putX_len f O B N k;simp only [putX, rowX];split;simp; omega;simp; omega
structure CS where
  N : List Nat
  xs : List XS
  off : Nat
def colStep (Ks : List KS) (Os : List (List Bool)) (Bb : List (List Nat)) (n : Nat) (s : CS) (f : Nat) : CS :=
  ⟨putN s.off (Os.getD f []) (Bb.getD f []) s.N n, s.xs ++ putX f (Os.getD f []) (Bb.getD f []) s.N n, s.off + (Ks.getD f k0S).many⟩
def colF (Ks : List KS) (Os : List (List Bool)) (Bb : List (List Nat)) (n : Nat) (xs : List XS) (fs : List Nat) : CS := fs.foldl (colStep Ks Os Bb n) ⟨List.replicate n 0, xs, 1⟩
def addB (Os : List (List Bool)) (Bb : List (List Nat)) (n : Nat) (D : DSS) (G : GS) : DSS :=
  ⟨D.ks, D.bs ++ [⟨G.fs, (colF D.ks Os Bb n D.xs G.fs).N, (colF D.ks Os Bb n D.xs G.fs).off - 1⟩], (colF D.ks Os Bb n D.xs G.fs).xs⟩
end Go.Proofs.YtfcgnpchbcmdeaaGreat

namespace Go.Proofs.YtfcgnpchbcmdeaaGreat
open Go.RowKit
def e0S : ES := ⟨false, [], []⟩
def vvv0 : Value × Value × Value := (.slice none 0 0, .slice none 0 0, .slice none 0 0)
def cellsBd (e : ES) (v : Value × Value × Value) : List Value := [.bool e.wd, v.1, v.2.1, v.2.2]
def flatBd : List ES -> List (Value × Value × Value) -> List Value
  | [], _ => []
  | _ :: _, [] => []
  | k :: Ks, v :: vs => cellsBd k v ++ flatBd Ks vs
theorem flatBd_get : ∀ (Ks : List ES) (vs : List (Value × Value × Value)), vs.length = Ks.length -> ∀ i, i < Ks.length -> ∀ c, c < 4 -> (flatBd Ks vs)[i * 4 + c]? = (cellsBd (Ks.getD i e0S) (vs.getD i vvv0))[c]?
  | [], _, _, i, h => by simp at h
  | k :: Ks, [], h, _, _ => by simp at h
  | k :: Ks, v :: vs, _, 0, _ => fun c hc => by simp only [flatBd];rw [show 0 * 4 + c = c by omega, List.getElem?_append_left (by simpa [cellsBd] using hc)]; rfl
  | k :: Ks, v :: vs, h, i + 1, hi => fun c hc => by simp only [flatBd];rw [List.getElem?_append_right (by simp [cellsBd]; omega), show (i + 1) * 4 + c - (cellsBd k v).length = i * 4 + c by simp [cellsBd]; omega];exact flatBd_get Ks vs (by simpa using h) i (by simpa using hi) c hc
structure BndX (w : World) (vF : Value) (vs : List (Value × Value × Value)) (es : List ES) (Bb : List (List Nat)) : Prop where
  row : w.ownsRow 0 266 4 vF es.length (flatBd es vs)
  len : vs.length = es.length
  each : ∀ i, i < es.length -> OwnI w 0 (vs.getD i vvv0).1 (es.getD i e0S).bs /\ OwnS w 0 (vs.getD i vvv0).2.1 (es.getD i e0S).ww /\ OwnI w 0 (vs.getD i vvv0).2.2 (natI (Bb.getD i []))
theorem BndX.touch {S : Nat -> Prop} {w w' : World} {vF : Value} {vs : List (Value × Value × Value)} {es : List ES} {Bb : List (List Nat)} (h : BndX w vF vs es Bb) (t : Touch S w w') (hs : STy S w) : BndX w' vF vs es Bb :=
  ⟨t.row h.row (hs.row h.row (by decide) (by decide) (by decide)), h.len, fun i hi => ⟨t.row (h.each i hi).1 (hs.row (h.each i hi).1 (by decide) (by decide) (by decide)), t.row (h.each i hi).2.1 (hs.row (h.each i hi).2.1 (by decide) (by decide) (by decide)), t.row (h.each i hi).2.2 (hs.row (h.each i hi).2.2 (by decide) (by decide) (by decide))⟩⟩
theorem BndX.below {w w' : World} {vF : Value} {vs : List (Value × Value × Value)} {es : List ES} {Bb : List (List Nat)} (h : BndX w vF vs es Bb) (hb : Below w.heap.size w w') : BndX w' vF vs es Bb := h.touch (Touch.of_below hb) (STy.none w)
theorem BndX.cells {w : World} {q n c : Nat} {vs : List (Value × Value × Value)} {es : List ES} {Bb : List (List Nat)} (h : BndX w (.slice (some ⟨q, 0, none⟩) n c) vs es Bb) {i : Nat} (hi : i < es.length) : q < w.heap.size /\ w.cell? ⟨q, i * 4, none⟩ = some (.bool (es.getD i e0S).wd) /\ w.cell? ⟨q, i * 4 + 1, none⟩ = some (vs.getD i vvv0).1 /\ w.cell? ⟨q, i * 4 + 2, none⟩ = some (vs.getD i vvv0).2.1 /\ w.cell? ⟨q, i * 4 + 3, none⟩ = some (vs.getD i vvv0).2.2 := by
  have hr := h.row
  rcases h.row.2 with ⟨_, h0⟩ | ⟨g, cap, cur, e, hb, hh, hnc, _⟩
  omega;injection e with e1 e2 e3;injection e1 with e1;injection e1 with e1 _;subst e1 e2
  have key : ∀ c u, c < 4 -> (cellsBd (es.getD i e0S) (vs.getD i vvv0))[c]? = some u -> w.cell? ⟨q, i * 4 + c, none⟩ = some u := fun c u hc hu => by rw [World.ownsRow.cellAt hr (i * 4 + c) (by omega)];exact (flatBd_get es vs h.len i hi c hc).trans hu
  exact ⟨(Array.getElem?_eq_some_iff.1 hh).1, key 0 _ (by omega) rfl, key 1 _ (by omega) rfl, key 2 _ (by omega) rfl, key 3 _ (by omega) rfl⟩
theorem KnsX.touchS {S : Nat -> Prop} {w w' : World} {vK : Value} {vs : List (Value × Value)} {Ks : List KS} (h : KnsX w vK vs Ks) (t : Touch S w w') (hs : STy S w) : KnsX w' vK vs Ks :=
  h.touch t (fun k cur ty hk hty => hs.at hk (by rcases hty with e | e | e <;> rw [e] <;> decide) (by rcases hty with e | e | e <;> rw [e] <;> decide) (by rcases hty with e | e | e <;> rw [e] <;> decide))
theorem OutsX.touchS {S : Nat -> Prop} {w w' : World} {vO : Value} {vs : List Value} {Os : List (List Bool)} (h : OutsX w vO vs Os) (t : Touch S w w') (hs : STy S w) : OutsX w' vO vs Os :=
  h.touch t (fun k cur ty hk hty => hs.at hk (by rcases hty with e | e <;> rw [e] <;> decide) (by rcases hty with e | e <;> rw [e] <;> decide) (by rcases hty with e | e <;> rw [e] <;> decide))
structure DsX (w : World) (db : Nat) (vK vB vX : Value) (bvs : List (Value × Value)) (bs : List BS) (xs : List XS) : Prop where
  blk : w.heap[db]? = some (.cells #[vK, vB, vX] 168 (0, 0))
  bn : BunX w vB bvs bs
  xn : OwnX w 0 vX xs
def DsS (db : Nat) (vB vX : Value) : Nat -> Prop := fun k => k = db ∨ vB.ownBlock = some k ∨ vX.ownBlock = some k
theorem DsX.sty {w : World} {db : Nat} {vK vB vX : Value} {bvs : List (Value × Value)} {bs : List BS} {xs : List XS} (h : DsX w db vK vB vX bvs bs xs) : STy (DsS db vB vX) w := fun k cur ty hk hs => by
  rcases hs with e | e | e
  subst e;rw [h.blk] at hk;simp at hk;exact .inl hk.2.symm;obtain ⟨c2, hc⟩ := row_type h.bn.row e;rw [hc] at hk;simp at hk;exact .inr (.inl hk.2.symm);obtain ⟨c2, hc⟩ := row_type h.xn e;rw [hc] at hk;simp at hk;exact .inr (.inr hk.2.symm)
theorem BunX.touch {S : Nat -> Prop} {w w' : World} {vB : Value} {vs : List (Value × Value)} {Bs : List BS} (h : BunX w vB vs Bs) (t : Touch S w w') (hr : ∀ k, vB.ownBlock = some k -> ¬ S k) (hs : STy S w) : BunX w' vB vs Bs :=
  ⟨t.row h.row hr, h.len, fun i hi => ⟨t.row (h.each i hi).1 (hs.row (h.each i hi).1 (by decide) (by decide) (by decide)), (h.each i hi).2.touch t hs⟩⟩
theorem BunX.below {w w' : World} {vB : Value} {vs : List (Value × Value)} {Bs : List BS} (h : BunX w vB vs Bs) (hb : Below w.heap.size w w') : BunX w' vB vs Bs := h.touch (S := fun _ => False) (Touch.of_below hb) (fun _ _ => id) (STy.none w)
theorem DsX.below {w w' : World} {db : Nat} {vK vB vX : Value} {bvs : List (Value × Value)} {bs : List BS} {xs : List XS} (h : DsX w db vK vB vX bvs bs xs) (hb : Below w.heap.size w w') : DsX w' db vK vB vX bvs bs xs :=
  ⟨(hb.block db (Array.getElem?_eq_some_iff.1 h.blk).1).trans h.blk, h.bn.below hb, (Touch.of_below (S := fun _ => False) hb).row h.xn (fun _ _ => id)⟩
theorem DsX.more {w w' : World} {db : Nat} {vK vB vX vX' : Value} {bvs : List (Value × Value)} {bs : List BS} {xs xs' : List XS} (h : DsX w db vK vB vX bvs bs xs) (hg : w.grownBy w' vX.ownBlock) (hx : OwnX w' 0 vX' xs') : DsX (w'.setCell ⟨db, 2, none⟩ vX') db vK vB vX' bvs bs xs' := by
  have t : Touch (fun k => vX.ownBlock = some k) w w' := (Touch.refl _ w).grown hg (fun k hk _ => hk);have hst : STy (fun k => vX.ownBlock = some k) w := fun k cur ty hk hs => h.sty k cur ty hk (.inr (.inr hs))
  have hblk : w'.heap[db]? = some (.cells #[vK, vB, vX] 168 (0, 0)) := t.at_ h.blk (fun e => by
    obtain ⟨c, hc⟩ := row_type h.xn e;have := h.blk;rw [hc] at this
    simp at this)
  have hbn : BunX w' vB bvs bs := h.bn.touch t (fun k hk hk2 => by
    obtain ⟨c, hc⟩ := row_type h.xn hk2;obtain ⟨c2, hc2⟩ := row_type h.bn.row hk;rw [hc] at hc2
    simp at hc2) hst
  have t2 : Touch (fun k => k = db) w' (w'.setCell ⟨db, 2, none⟩ vX') := (Touch.refl (fun k => k = db) w').setCell (p := ⟨db, 2, none⟩) (fun _ => rfl) vX'
  have hst2 : STy (fun k => k = db) w' := fun k cur ty hk hs => by subst hs;rw [hblk] at hk;simp at hk;exact .inl hk.2.symm
  refine ⟨heap_setCell_same _ db 2 _ 168 _ hblk, hbn.touch t2 (fun k hk e => ?_) hst2, own_put' hx hblk (by decide)⟩;subst e;obtain ⟨c2, hc2⟩ := row_type hbn.row hk;rw [hblk] at hc2;simp at hc2
theorem natI_set (N : List Nat) (k x : Nat) : (natI N).set k (x : Int) = natI (N.set k x) := by simp [natI, List.map_set]
end Go.Proofs.YtfcgnpchbcmdeaaGreat
