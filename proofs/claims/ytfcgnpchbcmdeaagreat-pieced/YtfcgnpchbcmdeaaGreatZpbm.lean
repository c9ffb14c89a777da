import Derived.Test.YtfcgnpchbcmdeaaGreatZpbj
import Derived.Test.YtfcgnpchbcmdeaaGreatZpao
import Derived.Test.YtfcgnpchbcmdeaaGreatZpaq
import Derived.Deep.RegionHeld3
namespace Go.Proofs.YtfcgnpchbcmdeaaGreat
open Go.RowKit
theorem boundsB_sub (tot bins : Int) : ∀ (M : List Ent) (share : Int), (boundsB tot bins share M).Sublist (M.map fun e => e.v)
  | [], _ => by simp [boundsB]
  | e :: r, share => by unfold boundsB;split;exact List.Sublist.cons_cons _ (boundsB_sub tot bins r _);exact (boundsB_sub tot bins r _).cons _
theorem boundsB_len {tot bins B : Int} : ∀ (M : List Ent) (share : Int), (∀ e ∈ M, shareR bins tot e.hi <= B) -> share <= B + 1 -> ((boundsB tot bins share M).length : Int) <= B + 1 - share
  | [], share, _, h => by simp [boundsB]; omega
  | e :: r, share, hB, h => by have h1 := hB e (by simp);have hr := fun x hx => hB x (List.mem_cons_of_mem e hx);unfold boundsB;split;have := boundsB_len r (shareR bins tot e.hi + 1) hr (by omega);simp only [List.length_cons];omega;exact boundsB_len r share hr h
theorem boundsL_sub (L : List Ent) (bins : Int) : (boundsL L bins).Sublist ((L.take (L.length - 1)).map fun e => e.v) := by unfold boundsL;split;simp;split;exact List.Sublist.refl _;exact boundsB_sub _ _ _ _
theorem boundsL_rise {L : List Ent} (g : Good L) (bins : Int) : (boundsL L bins).Pairwise (· < ·) := by refine List.Pairwise.sublist ((boundsL_sub L bins).trans ((List.take_sublist _ _).map _)) ?_;rw [List.pairwise_map];exact g.step.imp fun h => h.1
theorem boundsL_len {L : List Ent} (g : Good L) {bins : Int} (hb : 2 <= bins) : ((boundsL L bins).length : Int) < bins := by
  unfold boundsL;split;simp; omega;rename_i h0;split;rename_i hle;simp; omega;have hl := g.at (i := L.length - 1) (by omega);have htot : totalL L = (L.getD (L.length - 1) e0).hi := (by unfold totalL; rw [if_neg h0]);have := boundsB_len (tot := totalL L) (bins := bins) (B := bins - 1) (L.take (L.length - 1)) 1 (fun e he => ?_) (by omega);omega;obtain ⟨k, hk, rfl⟩ := mem_getD he;rw [List.length_take] at hk;have hk2 : k < L.length - 1 := (by omega);have ek : (L.take (L.length - 1)).getD k e0 = L.getD k e0 := (by simp [List.getD, hk2, show k < L.length by omega]);rw [ek];have hs := (g.lt (i := k) (j := L.length - 1) hk2 (by omega)).2.2;unfold shareR;have h1 : bins * (L.getD k e0).hi < bins * totalL L := Int.mul_lt_mul_of_pos_left (by omega) (by omega);have h2 : bins * (L.getD k e0).hi / totalL L < bins := Int.ediv_lt_of_lt_mul (by omega) h1;omega
theorem learnB_ok (L : List VS) (ws : List Int) {bins : Int} {size : Nat} (hL : L.length <= 200) (hs : 2 <= size) (hs2 : size <= 32) (hb : 2 <= bins) : (learnB L ws bins size).Pairwise (· < ·) /\ ((learnB L ws bins size).length : Int) < bins := by have hl : ((keepN L ws).map Prod.fst).length <= 2097152 := (by have := keepN_len L ws; simp; omega);have g := (inBlocks_ok hs hs2 ((keepN L ws).map Prod.fst) ((keepN L ws).map Prod.snd) hl).1;exact ⟨boundsL_rise g bins, boundsL_len g hb⟩
structure RVal (n : Nat) (s : RS) : Prop where
  ws : ∀ z ∈ s.ws, 0 <= z /\ z <= 99
  row : ∀ v ∈ s.row, (-1000000000 <= v.num /\ v.num <= 1000000000) /\ v.word.size <= 8
  col : ∀ i, i < n -> ∀ v ∈ s.cols i, (-1000000000 <= v.num /\ v.num <= 1000000000) /\ v.word.size <= 8
theorem RVal.start (n : Nat) : RVal n RS.start := ⟨by simp [RS.start], by simp [RS.start], by simp [RS.start]⟩
theorem NumOk.of {p : PartS} (h : NumOk p) {bs : List Int} (hb : bs.length <= 8) : (-1000000000 <= (valOf p bs).num /\ (valOf p bs).num <= 1000000000) /\ (valOf p bs).word.size <= 8 := by have h1 := h.le;have h2 := h.n0;refine ⟨?_, ?_⟩;show -1000000000 <= numOf p /\ numOf p <= 1000000000;unfold numOf;split <;> omega;show (strOfNums bs).size <= 8;have : (strOfNums bs).size = bs.length := (by simp [strOfNums, ByteArray.size]);omega
theorem RVal.take {n : Nat} {wd : Nat -> Bool} {sc : Nat -> Int} {s s' : RS} {c : Int} (h : RVal n s) (hI : RInv n s) (ht : rtake n wd sc s c = .ok s') : RVal n s' := by
  unfold rtake at ht;split at ht
  · cases ht
  split at ht
  · split at ht
    · cases ht
    injection ht with ht; subst ht; exact ⟨h.ws, h.row, h.col⟩;injection ht with ht; subst ht; exact ⟨h.ws, h.row, h.col⟩
  split at ht;injection ht with ht; subst ht; exact ⟨h.ws, h.row, h.col⟩;split at ht
  · injection ht with ht; subst ht
    have hrow : ∀ v ∈ s.row ++ [valOf s.p s.bs], (-1000000000 <= v.num /\ v.num <= 1000000000) /\ v.word.size <= 8 := fun v hv => by
      rcases List.mem_append.1 hv with e | e
      exact h.row v e;simp only [List.mem_singleton] at e;rw [e]; exact hI.num.of hI.bs
    unfold rowEnd;split
    · refine ⟨fun z hz => ?_, by simp, fun i hi v hv => ?_⟩
      · rcases List.mem_append.1 hz with e | e
        exact h.ws z e;simp only [List.mem_singleton] at e;rw [e]; exact ⟨hI.wt0, hI.wt1⟩
      simp only [hi, if_true] at hv
      rcases List.mem_append.1 hv with e | e
      exact h.col i hi v e;simp only [List.mem_singleton] at e;rw [e];rename_i hl;have hil : i < (s.row ++ [valOf s.p s.bs]).length := (by rw [hl]; exact hi);rw [List.getD_eq_getElem?_getD, List.getElem?_eq_getElem hil];exact hrow _ (List.getElem_mem _)
    exact ⟨h.ws, hrow, h.col⟩
  cases ht
theorem RVal.takes {n : Nat} {wd : Nat -> Bool} {sc : Nat -> Int} (hn : 1 <= n) (hsc : ∀ i, i < n -> wd i = false -> 0 <= sc i /\ sc i <= 3) : ∀ (l : List Int) {s s' : RS} {k : Nat}, RVal n s -> RInv n s -> rtakes n wd sc s l k = .ok s' -> RVal n s'
  | [], s, s', k, h, _, e => by injection e with e; subst e; exact h
  | c :: l, s, s', k, h, hI, e => by
    simp only [rtakes] at e
    cases ht : rtake n wd sc s c with
    | error z => rw [ht] at e; cases e
    | ok s1 => rw [ht] at e; exact RVal.takes hn hsc l (h.take hI ht) (hI.take hn hsc ht) e
structure LwFine (lw : List VS -> List Int -> Int -> Int -> ES) : Prop where
  ok : LwOk lw
  fine : ∀ (L : List VS) (ws : List Int) (ct bins : Int), L.length <= 200 -> 2 <= bins -> bins <= 16 -> EdgOk (lw L ws ct bins) /\ (lw L ws ct bins).wd = true /\ (lw L ws ct bins).cnt <= 16
theorem closeOk_all {lw : List VS -> List Int -> Int -> Int -> ES} {m : Nat} {wd : Nat -> Bool} {sc ct : Nat -> Int} {bins : Int} {size : Nat} {l : List Int} {s : RS} (hlw : (∃ i, i < m + 1 /\ wd i = true) -> LwFine lw) (hsc : ∀ i, i < m + 1 -> wd i = false -> 0 <= sc i /\ sc i <= 3) (hb : 2 <= bins) (hb2 : bins <= 16) (hs : 2 <= size) (hs2 : size <= 32) (h : rtakes (m + 1) wd sc RS.start l 0 = .ok s) : CloseOk lw m wd ct bins size s := by
  have hI := RInv.takes (by omega) hsc l (RInv.start (show 1 <= m + 1 by omega)) h;have hV := RVal.takes (by omega) hsc l (RVal.start (m + 1)) (RInv.start (show 1 <= m + 1 by omega)) h;refine ⟨fun hw => (hlw hw).ok, fun i hi => ?_, hV.col, hV.ws⟩;have hl : (s.cols i).length <= 200 := by rw [hI.col i hi]; exact hI.ws
  cases hw : wd i with
  | true =>
    have e : learnE lw true (ct i) bins size (s.cols i) s.ws = lw (s.cols i) s.ws (ct i) bins := (by simp [learnE]);rw [e];exact (hlw ⟨i, hi, hw⟩).fine _ _ _ _ hl hb hb2
  | false =>
    have e : learnE lw false (ct i) bins size (s.cols i) s.ws = ⟨false, learnB (s.cols i) s.ws bins size, []⟩ := (by simp [learnE]);rw [e];obtain ⟨h1, h2⟩ := learnB_ok (s.cols i) s.ws hl hs hs2 hb;refine ⟨⟨h1.imp fun h => by omega, ?_, by simp⟩, rfl, ?_⟩;show (learnB (s.cols i) s.ws bins size).length <= 1000;omega;show cntE false (learnB (s.cols i) s.ws bins size).length 0 <= 16;simp [cntE];omega
end Go.Proofs.YtfcgnpchbcmdeaaGreat

namespace Go.Proofs.YtfcgnpchbcmdeaaGreat
open Go.RowKit
def bH : ByteArray := ⟨#[49, 44, 49, 10, 49, 44, 50, 10]⟩
def noW : Nat -> Bool := fun _ => false
def no0 : Nat -> Int := fun _ => 0
def lwH : List VS -> List Int -> Int -> Int -> ES := fun _ _ _ _ => ⟨false, [], []⟩
def sH : RS := match rtakes 1 noW no0 RS.start (bytesL bH) 0 with
  | .ok s => s
  | .error _ => RS.start
def eH : ES := ⟨false, [1], []⟩
def dH : DSS := ⟨[⟨eH, 0⟩], [⟨[0], [0, 2], 3⟩], []⟩
def outH : List Int := [71, 82, 2, 1, 110, 0, 1, 1, 0, 0, 0, 1, 1, 0, 100, 8, 0, 0]
theorem readH : rtakes 1 noW no0 RS.start (bytesL bH) 0 = .ok sH := by kernel_rfl
theorem sH_wt : sH.wt = 0 := by kernel_rfl
theorem sH_ws : sH.ws = [1, 1] := by kernel_rfl
theorem sH_wd : (sH.cols 0).map (fun v => v.word.size) = [0, 0] := by kernel_rfl
theorem sH_num : (sH.cols 0).map VS.num = [1, 2] := by kernel_rfl
theorem learnH : learnE lwH false 0 2 2 (sH.cols 0) sH.ws = eH := by kernel_rfl
theorem binH : (sH.cols 0).map (binS eH) = [0, 1] := by kernel_rfl
theorem madeH : makeF 0 2 0 [eH] [[0, 1]] = dH := by kernel_rfl
theorem outH_eq : outF dH [] = outH := by kernel_rfl
theorem bytesH : bytesF dH [] = outH ++ [119, 135, 217, 86] := by kernel_rfl
theorem strH : (strOfNums (bytesF dH [])).size = 22 /\ (strOfNums (bytesF dH [])).extract 0 18 = ⟨#[71, 82, 2, 1, 110, 0, 1, 1, 0, 0, 0, 1, 1, 0, 100, 8, 0, 0]⟩ := by rw [bytesH];exact ⟨by kernel_rfl, by kernel_rfl⟩
theorem summ1 : rankL 0 (sumOf (pairsOf [5, 3, 5] [1, 2, 4])) = [⟨3, 0, 2, 2⟩, ⟨5, 2, 7, 5⟩] := by kernel_rfl
theorem summ2 : rankL 0 (sumOf (pairsOf [4] [1])) = [⟨4, 0, 1, 1⟩] := by kernel_rfl
theorem joinH : joinL [⟨3, 0, 2, 2⟩, ⟨5, 2, 7, 5⟩] [⟨4, 0, 1, 1⟩] = [⟨3, 0, 2, 2⟩, ⟨4, 2, 3, 1⟩, ⟨5, 3, 8, 5⟩] := by kernel_rfl
theorem closeH : CloseOk lwH 0 noW no0 2 2 sH := by refine ⟨(fun ⟨i, _, h⟩ => absurd h (by simp [noW])), fun i hi => ?_, fun i hi v hv => ?_, fun z hz => ?_⟩;obtain rfl : i = 0 := (by omega);rw [show learnE lwH (noW 0) (no0 0) 2 2 (sH.cols 0) sH.ws = eH from learnH];exact ⟨⟨by decide, by decide, by decide⟩, rfl, by decide⟩;obtain rfl : i = 0 := (by omega);have hm : v.num ∈ (sH.cols 0).map VS.num := List.mem_map.2 ⟨v, hv, rfl⟩;have hm2 : v.word.size ∈ (sH.cols 0).map (fun v => v.word.size) := List.mem_map.2 ⟨v, hv, rfl⟩;rw [sH_num] at hm;rw [sH_wd] at hm2;simp only [List.mem_cons, List.not_mem_nil, or_false, or_self] at hm hm2;omega;rw [sH_ws] at hz;simp at hz;omega
theorem knH : ∀ K ∈ dH.ks, KnOk K := by intro K hK;simp [dH] at hK;subst hK;exact .inl ⟨rfl, rfl, by decide, by decide⟩
theorem bunH : ∀ b ∈ dH.bs, BunOk b := by intro b hb;simp [dH] at hb;subst hb;refine ⟨by decide, by decide, ⟨by decide, by decide⟩, by decide, by decide⟩
theorem byH : ∀ b ∈ outF dH [], 0 <= b /\ b < 256 := by rw [outH_eq]; decide
theorem seatH : SeatOk dH 0 0 0 := by refine ⟨by decide, by decide, by decide, fun i j hi hj h => ?_, fun i hi => ?_, fun i j hi hj => ?_, fun i hi => ?_⟩;omega;obtain rfl : i = 0 := (by omega);decide;obtain rfl : i = 0 := (by omega);obtain rfl : j = 0 := (by have : (dH.bs.getD 0 b0S).fs.length = 1 := rfl; omega);decide;obtain rfl : i = 0 := (by have : dH.ks.length = 1 := rfl; omega);decide
theorem fedH (w : World) (fk fc : Nat) (hF : Feats w fk 0 1 noW no0 no0) : Calls Tryz.prog 25 #[.agg #[.slice (some ⟨fk, 0, none⟩) 1 fc, .int .i64 2, .int .i64 2, .int .i64 0], .string bH, .slice none 0 0] w fun e w' => ∃ gb db, e = .returned (.tuple #[.pointer (some ⟨gb, 0, none⟩), .int .i64 0, .int .i64 0]) /\ OutD w' gb db dH /\ Below w.heap.size w w' := by
  refine (keepFed_any lwH bH fk 0 0 fc 0 0 none [] 2 2 0 noW no0 no0 w hF (by decide) ⟨rfl, by simp, .inl rfl⟩ (by omega) (by decide) (fun s hs _ => ?_)).mono ?_;rw [readH] at hs;injection hs with hs;rw [<- hs]; exact closeH;rintro e w' ⟨hR, hb⟩;rw [readH] at hR
  rcases hR with ⟨h, _⟩ | ⟨_, gb, db, rfl, hO⟩
  exact absurd sH_wt h;refine ⟨gb, db, rfl, ?_, hb⟩;have e1 : (List.range (0 + 1)).map (fun i => learnE lwH (noW i) (no0 i) 2 2 (sH.cols i) sH.ws) = [eH] := (by show [learnE lwH false 0 2 2 (sH.cols 0) sH.ws] = _;rw [learnH]);have e2 : (List.range (0 + 1)).map (fun i => (sH.cols i).map (binS (learnE lwH (noW i) (no0 i) 2 2 (sH.cols i) sH.ws))) = [[0, 1]] := (by show [(sH.cols 0).map (binS (learnE lwH false 0 2 2 (sH.cols 0) sH.ws))] = _;rw [learnH, binH]);have e3 : sH.ws.length = 2 := (by rw [sH_ws]; rfl);rw [e1, e2, e3, madeH] at hO;exact hO
theorem bytesD (w : World) (gb db : Nat) (h : OutD w gb db dH) : Calls Tryz.prog 34 #[.pointer (some ⟨gb, 0, none⟩)] w fun e w' => e = .returned (.string (strOfNums (bytesF dH []))) /\ Below w.heap.size w w' := by obtain ⟨vK, vB, vX, kvs, bvs, X, hX⟩ := h.md;have hp := hX.perm;have hX0 : X = [] := List.Perm.eq_nil (by exact hp);subst hX0;exact gBytes_any gb db vK vB vX kvs bvs [] dH w h.gp hX (by decide) knH (by decide) bunH (by decide) (by decide) byH
theorem lookD (w : World) (gb db : Nat) (h : OutD w gb db dH) : Calls Tryz.prog 44 #[.pointer (some ⟨gb, 0, none⟩), .int .i64 1, .int .i64 0] w fun e w' => e = .returned (.tuple #[.int .i64 1, .int .i64 0]) /\ Below w.heap.size w w' := by refine gLookup_yes gb db 0 1 dH 1 w h (by decide) (by decide) (by decide) (by decide) (by decide) (fun W hW => ?_);obtain ⟨vK, vB, vX, kvs, bvs, X, hX⟩ := hW.md;exact lookup_in db 0 0 0 1 vK vB vX kvs bvs X dH W hX seatH (by decide) (by decide) (by decide) (by decide) (by decide) (by decide) (by decide) (by decide)
end Go.Proofs.YtfcgnpchbcmdeaaGreat

namespace Go.Proofs.YtfcgnpchbcmdeaaGreat
open Go.RowKit
theorem three_ints (W : World) (b : Nat) (x y z : Int) (hx : (Lit.int .i64 x).wf = true /\ (Lit.int .i64 y).wf = true /\ (Lit.int .i64 z).wf = true) (h : W.heap[b]? = some (.cells #[.int .i64 x, .int .i64 y, .int .i64 z] 3 (0, 0))) : IntsV W (some ⟨b, 0, none⟩) 3 [x, y, z] := by
  refine ⟨rfl, fun q hq => ?_, .inr ⟨b, 0, rfl, (Array.getElem?_eq_some_iff.1 h).1, fun i hi => ?_⟩⟩
  · simp at hq
    rcases hq with e | e | e
    rw [e]; exact hx.1;rw [e]; exact hx.2.1;rw [e]; exact hx.2.2
  rw [Nat.zero_add, cell_of_row _ _ i _ 3 (0, 0) h]
  match i, hi with
  | 0, _ => rfl
  | 1, _ => rfl
  | 2, _ => rfl
theorem one_ints (W : World) (b : Nat) (x : Int) (hx : (Lit.int .i64 x).wf = true) (h : W.heap[b]? = some (.cells #[.int .i64 x] 3 (0, 0))) : IntsV W (some ⟨b, 0, none⟩) 1 [x] := by
  refine ⟨rfl, fun q hq => ?_, .inr ⟨b, 0, rfl, (Array.getElem?_eq_some_iff.1 h).1, fun i hi => ?_⟩⟩;simp at hq;rw [hq]; exact hx;rw [Nat.zero_add, cell_of_row _ _ i _ 3 (0, 0) h]
  match i, hi with
  | 0, _ => rfl
theorem sumH1 (W : World) (b1 b2 c1 c2 : Nat) (h1 : W.heap[b1]? = some (.cells #[.int .i64 5, .int .i64 3, .int .i64 5] 3 (0, 0))) (h2 : W.heap[b2]? = some (.cells #[.int .i64 1, .int .i64 2, .int .i64 4] 3 (0, 0))) : Calls Tryz.prog 19 #[.slice (some ⟨b1, 0, none⟩) 3 c1, .slice (some ⟨b2, 0, none⟩) 3 c2] W fun e w' => ∃ v, e = .returned v /\ OwnE w' W.heap.size v [⟨3, 0, 2, 2⟩, ⟨5, 2, 7, 5⟩] /\ Below W.heap.size W w' := by refine (summary_any _ _ 3 c1 3 c2 [5, 3, 5] [1, 2, 4] W (three_ints W b1 5 3 5 (by decide) h1) (three_ints W b2 1 2 4 (by decide) h2) (by decide) (by decide)).mono ?_;rintro e w' ⟨v, M, rfl, hM, ho, hb⟩;refine ⟨v, rfl, ?_, hb⟩;rw [<- sumOf_eq hM, summ1] at ho;exact ho
theorem sumH2 (W : World) (b1 b2 c1 c2 : Nat) (h1 : W.heap[b1]? = some (.cells #[.int .i64 4] 3 (0, 0))) (h2 : W.heap[b2]? = some (.cells #[.int .i64 1] 3 (0, 0))) : Calls Tryz.prog 19 #[.slice (some ⟨b1, 0, none⟩) 1 c1, .slice (some ⟨b2, 0, none⟩) 1 c2] W fun e w' => ∃ v, e = .returned v /\ OwnE w' W.heap.size v [⟨4, 0, 1, 1⟩] /\ Below W.heap.size W w' := by refine (summary_any _ _ 1 c1 1 c2 [4] [1] W (one_ints W b1 4 (by decide) h1) (one_ints W b2 1 (by decide) h2) (by decide) (by decide)).mono ?_;rintro e w' ⟨v, M, rfl, hM, ho, hb⟩;refine ⟨v, rfl, ?_, hb⟩;rw [<- sumOf_eq hM, summ2] at ho;exact ho
theorem goodH1 : Good [⟨3, 0, 2, 2⟩, ⟨5, 2, 7, 5⟩] := ⟨by decide, by decide⟩
theorem goodH2 : Good [⟨4, 0, 1, 1⟩] := ⟨by decide, by decide⟩
set_option maxRecDepth 100000 in
set_option maxHeartbeats 4000000 in
theorem head_any : HeadSaid := by
  intro w;obtain ⟨w1, hw1⟩ : ∃ w1, w1 = (w.alloc (.cells #[.int .i64 5, .int .i64 3, .int .i64 5] 3)).alloc (.cells #[.int .i64 1, .int .i64 2, .int .i64 4] 3) := ⟨_, rfl⟩;have hb1 : Below w.heap.size w w1 := (by rw [hw1]; exact ((Below.refl _ _).alloc (Nat.le_refl _) _).alloc (by simp) _);have h1a : w1.heap[w.heap.size]? = some (.cells #[.int .i64 5, .int .i64 3, .int .i64 5] 3 (0, 0)) := by rw [hw1]; exact (Below.heap_alloc _ _ _ (by simp)).trans (heap_alloc_new w _)
  have h1b : w1.heap[w.heap.size + 1]? = some (.cells #[.int .i64 1, .int .i64 2, .int .i64 4] 3 (0, 0)) := (by have := heap_alloc_new (w.alloc (.cells #[.int .i64 5, .int .i64 3, .int .i64 5] 3)) (.cells #[.int .i64 1, .int .i64 2, .int .i64 4] 3);rw [show (w.alloc (.cells #[.int .i64 5, .int .i64 3, .int .i64 5] 3)).heap.size = w.heap.size + 1 by simp] at this;rw [hw1]; exact this);have HS1 := sumH1 w1 _ _ 3 3 h1a h1b;have HB1 : Hid (Below w.heap.size w w1) := hb1;clear hb1 h1a h1b;go_enter Tryz.func16, Tryz.ntmps16;go_wp2_with fail
  rw [<- hw1];clear hw1;refine HS1.mono ?_;rintro e w2 ⟨v1, rfl, ho1, hb2⟩;obtain ⟨a1, c1, e1, hE1, _, _⟩ := ho1.seen (by decide);obtain rfl : v1 = .slice a1 2 c1 := e1
  obtain ⟨b1, o1, rfl, hA1⟩ : ∃ b off, a1 = some ⟨b, off, none⟩ /\ EntsAt w2 b off [⟨3, 0, 2, 2⟩, ⟨5, 2, 7, 5⟩] := by
    rcases hE1.2 with h0 | h
    · cases h0
    exact h
  have HB2 : Hid (Below w.heap.size w w2) := HB1.out.trans (hb2.mono HB1.out.size);have HA1 : Hid (EntsAt w2 b1 o1 [⟨3, 0, 2, 2⟩, ⟨5, 2, 7, 5⟩]) := hA1;clear ho1 hb2 hE1 hA1 HS1 HB1;obtain ⟨w3, hw3⟩ : ∃ w3, w3 = (w2.alloc (.cells #[.int .i64 4] 3)).alloc (.cells #[.int .i64 1] 3) := ⟨_, rfl⟩;have hb3 : Below w2.heap.size w2 w3 := (by rw [hw3]; exact ((Below.refl _ _).alloc (Nat.le_refl _) _).alloc (by simp) _);have h3a : w3.heap[w2.heap.size]? = some (.cells #[.int .i64 4] 3 (0, 0)) := by rw [hw3]; exact (Below.heap_alloc _ _ _ (by simp)).trans (heap_alloc_new w2 _)
  have h3b : w3.heap[w2.heap.size + 1]? = some (.cells #[.int .i64 1] 3 (0, 0)) := (by have := heap_alloc_new (w2.alloc (.cells #[.int .i64 4] 3)) (.cells #[.int .i64 1] 3);rw [show (w2.alloc (.cells #[.int .i64 4] 3)).heap.size = w2.heap.size + 1 by simp] at this;rw [hw3]; exact this);have HS2 := sumH2 w3 _ _ 1 1 h3a h3b;have HB3 : Hid (Below w2.heap.size w2 w3) := hb3;clear hb3 h3a h3b;go_wp2_with fail
  rw [<- hw3];clear hw3;refine HS2.mono ?_;rintro e w4 ⟨v2, rfl, ho2, hb4⟩;obtain ⟨a2, c2, e2, hE2, _, _⟩ := ho2.seen (by decide);obtain rfl : v2 = .slice a2 1 c2 := e2;have HB4 : Hid (Below w2.heap.size w2 w4) := HB3.out.trans (hb4.mono HB3.out.size);have HJ := granJoin_any (some ⟨b1, o1, none⟩) a2 [⟨3, 0, 2, 2⟩, ⟨5, 2, 7, 5⟩] [⟨4, 0, 1, 1⟩] c1 c2 w4 ⟨by decide, .inr ⟨b1, o1, rfl, HA1.out.below HB4.out⟩⟩ hE2 goodH1 goodH2;rw [joinH] at HJ;clear ho2 hb4 hE2 HS2 HB3;go_wp2_with fail
  refine HJ.mono ?_;rintro e w5 ⟨v3, rfl, ho3, hb5⟩;obtain ⟨a3, c3, e3, hE3, _, _⟩ := ho3.seen (by decide);obtain rfl : v3 = .slice a3 3 c3 := e3
  obtain ⟨b3, o3, rfl, hA3⟩ : ∃ b off, a3 = some ⟨b, off, none⟩ /\ EntsAt w5 b off [⟨3, 0, 2, 2⟩, ⟨4, 2, 3, 1⟩, ⟨5, 3, 8, 5⟩] := by
    rcases hE3.2 with h0 | h
    · cases h0
    exact h
  have HB5 : Hid (Below w2.heap.size w2 w5) := HB4.out.trans (hb5.mono HB4.out.size);have hA1 := HA1.out.below HB5.out;have x0 : w5.cell? ⟨b1, o1 + 4, none⟩ = some (.int .i64 5) := hA1.v 1 (by decide);have x1 : w5.cell? ⟨b1, o1 + 4 + 1, none⟩ = some (.int .i64 2) := hA1.lo 1 (by decide);have x2 : w5.cell? ⟨b1, o1 + 4 + 2, none⟩ = some (.int .i64 7) := hA1.hi 1 (by decide);have x3 : w5.cell? ⟨b1, o1 + 4 + 3, none⟩ = some (.int .i64 5) := hA1.wt 1 (by decide);have y0 : w5.cell? ⟨b3, o3 + 4, none⟩ = some (.int .i64 4) := hA3.v 1 (by decide);have y1 : w5.cell? ⟨b3, o3 + 4 + 1, none⟩ = some (.int .i64 2) := hA3.lo 1 (by decide);have y2 : w5.cell? ⟨b3, o3 + 4 + 2, none⟩ = some (.int .i64 3) := hA3.hi 1 (by decide);have y3 : w5.cell? ⟨b3, o3 + 4 + 3, none⟩ = some (.int .i64 1) := hA3.wt 1 (by decide);have HB5w : Hid (Below w.heap.size w w5) := HB2.out.trans (HB5.out.mono HB2.out.size)
  clear ho3 hb5 hE3 HJ HB4 hA1 hA3 HA1 HB2 HB5;go_upto_region 5 with fail;clear x0 x1 x2 x3 y0 y1 y2 y3;obtain ⟨w6, hw6⟩ : ∃ w6, w6 = w5.alloc (.cells #[.bool false, .int .i64 0, .int .i64 0] 51) := ⟨_, rfl⟩;have hb6 : Below w5.heap.size w5 w6 := (by rw [hw6]; exact (Below.refl _ _).alloc (Nat.le_refl _) _);have h6 : w6.heap[w5.heap.size]? = some (.cells #[.bool false, .int .i64 0, .int .i64 0] 51 (0, 0)) := by rw [hw6]; exact heap_alloc_new w5 _
  have hft : Feats w6 w5.heap.size 0 1 noW no0 no0 := (by refine ⟨by decide, fun _ => (Array.getElem?_eq_some_iff.1 h6).1, fun i hi => ?_, fun i hi => ?_, fun i hi => ?_⟩;obtain rfl : i = 0 := (by omega);exact cell_of_row _ _ 0 _ 51 (0, 0) h6;obtain rfl : i = 0 := (by omega);exact cell_of_row _ _ 1 _ 51 (0, 0) h6;obtain rfl : i = 0 := (by omega);exact cell_of_row _ _ 2 _ 51 (0, 0) h6);have HFD := fedH w6 w5.heap.size 1 hft;unfold bH at HFD;have HB6 : Hid (Below w.heap.size w w6) := HB5w.out.trans (hb6.mono HB5w.out.size);clear hft h6 hb6 HB5w;go_wp2_with fail
  rw [<- hw6];clear hw6;refine HFD.mono ?_;rintro e w7 ⟨gb, db, rfl, hO7, hb7⟩;have HO7 : Hid (OutD w7 gb db dH) := hO7;have HB7 : Hid (Below w.heap.size w w7) := HB6.out.trans (hb7.mono HB6.out.size);clear hO7 hb7 HFD HB6;have HBY := bytesD w7 gb db HO7.out;obtain ⟨hs1, hs2⟩ := strH;generalize strOfNums (bytesF dH []) = S at *;have HS2 : Hid (S.extract 0 18 = ⟨#[71, 82, 2, 1, 110, 0, 1, 1, 0, 0, 0, 1, 1, 0, 100, 8, 0, 0]⟩) := hs2;clear hs2;go_wp2_with fail
  refine HBY.mono ?_;rintro e w8 ⟨rfl, hb8⟩;have HLK := lookD w8 gb db (HO7.out.below hb8);have HB8 : Hid (Below w.heap.size w w8) := HB7.out.trans (hb8.mono HB7.out.size);clear hb8 HBY HB7 HO7;go_wp2_with fail
  refine HLK.mono ?_;rintro e w9 ⟨rfl, hb9⟩;have HB9 : Hid (Below w.heap.size w w9) := HB8.out.trans (hb9.mono HB8.out.size);clear hb9 HLK HB8;have hs2 := HS2.out;have l1 : (S.size : Int) = 22 := (by rw [hs1]; rfl);have l2 : (18 : Int) <= (S.size : Int) := (by omega);clear hs1;go_wp2;go_ret;exact ⟨rfl, HB9.out⟩
end Go.Proofs.YtfcgnpchbcmdeaaGreat

namespace Go.Proofs.YtfcgnpchbcmdeaaGreat
open Go.RowKit
def cfB (cs : List Int) : Nat := 2 + pickK (rawK cs 0) 15
def cfU (cs : List Int) : Nat := pickK (rawK cs 2) 21
def cfS (cs : List Int) : Nat := cfB cs + pickK (rawK cs 1) (33 - cfB cs)
def cfM (cs : List Int) : Nat := pickK (rawK cs 3) 4
def cfW (cs : List Int) (i : Nat) : Bool := decide (pickK (rawK cs (8 + i)) 3 = 0)
def cfC (cs : List Int) (i : Nat) : Int := if cfW cs i = true then 0 else (pickK (rawK cs (4 + i)) 4 : Nat)
def cfT (cs : List Int) (i : Nat) : Int := if cfW cs i = true then 1 + (pickK (rawK cs (4 + i)) 9 : Nat) else 0
theorem cf_in (cs : List Int) : 2 <= cfB cs /\ cfB cs <= 16 /\ cfB cs <= cfS cs /\ cfS cs <= 32 /\ cfU cs <= 20 /\ cfM cs <= 3 := by have h0 := pickK_lt (rawK cs 0) (show 0 < 15 by omega);have h2 := pickK_lt (rawK cs 2) (show 0 < 21 by omega);have h3 := pickK_lt (rawK cs 3) (show 0 < 4 by omega);have e0 : cfB cs = 2 + pickK (rawK cs 0) 15 := rfl;have h1 := pickK_lt (rawK cs 1) (show 0 < 33 - cfB cs by omega);have e1 : cfS cs = cfB cs + pickK (rawK cs 1) (33 - cfB cs) := rfl;have e2 : cfU cs = pickK (rawK cs 2) 21 := rfl;have e3 : cfM cs = pickK (rawK cs 3) 4 := rfl;omega
theorem cf_feat (cs : List Int) (i : Nat) : featB (cfW cs i) (cfC cs i) (cfT cs i) = true := by
  have h0 := pickK_lt (rawK cs (4 + i)) (show 0 < 4 by omega);have h1 := pickK_lt (rawK cs (4 + i)) (show 0 < 9 by omega);unfold featB cfC cfT
  cases cfW cs i
  simp; omega;simp; omega
theorem cf_conf (cs : List Int) : confB (cfM cs + 1) (cfB cs : Nat) (cfS cs : Nat) (cfU cs : Nat) (cfW cs) (cfC cs) (cfT cs) = true := by have h := cf_in cs;unfold confB allB;rw [Bool.and_eq_true, decide_eq_true_eq, List.all_eq_true];exact ⟨by omega, fun i _ => cf_feat cs i⟩
def cellsF (cs : List Int) (i : Nat) : List Value := [.bool (cfW cs i), .int .i64 (cfC cs i), .int .i64 (cfT cs i)]
def flatF (cs : List Int) : Nat -> List Value
  | 0 => []
  | k + 1 => flatF cs k ++ cellsF cs k
theorem flatF_len (cs : List Int) : ∀ k, (flatF cs k).length = k * 3
  | 0 => rfl
  | k + 1 => by rw [flatF, List.length_append, flatF_len cs k]; simp [cellsF]; omega
theorem flatF_get (cs : List Int) : ∀ k i c, i < k -> c < 3 -> (flatF cs k)[i * 3 + c]? = (cellsF cs i)[c]?
  | 0, i, c, h, _ => by omega
  | k + 1, i, c, h, hc => by
    rw [flatF]
    by_cases hk : i < k
    rw [List.getElem?_append_left (by rw [flatF_len]; omega)];exact flatF_get cs k i c hk hc;have e : i = k := (by omega);subst e;rw [List.getElem?_append_right (by rw [flatF_len]; omega), flatF_len];congr 1;omega
def OwnFt (w : World) (base : Nat) (v : Value) (cs : List Int) (k : Nat) : Prop := w.ownsRow base 51 3 v k (flatF cs k)
theorem OwnFt.feats {w : World} {base k : Nat} {v : Value} {cs : List Int} (h : OwnFt w base v cs k) (hk : 0 < k) (hk2 : k <= 1000) : ∃ fk fc, v = .slice (some ⟨fk, 0, none⟩) k fc /\ base <= fk /\ Feats w fk 0 k (cfW cs) (cfC cs) (cfT cs) := by
  have h' := h
  rcases h.2 with ⟨rfl, h0⟩ | ⟨g, cap, cur, rfl, hb, hh, _⟩
  omega;refine ⟨g, cap, rfl, hb, ⟨by unfold maxLen; omega, fun _ => (Array.getElem?_eq_some_iff.1 hh).1, fun i hi => ?_, fun i hi => ?_, fun i hi => ?_⟩⟩;rw [Nat.zero_add, World.ownsRow.cellAt h' (i * 3) (by omega)];exact flatF_get cs k i 0 hi (by omega);rw [Nat.zero_add, World.ownsRow.cellAt h' (i * 3 + 1) (by omega)];exact flatF_get cs k i 1 hi (by omega);rw [Nat.zero_add, World.ownsRow.cellAt h' (i * 3 + 2) (by omega)];exact flatF_get cs k i 2 hi (by omega)
theorem OwnFt.shape {w : World} {base k : Nat} {v : Value} {cs : List Int} (h : OwnFt w base v cs k) : ∃ a c, v = .slice a k c := by
  rcases h.2 with ⟨rfl, h0⟩ | ⟨g, cap, cur, rfl, _⟩
  exact ⟨none, 0, by rw [h0]⟩;exact ⟨_, cap, rfl⟩
theorem info51 : (Tryz.prog.info? 51).map (fun i => (i.zero, i.size, i.bytes)) = some (some (.agg #[.bool false, .int .i64 0, .int .i64 0]), 3, 24) := by kernel_rfl
theorem rawK_wf' {w : World} {a : Option Addr} {n : Nat} {zs : List Int} (h : IntsV w a n zs) (i : Nat) : (Lit.int .i64 (rawK zs i)).wf = true := by unfold rawK;split;decide;rename_i h0;have hl : i % zs.length < zs.length := Nat.mod_lt _ (by omega);rw [List.getD_eq_getElem?_getD, List.getElem?_eq_getElem hl];exact h.2.1 _ (List.getElem_mem _)
set_option maxRecDepth 100000 in
set_option maxHeartbeats 8000000 in
theorem keepConfig_any (ca : Option Addr) (cn cc : Nat) (cs : List Int) (w : World) (hc : IntsV w ca cn cs) (hcn : cn <= 9223372036854775807) : Calls Tryz.prog 23 #[.slice ca cn cc] w fun e w' => ∃ fk fc, e = .returned (.agg #[.slice (some ⟨fk, 0, none⟩) (cfM cs + 1) fc, .int .i64 (cfB cs : Nat), .int .i64 (cfS cs : Nat), .int .i64 (cfU cs : Nat)]) /\ w.heap.size <= fk /\ Feats w' fk 0 (cfM cs + 1) (cfW cs) (cfC cs) (cfT cs) /\ Below w.heap.size w w' := by
  have HR : Hid (∀ (W : World) (i : Nat), i <= 1000 -> Below w.heap.size w W -> Calls Tryz.prog 18 #[.slice ca cn cc, .int .i64 (i : Nat)] W fun e w' => e = .returned (.int .i64 (rawK cs i)) /\ w' = W) := fun W i hi hW => keepRaw_any ca cn cc i cs W (hc.below hW) (by omega) hcn;have HP : Hid (∀ (W : World) (i n : Nat), 0 < n -> n <= 1000 -> Calls Tryz.prog 17 #[.int .i64 (rawK cs i), .int .i64 (n : Nat)] W fun e w' => e = .returned (.int .i64 (pickK (rawK cs i) n : Nat)) /\ w' = W) := fun W i n h0 h1 => keepPick_any _ n W (rawK_wf' hc i) h0 (by omega);have hcf := cf_in cs;have HB : Hid (cfB cs = 2 + pickK (rawK cs 0) 15) := rfl;have HU : Hid (cfU cs = pickK (rawK cs 2) 21) := rfl;have HS : Hid (cfS cs = cfB cs + pickK (rawK cs 1) (33 - cfB cs)) := rfl;have hp0 := pickK_lt (rawK cs 0) (show 0 < 15 by omega)
  have q1 : IntKind.i64.wrap (2 + ((pickK (rawK cs 0) 15 : Nat) : Int)) = ((cfB cs : Nat) : Int) := (by rw [wrapI (by omega) (by omega)]; have := HB.out; omega);obtain ⟨w0, hw0⟩ : ∃ w0, w0 = w.alloc (.cells #[.slice none 0 0, .int .i64 0, .int .i64 0, .int .i64 0] 37) := ⟨_, rfl⟩;have hb0 : Below w.heap.size w w0 := (by rw [hw0]; exact (Below.refl _ _).alloc (Nat.le_refl _) _);have HB0 : Hid (Below w.heap.size w w0) := hb0;have HR0 : Hid (w0.heap[w.heap.size]? = some (.cells #[.slice none 0 0, .int .i64 0, .int .i64 0, .int .i64 0] 37 (0, 0)) /\ w0.heap.size = w.heap.size + 1) := (by refine ⟨?_, ?_⟩;rw [hw0]; exact heap_alloc_new w _;rw [hw0]; simp);clear hb0 hc;go_enter Tryz.func23, Tryz.ntmps23;go_wp2_with fail
  rw [<- hw0];clear hw0;refine (HR.out w0 0 (by omega) HB0.out).mono ?_;rintro e w1 ⟨rfl, h1⟩;obtain rfl := h1.symm;go_wp2_with fail
  refine (HP.out w0 0 15 (by omega) (by omega)).mono ?_;rintro e w1 ⟨rfl, h1⟩;obtain rfl := h1.symm;go_wp2_with fail
  refine (HR.out w0 2 (by omega) HB0.out).mono ?_;rintro e w1 ⟨rfl, h1⟩;obtain rfl := h1.symm;go_wp2_with fail
  refine (HP.out w0 2 21 (by omega) (by omega)).mono ?_;rintro e w1 ⟨rfl, h1⟩;obtain rfl := h1.symm;rw [<- HU.out];have hp1 := pickK_lt (rawK cs 1) (show 0 < 33 - cfB cs by omega);obtain ⟨pn, hpn⟩ : ∃ pn, pn = 33 - cfB cs := ⟨_, rfl⟩;have q2 : IntKind.i64.wrap (33 - ((cfB cs : Nat) : Int)) = (pn : Int) := by rw [wrapI (by omega) (by omega)]; omega
  have q3 : IntKind.i64.wrap (((cfB cs : Nat) : Int) + ((pickK (rawK cs 1) pn : Nat) : Int)) = ((cfS cs : Nat) : Int) := by rw [hpn, wrapI (by omega) (by omega)]; have := HS.out; omega
  have hpn0 : 0 < pn /\ pn <= 1000 := (by omega);have HP1 : Hid (∀ W : World, Calls Tryz.prog 17 #[.int .i64 (rawK cs 1), .int .i64 (pn : Nat)] W fun e w' => e = .returned (.int .i64 (pickK (rawK cs 1) pn : Nat)) /\ w' = W) := fun W => HP.out W 1 pn hpn0.1 hpn0.2;clear hpn hp1 hp0 hpn0 q1;obtain ⟨cb, hcb⟩ : ∃ cb, cb = w0.heap.size := ⟨_, rfl⟩;obtain ⟨w2, hw2⟩ : ∃ w2, w2 = w0.alloc (.cells #[.slice none 0 0, .int .i64 (cfB cs : Nat), .int .i64 0, .int .i64 (cfU cs : Nat)] 37) := ⟨_, rfl⟩;have hrow2 : w2.heap[cb]? = some (.cells #[.slice none 0 0, .int .i64 (cfB cs : Nat), .int .i64 0, .int .i64 (cfU cs : Nat)] 37 (0, 0)) := (by rw [hw2, hcb]; exact heap_alloc_new w0 _);have hb2 : Below w.heap.size w w2 := by rw [hw2]; exact HB0.out.alloc HB0.out.size _
  have HR2 : Hid (w2.heap[w.heap.size]? = some (.cells #[.slice none 0 0, .int .i64 0, .int .i64 0, .int .i64 0] 37 (0, 0))) := by show _ = _;rw [hw2]; exact (Below.heap_alloc _ _ _ (by have := HR0.out.2; omega)).trans HR0.out.1
  have hcw : w.heap.size < cb := (by have := HR0.out.2; omega);have e1 : w2.cell? ⟨cb, 1, none⟩ = some (.int .i64 (cfB cs : Nat)) := cell_of_row _ _ 1 _ 37 (0, 0) hrow2;have e2 : w2.cell? ⟨cb, 2, none⟩ = some (.int .i64 0) := cell_of_row _ _ 2 _ 37 (0, 0) hrow2;have z2 : w2.frozen? ⟨cb, 2, none⟩ = false := frozen_of_row _ _ 2 _ 37 hrow2;have HB2 : Hid (Below w.heap.size w w2) := hb2;have HW2 : Hid (w2.heap[cb]? = some (.cells #[.slice none 0 0, .int .i64 (cfB cs : Nat), .int .i64 0, .int .i64 (cfU cs : Nat)] 37 (0, 0))) := hrow2;go_upto_region 2 with fail;rw [<- hw2, <- hcb];clear hw2 hcb hb2 hrow2;have hrow3 : (w2.setCell ⟨cb, 2, none⟩ (.int .i64 (cfS cs : Nat))).heap[cb]? = some (.cells #[.slice none 0 0, .int .i64 (cfB cs : Nat), .int .i64 (cfS cs : Nat), .int .i64 (cfU cs : Nat)] 37 (0, 0)) := heap_setCell_same _ cb 2 _ 37 _ HW2.out
  have e3 : (w2.setCell ⟨cb, 2, none⟩ (.int .i64 (cfS cs : Nat))).cell? ⟨cb, 1, none⟩ = some (.int .i64 (cfB cs : Nat)) := cell_of_row _ _ 1 _ 37 (0, 0) hrow3;have HW3 : Hid ((w2.setCell ⟨cb, 2, none⟩ (.int .i64 (cfS cs : Nat))).heap[cb]? = some (.cells #[.slice none 0 0, .int .i64 (cfB cs : Nat), .int .i64 (cfS cs : Nat), .int .i64 (cfU cs : Nat)] 37 (0, 0))) := hrow3;clear hrow3;go_region_held3 (fun w' => w'.cell? ⟨cb, 1, none⟩ = some (.int .i64 (cfB cs : Nat))) (first | with_reducible exact e1 | exact e3 | exact e1) (first | (go_at_call 18; refine (HR.out _ 1 (by omega) HB2.out.drew).mono ?_; rintro e w' ⟨rfl, rfl⟩) | (go_at_call 17; refine (HP1.out _).mono ?_; rintro e w' ⟨rfl, rfl⟩))
  have HB3 : Hid (Below w.heap.size w (w2.setCell ⟨cb, 2, none⟩ (.int .i64 (cfS cs : Nat))).drew) := (HB2.out.setCell (show w.heap.size <= cb by omega) _).drew;have HR3 : Hid ((w2.setCell ⟨cb, 2, none⟩ (.int .i64 (cfS cs : Nat))).drew.heap[w.heap.size]? = some (.cells #[.slice none 0 0, .int .i64 0, .int .i64 0, .int .i64 0] 37 (0, 0))) := by have t1 : Touch (fun q => q = cb) w2 (w2.setCell ⟨cb, 2, none⟩ (.int .i64 (cfS cs : Nat))) := (Touch.refl (fun q => q = cb) w2).setCell (p := ⟨cb, 2, none⟩) (fun _ => rfl) _;exact t1.at_ HR2.out (by omega)
  have HW3' : Hid ((w2.setCell ⟨cb, 2, none⟩ (.int .i64 (cfS cs : Nat))).drew.heap[cb]? = some (.cells #[.slice none 0 0, .int .i64 (cfB cs : Nat), .int .i64 (cfS cs : Nat), .int .i64 (cfU cs : Nat)] 37 (0, 0))) := HW3.out;generalize (w2.setCell ⟨cb, 2, none⟩ (.int .i64 (cfS cs : Nat))).drew = w3 at *;clear HW3 HW2 HR2 HB2 HP1 HR0 HB0 e1 e2 e3 z2 q2 q3 HB HU HS;have hcm : cfM cs <= 3 := hcf.2.2.2.2.2;have HCM : Hid (cfM cs = pickK (rawK cs 3) 4) := rfl;obtain ⟨m, hm⟩ : ∃ m, m = cfM cs := ⟨_, rfl⟩;rw [<- hm] at hcm HCM;have HMM : Hid (m = cfM cs) := hm;clear hm hcf;obtain ⟨i0, hinf, hz0, hz1, hz2⟩ := info_parts info51;go_wp2_with fail
  go_loopw [4] (fun ti wr => ∃ (k : Nat) (vF : Value), ti = .int .i64 k /\ k <= m + 1 /\ Hid (wr.heap[cb]? = some (.cells #[vF, .int .i64 (cfB cs : Nat), .int .i64 (cfS cs : Nat), .int .i64 (cfU cs : Nat)] 37 (0, 0))) /\ Hid (OwnFt wr w.heap.size vF cs k) /\ Hid (wr.heap[w.heap.size]? = some (.cells #[.slice none 0 0, .int .i64 0, .int .i64 0, .int .i64 0] 37 (0, 0))) /\ Hid (Below w.heap.size w wr)) (fun ti _ => m + 1 - (intOf ti).toNat)
  case atStart => exact ⟨0, _, rfl, by omega, HW3'.out, World.ownsRow_nil _ _ _ _, HR3.out, HB3.out⟩
  case round =>
    clear HW3' HR3 HB3;obtain ⟨k, vF, rfl, hk, HC, HO, HZ, HB⟩ := hrel;have hsz := HB.out.size;have hcl : cb < wr.heap.size := (Array.getElem?_eq_some_iff.1 HC.out).1;go_wp2_with fail
    refine (HR.out wr 3 (by omega) HB.out).mono ?_;rintro e w4 ⟨rfl, h4⟩;obtain rfl := h4.symm;go_wp2_with fail
    refine (HP.out wr 3 4 (by omega) (by omega)).mono ?_;rintro e w4 ⟨rfl, h4⟩;obtain rfl := h4.symm;rw [<- HCM.out]
    by_cases hkm : k <= m
    · have bk : (k : Int) <= (m : Int) := (by omega);have q4 : IntKind.i64.wrap (4 + (k : Int)) = ((4 + k : Nat) : Int) := (by rw [wrapI (by omega) (by omega)]; omega);have q8 : IntKind.i64.wrap (8 + (k : Int)) = ((8 + k : Nat) : Int) := (by rw [wrapI (by omega) (by omega)]; omega);go_wp2_with fail
      refine (HR.out wr (4 + k) (by omega) HB.out).mono ?_;rintro e w4 ⟨rfl, h4⟩;obtain rfl := h4.symm;go_wp2_with fail
      refine (HP.out wr (4 + k) 4 (by omega) (by omega)).mono ?_;rintro e w4 ⟨rfl, h4⟩;obtain rfl := h4.symm;obtain ⟨w6, hw6⟩ : ∃ w6, w6 = wr.alloc (.cells #[.bool false, .int .i64 (pickK (rawK cs (4 + k)) 4 : Nat), .int .i64 0] 51) := ⟨_, rfl⟩;have hb6 : Below wr.heap.size wr w6 := (by rw [hw6]; exact (Below.refl _ _).alloc (Nat.le_refl _) _);have hr6 : w6.heap[wr.heap.size]? = some (.cells #[.bool false, .int .i64 (pickK (rawK cs (4 + k)) 4 : Nat), .int .i64 0] 51 (0, 0)) := (by rw [hw6]; exact heap_alloc_new wr _);have HB6 : Hid (Below w.heap.size w w6) := HB.out.trans (hb6.mono hsz);have HC6 : Hid (w6.heap[cb]? = some (.cells #[vF, .int .i64 (cfB cs : Nat), .int .i64 (cfS cs : Nat), .int .i64 (cfU cs : Nat)] 37 (0, 0))) := (hb6.block cb hcl).trans HC.out;have HO6 : Hid (OwnFt w6 w.heap.size vF cs k) := (Touch.of_below (S := fun _ => False) hb6).row HO.out (fun _ _ => id)
      have hwl : w.heap.size < wr.heap.size := (Array.getElem?_eq_some_iff.1 HZ.out).1;have HZ6 : Hid (w6.heap[w.heap.size]? = some (.cells #[.slice none 0 0, .int .i64 0, .int .i64 0, .int .i64 0] 37 (0, 0))) := (hb6.block _ hwl).trans HZ.out;have HOL : Hid (∀ q, vF.ownBlock = some q -> q < wr.heap.size) := fun q hq => (World.ownsRow.lt HO.out q hq).2;have HR6 : Hid (w6.heap[wr.heap.size]? = some (.cells #[.bool false, .int .i64 (pickK (rawK cs (4 + k)) 4 : Nat), .int .i64 0] 51 (0, 0))) := hr6;go_wp2_with fail
      rw [<- hw6];clear hw6 hb6 HC HO HZ HB;refine (HR.out w6 (8 + k) (by omega) HB6.out).mono ?_;rintro e w4 ⟨rfl, h4⟩;obtain rfl := h4.symm;go_wp2_with fail
      refine (HP.out w6 (8 + k) 3 (by omega) (by omega)).mono ?_;rintro e w4 ⟨rfl, h4⟩;obtain rfl := h4.symm;have f0 := frozen_of_row _ _ 0 _ 51 hr6;have f1 := frozen_of_row _ _ 1 _ 51 hr6;have f2 := frozen_of_row _ _ 2 _ 51 hr6;have g0 := cell_of_row _ _ 0 _ 51 (0, 0) hr6;have g1 := cell_of_row _ _ 1 _ 51 (0, 0) hr6;have g2 := cell_of_row _ _ 2 _ 51 (0, 0) hr6;clear hr6;go_upto_if 42 with fail
      go_cut [5] (fun v wx => v = .pointer (some ⟨wr.heap.size, 0, none⟩) /\ Hid (wx.heap[wr.heap.size]? = some (.cells #[.bool (cfW cs k), .int .i64 (cfC cs k), .int .i64 (cfT cs k)] 51 (0, 0))) /\ Hid (Touch (fun q => q = wr.heap.size) w6 wx))
      case first =>
        have HCW : Hid (cfW cs k = decide (pickK (rawK cs (8 + k)) 3 = 0)) := rfl;have HCC : Hid (cfC cs k = if cfW cs k = true then (0 : Int) else ((pickK (rawK cs (4 + k)) 4 : Nat) : Int)) := rfl;have HCT : Hid (cfT cs k = if cfW cs k = true then 1 + ((pickK (rawK cs (4 + k)) 9 : Nat) : Int) else (0 : Int)) := rfl
        by_cases hp : pickK (rawK cs (8 + k)) 3 = 0
        · have q5 : (((pickK (rawK cs (8 + k)) 3 : Nat) : Int) == 0) = true := (by rw [hp]; rfl);have HV : Hid (cfW cs k = true /\ cfC cs k = 0 /\ cfT cs k = 1 + (pickK (rawK cs (4 + k)) 9 : Nat)) := (by have hw : cfW cs k = true := (by rw [HCW.out]; exact decide_eq_true hp);exact ⟨hw, by rw [HCC.out, if_pos hw], by rw [HCT.out, if_pos hw]⟩);have h9 := pickK_lt (rawK cs (4 + k)) (show 0 < 9 by omega);obtain ⟨p9, hp9⟩ : ∃ p9, p9 = pickK (rawK cs (4 + k)) 9 := ⟨_, rfl⟩;have HP9 : Hid (p9 = pickK (rawK cs (4 + k)) 9) := hp9;have q6 : IntKind.i64.wrap (1 + (p9 : Int)) = 1 + (p9 : Int) := wrapI (by omega) (by omega);clear hp hp9 h9;generalize pickK (rawK cs (8 + k)) 3 = p3 at *;go_wp2_with fail
          refine (HR.out w6 (4 + k) (by omega) HB6.out).mono ?_;rintro e w4 ⟨rfl, h4⟩;obtain rfl := h4.symm;go_wp2_with fail
          refine (HP.out w6 (4 + k) 9 (by omega) (by omega)).mono ?_;rintro e w4 ⟨rfl, h4⟩;obtain rfl := h4.symm;rw [<- HP9.out];go_wp2;go_meet
          refine ⟨rfl, ?_, ?_⟩;show _ = _;rw [HV.out.1, HV.out.2.1, HV.out.2.2, <- HP9.out];exact heap_setCell_same _ _ 2 _ 51 _ (heap_setCell_same _ _ 1 _ 51 _ (heap_setCell_same _ _ 0 _ 51 _ HR6.out));exact (((Touch.refl (fun q => q = wr.heap.size) w6).setCell (p := ⟨wr.heap.size, 0, none⟩) (fun _ => rfl) _).setCell (p := ⟨wr.heap.size, 1, none⟩) (fun _ => rfl) _).setCell (p := ⟨wr.heap.size, 2, none⟩) (fun _ => rfl) _
        have q5 : (((pickK (rawK cs (8 + k)) 3 : Nat) : Int) == 0) = false := (by rw [beq_eq_false_iff_ne]; omega);have HV : Hid (cfW cs k = false /\ cfC cs k = (pickK (rawK cs (4 + k)) 4 : Nat) /\ cfT cs k = 0) := (by have hw : cfW cs k = false := (by rw [HCW.out]; exact decide_eq_false hp);have hw2 : ¬ cfW cs k = true := (by rw [hw]; decide);exact ⟨hw, by rw [HCC.out, if_neg hw2], by rw [HCT.out, if_neg hw2]⟩);go_wp2;go_meet
        refine ⟨rfl, ?_, Touch.refl _ _⟩;show _ = _;rw [HV.out.1, HV.out.2.1, HV.out.2.2];exact HR6.out
      case rest =>
        obtain ⟨rfl, HRW, HTT⟩ := hcut;clear f0 f1 f2 g0 g1 g2 HR6;obtain ⟨av, cv, rfl⟩ := HO6.out.shape;have hne1 : cb ≠ wr.heap.size := (by omega);have HCc : Hid (wc.heap[cb]? = some (.cells #[.slice av k cv, .int .i64 (cfB cs : Nat), .int .i64 (cfS cs : Nat), .int .i64 (cfU cs : Nat)] 37 (0, 0))) := HTT.out.at_ HC6.out hne1;have HZc : Hid (wc.heap[w.heap.size]? = some (.cells #[.slice none 0 0, .int .i64 0, .int .i64 0, .int .i64 0] 37 (0, 0))) := HTT.out.at_ HZ6.out (by omega)
        have HOc : Hid (OwnFt wc w.heap.size (.slice av k cv) cs k) := HTT.out.row HO6.out (fun q hq e => by
          have h1 := HOL.out q hq
          omega)
        have HBc : Hid (Below w.heap.size w wc) := HB6.out.trans (HTT.out.to_below HB6.out.size (fun q hq => by rw [hq]; exact hsz));have hcs := HBc.out.size;have hcb : cb < wc.heap.size := (Array.getElem?_eq_some_iff.1 HCc.out).1;have g0 := cell_of_row _ _ 0 _ 51 (0, 0) HRW.out;have g1 := cell_of_row _ _ 1 _ 51 (0, 0) HRW.out;have g2 := cell_of_row _ _ 2 _ 51 (0, 0) HRW.out;have g3 := cell_of_row _ _ 0 _ 37 (0, 0) HCc.out;have HFS : Hid (flatF cs (k + 1) = flatF cs k ++ [.bool (cfW cs k), .int .i64 (cfC cs k), .int .i64 (cfT cs k)]) := rfl;clear HTT HC6 HZ6 HO6 HB6 HRW;generalize cfW cs k = xW at *;generalize cfC cs k = xC at *;generalize cfT cs k = xT at *;have HROW : Hid (wc.ownsRow w.heap.size 51 3 (.slice av k cv) k (flatF cs k)) := HOc.out
        go_wp2_with (at_builtin; refine wpList_append_mark rfl (.tmp 51) (.tmp 53) 35 rfl w.heap.size 51 i0 (.agg #[.bool false, .int .i64 0, .int .i64 0]) 3 24 Tryz.underlying35 hinf hz0 hz1 hz2 rfl (by decide) (.slice av k cv) k (flatF cs k) rfl (World.ownsRow.alloc HROW.out _) ⟨wc.heap.size, 0, none⟩ 1 1 [.bool xW, .int .i64 xC, .int .i64 xT] rfl rfl ?_ ?_ ?_ ?_ ?_ ?_ ?_)
        exact one_new wc #[.bool xW, .int .i64 xC, .int .i64 xT] 51
        · intro u hu; simp at hu; rcases hu with rfl | rfl | rfl <;> rfl
        decide;unfold maxLen; omega;omega;simp; omega;intro v4 w4 H4;obtain ⟨r4, g4, d4, _, _⟩ := H4.out;have h2S : OwnFt w4 w.heap.size v4 cs (k + 1) := by unfold OwnFt;rw [HFS.out];exact r4
        obtain ⟨a4, c4, rfl⟩ := h2S.shape;obtain ⟨w8, hw8⟩ : ∃ w8, w8 = wc.alloc (.cells #[.bool xW, .int .i64 xC, .int .i64 xT] 51) := ⟨_, rfl⟩;rw [<- hw8] at g4 d4;have hb8 : Below wc.heap.size wc w8 := (by rw [hw8]; exact (Below.refl _ _).alloc (Nat.le_refl _) _);have h8b := hb8.size;have T : Touch (fun q => (Value.slice av k cv).ownBlock = some q) w8 w4 := (Touch.refl _ w8).grown g4 (fun k hk _ => hk);have hR8 : w8.ownsRow w.heap.size 51 3 (.slice av k cv) k (flatF cs k) := (Touch.of_below (S := fun _ => False) hb8).row HROW.out (fun _ _ => id);have hE8 := (hb8.block cb hcb).trans HCc.out;have hZ8 := (hb8.block w.heap.size (by omega)).trans HZc.out;have hE4 : w4.heap[cb]? = some (.cells #[.slice av k cv, .int .i64 (cfB cs : Nat), .int .i64 (cfS cs : Nat), .int .i64 (cfU cs : Nat)] 37 (0, 0)) := T.at_ hE8 (fun e => row_ne hR8 e hE8 (by decide) rfl)
        have hZ4 : w4.heap[w.heap.size]? = some (.cells #[.slice none 0 0, .int .i64 0, .int .i64 0, .int .i64 0] 37 (0, 0)) := T.at_ hZ8 (fun e => row_ne hR8 e hZ8 (by decide) rfl);have f4 : w4.cell? ⟨cb, 0, none⟩ = some (.slice av k cv) := cell_of_row _ _ 0 _ 37 (0, 0) hE4;have z4 : w4.frozen? ⟨cb, 0, none⟩ = false := frozen_of_row _ _ 0 _ 37 hE4;have HE5 : Hid ((w4.setCell ⟨cb, 0, none⟩ (.slice a4 (k + 1) c4)).heap[cb]? = some (.cells #[.slice a4 (k + 1) c4, .int .i64 (cfB cs : Nat), .int .i64 (cfS cs : Nat), .int .i64 (cfU cs : Nat)] 37 (0, 0))) := heap_setCell_same _ cb 0 _ 37 _ hE4;have HO5 : Hid (OwnFt (w4.setCell ⟨cb, 0, none⟩ (.slice a4 (k + 1) c4)) w.heap.size (.slice a4 (k + 1) c4) cs (k + 1)) := own_put' h2S hE4 (by decide)
        have HZ5 : Hid ((w4.setCell ⟨cb, 0, none⟩ (.slice a4 (k + 1) c4)).heap[w.heap.size]? = some (.cells #[.slice none 0 0, .int .i64 0, .int .i64 0, .int .i64 0] 37 (0, 0))) := (by have t1 : Touch (fun q => q = cb) w4 (w4.setCell ⟨cb, 0, none⟩ (.slice a4 (k + 1) c4)) := (Touch.refl (fun q => q = cb) w4).setCell (p := ⟨cb, 0, none⟩) (fun _ => rfl) _;exact t1.at_ hZ4 (by omega));have HB5 : Hid (Below w.heap.size w (w4.setCell ⟨cb, 0, none⟩ (.slice a4 (k + 1) c4))) := by have h1 : Below w.heap.size w w8 := HBc.out.trans (hb8.mono hcs);exact (h1.grown g4 h1.size (fun q hq => (World.ownsRow.lt hR8 q hq).1)).setCell (show w.heap.size <= cb by omega) _
        clear H4 r4 g4 d4 hw8 hb8 h8b T hR8 hE8 hZ8 hE4 hZ4 h2S HCc HZc HOc HBc HROW g0 g1 g2 g3;go_wp2;go_roundw;case rel => exact ⟨k + 1, _, by go_num, by omega, HE5.out, HO5.out, HZ5.out, HB5.out⟩
        case measure => simp [intOf]; omega
    have hkm2 : k = m + 1 := (by omega);subst hkm2;have bk : ¬ ((m + 1 : Nat) : Int) <= (m : Int) := (by omega);have bk2 : ¬ (m : Int) + 1 <= (m : Int) := (by omega);obtain ⟨fk, fc, rfl, hfk, hft⟩ := HO.out.feats (by omega) (by omega);have hE := HC.out;have e0 := cell_of_row _ _ 0 _ 37 (0, 0) hE;have e1 := cell_of_row _ _ 1 _ 37 (0, 0) hE;have e2 := cell_of_row _ _ 2 _ 37 (0, 0) hE;have e3 := cell_of_row _ _ 3 _ 37 (0, 0) hE;have hr0 := HZ.out;have r0 := cell_of_row _ _ 0 _ 37 (0, 0) hr0;have r1 := cell_of_row _ _ 1 _ 37 (0, 0) hr0;have r2 := cell_of_row _ _ 2 _ 37 (0, 0) hr0;have r3 := cell_of_row _ _ 3 _ 37 (0, 0) hr0;have z0 := frozen_of_row _ _ 0 _ 37 hr0;have z1 := frozen_of_row _ _ 1 _ 37 hr0;have z2 := frozen_of_row _ _ 2 _ 37 hr0;have z3 := frozen_of_row _ _ 3 _ 37 hr0;have HFT : Hid (OwnFt wr w.heap.size (.slice (some ⟨fk, 0, none⟩) (m + 1) fc) cs (m + 1)) := HO.out
    clear hE hr0 hft HO;go_wp2;refine bodyPost_ret (v := .agg #[.slice (some ⟨fk, 0, none⟩) (m + 1) fc, .int .i64 (cfB cs : Nat), .int .i64 (cfS cs : Nat), .int .i64 (cfU cs : Nat)]) (by simp [results, Tryz.results23, go_sem, *]) rfl ?_;rw [<- HMM.out];have h1 := own_put' HFT.out HZ.out (j := 0) (u := .slice (some ⟨fk, 0, none⟩) (m + 1) fc) (by decide);have h2 := own_put' h1 (by exact heap_setCell_same _ _ 0 _ 37 _ HZ.out) (j := 1) (u := .int .i64 (cfB cs : Nat)) (by decide);have h3 := own_put' h2 (by exact heap_setCell_same _ _ 1 _ 37 _ (heap_setCell_same _ _ 0 _ 37 _ HZ.out)) (j := 2) (u := .int .i64 (cfS cs : Nat)) (by decide);have h4 := own_put' h3 (by exact heap_setCell_same _ _ 2 _ 37 _ (heap_setCell_same _ _ 1 _ 37 _ (heap_setCell_same _ _ 0 _ 37 _ HZ.out))) (j := 3) (u := .int .i64 (cfU cs : Nat)) (by decide)
    obtain ⟨fk', fc', e, _, hf⟩ := OwnFt.feats (show OwnFt _ _ _ cs (m + 1) from h4) (by omega) (by omega);simp only [Value.slice.injEq, Option.some.injEq, Addr.mk.injEq, and_true, true_and] at e;obtain ⟨rfl, rfl⟩ := e;exact ⟨fk, fc, rfl, hfk, hf, (((HB.out.setCell (Nat.le_refl _) _).setCell (Nat.le_refl _) _).setCell (Nat.le_refl _) _).setCell (Nat.le_refl _) _⟩
end Go.Proofs.YtfcgnpchbcmdeaaGreat

namespace Go.Proofs.YtfcgnpchbcmdeaaGreat
set_option maxRecDepth 100000
set_option maxHeartbeats 2000000
open Go.RowKit
def ten : ByteArray := ⟨#[48, 49, 50, 51, 52, 53, 54, 55, 56, 57]⟩
def dig1 (n : Nat) : ByteArray := ten.extract n (n + 1)
def digP (n : Nat) : ByteArray := if n < 10 then dig1 n else dig1 (n / 10) ++ dig1 (n % 10)
def digS (z : Int) : ByteArray := if z < 0 then ⟨#[45]⟩ ++ digP (-z).toNat else digP z.toNat
theorem ten_size : ten.size = 10 := rfl
theorem dig1_size {n : Nat} (h : n < 10) : (dig1 n).size = 1 := by unfold dig1;rw [ByteArray.size_extract, ten_size]; omega
theorem digits_one (n : Nat) (hn : n < 10) (w : World) : Calls Tryz.prog 48 #[.int .i64 (n : Nat)] w fun e w' => e = .returned (.string (dig1 n)) /\ Below w.heap.size w w' := by have b0 : ¬ (n : Int) < 0 := (by omega);have b1 : (n : Int) < 10 := (by omega);have b2 : (0 : Int) <= (n : Int) := (by omega);have b3 : (n : Int) <= (n : Int) + 1 := (by omega);have b4 : (n : Int) + 1 <= 10 := (by omega);have q : IntKind.i64.wrap ((n : Int) + 1) = ((n + 1 : Nat) : Int) := (by rw [wrapI (by omega) (by omega)]; omega);go_enter Tryz.func48, Tryz.ntmps48;go_wp2;go_ret;exact ⟨rfl, Below.refl _ _⟩
theorem digits_pos (n : Nat) (hn : n < 100) (w : World) : Calls Tryz.prog 48 #[.int .i64 (n : Nat)] w fun e w' => e = .returned (.string (digP n)) /\ Below w.heap.size w w' := by
  unfold digP
  by_cases h10 : n < 10
  rw [if_pos h10]; exact digits_one n h10 w;rw [if_neg h10];obtain ⟨a, ha⟩ : ∃ a, a = n / 10 := ⟨_, rfl⟩;obtain ⟨b, hb⟩ : ∃ b, b = n % 10 := ⟨_, rfl⟩;rw [<- ha, <- hb];have b0 : ¬ (n : Int) < 0 := (by omega);have b1 : ¬ (n : Int) < 10 := by omega
  have q1 : (n : Int).tdiv 10 = (a : Int) := (by rw [Int.tdiv_eq_ediv_of_nonneg (by omega)]; omega);have q2 : (n : Int).tmod 10 = (b : Int) := by rw [Int.tmod_eq_emod_of_nonneg (by omega)]; omega
  have q4 : IntKind.i64.wrap (a : Int) = (a : Int) := wrapI (by omega) (by omega);have q5 : IntKind.i64.wrap ((n : Int).tdiv 10) = (a : Int) := (by rw [q1]; exact q4);have q3 : IntKind.i64.wrap ((b : Int) + 1) = ((b + 1 : Nat) : Int) := (by rw [wrapI (by omega) (by omega)]; omega);have c2 : (0 : Int) <= (b : Int) := (by omega);have c3 : (b : Int) <= (b : Int) + 1 := (by omega);have c4 : (b : Int) + 1 <= 10 := (by omega);have HD : Hid (∀ W : World, Calls Tryz.prog 48 #[.int .i64 (a : Nat)] W fun e w' => e = .returned (.string (dig1 a)) /\ Below W.heap.size W w') := fun W => digits_one a (by omega) W;have HS : Hid ((dig1 a).size = 1 /\ (ten.extract b (b + 1)).size = 1) := ⟨dig1_size (by omega), dig1_size (n := b) (by omega)⟩;obtain ⟨s1, s2⟩ := HS.out;have HT : Hid (dig1 b = ten.extract b (b + 1)) := rfl;unfold ten at s2 HT;generalize dig1 a = A at *;clear ha hb h10
  go_enter Tryz.func48, Tryz.ntmps48;go_wp2_with fail
  go_region_held3 (fun _ => True) (trivial) (first | (go_at_call 48; refine (HD.out _).mono ?_; rintro e w1 ⟨rfl, hb1⟩))
  have HB : Hid (Below w.heap.size w w1) := (Below.refl _ _).drew.trans (hb1.mono (by simp));clear hb1;go_wp2;go_ret;exact ⟨by rw [HT.out]; rfl, HB.out⟩
theorem digits_any (z : Int) (h1 : -99 <= z) (h2 : z <= 99) (w : World) : Calls Tryz.prog 48 #[.int .i64 z] w fun e w' => e = .returned (.string (digS z)) /\ Below w.heap.size w w' := by
  unfold digS
  by_cases h0 : z < 0
  · rw [if_pos h0];have HD := digits_pos (-z).toNat (by omega) w;rw [show (((-z).toNat : Nat) : Int) = -z by omega] at HD;have q1 : IntKind.i64.wrap (-z) = -z := wrapI (by omega) (by omega);have hs : (digP (-z).toNat).size <= 2 := (by unfold digP;split;rw [dig1_size (by omega)]; omega;rw [ByteArray.size_append, dig1_size (by omega), dig1_size (by omega)]; omega);generalize digP (-z).toNat = A at *;go_enter Tryz.func48, Tryz.ntmps48;go_wp2_with fail
    refine HD.mono ?_;rintro e w1 ⟨rfl, hb1⟩;have HB : Hid (Below w.heap.size w w1) := hb1;clear hb1;go_wp2;go_ret;exact ⟨rfl, HB.out⟩
  rw [if_neg h0];have HD := digits_pos z.toNat (by omega) w
  rwa [show ((z.toNat : Nat) : Int) = z by omega] at HD
end Go.Proofs.YtfcgnpchbcmdeaaGreat

namespace Go.Proofs.YtfcgnpchbcmdeaaGreat
set_option maxRecDepth 100000
set_option maxHeartbeats 8000000
open Go.RowKit
def wordT (p : Nat) : ByteArray := [(⟨#[97]⟩ : ByteArray), ⟨#[98]⟩, ⟨#[34, 97, 32, 98, 34]⟩, ⟨#[34, 34]⟩, ⟨#[122, 122]⟩, ⟨#[34, 120, 34, 34, 121, 34]⟩].getD p ⟨#[]⟩
def wordV (p : Nat) : ByteArray := [(⟨#[97]⟩ : ByteArray), ⟨#[98]⟩, ⟨#[97, 32, 98]⟩, ⟨#[]⟩, ⟨#[122, 122]⟩, ⟨#[120, 34, 121]⟩].getD p ⟨#[]⟩
def kN (n : Int) : Int := ((pickK n 61 : Nat) : Int) - 30
def halfN (sc n : Int) : Bool := decide (0 < sc /\ pickK n 4 = 0 /\ 0 <= kN n)
def fdT (wd : Bool) (sc n : Int) : ByteArray := if wd = true then wordT (pickK n 6) else if halfN sc n = true then digS (kN n) ++ ⟨#[46, 53]⟩ else digS (kN n)
def fdV (wd : Bool) (sc n : Int) : Int := if wd = true then 0 else if halfN sc n = true then kN n * tenTo sc.toNat + tenTo sc.toNat / 2 else kN n * tenTo sc.toNat
def fdS (wd : Bool) (n : Int) : ByteArray := if wd = true then wordV (pickK n 6) else ⟨#[]⟩
theorem digS_size {z : Int} (h1 : -99 <= z) (h2 : z <= 99) : (digS z).size <= 3 := by
  have hp : ∀ n, n < 100 -> (digP n).size <= 2 := fun n hn => by unfold digP;split;rw [dig1_size (by omega)]; omega;rw [ByteArray.size_append, dig1_size (by omega), dig1_size (by omega)]; omega
  unfold digS;split;rw [ByteArray.size_append];have := hp (-z).toNat (by omega);have e : (⟨#[45]⟩ : ByteArray).size = 1 := rfl;omega;have := hp z.toNat (by omega);omega
theorem field_word (sc ct n : Int) (hn : (Lit.int .i64 n).wf = true) (w : World) : Calls Tryz.prog 49 #[.agg #[.bool true, .int .i64 sc, .int .i64 ct], .int .i64 n] w fun e w' => e = .returned (.tuple #[.string (wordT (pickK n 6)), .int .i64 0, .string (wordV (pickK n 6))]) /\ Below w.heap.size w w' := by
  have HP : Hid (∀ W : World, Calls Tryz.prog 17 #[.int .i64 n, .int .i64 6] W fun e w' => e = .returned (.int .i64 (pickK n 6 : Nat)) /\ w' = W) := fun W => keepPick_any n 6 W hn (by omega) (by omega);have hp := pickK_lt n (show 0 < 6 by omega);generalize pickK n 6 = p at *;clear hn;go_enter Tryz.func49, Tryz.ntmps49;go_wp2_with fail
  refine (HP.out _).mono ?_;rintro e w1 ⟨rfl, h1⟩;obtain rfl := h1.symm
  rcases (show p = 0 ∨ p = 1 ∨ p = 2 ∨ p = 3 ∨ p = 4 ∨ p = 5 by omega) with rfl | rfl | rfl | rfl | rfl | rfl
  · go_wp2_with fail
    refine (HP.out _).mono ?_;rintro e w2 ⟨rfl, h2⟩;obtain rfl := h2.symm;go_wp2;refine bodyPost_ret (v := .tuple #[.string ⟨#[97]⟩, .int .i64 0, .string ⟨#[97]⟩]) (by simp [results, Tryz.results49, go_sem]) rfl ?_;exact ⟨rfl, (((Below.refl _ _).alloc (Nat.le_refl _) _).alloc (by simp) _).alloc (by simp; omega) _⟩
  · go_wp2_with fail
    refine (HP.out _).mono ?_;rintro e w2 ⟨rfl, h2⟩;obtain rfl := h2.symm;go_wp2;refine bodyPost_ret (v := .tuple #[.string ⟨#[98]⟩, .int .i64 0, .string ⟨#[98]⟩]) (by simp [results, Tryz.results49, go_sem]) rfl ?_;exact ⟨rfl, (((Below.refl _ _).alloc (Nat.le_refl _) _).alloc (by simp) _).alloc (by simp; omega) _⟩
  · go_wp2_with fail
    refine (HP.out _).mono ?_;rintro e w2 ⟨rfl, h2⟩;obtain rfl := h2.symm;go_wp2;refine bodyPost_ret (v := .tuple #[.string ⟨#[34, 97, 32, 98, 34]⟩, .int .i64 0, .string ⟨#[97, 32, 98]⟩]) (by simp [results, Tryz.results49, go_sem]) rfl ?_;exact ⟨rfl, (((Below.refl _ _).alloc (Nat.le_refl _) _).alloc (by simp) _).alloc (by simp; omega) _⟩
  · go_wp2_with fail
    refine (HP.out _).mono ?_;rintro e w2 ⟨rfl, h2⟩;obtain rfl := h2.symm;go_wp2;refine bodyPost_ret (v := .tuple #[.string ⟨#[34, 34]⟩, .int .i64 0, .string ⟨#[]⟩]) (by simp [results, Tryz.results49, go_sem]) rfl ?_;exact ⟨rfl, (((Below.refl _ _).alloc (Nat.le_refl _) _).alloc (by simp) _).alloc (by simp; omega) _⟩
  · go_wp2_with fail
    refine (HP.out _).mono ?_;rintro e w2 ⟨rfl, h2⟩;obtain rfl := h2.symm;go_wp2;refine bodyPost_ret (v := .tuple #[.string ⟨#[122, 122]⟩, .int .i64 0, .string ⟨#[122, 122]⟩]) (by simp [results, Tryz.results49, go_sem]) rfl ?_;exact ⟨rfl, (((Below.refl _ _).alloc (Nat.le_refl _) _).alloc (by simp) _).alloc (by simp; omega) _⟩
  go_wp2_with fail
  refine (HP.out _).mono ?_;rintro e w2 ⟨rfl, h2⟩;obtain rfl := h2.symm;go_wp2;refine bodyPost_ret (v := .tuple #[.string ⟨#[34, 120, 34, 34, 121, 34]⟩, .int .i64 0, .string ⟨#[120, 34, 121]⟩]) (by simp [results, Tryz.results49, go_sem]) rfl ?_;exact ⟨rfl, (((Below.refl _ _).alloc (Nat.le_refl _) _).alloc (by simp) _).alloc (by simp; omega) _⟩
theorem field_num (sc ct n : Int) (hn : (Lit.int .i64 n).wf = true) (h0 : 0 <= sc) (h3 : sc <= 3) (w : World) : Calls Tryz.prog 49 #[.agg #[.bool false, .int .i64 sc, .int .i64 ct], .int .i64 n] w fun e w' => e = .returned (.tuple #[.string (fdT false sc n), .int .i64 (fdV false sc n), .string ⟨#[]⟩]) /\ Below w.heap.size w w' := by
  have HP61 : Hid (∀ W : World, Calls Tryz.prog 17 #[.int .i64 n, .int .i64 61] W fun e w' => e = .returned (.int .i64 (pickK n 61 : Nat)) /\ w' = W) := fun W => keepPick_any n 61 W hn (by omega) (by omega);have HP4 : Hid (∀ W : World, Calls Tryz.prog 17 #[.int .i64 n, .int .i64 4] W fun e w' => e = .returned (.int .i64 (pickK n 4 : Nat)) /\ w' = W) := fun W => keepPick_any n 4 W hn (by omega) (by omega);have hp := pickK_lt n (show 0 < 61 by omega);have hk1 : -30 <= kN n /\ kN n <= 30 := (by unfold kN; omega);have qk : IntKind.i64.wrap (((pickK n 61 : Nat) : Int) - 30) = kN n := (by rw [wrapI (by omega) (by omega)]; rfl);have HD : Hid (∀ W : World, Calls Tryz.prog 48 #[.int .i64 (kN n)] W fun e w' => e = .returned (.string (digS (kN n))) /\ Below W.heap.size W w') := fun W => digits_any (kN n) (by omega) (by omega) W;have hds : (digS (kN n)).size <= 3 := digS_size (by omega) (by omega)
  have HT : Hid (fdT false sc n = if halfN sc n = true then digS (kN n) ++ ⟨#[46, 53]⟩ else digS (kN n)) := rfl;have HV : Hid (fdV false sc n = if halfN sc n = true then kN n * tenTo sc.toNat + tenTo sc.toNat / 2 else kN n * tenTo sc.toNat) := rfl;have HH : Hid (halfN sc n = decide (0 < sc /\ pickK n 4 = 0 /\ 0 <= kN n)) := rfl;generalize fdT false sc n = fT at *;generalize fdV false sc n = fV at *;generalize halfN sc n = hN at *;generalize pickK n 61 = p61 at *;generalize pickK n 4 = p4 at *;generalize kN n = kk at *;clear hn hp
  rcases (show sc = 0 ∨ sc = 1 ∨ sc = 2 ∨ sc = 3 by omega) with rfl | rfl | rfl | rfl
  · have HF : Hid (hN = false) := (by show _ = _; rw [HH.out]; exact decide_eq_false (by omega));have q1 : IntKind.i64.wrap (kk * 1) = kk * 1 := wrapI (by omega) (by omega);go_enter Tryz.func49, Tryz.ntmps49;go_wp2_with fail
    refine (HP61.out _).mono ?_;rintro e w1 ⟨rfl, h1⟩;obtain rfl := h1.symm;go_wp2_with fail
    refine (HD.out _).mono ?_;rintro e w3 ⟨rfl, hb3⟩;have HB : Hid (Below w.heap.size w w3) := (((Below.refl _ _).alloc (Nat.le_refl _) _).alloc (by simp) _).trans (hb3.mono (by simp; omega));clear hb3;go_wp2;refine bodyPost_ret (v := .tuple #[.string (digS kk), .int .i64 (kk * 1), .string ⟨#[]⟩]) (by simp [results, Tryz.results49, go_sem]) rfl ?_;exact ⟨by rw [HT.out, HV.out, HF.out]; rfl, HB.out⟩
  · have q1 : IntKind.i64.wrap (kk * 10) = kk * 10 := wrapI (by omega) (by omega);go_enter Tryz.func49, Tryz.ntmps49;go_wp2_with fail
    refine (HP61.out _).mono ?_;rintro e w1 ⟨rfl, h1⟩;obtain rfl := h1.symm;go_wp2_with fail
    refine (HP4.out _).mono ?_;rintro e w2 ⟨rfl, h2⟩;obtain rfl := h2.symm
    by_cases hc : p4 = 0 /\ 0 <= kk
    · have HF : Hid (hN = true) := (by show _ = _; rw [HH.out]; exact decide_eq_true (by omega));have q4 : ((p4 : Int) == 0) = true := (by rw [hc.1]; rfl);have q5 : 0 <= kk := hc.2;have q6 : IntKind.i64.wrap (kk * 10 + 5) = kk * 10 + 5 := wrapI (by omega) (by omega);clear hc;go_wp2_with fail
      refine (HD.out _).mono ?_;rintro e w3 ⟨rfl, hb3⟩;have HB : Hid (Below w.heap.size w w3) := (((Below.refl _ _).alloc (Nat.le_refl _) _).alloc (by simp) _).trans (hb3.mono (by simp; omega));clear hb3;go_wp2;refine bodyPost_ret (v := .tuple #[.string (digS kk ++ ⟨#[46, 53]⟩), .int .i64 (kk * 10 + 5), .string ⟨#[]⟩]) (by simp [results, Tryz.results49, go_sem]) rfl ?_;exact ⟨by rw [HT.out, HV.out, HF.out]; rfl, HB.out⟩
    have HF : Hid (hN = false) := by show _ = _; rw [HH.out]; exact decide_eq_false (by omega)
    by_cases hp4 : p4 = 0
    · have q4 : ((p4 : Int) == 0) = true := (by rw [hp4]; rfl);have q5 : ¬ 0 <= kk := (by omega);clear hc hp4;go_wp2_with fail
      refine (HD.out _).mono ?_;rintro e w3 ⟨rfl, hb3⟩;have HB : Hid (Below w.heap.size w w3) := (((Below.refl _ _).alloc (Nat.le_refl _) _).alloc (by simp) _).trans (hb3.mono (by simp; omega));clear hb3;go_wp2;refine bodyPost_ret (v := .tuple #[.string (digS kk), .int .i64 (kk * 10), .string ⟨#[]⟩]) (by simp [results, Tryz.results49, go_sem]) rfl ?_;exact ⟨by rw [HT.out, HV.out, HF.out]; rfl, HB.out⟩
    have q4 : ((p4 : Int) == 0) = false := (by rw [beq_eq_false_iff_ne]; omega);clear hc;go_wp2_with fail
    refine (HD.out _).mono ?_;rintro e w3 ⟨rfl, hb3⟩;have HB : Hid (Below w.heap.size w w3) := (((Below.refl _ _).alloc (Nat.le_refl _) _).alloc (by simp) _).trans (hb3.mono (by simp; omega));clear hb3;go_wp2;refine bodyPost_ret (v := .tuple #[.string (digS kk), .int .i64 (kk * 10), .string ⟨#[]⟩]) (by simp [results, Tryz.results49, go_sem]) rfl ?_;exact ⟨by rw [HT.out, HV.out, HF.out]; rfl, HB.out⟩
  · have q1 : IntKind.i64.wrap (kk * 100) = kk * 100 := wrapI (by omega) (by omega);go_enter Tryz.func49, Tryz.ntmps49;go_wp2_with fail
    refine (HP61.out _).mono ?_;rintro e w1 ⟨rfl, h1⟩;obtain rfl := h1.symm;go_wp2_with fail
    refine (HP4.out _).mono ?_;rintro e w2 ⟨rfl, h2⟩;obtain rfl := h2.symm
    by_cases hc : p4 = 0 /\ 0 <= kk
    · have HF : Hid (hN = true) := (by show _ = _; rw [HH.out]; exact decide_eq_true (by omega));have q4 : ((p4 : Int) == 0) = true := (by rw [hc.1]; rfl);have q5 : 0 <= kk := hc.2;have q6 : IntKind.i64.wrap (kk * 100 + 50) = kk * 100 + 50 := wrapI (by omega) (by omega);clear hc;go_wp2_with fail
      refine (HD.out _).mono ?_;rintro e w3 ⟨rfl, hb3⟩;have HB : Hid (Below w.heap.size w w3) := (((Below.refl _ _).alloc (Nat.le_refl _) _).alloc (by simp) _).trans (hb3.mono (by simp; omega));clear hb3;go_wp2;refine bodyPost_ret (v := .tuple #[.string (digS kk ++ ⟨#[46, 53]⟩), .int .i64 (kk * 100 + 50), .string ⟨#[]⟩]) (by simp [results, Tryz.results49, go_sem]) rfl ?_;exact ⟨by rw [HT.out, HV.out, HF.out]; rfl, HB.out⟩
    have HF : Hid (hN = false) := by show _ = _; rw [HH.out]; exact decide_eq_false (by omega)
    by_cases hp4 : p4 = 0
    · have q4 : ((p4 : Int) == 0) = true := (by rw [hp4]; rfl);have q5 : ¬ 0 <= kk := (by omega);clear hc hp4;go_wp2_with fail
      refine (HD.out _).mono ?_;rintro e w3 ⟨rfl, hb3⟩;have HB : Hid (Below w.heap.size w w3) := (((Below.refl _ _).alloc (Nat.le_refl _) _).alloc (by simp) _).trans (hb3.mono (by simp; omega));clear hb3;go_wp2;refine bodyPost_ret (v := .tuple #[.string (digS kk), .int .i64 (kk * 100), .string ⟨#[]⟩]) (by simp [results, Tryz.results49, go_sem]) rfl ?_;exact ⟨by rw [HT.out, HV.out, HF.out]; rfl, HB.out⟩
    have q4 : ((p4 : Int) == 0) = false := (by rw [beq_eq_false_iff_ne]; omega);clear hc;go_wp2_with fail
    refine (HD.out _).mono ?_;rintro e w3 ⟨rfl, hb3⟩;have HB : Hid (Below w.heap.size w w3) := (((Below.refl _ _).alloc (Nat.le_refl _) _).alloc (by simp) _).trans (hb3.mono (by simp; omega));clear hb3;go_wp2;refine bodyPost_ret (v := .tuple #[.string (digS kk), .int .i64 (kk * 100), .string ⟨#[]⟩]) (by simp [results, Tryz.results49, go_sem]) rfl ?_;exact ⟨by rw [HT.out, HV.out, HF.out]; rfl, HB.out⟩
  have q1 : IntKind.i64.wrap (kk * 1000) = kk * 1000 := wrapI (by omega) (by omega);go_enter Tryz.func49, Tryz.ntmps49;go_wp2_with fail
  refine (HP61.out _).mono ?_;rintro e w1 ⟨rfl, h1⟩;obtain rfl := h1.symm;go_wp2_with fail
  refine (HP4.out _).mono ?_;rintro e w2 ⟨rfl, h2⟩;obtain rfl := h2.symm
  by_cases hc : p4 = 0 /\ 0 <= kk
  · have HF : Hid (hN = true) := (by show _ = _; rw [HH.out]; exact decide_eq_true (by omega));have q4 : ((p4 : Int) == 0) = true := (by rw [hc.1]; rfl);have q5 : 0 <= kk := hc.2;have q6 : IntKind.i64.wrap (kk * 1000 + 500) = kk * 1000 + 500 := wrapI (by omega) (by omega);clear hc;go_wp2_with fail
    refine (HD.out _).mono ?_;rintro e w3 ⟨rfl, hb3⟩;have HB : Hid (Below w.heap.size w w3) := (((Below.refl _ _).alloc (Nat.le_refl _) _).alloc (by simp) _).trans (hb3.mono (by simp; omega));clear hb3;go_wp2;refine bodyPost_ret (v := .tuple #[.string (digS kk ++ ⟨#[46, 53]⟩), .int .i64 (kk * 1000 + 500), .string ⟨#[]⟩]) (by simp [results, Tryz.results49, go_sem]) rfl ?_;exact ⟨by rw [HT.out, HV.out, HF.out]; rfl, HB.out⟩
  have HF : Hid (hN = false) := by show _ = _; rw [HH.out]; exact decide_eq_false (by omega)
  by_cases hp4 : p4 = 0
  · have q4 : ((p4 : Int) == 0) = true := (by rw [hp4]; rfl);have q5 : ¬ 0 <= kk := (by omega);clear hc hp4;go_wp2_with fail
    refine (HD.out _).mono ?_;rintro e w3 ⟨rfl, hb3⟩;have HB : Hid (Below w.heap.size w w3) := (((Below.refl _ _).alloc (Nat.le_refl _) _).alloc (by simp) _).trans (hb3.mono (by simp; omega));clear hb3;go_wp2;refine bodyPost_ret (v := .tuple #[.string (digS kk), .int .i64 (kk * 1000), .string ⟨#[]⟩]) (by simp [results, Tryz.results49, go_sem]) rfl ?_;exact ⟨by rw [HT.out, HV.out, HF.out]; rfl, HB.out⟩
  have q4 : ((p4 : Int) == 0) = false := (by rw [beq_eq_false_iff_ne]; omega);clear hc;go_wp2_with fail
  refine (HD.out _).mono ?_;rintro e w3 ⟨rfl, hb3⟩;have HB : Hid (Below w.heap.size w w3) := (((Below.refl _ _).alloc (Nat.le_refl _) _).alloc (by simp) _).trans (hb3.mono (by simp; omega));clear hb3;go_wp2;refine bodyPost_ret (v := .tuple #[.string (digS kk), .int .i64 (kk * 1000), .string ⟨#[]⟩]) (by simp [results, Tryz.results49, go_sem]) rfl ?_;exact ⟨by rw [HT.out, HV.out, HF.out]; rfl, HB.out⟩
theorem field_any (wd : Bool) (sc ct n : Int) (hn : (Lit.int .i64 n).wf = true) (hsc : wd = false -> 0 <= sc /\ sc <= 3) (w : World) : Calls Tryz.prog 49 #[.agg #[.bool wd, .int .i64 sc, .int .i64 ct], .int .i64 n] w fun e w' => e = .returned (.tuple #[.string (fdT wd sc n), .int .i64 (fdV wd sc n), .string (fdS wd n)]) /\ Below w.heap.size w w' := by
  cases wd
  exact field_num sc ct n hn (hsc rfl).1 (hsc rfl).2 w;exact field_word sc ct n hn w
end Go.Proofs.YtfcgnpchbcmdeaaGreat
