import Derived.Test.YtfcgnpchbcmdeaaGreatZpbl
import Derived.Test.YtfcgnpchbcmdeaaGreatZpbm
namespace Go.Proofs.YtfcgnpchbcmdeaaGreat
open Go.RowKit
theorem bytesL_append (a b : ByteArray) : bytesL (a ++ b) = bytesL a ++ bytesL b := by unfold bytesL;rw [ByteArray.data_append, Array.toList_append, List.map_append]
def runF (wd : Bool) (u : Int) : List Int -> PartS -> List Int -> Option (PartS × List Int)
  | [], p, bs => some (p, bs)
  | c :: r, p, bs => match fieldStep wd u p bs c with
    | some (p', bs') => runF wd u r p' bs'
    | none => none
def okF (wd : Bool) (u : Int) (bytes : List Int) (miss : Bool) (num : Int) (word : List Int) : Bool :=
  match runF wd u bytes part0 [] with
  | none => false
  | some (p, bs) => mayEnd p.st && (fieldStep wd u p bs 44).isNone && (fieldStep wd u p bs 10).isNone && decide (numOf p = num) && (decide (p.st = 0) == miss) && decide (bs = word)
theorem ok_miss (wd : Bool) {sc : Nat} (h : sc <= 3) : okF wd (tenTo sc) [] true 0 [] = true := by rcases (show sc = 0 ∨ sc = 1 ∨ sc = 2 ∨ sc = 3 by omega) with rfl | rfl | rfl | rfl <;> cases wd <;> decide
theorem ok_word {p : Nat} (h : p < 6) : okF true (tenTo 0) (bytesL (wordT p)) false 0 (bytesL (wordV p)) = true := by rcases (show p = 0 ∨ p = 1 ∨ p = 2 ∨ p = 3 ∨ p = 4 ∨ p = 5 by omega) with rfl | rfl | rfl | rfl | rfl | rfl <;> kernel_rfl
theorem ok_nums : ((List.range 4).all fun sc => (List.range 61).all fun j => okF false (tenTo sc) (bytesL (digS ((j : Int) - 30))) false (((j : Int) - 30) * tenTo sc) []) = true := by kernel_rfl
theorem ok_halves : ((List.range 3).all fun sc => (List.range 31).all fun j => okF false (tenTo (sc + 1)) (bytesL (digS (j : Int) ++ ⟨#[46, 53]⟩)) false ((j : Int) * tenTo (sc + 1) + tenTo (sc + 1) / 2) []) = true := by kernel_rfl
theorem ok_num {sc : Nat} {k : Int} (hs : sc <= 3) (h1 : -30 <= k) (h2 : k <= 30) : okF false (tenTo sc) (bytesL (digS k)) false (k * tenTo sc) [] = true := by
  have h := ok_nums;rw [List.all_eq_true] at h;have h3 := h sc (by simp; omega);rw [List.all_eq_true] at h3;have h4 := h3 (k + 30).toNat (by simp; omega)
  rwa [show (((k + 30).toNat : Nat) : Int) - 30 = k by omega] at h4
theorem ok_half {sc : Nat} {k : Int} (hs0 : 0 < sc) (hs : sc <= 3) (h1 : 0 <= k) (h2 : k <= 30) : okF false (tenTo sc) (bytesL (digS k ++ ⟨#[46, 53]⟩)) false (k * tenTo sc + tenTo sc / 2) [] = true := by
  have h := ok_halves;rw [List.all_eq_true] at h;have h3 := h (sc - 1) (by simp; omega);rw [List.all_eq_true, show sc - 1 + 1 = sc by omega] at h3;have h4 := h3 k.toNat (by simp; omega)
  rwa [show ((k.toNat : Nat) : Int) = k by omega] at h4
def numR (cs l : List Int) (at_ i : Nat) : Int := if goneR (xR l at_ i) = true then 0 else fdV (cfW cs i) (cfC cs i) ((xR l at_ i).tdiv 3)
def wrdR (cs l : List Int) (at_ i : Nat) : ByteArray := if goneR (xR l at_ i) = true then ⟨#[]⟩ else fdS (cfW cs i) ((xR l at_ i).tdiv 3)
theorem strOf_bytes (b : ByteArray) : strOfNums (bytesL b) = b := by
  cases b with
  | mk d =>
    unfold strOfNums bytesL;congr 1;apply Array.ext';simp [List.map_map, Function.comp_def]
theorem ok_field (cs l : List Int) (at_ i : Nat) : okF (cfW cs i) (tenTo (cfC cs i).toNat) (bytesL (txR cs l at_ i)) (goneR (xR l at_ i)) (numR cs l at_ i) (bytesL (wrdR cs l at_ i)) = true := by
  have hp4 := pickK_lt (rawK cs (4 + i)) (show 0 < 4 by omega);have hC : 0 <= cfC cs i /\ cfC cs i <= 3 := (by unfold cfC; split <;> omega);unfold txR numR wrdR
  cases hg : goneR (xR l at_ i) with
  | true =>
    simp only [if_true];exact ok_miss (cfW cs i) (sc := (cfC cs i).toNat) (by omega)
  | false =>
    simp only [Bool.false_eq_true, if_false];generalize (xR l at_ i).tdiv 3 = x
    cases hw : cfW cs i with
    | true =>
      have hc0 : cfC cs i = 0 := (by unfold cfC; rw [hw]; rfl);rw [hc0];unfold fdT fdV fdS;simp only [if_true];exact ok_word (pickK_lt x (by omega))
    | false =>
      have hk := kN_in x;unfold fdT fdV fdS;simp only [Bool.false_eq_true, if_false]
      cases hh : halfN (cfC cs i) x with
      | true =>
        unfold halfN at hh;rw [decide_eq_true_eq] at hh;simp only [if_true];have := ok_half (sc := (cfC cs i).toNat) (k := kN x) (by omega) (by omega) hh.2.2 (by omega);exact this
      | false =>
        simp only [Bool.false_eq_true, if_false];exact ok_num (sc := (cfC cs i).toNat) (by omega) hk.1 hk.2
section
variable {n : Nat} {wd : Nat -> Bool} {sc : Nat -> Int}
theorem rtakes_run (s : RS) (hfl : s.fl = true) (hws : s.ws.length ≠ 200) : ∀ (l : List Int) (p : PartS) (bs : List Int) (k : Nat) {p' : PartS} {bs' : List Int}, runF (wd s.row.length) (tenTo (sc s.row.length).toNat) l p bs = some (p', bs') -> rtakes n wd sc { s with p := p, bs := bs } l k = .ok { s with p := p', bs := bs' }
  | [], p, bs, k, p', bs', h => by unfold runF at h;injection h with h;injection h with h1 h2;subst h1 h2;rfl
  | c :: r, p, bs, k, p', bs', h => by
    unfold runF at h
    cases hs : fieldStep (wd s.row.length) (tenTo (sc s.row.length).toNat) p bs c with
    | none => rw [hs] at h; cases h
    | some q =>
      obtain ⟨p1, bs1⟩ := q;rw [hs] at h;have e : rtake n wd sc { s with p := p, bs := bs } c = .ok { s with p := p1, bs := bs1 } := (by unfold rtake;rw [if_neg hws, if_neg (by simp [hfl])];simp only [hs]);unfold rtakes;rw [e];exact rtakes_run s hfl hws r p1 bs1 (k + 1) h
theorem rtakes_field {s : RS} (hfl : s.fl = true) (hws : s.ws.length ≠ 200) (hp : s.p = part0) (hbs : s.bs = []) {bytes : List Int} {miss : Bool} {num : Int} {word : ByteArray} (hok : okF (wd s.row.length) (tenTo (sc s.row.length).toNat) bytes miss num (bytesL word) = true) (k : Nat) : rtakes n wd sc s (bytes ++ [sepOf s.row.length n]) k = .ok (rowEnd n s (s.row ++ [⟨miss, num, word⟩])) := by
  unfold okF at hok
  cases hr : runF (wd s.row.length) (tenTo (sc s.row.length).toNat) bytes part0 [] with
  | none => rw [hr] at hok; cases hok
  | some q =>
    obtain ⟨p, bs⟩ := q;rw [hr] at hok;simp only [Bool.and_eq_true, decide_eq_true_eq, beq_iff_eq, Option.isNone_iff_eq_none] at hok;obtain ⟨⟨⟨⟨⟨h1, h2⟩, h3⟩, h4⟩, h5⟩, h6⟩ := hok;have h0 := rtakes_run (n := n) (wd := wd) (sc := sc) s hfl hws bytes part0 [] k hr;rw [show ({ s with p := part0, bs := [] } : RS) = s by rw [<- hp, <- hbs]] at h0;rw [rtakes_append, h0];simp only [rtakes];have hn : fieldStep (wd s.row.length) (tenTo (sc s.row.length).toNat) p bs (sepOf s.row.length n) = none := by unfold sepOf;split;exact h3;exact h2
    have e : rtake n wd sc { s with p := p, bs := bs } (sepOf s.row.length n) = .ok (rowEnd n s (s.row ++ [⟨miss, num, word⟩])) := (by unfold rtake;rw [if_neg hws, if_neg (by simp [hfl])];simp only [hn];rw [if_pos (by first | exact ⟨rfl, h1⟩ | exact ⟨trivial, h1⟩)];have ev : valOf p bs = ⟨miss, num, word⟩ := (by unfold valOf;rw [h4, h5, h6, strOf_bytes]);rw [ev];rfl);rw [e]
end
def valR (cs l : List Int) (at_ i : Nat) : VS := ⟨goneR (xR l at_ i), numR cs l at_ i, wrdR cs l at_ i⟩
def hB (cs l : List Int) (at_ : Nat) : Nat -> List Int
  | 0 => []
  | k + 1 => hB cs l at_ k ++ (bytesL (txR cs l at_ k) ++ [44])
theorem fieldsT_bytes (cs l : List Int) (at_ : Nat) (s : ByteArray) : ∀ k, bytesL (fieldsT cs l at_ s k) ++ [44] = bytesL s ++ (44 :: hB cs l at_ k)
  | 0 => by simp [fieldsT, hB]
  | k + 1 => by have ih := fieldsT_bytes cs l at_ s k;have e : bytesL (⟨#[44]⟩ : ByteArray) = [44] := rfl;simp only [fieldsT, bytesL_append, e];rw [List.append_assoc, List.append_assoc, <- List.append_assoc (bytesL (fieldsT cs l at_ s k)), ih];simp [hB]
set_option maxHeartbeats 1000000 in
theorem rtakes_h (cs l : List Int) (at_ : Nat) (S : RS) (hfl : S.fl = true) (hws : S.ws.length ≠ 200) (hrow : S.row = []) (hp : S.p = part0) (hbs : S.bs = []) (q : Nat) : ∀ k, k <= cfM cs -> rtakes (cfM cs + 1) (cfW cs) (cfC cs) S (hB cs l at_ k) q = .ok { S with row := (List.range k).map (valR cs l at_) }
  | 0, _ => by simp only [hB, rtakes, List.range_zero, List.map_nil];rw [<- hrow]
  | k + 1, hk => by
    have ih := rtakes_h cs l at_ S hfl hws hrow hp hbs q k (by omega);simp only [hB];rw [rtakes_append, ih];simp only;have hl : ((List.range k).map (valR cs l at_)).length = k := (by simp);have hs : sepOf k (cfM cs + 1) = 44 := (by unfold sepOf; rw [if_neg (by omega)]);have h := rtakes_field (n := cfM cs + 1) (wd := cfW cs) (sc := cfC cs) (s := { S with row := (List.range k).map (valR cs l at_) }) hfl hws hp hbs (bytes := bytesL (txR cs l at_ k)) (miss := goneR (xR l at_ k)) (num := numR cs l at_ k) (word := wrdR cs l at_ k) (by rw [show ({ S with row := (List.range k).map (valR cs l at_) } : RS).row.length = k from hl]; exact ok_field cs l at_ k) (q + (hB cs l at_ k).length);rw [show ({ S with row := (List.range k).map (valR cs l at_) } : RS).row.length = k from hl, hs] at h;rw [h];unfold rowEnd;rw [if_neg (by simp; omega)]
    have er : (List.range k).map (valR cs l at_) ++ [⟨goneR (xR l at_ k), numR cs l at_ k, wrdR cs l at_ k⟩] = (List.range (k + 1)).map (valR cs l at_) := (by rw [List.range_succ, List.map_append]; rfl);rw [er, hp, hbs]
def stR (cs l : List Int) : Nat -> RS
  | 0 => RS.start
  | r + 1 => rowEnd (cfM cs + 1) { stR cs l r with wt := wtR l (r * (cfM cs + 2)), fl := true } ((List.range (cfM cs + 1)).map (valR cs l (r * (cfM cs + 2))))
structure StOk (cs l : List Int) (r : Nat) (s : RS) : Prop where
  ws : s.ws = (List.range r).map fun j => wtR l (j * (cfM cs + 2))
  col : ∀ i, i < cfM cs + 1 -> s.cols i = (List.range r).map fun j => valR cs l (j * (cfM cs + 2)) i
  wt : s.wt = 0
  fl : s.fl = false
  row : s.row = []
  p : s.p = part0
  bs : s.bs = []
theorem stR_ok (cs l : List Int) : ∀ r, StOk cs l r (stR cs l r)
  | 0 => ⟨rfl, fun _ _ => rfl, rfl, rfl, rfl, rfl, rfl⟩
  | r + 1 => by have ih := stR_ok cs l r;unfold stR rowEnd;rw [if_pos (by simp)];refine ⟨?_, fun i hi => ?_, rfl, rfl, rfl, rfl, rfl⟩;show (stR cs l r).ws ++ _ = _;rw [ih.ws, List.range_succ, List.map_append]; rfl;show (if i < cfM cs + 1 then (stR cs l r).cols i ++ _ else (stR cs l r).cols i) = _;rw [if_pos hi, ih.col i hi, show List.range (r + 1) = List.range r ++ [r] from List.range_succ, List.map_append];congr 1;simp [List.getD, hi]
theorem rtakes_weight {n : Nat} {wd : Nat -> Bool} {sc : Nat -> Int} {s : RS} {z : Int} (h1 : 1 <= z) (h2 : z <= 9) (hfl : s.fl = false) (hws : s.ws.length ≠ 200) (hwt : s.wt = 0) (k : Nat) : rtakes n wd sc s (bytesL (digS z) ++ [44]) k = .ok { s with wt := z, fl := true } := by
  have eb : bytesL (digS z) = [48 + z] := by rcases (show z = 1 ∨ z = 2 ∨ z = 3 ∨ z = 4 ∨ z = 5 ∨ z = 6 ∨ z = 7 ∨ z = 8 ∨ z = 9 by omega) with rfl | rfl | rfl | rfl | rfl | rfl | rfl | rfl | rfl <;> kernel_rfl
  have e1 : rtake n wd sc s (48 + z) = .ok { s with wt := z } := (by unfold rtake;rw [if_neg hws, if_pos hfl];have : weightStep s.wt (48 + z) = .digit z := (by unfold weightStep;rw [hwt, if_neg (by omega), if_pos (by omega)];congr 1;omega);rw [this]);have e2 : rtake n wd sc { s with wt := z } 44 = .ok { s with wt := z, fl := true } := (by unfold rtake;rw [if_neg hws, if_pos hfl];have : weightStep z 44 = .whole := (by unfold weightStep;rw [if_pos ⟨rfl, by omega⟩]);rw [this]);rw [eb];simp only [List.singleton_append, rtakes, e1, e2]
set_option maxHeartbeats 1000000 in
theorem text_ok (cs l : List Int) : ∀ r, r <= 150 -> rtakes (cfM cs + 1) (cfW cs) (cfC cs) RS.start (bytesL (textR cs l r)) 0 = .ok (stR cs l r)
  | 0, _ => rfl
  | r + 1, hr => by
    have ih := text_ok cs l r (by omega);have hS := stR_ok cs l r;obtain ⟨at_, hat⟩ : ∃ at_, at_ = r * (cfM cs + 2) := ⟨_, rfl⟩;have hw := wtR_in l at_;have hwl : (stR cs l r).ws.length ≠ 200 := by rw [hS.ws]; simp; omega
    have eb : bytesL (textR cs l (r + 1)) = bytesL (textR cs l r) ++ ((bytesL (digS (wtR l at_)) ++ [44]) ++ (hB cs l at_ (cfM cs) ++ (bytesL (txR cs l at_ (cfM cs)) ++ [10]))) := by have e10 : bytesL (⟨#[10]⟩ : ByteArray) = [10] := rfl;have e44 : bytesL (⟨#[44]⟩ : ByteArray) = [44] := rfl;have hf := fieldsT_bytes cs l at_ (textR cs l r ++ digS (wtR l at_)) (cfM cs);simp only [textR, <- hat, fieldsT, bytesL_append, e10, e44];rw [hf, bytesL_append];simp
    rw [eb, rtakes_append, ih];simp only;rw [rtakes_append, rtakes_weight hw.1 hw.2 hS.fl hwl hS.wt];simp only;rw [rtakes_append, rtakes_h cs l at_ { stR cs l r with wt := wtR l at_, fl := true } rfl hwl hS.row hS.p hS.bs _ (cfM cs) (Nat.le_refl _)];simp only;have hl : ((List.range (cfM cs)).map (valR cs l at_)).length = cfM cs := (by simp);have hs : sepOf (cfM cs) (cfM cs + 1) = 10 := by unfold sepOf; rw [if_pos rfl]
    have h := rtakes_field (n := cfM cs + 1) (wd := cfW cs) (sc := cfC cs) (s := { stR cs l r with wt := wtR l at_, fl := true, row := (List.range (cfM cs)).map (valR cs l at_) }) rfl hwl hS.p hS.bs (bytes := bytesL (txR cs l at_ (cfM cs))) (miss := goneR (xR l at_ (cfM cs))) (num := numR cs l at_ (cfM cs)) (word := wrdR cs l at_ (cfM cs)) (by rw [show ({ stR cs l r with wt := wtR l at_, fl := true, row := (List.range (cfM cs)).map (valR cs l at_) } : RS).row.length = cfM cs from hl]; exact ok_field cs l at_ (cfM cs)) (0 + (bytesL (textR cs l r)).length + (bytesL (digS (wtR l at_)) ++ [44]).length + (hB cs l at_ (cfM cs)).length);rw [show ({ stR cs l r with wt := wtR l at_, fl := true, row := (List.range (cfM cs)).map (valR cs l at_) } : RS).row.length = cfM cs from hl, hs] at h;rw [h]
    have er : (List.range (cfM cs)).map (valR cs l at_) ++ [⟨goneR (xR l at_ (cfM cs)), numR cs l at_ (cfM cs), wrdR cs l at_ (cfM cs)⟩] = (List.range (cfM cs + 1)).map (valR cs l at_) := (by rw [List.range_succ, List.map_append]; rfl);simp only [er];show _ = Except.ok (rowEnd (cfM cs + 1) { stR cs l r with wt := wtR l (r * (cfM cs + 2)), fl := true } ((List.range (cfM cs + 1)).map (valR cs l (r * (cfM cs + 2)))));rw [<- hat];unfold rowEnd;rw [if_pos (by simp)]
end Go.Proofs.YtfcgnpchbcmdeaaGreat

namespace Go.Proofs.YtfcgnpchbcmdeaaGreat
open Go.RowKit
theorem rtakes_at {n : Nat} {wd : Nat -> Bool} {sc : Nat -> Int} : ∀ (l : List Int) (s : RS) (k : Nat) {z : Int} {p : Nat}, rtakes n wd sc s l k = .error (z, p) -> k <= p /\ p < k + l.length /\ (∃ s', rtakes n wd sc s (l.take (p - k)) k = .ok s') /\ rtakes n wd sc s (l.take (p - k + 1)) k = .error (z, p)
  | [], s, k, z, p, h => by cases h
  | c :: r, s, k, z, p, h => by
    unfold rtakes at h
    cases ht : rtake n wd sc s c with
    | error y =>
      rw [ht] at h;injection h with h;injection h with h1 h2;subst h1 h2;refine ⟨Nat.le_refl _, by simp, ⟨s, by rw [Nat.sub_self]; rfl⟩, ?_⟩;rw [Nat.sub_self];simp [rtakes, ht]
    | ok s1 =>
      rw [ht] at h;obtain ⟨a, b, ⟨s', c1⟩, d⟩ := rtakes_at r s1 (k + 1) h;refine ⟨by omega, by simp; omega, ⟨s', ?_⟩, ?_⟩;rw [show p - k = (p - (k + 1)) + 1 by omega, List.take_succ_cons];simp only [rtakes, ht];exact c1;rw [show p - k + 1 = (p - (k + 1) + 1) + 1 by omega, List.take_succ_cons];simp only [rtakes, ht];exact d
section
variable {w wr : World} {K : Nat -> Prop} {ib tb rb fb cb m : Nat} {wd : Nat -> Bool} {sc ct : Nat -> Int} {bins : Int} {size budget : Nat}
theorem feed_piece (b c : ByteArray) (k n base : Nat) (hc : bytesL c = ((bytesL b).drop k).take n) (hk : k + n <= b.size) (hb : b.size <= 200000000000000) (hm : m + 1 <= 4) (hsc : ∀ i, i < m + 1 -> wd i = false -> 0 <= sc i /\ sc i <= 3) (hbs : base <= wr.heap.size) (hib : base <= ib /\ base <= tb) (hF : FedI base K ib tb rb fb cb (m + 1) wd sc ct bins size budget k (rtakes (m + 1) wd sc RS.start ((bytesL b).take k) 0) wr) : Calls Tryz.prog 32 #[.pointer (some ⟨ib, 0, none⟩), .string c] wr fun e w' => e = .returned (.tuple #[.int .i64 (fedAns (rtakes (m + 1) wd sc RS.start ((bytesL b).take (k + n)) 0)).1, .int .i64 (fedAns (rtakes (m + 1) wd sc RS.start ((bytesL b).take (k + n)) 0)).2]) /\ FedI base K ib tb rb fb cb (m + 1) wd sc ct bins size budget (k + n) (rtakes (m + 1) wd sc RS.start ((bytesL b).take (k + n)) 0) w' /\ Below base wr w' := by
  have hr : bytesL (b.extract k b.size) = (bytesL b).drop k := (by rw [bytesL_extract, List.take_of_length_le (by rw [bytesL_len]; exact Nat.le_refl _)]);have hrs : (b.extract k b.size).size = b.size - k := by rw [<- bytesL_len, hr, List.length_drop, bytesL_len]
  have he : c = (b.extract k b.size).extract 0 n := by
    have h1 : bytesL c = bytesL ((b.extract k b.size).extract 0 n) := (by rw [bytesL_extract, hr, List.drop_zero]; exact hc);unfold bytesL at h1
    have h2 : c.data.toList = ((b.extract k b.size).extract 0 n).data.toList := by
      refine List.map_inj_right (f := fun u : UInt8 => (u.toNat : Int)) (fun x y hxy => ?_) |>.1 h1
      have hxy' : (x.toNat : Int) = (y.toNat : Int) := hxy;have : x.toNat = y.toNat := (by omega);exact UInt8.toNat_inj.1 this
    cases c with
    | mk d =>
      cases hq : (b.extract k b.size).extract 0 n with
      | mk d2 =>
        rw [hq] at h2;simp only at h2;rw [Array.toList_inj.1 h2]
  rw [he];exact feed_more (size := size) (budget := budget) (bins := bins) b (b.extract k b.size) k n base hr hrs (by omega) (by rw [hrs]; omega) hb hm hsc hbs hib hF
end
end Go.Proofs.YtfcgnpchbcmdeaaGreat

namespace Go.Proofs.YtfcgnpchbcmdeaaGreat
open Go.RowKit
theorem getD_wfK {w : World} {a : Option Addr} {n : Nat} {zs : List Int} (h : IntsV w a n zs) {i : Nat} (hi : i < n) : (Lit.int .i64 (zs.getD i 0)).wf = true := by have hl : i < zs.length := (by rw [h.1]; exact hi);rw [List.getD_eq_getElem?_getD, List.getElem?_eq_getElem hl];exact h.2.1 _ (List.getElem_mem _)
theorem tdiv_wf {x : Int} (h : (Lit.int .i64 x).wf = true) : (Lit.int .i64 (x.tdiv 3)).wf = true /\ IntKind.i64.wrap (x.tdiv 3) = x.tdiv 3 := by
  have hx : -9223372036854775808 <= x /\ x <= 9223372036854775807 := by simp [Lit.wf, IntKind.min, IntKind.max, IntKind.bits, IntKind.signed] at h; omega
  have h2 : -9000000000000000000 <= x.tdiv 3 /\ x.tdiv 3 <= 9000000000000000000 := by
    rcases Int.le_total 0 x with h0 | h0
    rw [Int.tdiv_eq_ediv_of_nonneg h0]; omega;have e : x.tdiv 3 = -((-x).tdiv 3) := (by rw [Int.neg_tdiv]; omega);rw [e, Int.tdiv_eq_ediv_of_nonneg (by omega)]; omega
  refine ⟨?_, wrapI h2.1 h2.2⟩;simp [Lit.wf, IntKind.min, IntKind.max, IntKind.bits, IntKind.signed]; omega
set_option maxRecDepth 100000 in
set_option maxHeartbeats 8000000 in
theorem keepRows_any (fk fc ln lc : Nat) (la : Option Addr) (cs l : List Int) (w : World) (hF : Feats w fk 0 (cfM cs + 1) (cfW cs) (cfC cs) (cfT cs)) (hl : IntsV w la ln l) (hln : ln <= 9223372036854775807) : Calls Tryz.prog 24 #[.agg #[.slice (some ⟨fk, 0, none⟩) (cfM cs + 1) fc, .int .i64 (cfB cs : Nat), .int .i64 (cfS cs : Nat), .int .i64 (cfU cs : Nat)], .slice la ln lc] w fun e w' => ∃ v, e = .returned (.tuple #[v, .string (textR cs l (manyR cs l))]) /\ RowsM w' w.heap.size v (rowsR cs l (manyR cs l)) /\ Below w.heap.size w w' := by
  have hm3 : cfM cs <= 3 := (cf_in cs).2.2.2.2.2;have hfl := hF.lt (by omega)
  have HF : Hid (∀ W, Below w.heap.size w W -> Feats W fk 0 (cfM cs + 1) (cfW cs) (cfC cs) (cfT cs)) := fun W hb => by have k : ∀ o, W.cell? ⟨fk, o, none⟩ = w.cell? ⟨fk, o, none⟩ := fun o => hb.cell (p := ⟨fk, o, none⟩) hfl;exact ⟨hF.le, fun _ => by have := hb.size; omega, fun i hi => (k _).trans (hF.c0 i hi), fun i hi => (k _).trans (hF.c1 i hi), fun i hi => (k _).trans (hF.c2 i hi)⟩
  have HL : Hid (IntsV w la ln l) := hl;have HLN : Hid (l.length = ln) := hl.1;obtain ⟨n, hn⟩ : ∃ n, n = cfM cs + 1 := ⟨_, rfl⟩;have HN : Hid (n = cfM cs + 1) := hn;have hn4 : 1 <= n /\ n <= 4 := (by omega);obtain ⟨w0, hw0⟩ : ∃ w0, w0 = w.alloc (.cells #[.slice (some ⟨fk, 0, none⟩) (cfM cs + 1) fc, .int .i64 (cfB cs : Nat), .int .i64 (cfS cs : Nat), .int .i64 (cfU cs : Nat)] 37) := ⟨_, rfl⟩;have HR0 : Hid (w0.heap[w.heap.size]? = some (.cells #[.slice (some ⟨fk, 0, none⟩) (cfM cs + 1) fc, .int .i64 (cfB cs : Nat), .int .i64 (cfS cs : Nat), .int .i64 (cfU cs : Nat)] 37 (0, 0)) /\ w0.heap.size = w.heap.size + 1) := ⟨by rw [hw0]; exact heap_alloc_new w _, by rw [hw0]; simp⟩;have HB0 : Hid (Below w.heap.size w w0) := (by show Below _ _ _; rw [hw0]; exact (Below.refl _ _).alloc (Nat.le_refl _) _);clear hF hl;go_enter Tryz.func24, Tryz.ntmps24;go_wp2_with fail
  rw [<- hw0];clear hw0;obtain ⟨RR, hRR⟩ : ∃ RR, RR = manyR cs l := ⟨_, rfl⟩;have HRR : Hid (RR = manyR cs l /\ RR <= 150 /\ ∀ r, r < RR ↔ r < 150 /\ (r + 1) * (n + 1) <= ln) := (by refine ⟨hRR, by rw [hRR]; unfold manyR; omega, fun r => ?_⟩;rw [hRR];unfold manyR;rw [HLN.out, show cfM cs + 2 = n + 1 by omega];have := Nat.le_div_iff_mul_le (k := n + 1) (x := r + 1) (y := ln) (by omega);omega);clear hRR hn;go_loopw [6, 7, 8] (fun tov ts ta wr => ∃ (r : Nat), r <= RR /\ ta = .int .i64 (r * (n + 1) : Nat) /\ ts = .string (textR cs l r) /\ Hid (RowsM wr w0.heap.size tov (rowsR cs l r)) /\ Hid (Below w0.heap.size w0 wr)) (fun _ _ ta _ => RR * (n + 1) - (intOf ta).toNat)
  case atStart => exact ⟨0, Nat.zero_le _, by simp, rfl, ⟨[], rfl, RowsX.nil _ _⟩, Below.refl _ _⟩
  case round =>
    obtain ⟨r, hr, rfl, rfl, HRM, HB⟩ := hrel;have hr150 := HRR.out.2.1;have HBW : Hid (Below w.heap.size w wr) := HB0.out.trans (HB.out.mono (by have := HR0.out.2; omega));have hw0l : w.heap.size < w0.heap.size := (by have := HR0.out.2; omega);have hcfg : wr.heap[w.heap.size]? = some (.cells #[.slice (some ⟨fk, 0, none⟩) (cfM cs + 1) fc, .int .i64 (cfB cs : Nat), .int .i64 (cfS cs : Nat), .int .i64 (cfU cs : Nat)] 37 (0, 0)) := (HB.out.block _ hw0l).trans HR0.out.1;have g0 : wr.cell? ⟨w.heap.size, 0, none⟩ = some (.slice (some ⟨fk, 0, none⟩) n fc) := (by rw [HN.out]; exact cell_of_row _ _ 0 _ 37 (0, 0) hcfg);obtain ⟨LL, hLL, hRX⟩ := HRM.out;obtain ⟨oa, oc, rfl⟩ := hRX.shape;have hLr : LL.length = r := (by rw [<- List.length_map (f := RawV.r), hLL]; simp [rowsR]);rw [hLr]
    have HRX : Hid (RowsX wr w0.heap.size (.slice oa r oc) LL /\ LL.map RawV.r = rowsR cs l r /\ LL.length = r) := ⟨by rw [hLr] at hRX; exact hRX, hLL, hLr⟩;clear hRX hLL hLr hcfg HRM;obtain ⟨at_, hat⟩ : ∃ at_, at_ = r * (n + 1) := ⟨_, rfl⟩;have hatl : at_ <= 750 := (by have : r * (n + 1) <= 150 * 5 := Nat.mul_le_mul (by omega) (by omega);omega);have HAT : Hid (at_ = r * (n + 1)) := hat;rw [<- hat];clear hat;have hsz := textR_size cs l r;have q1 : IntKind.i64.wrap ((at_ : Int) + (n : Int)) = (at_ : Int) + (n : Int) := wrapI (by omega) (by omega)
    by_cases hrR : r < RR
    · have hin := ((HRR.out.2.2 r).1 hrR);have hatn : at_ + n + 1 <= ln := by have h1 := hin.2;rw [Nat.add_mul, Nat.one_mul] at h1;have := HAT.out;omega
      have c1 : (at_ : Int) + (n : Int) < (ln : Int) := (by omega);have c2 : (r : Int) < 150 := by omega
      obtain ⟨lb, lo, rfl, hlb, hlc⟩ : ∃ b off, la = some ⟨b, off, none⟩ /\ b < w.heap.size /\ ∀ i, i < ln -> w.cell? ⟨b, off + i, none⟩ = some (.int .i64 (l.getD i 0)) := by
        rcases HL.out.2.2 with e | e
        omega;exact e
      have HLC : Hid (∀ W i, Below w.heap.size w W -> i < ln -> W.cell? ⟨lb, lo + i, none⟩ = some (.int .i64 (l.getD i 0))) := fun W i hW hi => (hW.cell (p := ⟨lb, lo + i, none⟩) hlb).trans (hlc i hi);clear hlc;have d0 := HLC.out wr at_ HBW.out (by omega);have HP9 : Hid (∀ W : World, Calls Tryz.prog 17 #[.int .i64 (l.getD at_ 0), .int .i64 9] W fun e w' => e = .returned (.int .i64 (pickK (l.getD at_ 0) 9 : Nat)) /\ w' = W) := fun W => keepPick_any _ 9 W (getD_wfK HL.out (by omega)) (by omega) (by omega);have hp9 := pickK_lt (l.getD at_ 0) (show 0 < 9 by omega);have q2 : IntKind.i64.wrap (1 + ((pickK (l.getD at_ 0) 9 : Nat) : Int)) = wtR l at_ := (by rw [wrapI (by omega) (by omega)]; rfl);have hwt := wtR_in l at_
      have HDG : Hid (∀ W : World, Calls Tryz.prog 48 #[.int .i64 (wtR l at_)] W fun e w' => e = .returned (.string (digS (wtR l at_))) /\ Below W.heap.size W w') := fun W => digits_any _ (by omega) (by omega) W;have hds := digS_size (z := wtR l at_) (by omega) (by omega);have b0 : (0 : Int) <= (at_ : Int) := (by omega);have b1 : (at_ : Int) < (ln : Int) := (by omega);generalize pickK (l.getD at_ 0) 9 = p9 at *;go_wp2_with fail
      refine (HP9.out _).mono ?_;rintro e w1 ⟨rfl, h1⟩;obtain rfl := h1.symm;obtain ⟨w2, hw2⟩ : ∃ w2, w2 = wr.alloc (.cells #[.int .i64 (wtR l at_), .slice none 0 0, .slice none 0 0, .slice none 0 0] 103) := ⟨_, rfl⟩;have hb2 : Below wr.heap.size wr w2 := (by rw [hw2]; exact (Below.refl _ _).alloc (Nat.le_refl _) _);have hr2 : w2.heap[wr.heap.size]? = some (.cells #[.int .i64 (wtR l at_), .slice none 0 0, .slice none 0 0, .slice none 0 0] 103 (0, 0)) := (by rw [hw2]; exact heap_alloc_new wr _);have e0 : w2.cell? ⟨wr.heap.size, 0, none⟩ = some (.int .i64 (wtR l at_)) := cell_of_row _ _ 0 _ 103 (0, 0) hr2;have HU2 : Hid (RowU w2 wr.heap.size (.slice none 0 0) (.slice none 0 0) (.slice none 0 0) (rowR cs l at_ 0)) := ⟨hr2, World.ownsRow_nil _ _ _ _, World.ownsRow_nil _ _ _ _, World.ownsRow_nil _ _ _ _⟩;have HB2 : Hid (Below wr.heap.size wr w2) := hb2;go_upto_region 6 with fail
      rw [<- hw2];clear hw2 hb2 hr2 d0;go_wp2_with fail
      refine (HDG.out _).mono ?_;rintro e w3 ⟨rfl, hb3⟩;have HB3 : Hid (Below wr.heap.size wr w3) := HB2.out.trans (hb3.mono HB2.out.size);have HU3 : Hid (RowU w3 wr.heap.size (.slice none 0 0) (.slice none 0 0) (.slice none 0 0) (rowR cs l at_ 0)) := HU2.out.below hb3;clear hb3 e0 HB2 HU2;obtain ⟨s0, hs0⟩ : ∃ s0, s0 = textR cs l r ++ digS (wtR l at_) := ⟨_, rfl⟩;have HS0 : Hid (s0 = textR cs l r ++ digS (wtR l at_)) := hs0;have hs0s : s0.size <= 6003 := (by rw [hs0, ByteArray.size_append]; omega);obtain ⟨bb, hbb⟩ : ∃ bb, bb = wr.heap.size := ⟨_, rfl⟩;generalize wr = ws at *;go_upto_region 7 with fail;rw [<- hs0, <- hbb];rw [<- hbb] at HU3;have HBB : Hid (bb = ws.heap.size) := hbb;clear hs0 hbb;go_wp2_with fail
      go_loopw [7, 10] (fun ts ti wr => ∃ (i : Nat) (vm vn vs : Value), i <= n /\ ti = .int .i64 i /\ ts = .string (fieldsT cs l at_ s0 i) /\ Hid (RowU wr bb vm vn vs (rowR cs l at_ i)) /\ Hid (Below ws.heap.size ws wr)) (fun _ ti _ => n - (intOf ti).toNat)
      case atStart => exact ⟨0, _, _, _, Nat.zero_le _, rfl, rfl, HU3.out, HB3.out⟩
      case round =>
        clear HU3 HB3;obtain ⟨i, vm, vn, vs, hi, rfl, rfl, HU, HBI⟩ := hrel;have HBWI : Hid (Below w.heap.size w wr) := HBW.out.trans (HBI.out.mono HBW.out.size);have hwsl : w.heap.size < ws.heap.size := (by have := HB.out.size; omega);have g0i : wr.cell? ⟨w.heap.size, 0, none⟩ = some (.slice (some ⟨fk, 0, none⟩) n fc) := (HBI.out.cell (p := ⟨w.heap.size, 0, none⟩) hwsl).trans g0;have hfs := fieldsT_size cs l at_ s0 i
        by_cases hin2 : i < n
        · obtain ⟨xi, hxi⟩ : ∃ xi, xi = at_ + 1 + i := ⟨_, rfl⟩;have hxl : xi < ln := (by omega);have d1 := HLC.out wr xi HBWI.out hxl;have HX : Hid (xR l at_ i = l.getD xi 0) := (by show _ = _; rw [hxi]; rfl);have hwfx := getD_wfK HL.out hxl;rw [<- HX.out] at d1 hwfx;have q3 : IntKind.i64.wrap ((at_ : Int) + 1) = (at_ : Int) + 1 := wrapI (by omega) (by omega);have q4 : IntKind.i64.wrap ((at_ : Int) + 1 + (i : Int)) = (xi : Int) := (by rw [wrapI (by omega) (by omega)]; omega);have k0 : (0 : Int) <= (xi : Int) := (by omega);have k1 : (xi : Int) < (ln : Int) := (by omega);have k2 : (0 : Int) <= (i : Int) := (by omega);have k3 : (i : Int) < (n : Int) := (by omega);have hft := HF.out wr HBWI.out;rw [<- HN.out] at hft;have t0 := hft.c0 i hin2;have t1 := hft.c1 i hin2;have t2 := hft.c2 i hin2;rw [Nat.zero_add] at t0 t1 t2;obtain ⟨hw3, q5⟩ := tdiv_wf hwfx
          have hsc : cfW cs i = false -> 0 <= cfC cs i /\ cfC cs i <= 3 := fun hw => by have := cf_feat cs i;unfold featB at this;rw [hw] at this;simp at this;omega
          have HFD : Hid (∀ W : World, Calls Tryz.prog 49 #[.agg #[.bool (cfW cs i), .int .i64 (cfC cs i), .int .i64 (cfT cs i)], .int .i64 ((xR l at_ i).tdiv 3)] W fun e w' => e = .returned (.tuple #[.string (fdT (cfW cs i) (cfC cs i) ((xR l at_ i).tdiv 3)), .int .i64 (fdV (cfW cs i) (cfC cs i) ((xR l at_ i).tdiv 3)), .string (fdS (cfW cs i) ((xR l at_ i).tdiv 3))]) /\ Below W.heap.size W w') := fun W => field_any _ _ _ _ hw3 hsc W;have HP3 : Hid (∀ W : World, Calls Tryz.prog 17 #[.int .i64 (xR l at_ i), .int .i64 3] W fun e w' => e = .returned (.int .i64 (pickK (xR l at_ i) 3 : Nat)) /\ w' = W) := fun W => keepPick_any _ 3 W hwfx (by omega) (by omega)
          have HP4 : Hid (∀ W : World, Calls Tryz.prog 17 #[.int .i64 ((xR l at_ i).tdiv 3), .int .i64 4] W fun e w' => e = .returned (.int .i64 (pickK ((xR l at_ i).tdiv 3) 4 : Nat)) /\ w' = W) := fun W => keepPick_any _ 4 W hw3 (by omega) (by omega);have HG : Hid (goneR (xR l at_ i) = decide (pickK (xR l at_ i) 3 = 0 /\ pickK ((xR l at_ i).tdiv 3) 4 = 0)) := rfl;have HTX : Hid (txR cs l at_ i = if goneR (xR l at_ i) = true then ⟨#[]⟩ else fdT (cfW cs i) (cfC cs i) ((xR l at_ i).tdiv 3)) := rfl;have HRS : Hid (rowR cs l at_ (i + 1) = ⟨wtR l at_, (rowR cs l at_ i).ms ++ [goneR (xR l at_ i)], (rowR cs l at_ i).ns ++ [fdV (cfW cs i) (cfC cs i) ((xR l at_ i).tdiv 3)], (rowR cs l at_ i).ss ++ [fdS (cfW cs i) ((xR l at_ i).tdiv 3)]⟩) := rowR_succ cs l at_ i;have HFS : Hid (fieldsT cs l at_ s0 (i + 1) = (fieldsT cs l at_ s0 i ++ ⟨#[44]⟩) ++ txR cs l at_ i) := rfl
          have htx := txR_size cs l at_ i;clear hft hsc hwfx hw3 hxi;generalize fdV (cfW cs i) (cfC cs i) ((xR l at_ i).tdiv 3) = fV at *;generalize fdS (cfW cs i) ((xR l at_ i).tdiv 3) = fS at *;generalize fdT (cfW cs i) (cfC cs i) ((xR l at_ i).tdiv 3) = fT at *;generalize txR cs l at_ i = tx at *;generalize goneR (xR l at_ i) = gn at *;generalize pickK (xR l at_ i) 3 = p3 at *;generalize pickK ((xR l at_ i).tdiv 3) 4 = p4 at *;generalize xR l at_ i = x at *;generalize fieldsT cs l at_ s0 i = si at *;go_wp2_with fail
          refine (HFD.out _).mono ?_;rintro e w4 ⟨rfl, hb4⟩;have HB4 : Hid (Below ws.heap.size ws w4) := HBI.out.trans (hb4.mono HBI.out.size);have HU4 : Hid (RowU w4 bb vm vn vs (rowR cs l at_ i)) := HU.out.below hb4;clear hb4 d1 t0 t1 t2 g0i;go_upto_region 12 with fail;go_cut [15] (fun v wx => v = .bool gn /\ wx = w4)
          case first =>
            go_wp2_with fail
            refine (HP3.out _).mono ?_;rintro e w5 ⟨rfl, h5⟩;obtain rfl := h5.symm
            by_cases hp3 : p3 = 0
            · have qq : ((p3 : Int) == 0) = true := (by rw [hp3]; rfl);have HH3 : Hid (p3 = 0) := hp3;clear hp3;go_wp2_with fail
              refine (HP4.out _).mono ?_;rintro e w6 ⟨rfl, h6⟩;obtain rfl := h6.symm
              by_cases hp4 : p4 = 0
              · have qr : ((p4 : Int) == 0) = true := (by rw [hp4]; rfl);have HGG : Hid (gn = true) := (by show _ = _; rw [HG.out]; exact decide_eq_true ⟨HH3.out, hp4⟩);clear hp4;go_wp2;go_meet
                exact ⟨by rw [HGG.out], rfl⟩
              have qr : ((p4 : Int) == 0) = false := (by rw [beq_eq_false_iff_ne]; omega);have HGG : Hid (gn = false) := (by show _ = _; rw [HG.out]; exact decide_eq_false (fun h => hp4 h.2));go_wp2;go_meet
              exact ⟨by rw [HGG.out], rfl⟩
            have qq : ((p3 : Int) == 0) = false := (by rw [beq_eq_false_iff_ne]; omega);have HGG : Hid (gn = false) := (by show _ = _; rw [HG.out]; exact decide_eq_false (fun h => hp3 h.1));go_wp2;go_meet
            exact ⟨by rw [HGG.out], rfl⟩
          case rest =>
            obtain ⟨rfl, hwx⟩ := hcut;obtain rfl := hwx.symm;clear hwx;go_upto_if 76 with fail
            go_cut [12] (fun v wx => v = .string tx /\ wx = w4)
            case first =>
              cases gn with
              | true =>
                have HGG : Hid (tx = ⟨#[]⟩) := (by show _ = _; rw [HTX.out]; rfl);go_wp2;go_meet
                exact ⟨by rw [HGG.out], rfl⟩
              | false =>
                have HGG : Hid (tx = fT) := (by show _ = _; rw [HTX.out]; rfl);go_wp2;go_meet
                exact ⟨by rw [HGG.out], rfl⟩
            case rest =>
              obtain ⟨rfl, hwx⟩ := hcut;obtain rfl := hwx.symm;clear hwx;obtain ⟨sj, hsj⟩ : ∃ sj, sj = (si ++ ⟨#[44]⟩) ++ tx := ⟨_, rfl⟩;have HSJ : Hid (sj = (si ++ ⟨#[44]⟩) ++ tx) := hsj;have hsz1 : (si ++ ⟨#[44]⟩).size <= 7000 := (by rw [ByteArray.size_append];have e : (⟨#[44]⟩ : ByteArray).size = 1 := rfl;omega);go_upto_region 16 with fail;rw [<- hsj];clear hsj hsz1;generalize hRi : rowR cs l at_ i = Ri at *;have HRI : Hid (rowR cs l at_ i = Ri) := hRi;have hRl : Ri.ms.length = i /\ Ri.ns.length = i /\ Ri.ss.length = i := (by rw [<- hRi]; simp [rowR]);have hRw : Ri.wt = wtR l at_ := (by rw [<- hRi]; rfl);clear hRi;obtain ⟨m1, m2, m3⟩ := hRl;obtain ⟨am, cm, rfl⟩ := HU4.out.om.shape;obtain ⟨an, cn2, rfl⟩ := HU4.out.on.shape;obtain ⟨av, cv, rfl⟩ := HU4.out.os.shapeW;rw [m1, m2, m3] at HU4
              have HBL : Hid (bb <= w4.heap.size /\ bb < w4.heap.size) := by have h1 := HB4.out.size;have h2 := (Array.getElem?_eq_some_iff.1 HU4.out.blk).1;exact ⟨by omega, h2⟩
              obtain ⟨j4, jinf4, jz04, jz14, jz24⟩ := info_parts info4;obtain ⟨j3, jinf3, jz03, jz13, jz23⟩ := info_parts info3;obtain ⟨j9, jinf9, jz09, jz19, jz29⟩ := info_parts info9w;have u1 := cell_of_row _ _ 1 _ 103 (0, 0) HU4.out.blk;have HO4 : Hid (w4.ownsRow bb 4 1 (.slice am i cm) i (Ri.ms.map Value.bool)) := (by have h1 := HU4.out.om; unfold OwnO at h1; rw [m1] at h1; exact h1);have hbb4 := HBL.out;have hi4 : i <= 4 := (by omega);go_wp2_with (at_builtin; refine wpList_append_mark rfl (.tmp 82) (.tmp 84) 101 rfl bb 4 j4 (.bool false) 1 1 Tryz.underlying101 jinf4 jz04 jz14 jz24 rfl (by decide) (.slice am i cm) i (Ri.ms.map Value.bool) rfl (World.ownsRow.alloc HO4.out _) ⟨w4.heap.size, 0, none⟩ 1 1 [.bool gn] rfl rfl ?_ ?_ ?_ ?_ ?_ ?_ ?_)
              exact one_new w4 #[.bool gn] 4;intro u hu; simp at hu; subst hu; rfl;decide;unfold maxLen; omega;omega;simp; omega;intro v5 w5 H5;obtain ⟨r5, g5, d5, _, _⟩ := H5.out;obtain ⟨y5, hy5⟩ : ∃ y, y = w4.alloc (.cells #[.bool gn] 4) := ⟨_, rfl⟩;rw [<- hy5] at g5 d5;have by5 : Below w4.heap.size w4 y5 := by rw [hy5]; exact (Below.refl _ _).alloc (Nat.le_refl _) _
              have h5 : OwnO w5 bb v5 (Ri.ms ++ [gn]) := (by unfold OwnO;rw [List.length_append, m1, List.map_append];exact r5);obtain ⟨a5, c5, rfl⟩ := h5.shape;obtain ⟨l5, hl5⟩ : ∃ l, l = (Ri.ms ++ [gn]).length := ⟨_, rfl⟩;rw [<- hl5] at r5 d5 h5 ⊢;have HL5 : Hid (l5 = i + 1) := (by show _ = _; rw [hl5, List.length_append, m1]; rfl);clear hl5;have hUy5 := HU4.out.below by5;obtain ⟨hU5, hk5⟩ := hUy5.putM g5 h5;have f5 := cell_of_row _ _ 1 _ 103 (0, 0) hk5;have z5 := frozen_of_row _ _ 1 _ 103 hk5;have HU5 : Hid (RowU (w5.setCell ⟨bb, 1, none⟩ (.slice a5 l5 c5)) bb (.slice a5 l5 c5) (.slice an i cn2) (.slice av i cv) ⟨Ri.wt, Ri.ms ++ [gn], Ri.ns, Ri.ss⟩) := hU5
              have HBy5 : Hid (Below ws.heap.size ws (w5.setCell ⟨bb, 1, none⟩ (.slice a5 l5 c5))) := by have e1 : Below ws.heap.size ws y5 := HB4.out.trans (by5.mono HB4.out.size);have e2 := HBB.out;exact (e1.grown g5 e1.size (fun q hq => by have := (World.ownsRow.lt hUy5.om q hq).1; omega)).setCell (show ws.heap.size <= bb by omega) _
              clear H5 r5 g5 d5 hy5 by5 h5 hUy5 hU5 hk5;go_upto_region 17 with fail;generalize w5.setCell ⟨bb, 1, none⟩ (.slice a5 l5 c5) = w6 at *;clear f5 z5 u1 HU4 HO4;have HB6 : Hid (Below ws.heap.size ws w6) := HBy5;clear HBy5;have u2 := cell_of_row _ _ 2 _ 103 (0, 0) HU5.out.blk;have hb6 : bb < w6.heap.size := (Array.getElem?_eq_some_iff.1 HU5.out.blk).1;have HOI6 : Hid (OwnI w6 bb (.slice an i cn2) Ri.ns) := HU5.out.on;go_wp2_with (at_builtin; refine wpList_append_int rfl (.tmp 88) (.tmp 90) rfl bb (.slice an i cn2) Ri.ns fV rfl (HOI6.out.alloc _) w6.heap.size 1 rfl ?_ ?_ ?_ ?_)
              omega;omega;intro v7 w7 H7;obtain ⟨h7, g7, d7⟩ := H7.out;obtain ⟨y7, hy7⟩ : ∃ y, y = w6.alloc (.cells #[.int .i64 fV] 3) := ⟨_, rfl⟩;rw [<- hy7] at g7 d7;have by7 : Below w6.heap.size w6 y7 := (by rw [hy7]; exact (Below.refl _ _).alloc (Nat.le_refl _) _);obtain ⟨a7, c7, rfl⟩ := h7.shape;obtain ⟨l7, hl7⟩ : ∃ l, l = (Ri.ns ++ [fV]).length := ⟨_, rfl⟩;rw [<- hl7] at d7 h7 ⊢;have HL7 : Hid (l7 = i + 1) := (by show _ = _; rw [hl7, List.length_append, m2]; rfl);clear hl7;have hUy7 := HU5.out.below by7;obtain ⟨hU7, hk7⟩ := hUy7.putN g7 h7;have f7 := cell_of_row _ _ 2 _ 103 (0, 0) hk7;have z7 := frozen_of_row _ _ 2 _ 103 hk7;have HU7 : Hid (RowU (w7.setCell ⟨bb, 2, none⟩ (.slice a7 l7 c7)) bb (.slice a5 l5 c5) (.slice a7 l7 c7) (.slice av i cv) ⟨Ri.wt, Ri.ms ++ [gn], Ri.ns ++ [fV], Ri.ss⟩) := hU7
              have HBy7 : Hid (Below ws.heap.size ws (w7.setCell ⟨bb, 2, none⟩ (.slice a7 l7 c7))) := by have e1 : Below ws.heap.size ws y7 := HB6.out.trans (by7.mono HB6.out.size);have e2 := HBB.out;exact (e1.grown g7 e1.size (fun q hq => by have := (World.ownsRow.lt hUy7.on q hq).1; omega)).setCell (show ws.heap.size <= bb by omega) _
              clear H7 g7 d7 hy7 by7 h7 hUy7 hU7 hk7;go_upto_region 18 with fail;generalize w7.setCell ⟨bb, 2, none⟩ (.slice a7 l7 c7) = w8 at *;clear f7 z7 u2 HU5 HOI6;have HB8 : Hid (Below ws.heap.size ws w8) := HBy7;clear HBy7;have u3 := cell_of_row _ _ 3 _ 103 (0, 0) HU7.out.blk;have HO8 : Hid (w8.ownsRow bb 9 1 (.slice av i cv) i (Ri.ss.map Value.string)) := (by have h1 := HU7.out.os; unfold OwnS at h1; rw [show (⟨Ri.wt, Ri.ms ++ [gn], Ri.ns ++ [fV], Ri.ss⟩ : RawR).ss = Ri.ss from rfl, m3] at h1; exact h1);have hb8 : bb < w8.heap.size := (Array.getElem?_eq_some_iff.1 HU7.out.blk).1
              go_wp2_with (at_builtin; refine wpList_append_mark rfl (.tmp 94) (.tmp 96) 47 rfl bb 9 j9 (.string ⟨#[]⟩) 1 16 Tryz.underlying47 jinf9 jz09 jz19 jz29 rfl (by decide) (.slice av i cv) i (Ri.ss.map Value.string) rfl (World.ownsRow.alloc HO8.out _) ⟨w8.heap.size, 0, none⟩ 1 1 [.string fS] rfl rfl ?_ ?_ ?_ ?_ ?_ ?_ ?_)
              rfl;unfold maxLen; omega;omega;omega;intro v9 w9 H9;obtain ⟨r9, g9, d9, _, _⟩ := H9.out;obtain ⟨y9, hy9⟩ : ∃ y, y = w8.alloc (.cells #[.string fS] 9) := ⟨_, rfl⟩;rw [<- hy9] at g9 d9;have by9 : Below w8.heap.size w8 y9 := by rw [hy9]; exact (Below.refl _ _).alloc (Nat.le_refl _) _
              have h9 : OwnS w9 bb v9 (Ri.ss ++ [fS]) := (by unfold OwnS;rw [List.length_append, m3, List.map_append];exact r9);obtain ⟨a9, c9, rfl⟩ := h9.shapeW;obtain ⟨l9, hl9⟩ : ∃ l, l = (Ri.ss ++ [fS]).length := ⟨_, rfl⟩;rw [<- hl9] at r9 d9 h9 ⊢;have HL9 : Hid (l9 = i + 1) := (by show _ = _; rw [hl9, List.length_append, m3]; rfl);clear hl9;have hUy9 := HU7.out.below by9;obtain ⟨hU9, hk9⟩ := hUy9.putS g9 h9;have f9 := cell_of_row _ _ 3 _ 103 (0, 0) hk9;have z9 := frozen_of_row _ _ 3 _ 103 hk9;have HU9 : Hid (RowU (w9.setCell ⟨bb, 3, none⟩ (.slice a9 l9 c9)) bb (.slice a5 l5 c5) (.slice a7 l7 c7) (.slice a9 l9 c9) ⟨Ri.wt, Ri.ms ++ [gn], Ri.ns ++ [fV], Ri.ss ++ [fS]⟩) := hU9
              have HBy9 : Hid (Below ws.heap.size ws (w9.setCell ⟨bb, 3, none⟩ (.slice a9 l9 c9))) := (by have e1 : Below ws.heap.size ws y9 := HB8.out.trans (by9.mono HB8.out.size);have e2 := HBB.out;exact (e1.grown g9 e1.size (fun q hq => by have := (World.ownsRow.lt hUy9.os q hq).1; omega)).setCell (show ws.heap.size <= bb by omega) _);clear H9 r9 g9 d9 hy9 by9 h9 hUy9 hU9 hk9;have HUN : Hid (RowU (w9.setCell ⟨bb, 3, none⟩ (.slice a9 l9 c9)) bb (.slice a5 l5 c5) (.slice a7 l7 c7) (.slice a9 l9 c9) (rowR cs l at_ (i + 1))) := by have h1 := HU9.out;rw [hRw] at h1;rw [HRS.out];exact h1
              clear HU9 HU7 HO8 u3 hRw;go_wp2;go_roundw;case rel => exact ⟨i + 1, _, _, _, by omega, by go_num, by rw [HFS.out, HSJ.out], HUN.out, HBy9.out⟩
              case measure => simp [intOf]; omega
        have hin3 : i = n := (by omega);subst hin3;have ki : ¬ (i : Int) < (i : Int) := (by omega);obtain ⟨am, cm, rfl⟩ := HU.out.om.shape;obtain ⟨an, cn2, rfl⟩ := HU.out.on.shape;obtain ⟨av, cv, rfl⟩ := HU.out.os.shapeW;obtain ⟨Ri, hRi⟩ : ∃ Ri, Ri = rowR cs l at_ i := ⟨_, rfl⟩;rw [<- hRi] at HU;have HRI : Hid (Ri = rowR cs l at_ i) := hRi;clear hRi;have HUX : Hid (RowU wr bb (.slice am Ri.ms.length cm) (.slice an Ri.ns.length cn2) (.slice av Ri.ss.length cv) Ri) := HU.out;generalize Ri.ms.length = lm at *;generalize Ri.ns.length = lnn at *;generalize Ri.ss.length = ls at *;have u0 := cell_of_row _ _ 0 _ 103 (0, 0) HUX.out.blk;have u1 := cell_of_row _ _ 1 _ 103 (0, 0) HUX.out.blk;have u2 := cell_of_row _ _ 2 _ 103 (0, 0) HUX.out.blk;have u3 := cell_of_row _ _ 3 _ 103 (0, 0) HUX.out.blk
        have HTN : Hid (textR cs l (r + 1) = fieldsT cs l at_ s0 i ++ ⟨#[10]⟩) := (by show _ = _;have h1 : r * (cfM cs + 2) = at_ := (by rw [HAT.out, HN.out]);simp only [textR];rw [h1, HS0.out, HN.out]);have HRN : Hid (rowsR cs l (r + 1) = rowsR cs l r ++ [Ri]) := (by show _ = _;have h1 : r * (cfM cs + 2) = at_ := (by rw [HAT.out, HN.out]);rw [rowsR_succ, h1, HRI.out, HN.out]);have HRXI : Hid (RowsX wr w0.heap.size (.slice oa r oc) LL) := HRX.out.1.below HBI.out;have HBZ : Hid (Below w0.heap.size w0 wr) := HB.out.trans (HBI.out.mono HB.out.size);have hbz := HBZ.out.size;have hbb2 : w0.heap.size <= bb := (by have := HBB.out; have := HB.out.size; omega);have q6 : IntKind.i64.wrap ((at_ : Int) + 1) = (at_ : Int) + 1 := wrapI (by omega) (by omega)
        have q7 : IntKind.i64.wrap ((at_ : Int) + 1 + (i : Int)) = (((r + 1) * (i + 1) : Nat) : Int) := (by rw [wrapI (by omega) (by omega), Nat.add_mul, Nat.one_mul];have := HAT.out;omega);obtain ⟨j0, jinf, jz0, jz1, jz2⟩ := info_parts info103;have HROW : Hid (wr.ownsRow w0.heap.size 103 4 (.slice oa r oc) r (flatRw LL)) := (by have h1 := HRXI.out.row; rw [HRX.out.2.2] at h1; exact h1);have hrl : r <= 150 := (by omega);generalize fieldsT cs l at_ s0 i = si at *;have e10 : (⟨#[10]⟩ : ByteArray).size = 1 := rfl;have hsi : si.size <= 7000 := (by omega);clear e10 hfs;go_upto_region 20 with fail
        go_wp2_with (at_builtin; refine wpList_append_mark rfl (.tmp 101) (.tmp 103) 39 rfl w0.heap.size 103 j0 (.agg #[.int .i64 0, .slice none 0 0, .slice none 0 0, .slice none 0 0]) 4 80 Tryz.underlying39 jinf jz0 jz1 jz2 rfl (by decide) (.slice oa r oc) r (flatRw LL) rfl (World.ownsRow.alloc HROW.out _) ⟨wr.heap.size, 0, none⟩ 1 1 [.int .i64 Ri.wt, .slice am lm cm, .slice an lnn cn2, .slice av ls cv] rfl rfl (one_new wr #[.int .i64 Ri.wt, .slice am lm cm, .slice an lnn cn2, .slice av ls cv] 103) (by intro u hu; simp at hu; rcases hu with rfl | rfl | rfl | rfl <;> rfl) (by decide) (by unfold maxLen; omega) (by omega) (by simp; omega) ?_)
        intro v5 w5 H5;obtain ⟨r5, g5, d5, _, _⟩ := H5.out;obtain ⟨y5, hy5⟩ : ∃ y, y = wr.alloc (.cells #[.int .i64 Ri.wt, .slice am lm cm, .slice an lnn cn2, .slice av ls cv] 103) := ⟨_, rfl⟩;rw [<- hy5] at g5 d5;have by5 : Below wr.heap.size wr y5 := by rw [hy5]; exact (Below.refl _ _).alloc (Nat.le_refl _) _
        have hX5 : RowsX w5 w0.heap.size v5 (LL ++ [⟨Ri, .slice am lm cm, .slice an lnn cn2, .slice av ls cv⟩]) := (by have hUy := HUX.out.below by5;refine (HRXI.out.below by5).more (p := ⟨Ri, .slice am lm cm, .slice an lnn cn2, .slice av ls cv⟩) ⟨hUy.om.mono hbb2, hUy.on.mono hbb2, hUy.os.monoW hbb2⟩ g5 ?_;rw [HRX.out.2.2];exact r5);have HRM5 : Hid (RowsM w5 w0.heap.size v5 (rowsR cs l (r + 1))) := ⟨_, by rw [List.map_append, HRX.out.2.1, HRN.out]; rfl, hX5⟩;have HB5 : Hid (Below w0.heap.size w0 w5) := (by have e1 : Below w0.heap.size w0 y5 := HBZ.out.trans (by5.mono hbz);exact e1.grown g5 e1.size (fun q hq => (World.ownsRow.lt HRXI.out.row q hq).1));have hb5 : Below wr.heap.size wr w5 -> True := fun _ => trivial
        have g05 : w5.cell? ⟨w.heap.size, 0, none⟩ = some (.slice (some ⟨fk, 0, none⟩) i fc) := by have h1 : Below w0.heap.size ws w5 := (by have e1 : Below w0.heap.size wr y5 := by5.mono hbz;have e2 : Below w0.heap.size ws wr := HBI.out.mono HB.out.size;exact (e2.trans e1).grown g5 (by have := by5.size; omega) (fun q hq => (World.ownsRow.lt HRXI.out.row q hq).1));exact (h1.cell (p := ⟨w.heap.size, 0, none⟩) hw0l).trans g0
        clear H5 r5 g5 d5 hy5 by5 hX5 hb5 u0 u1 u2 u3 HUX HU HROW HRXI;go_wp2;go_roundw;case rel => exact ⟨r + 1, by omega, by go_num, by rw [HTN.out], HRM5.out, HB5.out⟩
        case measure =>
          have h1 : (r + 1) * (i + 1) <= RR * (i + 1) := Nat.mul_le_mul_right _ hrR;have h2 := HAT.out;rw [Nat.add_mul, Nat.one_mul] at h1;have e : ((r : Int) + 1) * ((i : Int) + 1) = (((r + 1) * (i + 1) : Nat) : Int) := (by rw [Int.natCast_mul]; rfl);simp only [intOf, Int.toNat_natCast];rw [e, Int.toNat_natCast, Nat.add_mul, Nat.one_mul];omega
    have hrr : r = RR := (by omega);have hno := mt (HRR.out.2.2 r).2 hrR;go_upto_region 4 with fail;go_cut [28] (fun v wx => v = .bool false /\ wx = wr)
    case first =>
      by_cases h150 : r < 150
      · have hh : ¬ (r + 1) * (n + 1) <= ln := fun h => hno ⟨h150, h⟩;rw [Nat.add_mul, Nat.one_mul] at hh;have c1 : ¬ (at_ : Int) + (n : Int) < (ln : Int) := (by have := HAT.out; omega);clear hh hno hrr;go_wp2;go_meet
        exact ⟨rfl, rfl⟩
      have c2 : ¬ (r : Int) < 150 := (by omega);clear hno hrr
      by_cases hc : (at_ : Int) + (n : Int) < (ln : Int)
      · go_wp2;go_meet
        exact ⟨rfl, rfl⟩
      go_wp2;go_meet
      exact ⟨rfl, rfl⟩
    case rest =>
      obtain ⟨rfl, hwx⟩ := hcut;obtain rfl := hwx.symm;clear hwx;have HRE : Hid (r = manyR cs l) := (by show _ = _; rw [hrr]; exact HRR.out.1);clear hrr hno;go_wp2;refine bodyPost_ret (v := .tuple #[.slice oa r oc, .string (textR cs l r)]) (by simp [results, Tryz.results24, go_sem]) rfl ?_;rw [<- HRE.out];refine ⟨_, rfl, ?_, HBW.out⟩;obtain ⟨h1, h2, h3⟩ := HRX.out;refine ⟨LL, h2, ?_⟩;have hle : w.heap.size <= w0.heap.size := (by omega);refine ⟨?_, fun p hp => ?_⟩
      · rcases h1.row.2 with hn0 | ⟨g, cap, cur, e, hg, rr⟩
        exact ⟨h1.row.1, .inl hn0⟩;exact ⟨h1.row.1, .inr ⟨g, cap, cur, e, by omega, rr⟩⟩
      obtain ⟨k1, k2, k3⟩ := h1.each p hp;exact ⟨k1.mono hle, k2.mono hle, k3.monoW hle⟩
end Go.Proofs.YtfcgnpchbcmdeaaGreat
