/-
  The contracts of the bytes that a field of words takes.
  Contracts of a reader of rows: what ends a field, and what a whole field says.
  The contracts of the bytes that a field of words takes: signs within quotes, and the whole.
  The contracts of a field's reading, of numbers and of words: one byte.
  The contracts of the functions that features bear in their fields: how a byte is read.
  Rows of values; a byte that a field of numbers takes.
-/
import Derived.Test.YtfcgnpchbcmdeaaGreatZtal
import Derived.Test.YtfcgnpchbcmdeaaGreatZtac
import Derived.Laws.BytesArg
namespace Go.Proofs.YtfcgnpchbcmdeaaGreat
open Go.RowKit

theorem info5 : (Tryz.prog.info? 5).map (fun i => (i.zero, i.size, i.bytes)) = some (some (.int .u8 0), 1, 1) := by kernel_rfl

/-- BYTES OF THE CALL's OWN. -/
def OwnB (w : World) (base : Nat) (v : Value) (bs : List Int) : Prop := w.ownsRow base 5 1 v bs.length (bs.map (Value.int .u8))

theorem OwnB.form {w : World} {base : Nat} {v : Value} {bs : List Int} (h : OwnB w base v bs) : ∃ a c, v = .slice a bs.length c := by
  rcases h.2 with ⟨rfl, h0⟩ | ⟨q, p, cur, rfl, _⟩
  · exact ⟨none, 0, by rw [h0]⟩
  · exact ⟨_, _, rfl⟩

/-- A READER OF ROWS WITHIN A WORD. -/
def RW (w : World) (b base : Nat) (vf vW vC : Value) (wt : Int) (fl : Bool) (vr : Value) (p : PartS) (bs : List Int) : Prop := RB w b vf vW vC wt fl vr p ∧ OwnB w base p.wv bs

/-- WHAT TAKING A BYTE LEAVES, of a field of words: the state and the word, if it was taken. -/
def TookW (b base : Nat) (vf vW vC : Value) (wt : Int) (fl : Bool) (vr : Value) (p : PartS) (bs : List Int) (o : Option (Int × List Int)) (w : World) (e : Ending) (w' : World) : Prop :=
  e = .returned (.bool o.isSome) ∧ (∃ v', RW w' b base vf vW vC wt fl vr { p with st := (o.getD (p.st, bs)).1, wv := v' } (o.getD (p.st, bs)).2 ∧ (v'.ownBlock = p.wv.ownBlock ∨ ∃ k, v'.ownBlock = some k ∧ w.heap.size ≤ k)) ∧ Touch (fun k => k = b ∨ some k = p.wv.ownBlock) w w'

theorem TookW.none {b base : Nat} {vf vW vC : Value} {wt : Int} {fl : Bool} {vr : Value} {p : PartS} {bs : List Int} {w : World} (h : RW w b base vf vW vC wt fl vr p bs) : TookW b base vf vW vC wt fl vr p bs none w (.returned (.bool false)) w :=
  ⟨rfl, ⟨p.wv, h, .inl rfl⟩, Touch.refl _ _⟩

section
variable (b base : Nat) (vf vW vC : Value) (wt : Int) (fl : Bool) (vr : Value) (p : PartS) (bs : List Int) (c : Int) (w : World) (h : RW w b base vf vW vC wt fl vr p bs)
include h

theorem full_any : Calls Tryz.prog 311 #[.pointer (some ⟨b, 6, none⟩)] w fun e w' => e = .returned (.bool (decide (bs.length = 8))) ∧ w' = w := by
  obtain ⟨_, _, _, _, _, c11, cf⟩ := h.1.part
  obtain ⟨a, cp, hv⟩ := h.2.form
  rw [hv] at c11
  by_cases h8 : bs.length = 8
  · rw [h8] at c11
    go_enter Tryz.func311, Tryz.ntmps311
    go_wp2
    go_ret
    exact ⟨by simp [h8], rfl⟩
  · have hne : ((bs.length : Int) == 8) = false := beq_eq_false_iff_ne.2 (by omega)
    go_enter Tryz.func311, Tryz.ntmps311
    go_wp2
    go_ret
    exact ⟨by simp [h8], rfl⟩

theorem takeOpening_any : Calls Tryz.prog 259 #[.pointer (some ⟨b, 6, none⟩), .int .u8 c] w fun e w' => TookW b base vf vW vC wt fl vr p bs (if c = 34 then some (7, bs) else none) w e w' := by
  obtain ⟨c6, _, _, _, _, _, cf⟩ := h.1.part
  have H : Hid (RW w b base vf vW vC wt fl vr p bs) := h
  have HT : Hid (∀ u, Touch (fun k => k = b ∨ some k = p.wv.ownBlock) w (w.setCell ⟨b, 6, none⟩ u)) := fun u => (Touch.refl _ w).setCell (p := ⟨b, 6, none⟩) (fun _ => .inl rfl) u
  have HOW : Hid (∀ u, OwnB (w.setCell ⟨b, 6, none⟩ u) base p.wv bs) := fun u => ((Touch.refl (fun k => k = b) w).setCell (p := ⟨b, 6, none⟩) (fun _ => rfl) u).row h.2 (fun k hk e => by
    obtain ⟨cur, hc⟩ := row_type h.2 hk
    subst e
    have := h.1
    unfold RB at this
    rw [this] at hc; simp at hc)
  clear h
  by_cases hc : c = 34
  · subst hc
    go_enter Tryz.func259, Tryz.ntmps259
    go_wp2
    go_ret
    exact ⟨rfl, ⟨p.wv, ⟨H.out.1.st 7, HOW.out _⟩, .inl rfl⟩, HT.out _⟩
  · have hne : (c == 34) = false := beq_eq_false_iff_ne.2 hc
    have HO : Hid ((if c = 34 then some ((7 : Int), bs) else none) = none) := if_neg hc
    go_enter Tryz.func259, Tryz.ntmps259
    go_wp2
    go_ret
    first | exact TookW.none H.out | (rw [HO.out]; exact TookW.none H.out)

theorem takeQuote_any : Calls Tryz.prog 261 #[.pointer (some ⟨b, 6, none⟩), .int .u8 c] w fun e w' => TookW b base vf vW vC wt fl vr p bs (if c = 34 then some (8, bs) else none) w e w' := by
  obtain ⟨c6, _, _, _, _, _, cf⟩ := h.1.part
  have H : Hid (RW w b base vf vW vC wt fl vr p bs) := h
  have HT : Hid (∀ u, Touch (fun k => k = b ∨ some k = p.wv.ownBlock) w (w.setCell ⟨b, 6, none⟩ u)) := fun u => (Touch.refl _ w).setCell (p := ⟨b, 6, none⟩) (fun _ => .inl rfl) u
  have HOW : Hid (∀ u, OwnB (w.setCell ⟨b, 6, none⟩ u) base p.wv bs) := fun u => ((Touch.refl (fun k => k = b) w).setCell (p := ⟨b, 6, none⟩) (fun _ => rfl) u).row h.2 (fun k hk e => by
    obtain ⟨cur, hc⟩ := row_type h.2 hk
    subst e
    have := h.1
    unfold RB at this
    rw [this] at hc; simp at hc)
  clear h
  by_cases hc : c = 34
  · subst hc
    go_enter Tryz.func261, Tryz.ntmps261
    go_wp2
    go_ret
    exact ⟨rfl, ⟨p.wv, ⟨H.out.1.st 8, HOW.out _⟩, .inl rfl⟩, HT.out _⟩
  · have hne : (c == 34) = false := beq_eq_false_iff_ne.2 hc
    have HO : Hid ((if c = 34 then some ((8 : Int), bs) else none) = none) := if_neg hc
    go_enter Tryz.func261, Tryz.ntmps261
    go_wp2
    go_ret
    first | exact TookW.none H.out | (rw [HO.out]; exact TookW.none H.out)
end

def letterD (bs : List Int) (c : Int) : Option (Int × List Int) := if letterB c = true ∧ bs.length ≠ 8 then some (6, bs ++ [c]) else none
def signB (c : Int) : Bool := letterB c || decide (c = 32) || decide (c = 44) || decide (c = 10) || decide (c = 34)
def signD (st : Int) (bs : List Int) (c : Int) : Option (Int × List Int) := if signB c = true ∧ bs.length ≠ 8 then some (st, bs ++ [c]) else none
def secondD (bs : List Int) (c : Int) : Option (Int × List Int) := if c = 34 ∧ bs.length ≠ 8 then some (7, bs ++ [c]) else none

/-- The word grows by a byte, in a world in which the state is set already. -/
theorem grew_word {b base : Nat} {vf vW vC : Value} {wt : Int} {fl : Bool} {vr : Value} {p : PartS} {bs : List Int} {c : Int} {w w1 w2 : World} {st : Int} {q cp N : Nat} (h : RW w b base vf vW vC wt fl vr p bs)
    (h1 : RB w1 b vf vW vC wt fl vr { p with st := st }) (t1 : Touch (fun k => k = b) w w1)
    (hX : w2.ownsRow base 5 1 (.slice (some ⟨q, 0, none⟩) (bs.length + 1) cp) (bs.length + 1) (bs.map (Value.int .u8) ++ [.int .u8 c]))
    (hg : (w1.alloc (.cells #[.int .u8 c] 5)).grownBy w2 p.wv.ownBlock) (hd : (Value.slice (some ⟨q, 0, none⟩) (bs.length + 1) cp).ownBlock = p.wv.ownBlock ∨ (Value.slice (some ⟨q, 0, none⟩) (bs.length + 1) cp).ownBlock = some N ∧ Below N (w1.alloc (.cells #[.int .u8 c] 5)) w2) (hN : w1.heap.size ≤ N) :
    TookW b base vf vW vC wt fl vr p bs (some (st, bs ++ [c])) w (.returned (.bool true)) (w2.setCell ⟨b, 11, none⟩ (.slice (some ⟨q, 0, none⟩) (bs.length + 1) cp)) := by
  have hbw : some b ≠ p.wv.ownBlock := fun e => by
    obtain ⟨cur, hc⟩ := row_type h.2 e.symm
    have := h.1
    unfold RB at this
    rw [this] at hc; simp at hc
  have h1a : RB (w1.alloc (.cells #[.int .u8 c] 5)) b vf vW vC wt fl vr { p with st := st } := (Below.heap_alloc w1 _ b h1.lt).trans h1
  have h2 : RB w2 b vf vW vC wt fl vr { p with st := st } := h1a.grown hg hbw
  refine ⟨rfl, ⟨.slice (some ⟨q, 0, none⟩) (bs.length + 1) cp, ⟨h2.wv _, ?_⟩, ?_⟩, ?_⟩
  · have t : Touch (fun k => k = b) w2 (w2.setCell ⟨b, 11, none⟩ (.slice (some ⟨q, 0, none⟩) (bs.length + 1) cp)) := (Touch.refl (fun k => k = b) w2).setCell (p := ⟨b, 11, none⟩) (fun _ => rfl) _
    have hY := t.row hX (fun k hk e => by
      obtain ⟨cur, hc⟩ := row_type hX hk
      subst e
      unfold RB at h2
      rw [h2] at hc; simp at hc)
    unfold OwnB
    simp only [Option.getD_some, List.length_append, List.map_append, List.map_cons, List.map_nil, List.length_cons, List.length_nil]
    exact hY
  · rcases hd with e | ⟨e, _⟩
    · exact .inl e
    · exact .inr ⟨N, e, by have := t1.size; omega⟩
  · exact (((t1.mono (fun k _ e => .inl e)).alloc _).grown hg (fun k e _ => .inr e.symm)).setCell (p := ⟨b, 11, none⟩) (fun _ => .inl rfl) _

section
variable (b base : Nat) (vf vW vC : Value) (wt : Int) (fl : Bool) (vr : Value) (p : PartS) (bs : List Int) (c : Int) (w : World) (h : RW w b base vf vW vC wt fl vr p bs) (hbs : base ≤ w.heap.size) (hl : bs.length ≤ 1000)
include h hbs hl

set_option maxRecDepth 100000 in
set_option maxHeartbeats 2000000 in
theorem takeLetter_any : Calls Tryz.prog 260 #[.pointer (some ⟨b, 6, none⟩), .int .u8 c] w fun e w' => TookW b base vf vW vC wt fl vr p bs (letterD bs c) w e w' := by
  obtain ⟨i5, inf5, iz0, iz1, iz2⟩ := info_parts info5
  obtain ⟨c6, _, _, _, _, c11, cf⟩ := h.1.part
  have H : Hid (RW w b base vf vW vC wt fl vr p bs) := h
  have HL : Hid (∀ W, Calls Tryz.prog 310 #[.int .u8 c] W fun e w' => e = .returned (.bool (letterB c)) ∧ w' = W) := fun W => isLetter_any c W
  have HF : Hid (Calls Tryz.prog 311 #[.pointer (some ⟨b, 6, none⟩)] w fun e w' => e = .returned (.bool (decide (bs.length = 8))) ∧ w' = w) := full_any b base vf vW vC wt fl vr p bs w h
  have HO1 : Hid (OwnB (w.setCell ⟨b, 6, none⟩ (.int .i64 6)) base p.wv bs) := ((Touch.refl (fun k => k = b) w).setCell (p := ⟨b, 6, none⟩) (fun _ => rfl) _).row h.2 (fun k hk e => by
    obtain ⟨cur, hc⟩ := row_type h.2 hk
    subst e
    have := h.1
    unfold RB at this
    rw [this] at hc; simp at hc)
  have HR1 : Hid (RB (w.setCell ⟨b, 6, none⟩ (.int .i64 6)) b vf vW vC wt fl vr { p with st := 6 }) := h.1.st 6
  have HT1 : Hid (Touch (fun k => k = b) w (w.setCell ⟨b, 6, none⟩ (.int .i64 6))) := (Touch.refl (fun k => k = b) w).setCell (p := ⟨b, 6, none⟩) (fun _ => rfl) _
  have HSZ : Hid (base ≤ (w.setCell ⟨b, 6, none⟩ (.int .i64 6)).heap.size) := show base ≤ _ by simp [World.setCell]; exact hbs
  have d11 : (w.setCell ⟨b, 6, none⟩ (.int .i64 6)).cell? ⟨b, 11, none⟩ = some p.wv := (h.1.st 6).part.2.2.2.2.2.1
  have df : ∀ o, (w.setCell ⟨b, 6, none⟩ (.int .i64 6)).frozen? ⟨b, o, none⟩ = false := (h.1.st 6).part.2.2.2.2.2.2
  clear h
  by_cases hlt : letterB c = true
  · rw [hlt] at HL
    by_cases h8 : bs.length = 8
    · have HO : Hid (letterD bs c = none) := if_neg (fun h => h.2 h8)
      have hd8 : decide (bs.length = 8) = true := decide_eq_true h8
      rw [hd8] at HF
      clear hlt h8 hd8
      go_enter Tryz.func260, Tryz.ntmps260
      go_wp2_with (first | (go_at_call 310; refine (HL.out _).mono ?_; rintro e w' ⟨rfl, rfl⟩) | (go_at_call 311; refine (HF.out).mono ?_; rintro e w' ⟨rfl, rfl⟩))
      go_ret
      rw [HO.out]
      exact TookW.none H.out
    · have HO : Hid (letterD bs c = some (6, bs ++ [c])) := if_pos ⟨hlt, h8⟩
      have hd8 : decide (bs.length = 8) = false := decide_eq_false h8
      rw [hd8] at HF
      clear hlt h8 hd8
      go_enter Tryz.func260, Tryz.ntmps260
      go_upto_region 4 with (first | (go_at_call 310; refine (HL.out _).mono ?_; rintro e w' ⟨rfl, hw'⟩; obtain rfl := hw'.symm) | (go_at_call 311; refine (HF.out).mono ?_; rintro e w' ⟨rfl, hw'⟩; obtain rfl := hw'.symm))
      have HBW : Hid (some b ≠ p.wv.ownBlock) := fun e => by
        obtain ⟨cur, hc⟩ := row_type H.out.2 e.symm
        have := H.out.1
        unfold RB at this
        rw [this] at hc; simp at hc
      generalize w.setCell ⟨b, 6, none⟩ (.int .i64 6) = w1 at *
      have hs1 := HSZ.out
      go_wp2_with (at_builtin; refine wpList_append_mark rfl (.tmp 19) (.tmp 21) 66 rfl base 5 i5 (.int .u8 0) 1 1 Tryz.underlying66 inf5 iz0 iz1 iz2 rfl (by decide) p.wv bs.length (bs.map (Value.int .u8)) rfl (World.ownsRow.alloc HO1.out _) ⟨w1.heap.size, 0, none⟩ 1 1 [.int .u8 c] rfl rfl (one_new w1 #[.int .u8 c] 5) (by intro u hu; simp only [List.mem_cons, List.not_mem_nil, or_false] at hu; rcases hu with rfl; rfl) (by decide) (by unfold maxLen; omega) (by omega) (by simp; omega) ?_)
      intro y w2 hX
      obtain ⟨ho, hg, hd, _, q, cp, rfl⟩ := hX.out
      have h1a : RB (w1.alloc (.cells #[.int .u8 c] 5)) b vf vW vC wt fl vr { p with st := 6 } := (Below.heap_alloc w1 _ b HR1.out.lt).trans HR1.out
      have h2 : RB w2 b vf vW vC wt fl vr { p with st := 6 } := h1a.grown hg HBW.out
      obtain ⟨_, _, _, _, _, g11, gf⟩ := h2.part
      have HFIN : Hid (TookW b base vf vW vC wt fl vr p bs (some (6, bs ++ [c])) w (.returned (.bool true)) (w2.setCell ⟨b, 11, none⟩ (.slice (some ⟨q, 0, none⟩) (bs.length + 1) cp))) := grew_word H.out HR1.out HT1.out ho hg hd (by omega)
      clear hX ho hg hd h1a h2 c6 c11 cf d11 df
      go_wp2
      go_ret
      rw [HO.out]
      exact HFIN.out
  · have HO : Hid (letterD bs c = none) := if_neg (fun h => hlt h.1)
    have hf : letterB c = false := by simpa using hlt
    rw [hf] at HL
    clear hlt hf
    go_enter Tryz.func260, Tryz.ntmps260
    go_wp2_with (go_at_call 310; refine (HL.out _).mono ?_; rintro e w' ⟨rfl, rfl⟩)
    go_ret
    rw [HO.out]
    exact TookW.none H.out
end
end Go.Proofs.YtfcgnpchbcmdeaaGreat

namespace Go.Proofs.YtfcgnpchbcmdeaaGreat
open Go.RowKit

def sepOf (nr nf : Nat) : Int := if nr + 1 = nf then 10 else 44

theorem separator_any (b : Nat) (af : Option Addr) (nf cf : Nat) (vW vC : Value) (wt : Int) (fl : Bool) (ar : Option Addr) (nr cr : Nat) (p : PartS) (w : World) (h : RB w b (.slice af nf cf) vW vC wt fl (.slice ar nr cr) p) (hnf : nf ≤ 1000) (hnr : nr ≤ 1000) :
    Calls Tryz.prog 219 #[.pointer (some ⟨b, 0, none⟩)] w fun e w' => e = .returned (.int .u8 (sepOf nr nf)) ∧ ∃ n, w' = w.drewN n := by
  obtain ⟨c0, _, _, _, _, c5⟩ := h.head
  clear h
  by_cases s : nr + 1 = nf
  · have HO : Hid (sepOf nr nf = 10) := if_pos s
    have hw : IntKind.i64.wrap ((nf : Int) - 1) = (nf : Int) - 1 := wrapI (by omega) (by omega)
    have e1 : ((nr : Int) == (nf : Int) - 1) = true := by simp; omega
    clear s
    go_enter Tryz.func219, Tryz.ntmps219
    go_wp2_with fail
    go_big_quiet (fail)
    go_wp2
    go_ret
    rw [HO.out]
    exact ⟨rfl, _, rfl⟩
  · have HO : Hid (sepOf nr nf = 44) := if_neg s
    have hw : IntKind.i64.wrap ((nf : Int) - 1) = (nf : Int) - 1 := wrapI (by omega) (by omega)
    have e1 : ((nr : Int) == (nf : Int) - 1) = false := beq_eq_false_iff_ne.2 (by omega)
    clear s
    go_enter Tryz.func219, Tryz.ntmps219
    go_wp2_with fail
    go_big_quiet (fail)
    go_wp2
    go_ret
    rw [HO.out]
    exact ⟨rfl, _, rfl⟩

theorem conv_any (w : World) (base : Nat) (v : Value) (bs : List Int) (h : OwnB w base v bs) : (convert 66 9 v).run Tryz.prog w = .ok (.string (strOfNums bs)) w := by
  rcases h.2 with ⟨rfl, h0⟩ | ⟨q, cp, cur, rfl, _, hh, _⟩
  · have hb : bs = [] := List.eq_nil_of_length_eq_zero h0
    subst hb
    rw [run_convert_bytes_nil w 66 5 Tryz.underlying66 Tryz.underlying5 0 0 9 Tryz.underlying9]
    rfl
  · refine run_convert_bytes_arg w 66 5 Tryz.underlying66 Tryz.underlying5 q 0 bs.length cp bs rfl (fun i hi => ?_) 9 Tryz.underlying9
    have := World.ownsRow.cells h (g := q) rfl i (.int .u8 (bs.getD i 0)) (by rw [List.getElem?_map, List.getElem?_eq_getElem hi, List.getD, List.getElem?_eq_getElem hi]; rfl)
    have hadd : (⟨q, 0, none⟩ : Addr).add i = ⟨q, i, none⟩ := by unfold Addr.add; split <;> simp_all
    rw [hadd] at this
    rw [Nat.zero_add]
    exact this

def numOf (p : PartS) : Int := if p.neg = true then -p.num else p.num

set_option maxRecDepth 100000 in
set_option maxHeartbeats 2000000 in
theorem value_any (b base : Nat) (vf vW vC : Value) (wt : Int) (fl : Bool) (vr : Value) (p : PartS) (bs : List Int) (w : World) (h : RW w b base vf vW vC wt fl vr p bs) (hn1 : -1000000000000 ≤ p.num) (hn2 : p.num ≤ 1000000000000) :
    Calls Tryz.prog 221 #[.pointer (some ⟨b, 6, none⟩)] w fun e w' => e = .returned (.agg #[.bool (decide (p.st = 0)), .int .i64 (numOf p), .string (strOfNums bs)]) ∧ Below w.heap.size w w' := by
  obtain ⟨c6, c7, _, _, c10, c11, _⟩ := h.1.part
  have hbl := h.1.lt
  obtain ⟨a, cp, hv⟩ := h.2.form
  have hcv : ∀ W, Below w.heap.size w W → (convert 66 9 p.wv).run Tryz.prog W = .ok (.string (strOfNums bs)) W := fun W hb => conv_any W base p.wv bs ((Touch.of_below (S := fun _ => False) hb).row h.2 (fun _ _ => id))
  have hb0 : Below w.heap.size w (w.alloc (.cells #[.bool false, .int .i64 0, .string ⟨#[]⟩] 308)) := (Below.refl _ _).alloc (Nat.le_refl _) _
  have hcv1 : (convert 66 9 p.wv).run Tryz.prog (w.alloc (.cells #[.bool false, .int .i64 0, .string ⟨#[]⟩] 308)).drew = .ok (.string (strOfNums bs)) (w.alloc (.cells #[.bool false, .int .i64 0, .string ⟨#[]⟩] 308)).drew := hcv _ hb0.drew
  have hcv2 : (convert 66 9 p.wv).run Tryz.prog ((w.alloc (.cells #[.bool false, .int .i64 0, .string ⟨#[]⟩] 308)).alloc (.cells #[.bool false, .int .i64 0, .string ⟨#[]⟩] 308)).drew = .ok (.string (strOfNums bs)) ((w.alloc (.cells #[.bool false, .int .i64 0, .string ⟨#[]⟩] 308)).alloc (.cells #[.bool false, .int .i64 0, .string ⟨#[]⟩] 308)).drew := hcv _ (hb0.alloc (by simp) _).drew
  have d6 : (w.alloc (.cells #[.bool false, .int .i64 0, .string ⟨#[]⟩] 308)).cell? ⟨b, 6, none⟩ = some (.int .i64 p.st) := (hb0.cell (p := ⟨b, 6, none⟩) hbl).trans c6
  have d7 : (w.alloc (.cells #[.bool false, .int .i64 0, .string ⟨#[]⟩] 308)).cell? ⟨b, 7, none⟩ = some (.bool p.neg) := (hb0.cell (p := ⟨b, 7, none⟩) hbl).trans c7
  have d10 : (w.alloc (.cells #[.bool false, .int .i64 0, .string ⟨#[]⟩] 308)).cell? ⟨b, 10, none⟩ = some (.int .i64 p.num) := (hb0.cell (p := ⟨b, 10, none⟩) hbl).trans c10
  have d11 : (w.alloc (.cells #[.bool false, .int .i64 0, .string ⟨#[]⟩] 308)).cell? ⟨b, 11, none⟩ = some p.wv := (hb0.cell (p := ⟨b, 11, none⟩) hbl).trans c11
  have HCV : Hid (∀ W, Below w.heap.size w W → (convert 66 9 (.slice a bs.length cp)).run Tryz.prog W = .ok (.string (strOfNums bs)) W) := by rw [← hv]; exact hcv
  have HB0 : Hid (Below w.heap.size w (w.alloc (.cells #[.bool false, .int .i64 0, .string ⟨#[]⟩] 308))) := hb0
  have hs0 : (w.alloc (.cells #[.bool false, .int .i64 0, .string ⟨#[]⟩] 308)).heap.size = w.heap.size + 1 := by simp
  have t0 : (w.alloc (.cells #[.bool false, .int .i64 0, .string ⟨#[]⟩] 308)).cell? ⟨w.heap.size, 0, none⟩ = some (.bool false) := by simp
  have t1 : (w.alloc (.cells #[.bool false, .int .i64 0, .string ⟨#[]⟩] 308)).cell? ⟨w.heap.size, 1, none⟩ = some (.int .i64 0) := by simp
  have t2 : (w.alloc (.cells #[.bool false, .int .i64 0, .string ⟨#[]⟩] 308)).cell? ⟨w.heap.size, 2, none⟩ = some (.string ⟨#[]⟩) := by simp
  have HBK : Hid ((w.alloc (.cells #[.bool false, .int .i64 0, .string ⟨#[]⟩] 308)).heap[w.heap.size]? = some (.cells #[.bool false, .int .i64 0, .string ⟨#[]⟩] 308 (0, 0))) := heap_alloc_new w _
  have tf : ∀ o, (w.alloc (.cells #[.bool false, .int .i64 0, .string ⟨#[]⟩] 308)).frozen? ⟨w.heap.size, o, none⟩ = false := fun o => frozen_of_row _ _ o _ 308 (heap_alloc_new w _)
  clear h hcv hb0 c6 c7 c10 c11
  rw [hv] at d11 hcv1 hcv2
  go_enter Tryz.func221, Tryz.ntmps221
  go_wp2_with fail
  generalize w.alloc (.cells #[.bool false, .int .i64 0, .string ⟨#[]⟩] 308) = wb at *
  have n1 := World.new_ne wb _ d6
  have n2 := World.new_ne wb _ d10
  have n3 := World.new_ne wb _ d11
  clear hcv1 hcv2
  go_region_held3 (fun w' => (w'.cell? ⟨b, 6, none⟩ = some (.int .i64 p.st) ∧ w'.cell? ⟨b, 10, none⟩ = some (.int .i64 p.num) ∧ w'.cell? ⟨b, 11, none⟩ = some (.slice a bs.length cp)) ∧ (convert 66 9 (.slice a bs.length cp)).run Tryz.prog w' = .ok (.string (strOfNums bs)) w') (exact ⟨by go_keep, HCV.out _ (by repeat (first | with_reducible exact HB0.out | with_reducible apply Below.drew | (refine Below.alloc ?_ (by first | omega | (simp; omega)) _) | (refine Below.setCell ?_ (by first | omega | (simp; omega)) _)))⟩) (fail)
  have HBF : Hid (Below w.heap.size w (wb.alloc (.cells #[.bool (p.st == 0), .int .i64 p.num, .string (strOfNums bs)] 308)).drew) := (HB0.out.alloc (by omega) _).drew
  have hst : (p.st == 0) = decide (p.st = 0) := by by_cases h0 : p.st = 0 <;> simp [h0]
  have HST : Hid ((p.st == 0) = decide (p.st = 0)) := hst
  clear hst
  have hwn : IntKind.i64.wrap (-p.num) = -p.num := wrapI (by omega) (by omega)
  by_cases hneg : p.neg = true
  · have HO : Hid (numOf p = -p.num) := if_pos hneg
    rw [hneg] at d7
    clear hneg
    have hfin : (((((wb.setCell ⟨w.heap.size, 0, none⟩ (.bool (p.st == 0))).setCell ⟨w.heap.size, 1, none⟩ (.int .i64 (-p.num))).setCell ⟨w.heap.size, 2, none⟩ (.string (strOfNums bs))).alloc (.cells #[.bool (p.st == 0), .int .i64 (-p.num), .string (strOfNums bs)] 308)).drew).heap[w.heap.size]? = some (.cells #[.bool (p.st == 0), .int .i64 (-p.num), .string (strOfNums bs)] 308 (0, 0)) := by
      have k1 := heap_setCell_same wb w.heap.size 0 _ 308 (.bool (p.st == 0)) HBK.out
      have k2 := heap_setCell_same _ w.heap.size 1 _ 308 (.int .i64 (-p.num)) k1
      have k3 := heap_setCell_same _ w.heap.size 2 _ 308 (.string (strOfNums bs)) k2
      exact (Below.heap_alloc _ _ w.heap.size (Array.getElem?_eq_some_iff.1 k3).1).trans k3
    have q0 := cell_of_row _ w.heap.size 0 _ 308 (0, 0) hfin
    have q1 := cell_of_row _ w.heap.size 1 _ 308 (0, 0) hfin
    have q2 := cell_of_row _ w.heap.size 2 _ 308 (0, 0) hfin
    have HBF2 : Hid (Below w.heap.size w ((((wb.setCell ⟨w.heap.size, 0, none⟩ (.bool (p.st == 0))).setCell ⟨w.heap.size, 1, none⟩ (.int .i64 (-p.num))).setCell ⟨w.heap.size, 2, none⟩ (.string (strOfNums bs))).alloc (.cells #[.bool (p.st == 0), .int .i64 (-p.num), .string (strOfNums bs)] 308)).drew) := ((((HB0.out.setCell (p := ⟨w.heap.size, 0, none⟩) (Nat.le_refl _) _).setCell (p := ⟨w.heap.size, 1, none⟩) (Nat.le_refl _) _).setCell (p := ⟨w.heap.size, 2, none⟩) (Nat.le_refl _) _).alloc (by simp [World.setCell]; omega) _).drew
    clear hfin
    go_wp2
    exact bodyPost_ret (v := .agg #[.bool (p.st == 0), .int .i64 (-p.num), .string (strOfNums bs)]) (by simp at q0 q1 q2; simp [results, Tryz.results221, go_sem, q0, q1, q2]) rfl ⟨by rw [HO.out, HST.out], HBF2.out⟩
  · have hnf : p.neg = false := by simpa using hneg
    have HO : Hid (numOf p = p.num) := if_neg hneg
    rw [hnf] at d7
    clear hneg hnf
    have hfin : (((((wb.setCell ⟨w.heap.size, 0, none⟩ (.bool (p.st == 0))).setCell ⟨w.heap.size, 1, none⟩ (.int .i64 (p.num))).setCell ⟨w.heap.size, 2, none⟩ (.string (strOfNums bs))).alloc (.cells #[.bool (p.st == 0), .int .i64 (p.num), .string (strOfNums bs)] 308)).drew).heap[w.heap.size]? = some (.cells #[.bool (p.st == 0), .int .i64 (p.num), .string (strOfNums bs)] 308 (0, 0)) := by
      have k1 := heap_setCell_same wb w.heap.size 0 _ 308 (.bool (p.st == 0)) HBK.out
      have k2 := heap_setCell_same _ w.heap.size 1 _ 308 (.int .i64 (p.num)) k1
      have k3 := heap_setCell_same _ w.heap.size 2 _ 308 (.string (strOfNums bs)) k2
      exact (Below.heap_alloc _ _ w.heap.size (Array.getElem?_eq_some_iff.1 k3).1).trans k3
    have q0 := cell_of_row _ w.heap.size 0 _ 308 (0, 0) hfin
    have q1 := cell_of_row _ w.heap.size 1 _ 308 (0, 0) hfin
    have q2 := cell_of_row _ w.heap.size 2 _ 308 (0, 0) hfin
    have HBF2 : Hid (Below w.heap.size w ((((wb.setCell ⟨w.heap.size, 0, none⟩ (.bool (p.st == 0))).setCell ⟨w.heap.size, 1, none⟩ (.int .i64 (p.num))).setCell ⟨w.heap.size, 2, none⟩ (.string (strOfNums bs))).alloc (.cells #[.bool (p.st == 0), .int .i64 (p.num), .string (strOfNums bs)] 308)).drew) := ((((HB0.out.setCell (p := ⟨w.heap.size, 0, none⟩) (Nat.le_refl _) _).setCell (p := ⟨w.heap.size, 1, none⟩) (Nat.le_refl _) _).setCell (p := ⟨w.heap.size, 2, none⟩) (Nat.le_refl _) _).alloc (by simp [World.setCell]; omega) _).drew
    clear hfin
    go_wp2
    exact bodyPost_ret (v := .agg #[.bool (p.st == 0), .int .i64 (p.num), .string (strOfNums bs)]) (by simp at q0 q1 q2; simp [results, Tryz.results221, go_sem, q0, q1, q2]) rfl ⟨by rw [HO.out, HST.out], HBF2.out⟩
end Go.Proofs.YtfcgnpchbcmdeaaGreat

namespace Go.Proofs.YtfcgnpchbcmdeaaGreat
open Go.RowKit


theorem isSign_any (c : Int) (w : World) : Calls Tryz.prog 312 #[.int .u8 c] w fun e w' => e = .returned (.bool (signB c)) ∧ w' = w := by
  have HL : Hid (∀ W, Calls Tryz.prog 310 #[.int .u8 c] W fun e w' => e = .returned (.bool (letterB c)) ∧ w' = W) := fun W => isLetter_any c W
  by_cases k0 : letterB c = true
  · have HO : Hid (signB c = true) := by show signB c = true; unfold signB; rw [k0]; rfl
    rw [k0] at HL
    clear k0
    go_enter Tryz.func312, Tryz.ntmps312
    go_wp2_with (go_at_call 310; refine (HL.out _).mono ?_; rintro e w' ⟨rfl, hw'⟩; obtain rfl := hw'.symm)
    go_ret
    rw [HO.out]
    exact ⟨rfl, rfl⟩
  · have k0' : letterB c = false := by simpa using k0
    have HO : Hid (signB c = (decide (c = 32) || decide (c = 44) || decide (c = 10) || decide (c = 34))) := by show signB c = _; unfold signB; rw [k0', Bool.false_or]
    rw [k0'] at HL
    clear k0 k0'
    have hcase : c = 32 ∨ c = 44 ∨ c = 10 ∨ c = 34 ∨ (¬ c = 32 ∧ ¬ c = 44 ∧ ¬ c = 10 ∧ ¬ c = 34) := by omega
    rcases hcase with rfl | rfl | rfl | rfl | ⟨k1, k2, k3, k4⟩
    all_goals try
      have j1 : (c == 32) = false := beq_eq_false_iff_ne.2 k1
      have j2 : (c == 44) = false := beq_eq_false_iff_ne.2 k2
      have j3 : (c == 10) = false := beq_eq_false_iff_ne.2 k3
      have j4 : (c == 34) = false := beq_eq_false_iff_ne.2 k4
    all_goals go_enter Tryz.func312, Tryz.ntmps312
    all_goals go_wp2_with (go_at_call 310; refine (HL.out _).mono ?_; rintro e w' ⟨rfl, hw'⟩; obtain rfl := hw'.symm)
    all_goals go_ret
    all_goals refine ⟨?_, rfl⟩
    all_goals rw [HO.out]
    all_goals first | rfl | simp_all

section
variable (b base : Nat) (vf vW vC : Value) (wt : Int) (fl : Bool) (vr : Value) (p : PartS) (bs : List Int) (c : Int) (w : World) (h : RW w b base vf vW vC wt fl vr p bs) (hbs : base ≤ w.heap.size) (hl : bs.length ≤ 1000)
include h hbs hl

set_option maxRecDepth 100000 in
set_option maxHeartbeats 2000000 in
theorem takeSecond_any : Calls Tryz.prog 263 #[.pointer (some ⟨b, 6, none⟩), .int .u8 c] w fun e w' => TookW b base vf vW vC wt fl vr p bs (secondD bs c) w e w' := by
  obtain ⟨i5, inf5, iz0, iz1, iz2⟩ := info_parts info5
  obtain ⟨c6, _, _, _, _, c11, cf⟩ := h.1.part
  have H : Hid (RW w b base vf vW vC wt fl vr p bs) := h
  have HL : Hid (∀ W, Calls Tryz.prog 310 #[.int .u8 c] W fun e w' => e = .returned (.bool (letterB c)) ∧ w' = W) := fun W => isLetter_any c W
  have HF : Hid (Calls Tryz.prog 311 #[.pointer (some ⟨b, 6, none⟩)] w fun e w' => e = .returned (.bool (decide (bs.length = 8))) ∧ w' = w) := full_any b base vf vW vC wt fl vr p bs w h
  have HBW : Hid (some b ≠ p.wv.ownBlock) := fun e => by
    obtain ⟨cur, hc⟩ := row_type h.2 e.symm
    have := h.1
    unfold RB at this
    rw [this] at hc; simp at hc
  have HO1 : Hid (OwnB (w.setCell ⟨b, 6, none⟩ (.int .i64 7)) base p.wv bs) := ((Touch.refl (fun k => k = b) w).setCell (p := ⟨b, 6, none⟩) (fun _ => rfl) _).row h.2 (fun k hk e => by
    obtain ⟨cur, hc⟩ := row_type h.2 hk
    subst e
    have := h.1
    unfold RB at this
    rw [this] at hc; simp at hc)
  have HR1 : Hid (RB (w.setCell ⟨b, 6, none⟩ (.int .i64 7)) b vf vW vC wt fl vr { p with st := 7 }) := h.1.st 7
  have HT1 : Hid (Touch (fun k => k = b) w (w.setCell ⟨b, 6, none⟩ (.int .i64 7))) := (Touch.refl (fun k => k = b) w).setCell (p := ⟨b, 6, none⟩) (fun _ => rfl) _
  have HSZ : Hid (base ≤ (w.setCell ⟨b, 6, none⟩ (.int .i64 7)).heap.size) := show base ≤ _ by simp [World.setCell]; exact hbs
  have d11 : (w.setCell ⟨b, 6, none⟩ (.int .i64 7)).cell? ⟨b, 11, none⟩ = some p.wv := (h.1.st 7).part.2.2.2.2.2.1
  have df : ∀ o, (w.setCell ⟨b, 6, none⟩ (.int .i64 7)).frozen? ⟨b, o, none⟩ = false := (h.1.st 7).part.2.2.2.2.2.2
  clear h HL
  by_cases hc : c = 34
  · subst hc
    by_cases h8 : bs.length = 8
    · have HO : Hid (secondD bs 34 = none) := if_neg (fun h => h.2 h8)
      have hd8 : decide (bs.length = 8) = true := decide_eq_true h8
      rw [hd8] at HF
      clear h8 hd8
      go_enter Tryz.func263, Tryz.ntmps263
      go_wp2_with ((go_at_call 311; refine (HF.out).mono ?_; rintro e w' ⟨rfl, hw'⟩; obtain rfl := hw'.symm))
      go_ret
      rw [HO.out]
      exact TookW.none H.out
    · have HO : Hid (secondD bs 34 = some (7, bs ++ [34])) := if_pos ⟨rfl, h8⟩
      have hd8 : decide (bs.length = 8) = false := decide_eq_false h8
      rw [hd8] at HF
      clear h8 hd8
      go_enter Tryz.func263, Tryz.ntmps263
      go_upto_region 4 with ((go_at_call 311; refine (HF.out).mono ?_; rintro e w' ⟨rfl, hw'⟩; obtain rfl := hw'.symm))
      generalize w.setCell ⟨b, 6, none⟩ (.int .i64 7) = w1 at *
      have hs1 := HSZ.out
      go_wp2_with (at_builtin; refine wpList_append_mark rfl (.tmp 18) (.tmp 20) 66 rfl base 5 i5 (.int .u8 0) 1 1 Tryz.underlying66 inf5 iz0 iz1 iz2 rfl (by decide) p.wv bs.length (bs.map (Value.int .u8)) rfl (World.ownsRow.alloc HO1.out _) ⟨w1.heap.size, 0, none⟩ 1 1 [.int .u8 34] rfl rfl (one_new w1 #[.int .u8 34] 5) (by intro u hu; simp only [List.mem_cons, List.not_mem_nil, or_false] at hu; rcases hu with rfl; rfl) (by decide) (by unfold maxLen; omega) (by omega) (by simp; omega) ?_)
      intro y w2 hX
      obtain ⟨ho, hg, hd, _, q, cp, rfl⟩ := hX.out
      have h1a : RB (w1.alloc (.cells #[.int .u8 34] 5)) b vf vW vC wt fl vr { p with st := 7 } := (Below.heap_alloc w1 _ b HR1.out.lt).trans HR1.out
      have h2 : RB w2 b vf vW vC wt fl vr { p with st := 7 } := h1a.grown hg HBW.out
      obtain ⟨_, _, _, _, _, g11, gf⟩ := h2.part
      have HFIN : Hid (TookW b base vf vW vC wt fl vr p bs (some (7, bs ++ [34])) w (.returned (.bool true)) (w2.setCell ⟨b, 11, none⟩ (.slice (some ⟨q, 0, none⟩) (bs.length + 1) cp))) := grew_word H.out HR1.out HT1.out ho hg hd (by omega)
      clear hX ho hg hd h1a h2 c6 c11 cf d11 df
      go_wp2
      go_ret
      rw [HO.out]
      exact HFIN.out
  · have HO : Hid (secondD bs c = none) := if_neg (fun h => hc h.1)
    have hne : (c == 34) = false := beq_eq_false_iff_ne.2 hc
    go_enter Tryz.func263, Tryz.ntmps263
    go_wp2
    go_ret
    rw [HO.out]
    exact TookW.none H.out

set_option maxRecDepth 100000 in
set_option maxHeartbeats 4000000 in
theorem takeSign_any : Calls Tryz.prog 262 #[.pointer (some ⟨b, 6, none⟩), .int .u8 c] w fun e w' => TookW b base vf vW vC wt fl vr p bs (signD p.st bs c) w e w' := by
  obtain ⟨i5, inf5, iz0, iz1, iz2⟩ := info_parts info5
  obtain ⟨c6, _, _, _, _, c11, cf⟩ := h.1.part
  have H : Hid (RW w b base vf vW vC wt fl vr p bs) := h
  have HL : Hid (∀ W, Calls Tryz.prog 312 #[.int .u8 c] W fun e w' => e = .returned (.bool (signB c)) ∧ w' = W) := fun W => isSign_any c W
  have HF : Hid (Calls Tryz.prog 311 #[.pointer (some ⟨b, 6, none⟩)] w fun e w' => e = .returned (.bool (decide (bs.length = 8))) ∧ w' = w) := full_any b base vf vW vC wt fl vr p bs w h
  have HBW : Hid (some b ≠ p.wv.ownBlock) := fun e => by
    obtain ⟨cur, hc⟩ := row_type h.2 e.symm
    have := h.1
    unfold RB at this
    rw [this] at hc; simp at hc
  have HO1 : Hid (OwnB w base p.wv bs) := h.2
  have HR1 : Hid (RB w b vf vW vC wt fl vr { p with st := p.st }) := h.1
  have HT1 : Hid (Touch (fun k => k = b) w w) := Touch.refl _ _
  have HSZ : Hid (base ≤ w.heap.size) := hbs
  have d11 : w.cell? ⟨b, 11, none⟩ = some p.wv := h.1.part.2.2.2.2.2.1
  have df : ∀ o, w.frozen? ⟨b, o, none⟩ = false := h.1.part.2.2.2.2.2.2
  clear h
  by_cases hs : signB c = true
  · rw [hs] at HL
    by_cases h8 : bs.length = 8
    · have HO : Hid (signD p.st bs c = none) := if_neg (fun h => h.2 h8)
      have hd8 : decide (bs.length = 8) = true := decide_eq_true h8
      rw [hd8] at HF
      clear h8 hd8 hs
      go_enter Tryz.func262, Tryz.ntmps262
      go_wp2_with (first | (go_at_call 312; refine (HL.out _).mono ?_; rintro e w' ⟨rfl, hw'⟩; obtain rfl := hw'.symm) | (go_at_call 311; refine (HF.out).mono ?_; rintro e w' ⟨rfl, hw'⟩; obtain rfl := hw'.symm))
      go_ret
      rw [HO.out]
      exact TookW.none H.out
    · have HO : Hid (signD p.st bs c = some (p.st, bs ++ [c])) := if_pos ⟨hs, h8⟩
      have hd8 : decide (bs.length = 8) = false := decide_eq_false h8
      rw [hd8] at HF
      clear h8 hd8 hs
      go_enter Tryz.func262, Tryz.ntmps262
      go_upto_region 3 with (first | (go_at_call 312; refine (HL.out _).mono ?_; rintro e w' ⟨rfl, hw'⟩; obtain rfl := hw'.symm) | (go_at_call 311; refine (HF.out).mono ?_; rintro e w' ⟨rfl, hw'⟩; obtain rfl := hw'.symm))
      have hs1 := HSZ.out
      go_wp2_with (at_builtin; refine wpList_append_mark rfl (.tmp 16) (.tmp 18) 66 rfl base 5 i5 (.int .u8 0) 1 1 Tryz.underlying66 inf5 iz0 iz1 iz2 rfl (by decide) p.wv bs.length (bs.map (Value.int .u8)) rfl (World.ownsRow.alloc HO1.out _) ⟨w.heap.size, 0, none⟩ 1 1 [.int .u8 c] rfl rfl (one_new w #[.int .u8 c] 5) (by intro u hu; simp only [List.mem_cons, List.not_mem_nil, or_false] at hu; rcases hu with rfl; rfl) (by decide) (by unfold maxLen; omega) (by omega) (by simp; omega) ?_)
      intro y w2 hX
      obtain ⟨ho, hg, hd, _, q, cp, rfl⟩ := hX.out
      have h1a : RB (w.alloc (.cells #[.int .u8 c] 5)) b vf vW vC wt fl vr { p with st := p.st } := (Below.heap_alloc w _ b HR1.out.lt).trans HR1.out
      have h2 : RB w2 b vf vW vC wt fl vr { p with st := p.st } := h1a.grown hg HBW.out
      obtain ⟨_, _, _, _, _, g11, gf⟩ := h2.part
      have HFIN : Hid (TookW b base vf vW vC wt fl vr p bs (some (p.st, bs ++ [c])) w (.returned (.bool true)) (w2.setCell ⟨b, 11, none⟩ (.slice (some ⟨q, 0, none⟩) (bs.length + 1) cp))) := grew_word H.out HR1.out HT1.out ho hg hd (by omega)
      clear hX ho hg hd h1a h2 c6 c11 cf d11 df
      go_wp2
      go_ret
      rw [HO.out]
      exact HFIN.out
  · have hs' : signB c = false := by simpa using hs
    have HO : Hid (signD p.st bs c = none) := if_neg (fun h => hs h.1)
    rw [hs'] at HL
    clear hs hs'
    go_enter Tryz.func262, Tryz.ntmps262
    go_wp2_with (first | (go_at_call 312; refine (HL.out _).mono ?_; rintro e w' ⟨rfl, hw'⟩; obtain rfl := hw'.symm) | (go_at_call 311; refine (HF.out).mono ?_; rintro e w' ⟨rfl, hw'⟩; obtain rfl := hw'.symm))
    go_ret
    rw [HO.out]
    exact TookW.none H.out
end
end Go.Proofs.YtfcgnpchbcmdeaaGreat

namespace Go.Proofs.YtfcgnpchbcmdeaaGreat
open Go.RowKit

theorem grown_tr {w w' w'' : World} {r : Option Nat} (h : w.grownBy w' r) (k : w'.grownBy w'' r) : w.grownBy w'' r :=
  ⟨k.os.trans h.os, k.tape.trans h.tape, k.output.trans h.output, Nat.le_trans h.size k.size, fun i hi hn => (k.block i (Nat.lt_of_lt_of_le hi h.size) hn).trans (h.block i hi hn)⟩

def numStep (u : Int) (p : PartS) (c : Int) : Option PartS :=
  if p.st = 0 then (minusD p c).orElse (fun _ => firstD u p c)
  else if p.st = 1 then firstD u p c
  else if p.st = 3 then (digitD p c).orElse (fun _ => pointD p c)
  else if p.st = 2 then pointD p c
  else behindD p c

def wordStep (st : Int) (bs : List Int) (c : Int) : Option (Int × List Int) :=
  if st = 0 then (if c = 34 then some (7, bs) else none).orElse (fun _ => letterD bs c)
  else if st = 6 then letterD bs c
  else if st = 7 then (if c = 34 then some (8, bs) else none).orElse (fun _ => signD st bs c)
  else secondD bs c

section
variable {b : Nat} {vf vW vC : Value} {wt : Int} {fl : Bool} {vr : Value} {p : PartS}

theorem TookP.first {w w1 : World} {e : Ending} {o : Option PartS} (h : TookP b vf vW vC wt fl vr p o w e w1) : (∃ q, o = some q ∧ e = .returned (.bool true)) ∨ (o = none ∧ e = .returned (.bool false) ∧ RB w1 b vf vW vC wt fl vr p ∧ w.grownBy w1 (some b)) := by
  obtain ⟨h1, h2, h3⟩ := h
  cases o with
  | none => exact .inr ⟨rfl, h1, h2, h3⟩
  | some q => exact .inl ⟨q, rfl, h1⟩
theorem TookP.second {w w1 w2 : World} {e : Ending} {o : Option PartS} (hg : w.grownBy w1 (some b)) (h : TookP b vf vW vC wt fl vr p o w1 e w2) : TookP b vf vW vC wt fl vr p o w e w2 := ⟨h.1, h.2.1, grown_tr hg h.2.2⟩
theorem TookP.ends {w w1 : World} {e : Ending} {o : Option PartS} (h : TookP b vf vW vC wt fl vr p o w e w1) : e = .returned (.bool o.isSome) := h.1
end

set_option maxHeartbeats 2000000 in
theorem takeNumber_any (b : Nat) (vf vW vC : Value) (wt : Int) (fl : Bool) (vr : Value) (p : PartS) (c u : Int) (w : World) (h : RB w b vf vW vC wt fl vr p) (hv1 : 0 ≤ u) (hv2 : u ≤ 1000000)
    (hu1 : 0 ≤ p.unit) (hu2 : p.unit ≤ 1000000) (hn1 : 0 ≤ p.num) (hn2 : p.num ≤ 1000000000000) (hg1 : 0 ≤ p.dig) (hg2 : p.dig ≤ 1000) :
    Calls Tryz.prog 215 #[.pointer (some ⟨b, 6, none⟩), .int .u8 c, .int .i64 u] w fun e w' => TookP b vf vW vC wt fl vr p (numStep u p c) w e w' := by
  obtain ⟨c6, _, _, _, _, _, _⟩ := h.part
  have H : Hid (RB w b vf vW vC wt fl vr p) := h
  clear h
  by_cases s0 : p.st = 0
  · have HO : Hid (numStep u p c = (minusD p c).orElse (fun _ => firstD u p c)) := if_pos s0
    rw [s0] at c6
    clear s0
    go_enter Tryz.func215, Tryz.ntmps215
    go_wp2_with fail
    refine (takeMinus_any b vf vW vC wt fl vr p c w H.out).mono ?_
    rintro e w1 ht
    have HT : Hid (TookP b vf vW vC wt fl vr p (minusD p c) w e w1) := ht
    rcases ht.first with ⟨q, hq, rfl⟩ | ⟨hq, rfl, hR, hG⟩
    · have HQ : Hid (minusD p c = some q) := hq
      clear ht hq
      go_wp2
      go_ret
      rw [HO.out, HQ.out]
      have := HT.out
      rw [HQ.out] at this
      exact this
    · have HQ : Hid (minusD p c = none) := hq
      have HR : Hid (RB w1 b vf vW vC wt fl vr p ∧ w.grownBy w1 (some b)) := ⟨hR, hG⟩
      clear ht hq hR hG HT
      go_wp2_with fail
      refine (takeFirst_any b vf vW vC wt fl vr p c w1 HR.out.1 u hv1 hv2).mono ?_
      rintro e w2 ht
      have HT : Hid (TookP b vf vW vC wt fl vr p (firstD u p c) w e w2) := ht.second HR.out.2
      obtain rfl := ht.ends
      clear ht
      go_wp2
      go_ret
      rw [HO.out, HQ.out]
      exact HT.out
  · by_cases s1 : p.st = 1
    · have HO : Hid (numStep u p c = firstD u p c) := by show numStep u p c = _; unfold numStep; rw [if_neg s0, if_pos s1]
      rw [s1] at c6
      clear s0 s1
      go_enter Tryz.func215, Tryz.ntmps215
      go_wp2_with fail
      refine (takeFirst_any b vf vW vC wt fl vr p c w H.out u hv1 hv2).mono ?_
      rintro e w2 ht
      have HT : Hid (TookP b vf vW vC wt fl vr p (firstD u p c) w e w2) := ht
      obtain rfl := ht.ends
      clear ht
      go_wp2
      go_ret
      rw [HO.out]
      exact HT.out
    · by_cases s3 : p.st = 3
      · have HO : Hid (numStep u p c = (digitD p c).orElse (fun _ => pointD p c)) := by show numStep u p c = _; unfold numStep; rw [if_neg s0, if_neg s1, if_pos s3]
        rw [s3] at c6
        clear s0 s1 s3
        go_enter Tryz.func215, Tryz.ntmps215
        go_wp2_with fail
        refine (takeDigit_any b vf vW vC wt fl vr p c w H.out hu1 hu2 hn1 hn2 hg1 hg2).mono ?_
        rintro e w1 ht
        have HT : Hid (TookP b vf vW vC wt fl vr p (digitD p c) w e w1) := ht
        rcases ht.first with ⟨q, hq, rfl⟩ | ⟨hq, rfl, hR, hG⟩
        · have HQ : Hid (digitD p c = some q) := hq
          clear ht hq
          go_wp2
          go_ret
          rw [HO.out, HQ.out]
          have := HT.out
          rw [HQ.out] at this
          exact this
        · have HQ : Hid (digitD p c = none) := hq
          have HR : Hid (RB w1 b vf vW vC wt fl vr p ∧ w.grownBy w1 (some b)) := ⟨hR, hG⟩
          clear ht hq hR hG HT
          go_wp2_with fail
          refine (takePoint_any b vf vW vC wt fl vr p c w1 HR.out.1).mono ?_
          rintro e w2 ht
          have HT : Hid (TookP b vf vW vC wt fl vr p (pointD p c) w e w2) := ht.second HR.out.2
          obtain rfl := ht.ends
          clear ht
          go_wp2
          go_ret
          rw [HO.out, HQ.out]
          exact HT.out
      · by_cases s2 : p.st = 2
        · have HO : Hid (numStep u p c = pointD p c) := by show numStep u p c = _; unfold numStep; rw [if_neg s0, if_neg s1, if_neg s3, if_pos s2]
          rw [s2] at c6
          clear s0 s1 s3 s2
          go_enter Tryz.func215, Tryz.ntmps215
          go_wp2_with fail
          refine (takePoint_any b vf vW vC wt fl vr p c w H.out).mono ?_
          rintro e w2 ht
          have HT : Hid (TookP b vf vW vC wt fl vr p (pointD p c) w e w2) := ht
          obtain rfl := ht.ends
          clear ht
          go_wp2
          go_ret
          rw [HO.out]
          exact HT.out
        · have HO : Hid (numStep u p c = behindD p c) := by show numStep u p c = _; unfold numStep; rw [if_neg s0, if_neg s1, if_neg s3, if_neg s2]
          have e0 : (p.st == 0) = false := beq_eq_false_iff_ne.2 s0
          have e1 : (p.st == 1) = false := beq_eq_false_iff_ne.2 s1
          have e2 : (p.st == 2) = false := beq_eq_false_iff_ne.2 s2
          have e3 : (p.st == 3) = false := beq_eq_false_iff_ne.2 s3
          go_enter Tryz.func215, Tryz.ntmps215
          go_wp2_with fail
          refine (takeBehind_any b vf vW vC wt fl vr p c w H.out hu1 hu2 hn1 hn2).mono ?_
          rintro e w2 ht
          have HT : Hid (TookP b vf vW vC wt fl vr p (behindD p c) w e w2) := ht
          obtain rfl := ht.ends
          clear ht
          go_wp2
          go_ret
          rw [HO.out]
          exact HT.out

section
variable {b base : Nat} {vf vW vC : Value} {wt : Int} {fl : Bool} {vr : Value} {p : PartS} {bs : List Int}

theorem TookW.first {w w1 : World} {e : Ending} {o : Option (Int × List Int)} (h : TookW b base vf vW vC wt fl vr p bs o w e w1) : (∃ q, o = some q ∧ e = .returned (.bool true)) ∨ (o = Option.none ∧ e = .returned (.bool false) ∧ ∃ v', RW w1 b base vf vW vC wt fl vr { p with wv := v' } bs ∧ (v'.ownBlock = p.wv.ownBlock ∨ ∃ k, v'.ownBlock = some k ∧ w.heap.size ≤ k) ∧ Touch (fun k => k = b ∨ some k = p.wv.ownBlock) w w1) := by
  obtain ⟨h1, ⟨v', h2, h3⟩, h4⟩ := h
  cases o with
  | none => exact .inr ⟨rfl, h1, v', h2, h3, h4⟩
  | some q => exact .inl ⟨q, rfl, h1⟩
theorem TookW.second {w w1 w2 : World} {e : Ending} {o : Option (Int × List Int)} {v' : Value} (hv : v'.ownBlock = p.wv.ownBlock ∨ ∃ k, v'.ownBlock = some k ∧ w.heap.size ≤ k) (ht : Touch (fun k => k = b ∨ some k = p.wv.ownBlock) w w1) (h : TookW b base vf vW vC wt fl vr { p with wv := v' } bs o w1 e w2) : TookW b base vf vW vC wt fl vr p bs o w e w2 := by
  obtain ⟨h1, ⟨v2, h2, h3⟩, h4⟩ := h
  refine ⟨h1, ⟨v2, h2, ?_⟩, ⟨h4.os.trans ht.os, h4.tape.trans ht.tape, h4.output.trans ht.output, Nat.le_trans ht.size h4.size, fun k hk hn => (h4.block k (Nat.lt_of_lt_of_le hk ht.size) (fun e => ?_)).trans (ht.block k hk hn)⟩⟩
  · rcases h3 with h3 | ⟨k, h3, hk⟩
    · rcases hv with hv | ⟨k, hv, hk⟩
      · exact .inl (h3.trans hv)
      · exact .inr ⟨k, h3.trans hv, hk⟩
    · exact .inr ⟨k, h3, by have := ht.size; omega⟩
  · rcases e with e | e
    · exact hn (.inl e)
    · rcases hv with hv | ⟨k', hv, hk'⟩
      · exact hn (.inr (e.trans hv))
      · have e2 : some k = some k' := e.trans hv
        simp at e2
        omega
theorem TookW.ends {w w1 : World} {e : Ending} {o : Option (Int × List Int)} (h : TookW b base vf vW vC wt fl vr p bs o w e w1) : e = .returned (.bool o.isSome) := h.1
end

set_option maxHeartbeats 2000000 in
theorem takeWord_any (b base : Nat) (vf vW vC : Value) (wt : Int) (fl : Bool) (vr : Value) (p : PartS) (bs : List Int) (c : Int) (w : World) (h : RW w b base vf vW vC wt fl vr p bs) (hbs : base ≤ w.heap.size) (hl : bs.length ≤ 1000) :
    Calls Tryz.prog 209 #[.pointer (some ⟨b, 6, none⟩), .int .u8 c] w fun e w' => TookW b base vf vW vC wt fl vr p bs (wordStep p.st bs c) w e w' := by
  obtain ⟨c6, _, _, _, _, _, _⟩ := h.1.part
  have H : Hid (RW w b base vf vW vC wt fl vr p bs) := h
  clear h
  by_cases s0 : p.st = 0
  · have HO : Hid (wordStep p.st bs c = (if c = 34 then some ((7 : Int), bs) else none).orElse (fun _ => letterD bs c)) := if_pos s0
    rw [s0] at c6
    clear s0
    go_enter Tryz.func209, Tryz.ntmps209
    go_wp2_with fail
    refine (takeOpening_any b base vf vW vC wt fl vr p bs c w H.out).mono ?_
    rintro e w1 ht
    have HT : Hid (TookW b base vf vW vC wt fl vr p bs (if c = 34 then some (7, bs) else none) w e w1) := ht
    rcases ht.first with ⟨q, hq, rfl⟩ | ⟨hq, rfl, v', hR, hV, hTo⟩
    · have HQ : Hid ((if c = 34 then some ((7 : Int), bs) else none) = some q) := hq
      clear ht hq
      go_wp2
      go_ret
      rw [HO.out, HQ.out]
      have := HT.out
      rw [HQ.out] at this
      exact this
    · have HQ : Hid ((if c = 34 then some ((7 : Int), bs) else none) = none) := hq
      have HR : Hid (RW w1 b base vf vW vC wt fl vr { p with wv := v' } bs ∧ (v'.ownBlock = p.wv.ownBlock ∨ ∃ k, v'.ownBlock = some k ∧ w.heap.size ≤ k) ∧ Touch (fun k => k = b ∨ some k = p.wv.ownBlock) w w1) := ⟨hR, hV, hTo⟩
      have hb1 : base ≤ w1.heap.size := by have := hTo.size; omega
      clear ht hq hR hV hTo HT
      go_wp2_with fail
      refine (takeLetter_any b base vf vW vC wt fl vr { p with wv := v' } bs c w1 HR.out.1 hb1 hl).mono ?_
      rintro e w2 ht
      have HT : Hid (TookW b base vf vW vC wt fl vr p bs (letterD bs c) w e w2) := ht.second HR.out.2.1 HR.out.2.2
      obtain rfl := ht.ends
      clear ht
      go_wp2
      go_ret
      rw [HO.out, HQ.out]
      exact HT.out
  · by_cases s6 : p.st = 6
    · have HO : Hid (wordStep p.st bs c = letterD bs c) := by show wordStep p.st bs c = _; unfold wordStep; rw [if_neg s0, if_pos s6]
      rw [s6] at c6
      clear s0 s6
      go_enter Tryz.func209, Tryz.ntmps209
      go_wp2_with fail
      refine (takeLetter_any b base vf vW vC wt fl vr p bs c w H.out hbs hl).mono ?_
      rintro e w2 ht
      have HT : Hid (TookW b base vf vW vC wt fl vr p bs (letterD bs c) w e w2) := ht
      obtain rfl := ht.ends
      clear ht
      go_wp2
      go_ret
      rw [HO.out]
      exact HT.out
    · by_cases s7 : p.st = 7
      · have HO : Hid (wordStep p.st bs c = (if c = 34 then some ((8 : Int), bs) else none).orElse (fun _ => signD p.st bs c)) := by show wordStep p.st bs c = _; unfold wordStep; rw [if_neg s0, if_neg s6, if_pos s7]
        rw [s7] at c6
        clear s0 s6 s7
        go_enter Tryz.func209, Tryz.ntmps209
        go_wp2_with fail
        refine (takeQuote_any b base vf vW vC wt fl vr p bs c w H.out).mono ?_
        rintro e w1 ht
        have HT : Hid (TookW b base vf vW vC wt fl vr p bs (if c = 34 then some (8, bs) else none) w e w1) := ht
        rcases ht.first with ⟨q, hq, rfl⟩ | ⟨hq, rfl, v', hR, hV, hTo⟩
        · have HQ : Hid ((if c = 34 then some ((8 : Int), bs) else none) = some q) := hq
          clear ht hq
          go_wp2
          go_ret
          rw [HO.out, HQ.out]
          have := HT.out
          rw [HQ.out] at this
          exact this
        · have HQ : Hid ((if c = 34 then some ((8 : Int), bs) else none) = none) := hq
          have HR : Hid (RW w1 b base vf vW vC wt fl vr { p with wv := v' } bs ∧ (v'.ownBlock = p.wv.ownBlock ∨ ∃ k, v'.ownBlock = some k ∧ w.heap.size ≤ k) ∧ Touch (fun k => k = b ∨ some k = p.wv.ownBlock) w w1) := ⟨hR, hV, hTo⟩
          have hb1 : base ≤ w1.heap.size := by have := hTo.size; omega
          clear ht hq hR hV hTo HT
          go_wp2_with fail
          refine (takeSign_any b base vf vW vC wt fl vr { p with wv := v' } bs c w1 HR.out.1 hb1 hl).mono ?_
          rintro e w2 ht
          have HT : Hid (TookW b base vf vW vC wt fl vr p bs (signD p.st bs c) w e w2) := ht.second HR.out.2.1 HR.out.2.2
          obtain rfl := ht.ends
          clear ht
          go_wp2
          go_ret
          rw [HO.out, HQ.out]
          exact HT.out
      · have HO : Hid (wordStep p.st bs c = secondD bs c) := by show wordStep p.st bs c = _; unfold wordStep; rw [if_neg s0, if_neg s6, if_neg s7]
        have e0 : (p.st == 0) = false := beq_eq_false_iff_ne.2 s0
        have e6 : (p.st == 6) = false := beq_eq_false_iff_ne.2 s6
        have e7 : (p.st == 7) = false := beq_eq_false_iff_ne.2 s7
        go_enter Tryz.func209, Tryz.ntmps209
        go_wp2_with fail
        refine (takeSecond_any b base vf vW vC wt fl vr p bs c w H.out hbs hl).mono ?_
        rintro e w2 ht
        have HT : Hid (TookW b base vf vW vC wt fl vr p bs (secondD bs c) w e w2) := ht
        obtain rfl := ht.ends
        clear ht
        go_wp2
        go_ret
        rw [HO.out]
        exact HT.out
end Go.Proofs.YtfcgnpchbcmdeaaGreat

namespace Go.Proofs.YtfcgnpchbcmdeaaGreat
open Go.RowKit

theorem readNum_any (b ub : Nat) (vf vW vC : Value) (wt : Int) (fl : Bool) (vr : Value) (p : PartS) (c u : Int) (w : World) (h : RB w b vf vW vC wt fl vr p) (hub : w.cell? ⟨ub, 0, none⟩ = some (.int .i64 u)) (hv1 : 0 ≤ u) (hv2 : u ≤ 1000000)
    (hu1 : 0 ≤ p.unit) (hu2 : p.unit ≤ 1000000) (hn1 : 0 ≤ p.num) (hn2 : p.num ≤ 1000000000000) (hg1 : 0 ≤ p.dig) (hg2 : p.dig ≤ 1000) :
    Calls Tryz.prog 214 #[.pointer (some ⟨b, 6, none⟩), .int .u8 c, .pointer (some ⟨ub, 0, none⟩)] w fun e w' => TookP b vf vW vC wt fl vr p (numStep u p c) w e w' := by
  have H : Hid (RB w b vf vW vC wt fl vr p) := h
  clear h
  go_enter Tryz.func214, Tryz.ntmps214
  go_wp2_with fail
  refine (takeNumber_any b vf vW vC wt fl vr p c u w H.out hv1 hv2 hu1 hu2 hn1 hn2 hg1 hg2).mono ?_
  rintro e w2 ht
  have HT : Hid (TookP b vf vW vC wt fl vr p (numStep u p c) w e w2) := ht
  obtain rfl := ht.ends
  clear ht
  go_wp2
  go_ret
  exact HT.out
end Go.Proofs.YtfcgnpchbcmdeaaGreat

namespace Go.Proofs.YtfcgnpchbcmdeaaGreat
open Go.RowKit

/-- What a field says. -/
structure VS where
  miss : Bool
  num : Int
  word : ByteArray

def cellsV (v : VS) : List Value := [.bool v.miss, .int .i64 v.num, .string v.word]
def flatV : List VS → List Value
  | [] => []
  | e :: L => cellsV e ++ flatV L
theorem flatV_append (a b : List VS) : flatV (a ++ b) = flatV a ++ flatV b := by
  induction a with
  | nil => rfl
  | cons e L ih => simp [flatV, ih]
theorem flatV_len (L : List VS) : (flatV L).length = L.length * 3 := by
  induction L with
  | nil => rfl
  | cons e L ih => simp [flatV, cellsV, ih]; omega

theorem info308 : (Tryz.prog.info? 308).map (fun i => (i.zero, i.size, i.bytes)) = some (some (.agg #[.bool false, .int .i64 0, .string ⟨#[]⟩]), 3, 32) := by kernel_rfl

/-- VALUES OF THE CALL's OWN. -/
def OwnV (w : World) (base : Nat) (v : Value) (L : List VS) : Prop := w.ownsRow base 308 3 v L.length (flatV L)
theorem OwnV.nil (w : World) (base : Nat) : OwnV w base (.slice none 0 0) [] := World.ownsRow_nil w base 308 3

set_option maxRecDepth 100000 in
set_option maxHeartbeats 2000000 in
theorem takeInField_num (b fb ub n nr : Nat) (vW vC : Value) (wt : Int) (ar : Option Addr) (cr : Nat) (p q : PartS) (c u : Int) (w : World) (h : RB w b (.slice (some ⟨fb, 0, none⟩) n n) vW vC wt true (.slice ar nr cr) p)
    (hf : w.cell? ⟨fb, nr * 3, none⟩ = some (.func (.func 214) #[] #[.pointer (some ⟨ub, 0, none⟩)])) (hub : w.cell? ⟨ub, 0, none⟩ = some (.int .i64 u)) (hfb : fb ≠ b) (hnr : nr < n) (hv1 : 0 ≤ u) (hv2 : u ≤ 1000000)
    (hu1 : 0 ≤ p.unit) (hu2 : p.unit ≤ 1000000) (hn1 : 0 ≤ p.num) (hn2 : p.num ≤ 1000000000000) (hg1 : 0 ≤ p.dig) (hg2 : p.dig ≤ 1000) (hq : numStep u p c = some q) :
    Calls Tryz.prog 163 #[.pointer (some ⟨b, 0, none⟩), .int .u8 c] w fun e w' => e = .returned (.bool true) ∧ RB w' b (.slice (some ⟨fb, 0, none⟩) n n) vW vC wt true (.slice ar nr cr) q ∧ w.grownBy w' (some b) := by
  obtain ⟨c0, _, _, _, _, c5⟩ := h.head
  have H : Hid (RB w b (.slice (some ⟨fb, 0, none⟩) n n) vW vC wt true (.slice ar nr cr) p) := h
  have HQ : Hid (numStep u p c = some q) := hq
  have HU : Hid (w.cell? ⟨ub, 0, none⟩ = some (.int .i64 u)) := hub
  have bk1 : (0 : Int) ≤ (nr : Int) := by omega
  have bk2 : (nr : Int) < (n : Int) := by omega
  have HC : Hid (∀ W, RB W b (.slice (some ⟨fb, 0, none⟩) n n) vW vC wt true (.slice ar nr cr) p → W.cell? ⟨ub, 0, none⟩ = some (.int .i64 u) → Calls Tryz.prog 214 #[.pointer (some ⟨b, 6, none⟩), .int .u8 c, .pointer (some ⟨ub, 0, none⟩)] W fun e w' => e = .returned (.bool true) ∧ RB w' b (.slice (some ⟨fb, 0, none⟩) n n) vW vC wt true (.slice ar nr cr) q ∧ W.grownBy w' (some b)) := fun W hR hU => by
    refine (readNum_any b ub _ vW vC wt true _ p c u W hR hU hv1 hv2 hu1 hu2 hn1 hn2 hg1 hg2).mono ?_
    rintro e w' ht
    rw [hq] at ht
    exact ht
  clear h hq hub
  go_enter Tryz.func163, Tryz.ntmps163
  go_wp2_with fail
  go_region_held3 (fun w' => w'.cell? ⟨b, 0, none⟩ = some (.slice (some ⟨fb, 0, none⟩) n n) ∧ w'.cell? ⟨b, 5, none⟩ = some (.slice ar nr cr) ∧ w'.cell? ⟨fb, nr * 3, none⟩ = some (.func (.func 214) #[] #[.pointer (some ⟨ub, 0, none⟩)])) (go_keep) (first | (go_at_call 214; refine (HC.out w.drew H.out.drew HU.out).mono ?_; rintro e w' ⟨rfl, hR, hG⟩; have e0 := hR.head.1; have e5 := hR.head.2.2.2.2.2; have ef := hG.cell (show w.drew.cell? ⟨fb, nr * 3, none⟩ = some _ from hf) (by simpa using hfb); have HR : Hid (RB w' b (.slice (some ⟨fb, 0, none⟩) n n) vW vC wt true (.slice ar nr cr) q ∧ w.drew.grownBy w' (some b)) := ⟨hR, hG⟩; clear hR hG))
  all_goals go_wp2
  all_goals go_ret
  all_goals exact ⟨rfl, HR.out.1, ⟨HR.out.2.os, HR.out.2.tape, HR.out.2.output, HR.out.2.size, HR.out.2.block⟩⟩

set_option maxRecDepth 100000 in
set_option maxHeartbeats 2000000 in
theorem takeInField_word (b base fb n nr : Nat) (vW vC : Value) (wt : Int) (ar : Option Addr) (cr : Nat) (p : PartS) (bs : List Int) (c st : Int) (bs' : List Int) (w : World) (h : RW w b base (.slice (some ⟨fb, 0, none⟩) n n) vW vC wt true (.slice ar nr cr) p bs)
    (hf : w.cell? ⟨fb, nr * 3, none⟩ = some (.func (.func 209) #[] #[])) (hfb : fb ≠ b) (hfw : p.wv.ownBlock ≠ some fb) (hnr : nr < n) (hbs : base ≤ w.heap.size) (hl : bs.length ≤ 1000) (hq : wordStep p.st bs c = some (st, bs')) :
    Calls Tryz.prog 163 #[.pointer (some ⟨b, 0, none⟩), .int .u8 c] w fun e w' => e = .returned (.bool true) ∧ (∃ v', RW w' b base (.slice (some ⟨fb, 0, none⟩) n n) vW vC wt true (.slice ar nr cr) { p with st := st, wv := v' } bs' ∧ (v'.ownBlock = p.wv.ownBlock ∨ ∃ k, v'.ownBlock = some k ∧ w.heap.size ≤ k)) ∧ Touch (fun k => k = b ∨ some k = p.wv.ownBlock) w w' := by
  obtain ⟨c0, _, _, _, _, c5⟩ := h.1.head
  have H : Hid (RW w.drew b base (.slice (some ⟨fb, 0, none⟩) n n) vW vC wt true (.slice ar nr cr) p bs) := h
  have bk1 : (0 : Int) ≤ (nr : Int) := by omega
  have bk2 : (nr : Int) < (n : Int) := by omega
  have HC : Hid (Calls Tryz.prog 209 #[.pointer (some ⟨b, 6, none⟩), .int .u8 c] w.drew fun e w' => e = .returned (.bool true) ∧ (∃ v', RW w' b base (.slice (some ⟨fb, 0, none⟩) n n) vW vC wt true (.slice ar nr cr) { p with st := st, wv := v' } bs' ∧ (v'.ownBlock = p.wv.ownBlock ∨ ∃ k, v'.ownBlock = some k ∧ w.heap.size ≤ k)) ∧ Touch (fun k => k = b ∨ some k = p.wv.ownBlock) w.drew w') := by
    refine (takeWord_any b base _ vW vC wt true _ p bs c w.drew H.out hbs hl).mono ?_
    rintro e w' ht
    rw [hq] at ht
    exact ht
  have HBF : Hid (¬ (fb = b ∨ some fb = p.wv.ownBlock)) := fun e => by
    rcases e with e | e
    · exact hfb e
    · exact hfw e.symm
  have hflt : fb < w.heap.size := World.block_lt_of_cell? w ⟨fb, nr * 3, none⟩ hf
  clear h hq
  go_enter Tryz.func163, Tryz.ntmps163
  go_wp2_with fail
  go_region_held3 (fun w' => w'.cell? ⟨b, 0, none⟩ = some (.slice (some ⟨fb, 0, none⟩) n n) ∧ w'.cell? ⟨b, 5, none⟩ = some (.slice ar nr cr) ∧ w'.cell? ⟨fb, nr * 3, none⟩ = some (.func (.func 209) #[] #[])) (go_keep) (first | (go_at_call 209; refine (HC.out).mono ?_; rintro e w' ⟨rfl, hR, hT⟩; have e0 := (hR.choose_spec.1.1.head).1; have e5 := (hR.choose_spec.1.1.head).2.2.2.2.2; have ef : w'.cell? ⟨fb, nr * 3, none⟩ = some (.func (.func 209) #[] #[]) := (World.cell?_of_block (w := w.drew) (a := ⟨fb, nr * 3, none⟩) (hT.block fb hflt HBF.out)).trans hf; have HR : Hid ((∃ v', RW w' b base (.slice (some ⟨fb, 0, none⟩) n n) vW vC wt true (.slice ar nr cr) { p with st := st, wv := v' } bs' ∧ (v'.ownBlock = p.wv.ownBlock ∨ ∃ k, v'.ownBlock = some k ∧ w.heap.size ≤ k)) ∧ Touch (fun k => k = b ∨ some k = p.wv.ownBlock) w.drew w') := ⟨hR, hT⟩; clear hR hT))
  all_goals go_wp2
  all_goals go_ret
  all_goals exact ⟨rfl, HR.out.1, ⟨HR.out.2.os, HR.out.2.tape, HR.out.2.output, HR.out.2.size, HR.out.2.block⟩⟩
end Go.Proofs.YtfcgnpchbcmdeaaGreat
