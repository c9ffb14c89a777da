/-
  The contract of takeInField.
-/
import Derived.Test.YtfcgnpchbcmdeaaGreatZtau
namespace Go.Proofs.YtfcgnpchbcmdeaaGreat
open Go.RowKit

theorem OwnB.nil (w : World) (base : Nat) : OwnB w base (.slice none 0 0) [] := World.ownsRow_nil w base 5 1
theorem put_touch' {w w2 : World} {o : Obj} {v u : Value} (hg : (w.alloc o).grownBy w2 v.ownBlock) (b : Nat) {j : Nat} : Touch (fun k => k = b ∨ v.ownBlock = some k) w (w2.setCell ⟨b, j, none⟩ u) :=
  (((Touch.refl (fun k => k = b ∨ v.ownBlock = some k) w).alloc o).grown hg (fun _ e _ => .inr e)).setCell (p := ⟨b, j, none⟩) (fun _ => .inl rfl) u
theorem put_new' {w w2 : World} {o : Obj} {v v' : Value} (hd : v'.ownBlock = v.ownBlock ∨ v'.ownBlock = some (w.alloc o).heap.size ∧ Below (w.alloc o).heap.size (w.alloc o) w2) : v'.ownBlock = v.ownBlock ∨ ∃ k, v'.ownBlock = some k ∧ w.heap.size ≤ k := by
  rcases hd with h | ⟨h, _⟩
  · exact .inl h
  · exact .inr ⟨_, h, by simp⟩

/-- What a byte within a field makes of a reader. -/
def fieldOut (n : Nat) (wd : Nat → Bool) (sc : Nat → Int) (s : RS) (c : Int) : Option RS :=
  match fieldStep (wd s.row.length) (tenTo (sc s.row.length).toNat) s.p s.bs c with
  | some q => some { s with p := q.1, bs := q.2 }
  | none => if c = sepOf s.row.length n ∧ mayEnd s.p.st = true then some (rowEnd n s (s.row ++ [valOf s.p s.bs])) else none

theorem Touch.undrew {S : Nat → Prop} {w w' : World} (t : Touch S w.drew w') : Touch S w w' := ⟨t.os, t.tape, t.output, t.size, t.block⟩

section
variable {w : World} {K M : Nat → Prop} {rb fb cb n : Nat} {wd : Nat → Bool} {sc ct : Nat → Int} {bins size : Int} {s : RS} {vW vr wv : Value} {vc : Nat → Value}

set_option maxRecDepth 100000 in
set_option maxHeartbeats 4000000 in
theorem takeInField_any (c : Int) (hX : RdX w K M rb fb cb n wd sc ct bins size s vW vr wv vc) (hI : RInv n s) (hn : n ≤ 4) (hws : s.ws.length < 200) (hsc : ∀ i, i < n → wd i = false → 0 ≤ sc i ∧ sc i ≤ 3) :
    Calls Tryz.prog 163 #[.pointer (some ⟨rb, 0, none⟩), .int .u8 c] w fun e w' => e = .returned (.bool (fieldOut n wd sc s c).isSome) ∧ Left w K M rb fb cb n wd sc ct bins size ((fieldOut n wd sc s c).getD s) w' := by
  obtain ⟨i8, inf8, iz0, iz1, iz2⟩ := info_parts info308
  obtain ⟨ar, cr, rfl⟩ := hX.or.form
  obtain ⟨c0, _, _, _, _, c5⟩ := hX.rd.head
  obtain ⟨v0, v1, v2, c6, hF⟩ := hX.feat hI.row
  have bk1 : (0 : Int) ≤ (s.row.length : Int) := by omega
  have bk2 : (s.row.length : Int) < (n : Int) := by have := hI.row; omega
  have hXd : RdX w.drew K M rb fb cb n wd sc ct bins size s vW (.slice ar s.row.length cr) wv vc := hX.touch (S := fun _ => False) (Touch.refl _ w).drew (fun _ _ => id)
  -- the read
  have hread : ∃ (f : Nat) (cs : Array Value), v0 = .func (.func f) #[] cs ∧ Calls Tryz.prog f (#[.pointer (some ⟨rb, 6, none⟩), .int .u8 c] ++ cs) w.drew (fun e w' => ReadX w.drew K M rb fb cb n wd sc ct bins size s vW (.slice ar s.row.length cr) vc (fieldStep (wd s.row.length) (tenTo (sc s.row.length).toNat) s.p s.bs c) e w') ∧ ((f = 209 ∧ cs = #[]) ∨ ∃ k0, f = 214 ∧ cs = #[.pointer (some ⟨k0, 0, none⟩)]) := by
    rcases hF with ⟨e, k1, k2, k3, e0, _⟩ | ⟨e, k0, k1, k2, k3, e0, _, _, _, _, _, _, h0, _⟩
    · refine ⟨209, #[], e0, ?_, .inl ⟨rfl, rfl⟩⟩
      rw [e]
      exact read_word hXd c _ hI.bs
    · refine ⟨214, _, e0, ?_, .inr ⟨k0, rfl, rfl⟩⟩
      have := hsc _ hI.row e
      have ht := tenTo_in (sc s.row.length).toNat (by omega)
      rw [e]
      exact read_num hXd c _ k0 h0 (by omega) ht.2 hI.num
  obtain ⟨f, cs, rfl, hcall, hfc⟩ := hread
  have HX : Hid (RdX w K M rb fb cb n wd sc ct bins size s vW (.slice ar s.row.length cr) wv vc) := hX
  have HI : Hid (RInv n s) := hI
  have hfbne : fb ≠ rb := hX.fb_ne
  have hKM : ∀ k, K k → ¬ M k := fun k e => (hX.kk k e).2
  have hfbK : K fb := by obtain ⟨_, _, _, h3, _⟩ := hX.fs; exact h3
  have hflt : fb < w.heap.size := (hX.kk fb hfbK).1
  have HNM : Hid (¬ M fb) := hKM fb hfbK
  have hrl : s.row.length < n := hI.row
  clear hX hXd hF hI hKM hfbK
  cases hfs : fieldStep (wd s.row.length) (tenTo (sc s.row.length).toNat) s.p s.bs c with
  | some q =>
    have HO : Hid (fieldOut n wd sc s c = some { s with p := q.1, bs := q.2 }) := by show fieldOut n wd sc s c = _; unfold fieldOut; rw [hfs]
    rw [hfs] at hcall
    have HC : Hid (Calls Tryz.prog f (#[.pointer (some ⟨rb, 6, none⟩), .int .u8 c] ++ cs) w.drew (fun e w' => ReadX w.drew K M rb fb cb n wd sc ct bins size s vW (.slice ar s.row.length cr) vc (some q) e w')) := hcall
    clear hcall hfs
    rcases hfc with ⟨rfl, rfl⟩ | ⟨k0, rfl, rfl⟩
    · go_enter Tryz.func163, Tryz.ntmps163
      go_wp2_with fail
      go_region_held3 (fun w' => w'.cell? ⟨rb, 0, none⟩ = some (.slice (some ⟨fb, 0, none⟩) n n) ∧ w'.cell? ⟨rb, 5, none⟩ = some (.slice ar s.row.length cr) ∧ w'.cell? ⟨fb, s.row.length * 3, none⟩ = some (.func (.func 209) #[] #[])) (go_keep) (first | (go_at_call 209; refine (HC.out).mono ?_; rintro e w' ⟨rfl, ⟨M', wv', hR, hM1, hM2⟩, hT⟩; have e0 := hR.rd.head.1; have e5 := hR.rd.head.2.2.2.2.2; have ef : w'.cell? ⟨fb, s.row.length * 3, none⟩ = some (.func (.func 209) #[] #[]) := (World.cell?_of_block (w := w.drew) (a := ⟨fb, s.row.length * 3, none⟩) (hT.block fb hflt HNM.out)).trans c6; have HR : Hid (Left w K M rb fb cb n wd sc ct bins size { s with p := q.1, bs := q.2 } w') := ⟨⟨M', ⟨_, _, _, _, hR⟩, hM2⟩, hT.undrew⟩; clear hR hM1 hM2 hT))
      all_goals go_wp2
      all_goals go_ret
      all_goals rw [HO.out]
      all_goals exact ⟨rfl, HR.out⟩
    · go_enter Tryz.func163, Tryz.ntmps163
      go_wp2_with fail
      go_region_held3 (fun w' => w'.cell? ⟨rb, 0, none⟩ = some (.slice (some ⟨fb, 0, none⟩) n n) ∧ w'.cell? ⟨rb, 5, none⟩ = some (.slice ar s.row.length cr) ∧ w'.cell? ⟨fb, s.row.length * 3, none⟩ = some (.func (.func 214) #[] #[.pointer (some ⟨k0, 0, none⟩)])) (go_keep) (first | (go_at_call 214; refine (HC.out).mono ?_; rintro e w' ⟨rfl, ⟨M', wv', hR, hM1, hM2⟩, hT⟩; have e0 := hR.rd.head.1; have e5 := hR.rd.head.2.2.2.2.2; have ef : w'.cell? ⟨fb, s.row.length * 3, none⟩ = some (.func (.func 214) #[] #[.pointer (some ⟨k0, 0, none⟩)]) := (World.cell?_of_block (w := w.drew) (a := ⟨fb, s.row.length * 3, none⟩) (hT.block fb hflt HNM.out)).trans c6; have HR : Hid (Left w K M rb fb cb n wd sc ct bins size { s with p := q.1, bs := q.2 } w') := ⟨⟨M', ⟨_, _, _, _, hR⟩, hM2⟩, hT.undrew⟩; clear hR hM1 hM2 hT))
      all_goals go_wp2
      all_goals go_ret
      all_goals rw [HO.out]
      all_goals exact ⟨rfl, HR.out⟩
  | none =>
    rw [hfs] at hcall
    have HC : Hid (Calls Tryz.prog f (#[.pointer (some ⟨rb, 6, none⟩), .int .u8 c] ++ cs) w.drew (fun e w' => ReadX w.drew K M rb fb cb n wd sc ct bins size s vW (.slice ar s.row.length cr) vc none e w')) := hcall
    have HFS := show Hid (fieldStep (wd s.row.length) (tenTo (sc s.row.length).toNat) s.p s.bs c = none) from hfs
    clear hcall hfs
    go_enter Tryz.func163, Tryz.ntmps163
    go_wp2_with fail
    go_cut [21] (fun v wx => v = .bool false ∧ ∃ M3 wv3, Hid (RdX wx K M3 rb fb cb n wd sc ct bins size s vW (.slice ar s.row.length cr) wv3 vc) ∧ Hid ((∀ k, M3 k → M k ∨ w.heap.size ≤ k) ∧ Touch M w wx))
    case first =>
      rcases hfc with ⟨rfl, rfl⟩ | ⟨k0, rfl, rfl⟩
      · go_region_held3 (fun w' => w'.cell? ⟨rb, 0, none⟩ = some (.slice (some ⟨fb, 0, none⟩) n n) ∧ w'.cell? ⟨rb, 5, none⟩ = some (.slice ar s.row.length cr) ∧ w'.cell? ⟨fb, s.row.length * 3, none⟩ = some (.func (.func 209) #[] #[])) (go_keep) (first | (go_at_call 209; refine (HC.out).mono ?_; rintro e w' ⟨rfl, ⟨M', wv', hR, hM1, hM2⟩, hT⟩; have e0 := hR.rd.head.1; have e5 := hR.rd.head.2.2.2.2.2; have ef : w'.cell? ⟨fb, s.row.length * 3, none⟩ = some (.func (.func 209) #[] #[]) := (World.cell?_of_block (w := w.drew) (a := ⟨fb, s.row.length * 3, none⟩) (hT.block fb hflt HNM.out)).trans c6; have HR : Hid (∃ M3 wv3, Hid (RdX w' K M3 rb fb cb n wd sc ct bins size s vW (.slice ar s.row.length cr) wv3 vc) ∧ Hid ((∀ k, M3 k → M k ∨ w.heap.size ≤ k) ∧ Touch M w w')) := ⟨M', wv', hR, hM2, hT.undrew⟩; clear hR hM1 hM2 hT))
        all_goals go_wp2
        all_goals go_meet
        all_goals exact ⟨rfl, HR.out⟩
      · go_region_held3 (fun w' => w'.cell? ⟨rb, 0, none⟩ = some (.slice (some ⟨fb, 0, none⟩) n n) ∧ w'.cell? ⟨rb, 5, none⟩ = some (.slice ar s.row.length cr) ∧ w'.cell? ⟨fb, s.row.length * 3, none⟩ = some (.func (.func 214) #[] #[.pointer (some ⟨k0, 0, none⟩)])) (go_keep) (first | (go_at_call 214; refine (HC.out).mono ?_; rintro e w' ⟨rfl, ⟨M', wv', hR, hM1, hM2⟩, hT⟩; have e0 := hR.rd.head.1; have e5 := hR.rd.head.2.2.2.2.2; have ef : w'.cell? ⟨fb, s.row.length * 3, none⟩ = some (.func (.func 214) #[] #[.pointer (some ⟨k0, 0, none⟩)]) := (World.cell?_of_block (w := w.drew) (a := ⟨fb, s.row.length * 3, none⟩) (hT.block fb hflt HNM.out)).trans c6; have HR : Hid (∃ M3 wv3, Hid (RdX w' K M3 rb fb cb n wd sc ct bins size s vW (.slice ar s.row.length cr) wv3 vc) ∧ Hid ((∀ k, M3 k → M k ∨ w.heap.size ≤ k) ∧ Touch M w w')) := ⟨M', wv', hR, hM2, hT.undrew⟩; clear hR hM1 hM2 hT))
        all_goals go_wp2
        all_goals go_meet
        all_goals exact ⟨rfl, HR.out⟩
    case rest =>
      obtain ⟨rfl, M3, wv3, HX1, HM1⟩ := hcut
      clear c0 c5 c6 hflt HNM HC hfc
      have HSEP : Hid (Calls Tryz.prog 219 #[.pointer (some ⟨rb, 0, none⟩)] wc fun e w' => e = .returned (.int .u8 (sepOf s.row.length n)) ∧ ∃ m, w' = wc.drewN m) := separator_any rb _ n n vW _ s.wt s.fl ar s.row.length cr _ wc HX1.out.rd (by omega) (by omega)
      have HME : Hid (∀ m, Calls Tryz.prog 220 #[.pointer (some ⟨rb, 6, none⟩)] (wc.drewN m) fun e w' => e = .returned (.bool (mayEnd s.p.st)) ∧ w' = wc.drewN m) := fun m => mayEnd_any rb _ _ _ _ _ _ { s.p with wv := wv3 } (wc.drewN m) HX1.out.rd
      have HXD : Hid (∀ m, RdX (wc.drewN m) K M3 rb fb cb n wd sc ct bins size s vW (.slice ar s.row.length cr) wv3 vc) := fun m => HX1.out.touch (S := fun _ => False) ⟨rfl, rfl, rfl, Nat.le_refl _, fun _ _ _ => rfl⟩ (fun _ _ => id)
      have HTD : Hid (∀ m, Touch M w (wc.drewN m)) := fun m => ⟨HM1.out.2.os, HM1.out.2.tape, HM1.out.2.output, HM1.out.2.size, HM1.out.2.block⟩
      have HOUT : Hid (fieldOut n wd sc s c = if c = sepOf s.row.length n ∧ mayEnd s.p.st = true then some (rowEnd n s (s.row ++ [valOf s.p s.bs])) else none) := by show fieldOut n wd sc s c = _; unfold fieldOut; rw [HFS.out]
      clear HFS
      by_cases hc : c = sepOf s.row.length n
      · by_cases hm : mayEnd s.p.st = true
        · have HO : Hid (fieldOut n wd sc s c = some (rowEnd n s (s.row ++ [valOf s.p s.bs]))) := by show _ = _; rw [HOUT.out, if_pos ⟨hc, hm⟩]
          rw [hm] at HME
          rw [← hc] at HSEP
          clear hc hm HOUT
          go_upto_region 5 with (first | (go_at_call 219; refine (HSEP.out).mono ?_; rintro e w' ⟨rfl, m, rfl⟩) | (go_at_call 220; refine (HME.out _).mono ?_; rintro e w' ⟨rfl, hw'⟩; obtain rfl := hw'.symm))
          have HX3 : Hid (RdX (wc.drewN m).drew K M3 rb fb cb n wd sc ct bins size s vW (.slice ar s.row.length cr) wv3 vc) := (HXD.out m).touch (S := fun _ => False) (Touch.refl _ _).drew (fun _ _ => id)
          have HT3 : Hid (Touch M w (wc.drewN m).drew) := (HTD.out m).drew
          clear HXD HTD HSEP HME HX1
          generalize wc.drewN m = w3 at *
          have hle := HI.out.num.le
          have hge := HI.out.num.n0
          have HVAL : Hid (Calls Tryz.prog 221 #[.pointer (some ⟨rb, 6, none⟩)] w3.drew fun e w' => e = .returned (.agg #[.bool (decide (s.p.st = 0)), .int .i64 (numOf s.p), .string (strOfNums s.bs)]) ∧ Below w3.drew.heap.size w3.drew w') := value_any rb 0 _ _ _ _ _ _ { s.p with wv := wv3 } s.bs w3.drew ⟨HX3.out.rd, HX3.out.ob⟩ (by show _ ≤ s.p.num; omega) (by show s.p.num ≤ _; omega)
          have d5a : w3.drew.cell? ⟨rb, 5, none⟩ = some (.slice ar s.row.length cr) := HX3.out.rd.head.2.2.2.2.2
          refine wp_region_S (fun w' => w'.cell? ⟨rb, 5, none⟩ = some (.slice ar s.row.length cr)) 13 (by kernel_rfl) d5a (fun hHeld => ?_)
          refine wpAnyS_take [11, 12, 13] (i := 0) (v := ?_) rfl (by kernel_rfl) (by kernel_rfl) (by kernel_rfl) (by kernel_rfl) (by kernel_rfl) (fun _ _ _ h => h) (Or.inl ⟨by rfl, ?_⟩) (by assumption) ?_
          rotate_left
          · intro w hSw
            (try dsimp only at hSw)
            go_simp
            try with_reducible rfl
          try simp only [Act.put]
          try simp only [List.setIfInBounds_toArray]
          try simp only [List.set_cons_succ]
          try simp only [List.set_cons_zero]
          refine wpAnyS_take [2, 3, 4, 10, 11, 12, 13] (i := 1) (v := ?_) rfl (by kernel_rfl) (by kernel_rfl) (by kernel_rfl) (by kernel_rfl) (by kernel_rfl) (fun _ _ _ h => h) (Or.inl ⟨by rfl, ?_⟩) (by assumption) ?_
          rotate_left
          · intro w hSw
            (try dsimp only at hSw)
            go_simp
            try with_reducible rfl
          try simp only [Act.put]
          try simp only [List.setIfInBounds_toArray]
          try simp only [List.set_cons_succ]
          try simp only [List.set_cons_zero]
          refine wpAnyS_take [3, 4, 10, 11, 12, 13] (i := 2) (v := ?_) rfl (by kernel_rfl) (by kernel_rfl) (by kernel_rfl) (by kernel_rfl) (by kernel_rfl) (fun _ _ _ h => h) (Or.inl ⟨by rfl, ?_⟩) (by assumption) ?_
          rotate_left
          · intro w hSw
            (try dsimp only at hSw)
            go_simp
            try with_reducible rfl
          try simp only [Act.put]
          try simp only [List.setIfInBounds_toArray]
          try simp only [List.set_cons_succ]
          try simp only [List.set_cons_zero]
          refine wpAnyS_take [4, 10, 11, 12, 13] (i := 3) (v := ?_) rfl (by kernel_rfl) (by kernel_rfl) (by kernel_rfl) (by kernel_rfl) (by kernel_rfl) (fun _ _ _ h => h) (Or.inl ⟨by rfl, ?_⟩) (by assumption) ?_
          rotate_left
          · intro w hSw
            (try dsimp only at hSw)
            go_simp
            try with_reducible rfl
          try simp only [Act.put]
          try simp only [List.setIfInBounds_toArray]
          try simp only [List.set_cons_succ]
          try simp only [List.set_cons_zero]
          refine wpAnyS_take [10, 11, 12, 13] (i := 4) (v := ?_) rfl (by kernel_rfl) (by kernel_rfl) (by kernel_rfl) (by kernel_rfl) (by kernel_rfl) (fun _ _ _ h => h) (Or.inl ⟨by rfl, ?_⟩) (by assumption) ?_
          rotate_left
          · intro w hSw
            (try dsimp only at hSw)
            go_simp
            try with_reducible rfl
          try simp only [Act.put]
          try simp only [List.setIfInBounds_toArray]
          try simp only [List.set_cons_succ]
          try simp only [List.set_cons_zero]
          refine wpAnyS_take [6, 7, 8, 9, 10, 11, 12, 13] (i := 5) (v := ?_) rfl (by kernel_rfl) (by kernel_rfl) (by kernel_rfl) (by kernel_rfl) (by kernel_rfl) (fun _ _ _ h => h) (Or.inl ⟨by rfl, ?_⟩) (by assumption) ?_
          rotate_left
          · intro w hSw
            (try dsimp only at hSw)
            go_simp
            try with_reducible rfl
          try simp only [Act.put]
          try simp only [List.setIfInBounds_toArray]
          try simp only [List.set_cons_succ]
          try simp only [List.set_cons_zero]
          refine wpAnyS_take [7, 8, 9, 10, 11, 12, 13] (i := 6) (v := ?_) rfl (by kernel_rfl) (by kernel_rfl) (by kernel_rfl) (by kernel_rfl) (by kernel_rfl) (fun _ _ _ h => h) (Or.inl ⟨by rfl, ?_⟩) (by assumption) ?_
          rotate_left
          · intro w hSw
            (try dsimp only at hSw)
            go_simp
            try with_reducible rfl
          try simp only [Act.put]
          try simp only [List.setIfInBounds_toArray]
          try simp only [List.set_cons_succ]
          try simp only [List.set_cons_zero]
          refine wpAnyS_take [8, 9, 10, 11, 12, 13] (i := 7) (v := ?_) rfl (by kernel_rfl) (by kernel_rfl) (by kernel_rfl) (by kernel_rfl) (by kernel_rfl) (fun _ _ _ h => h) (Or.inl ⟨by rfl, ?_⟩) (by assumption) ?_
          rotate_left
          · intro w hSw
            (try dsimp only at hSw)
            go_simp
            try with_reducible rfl
          try simp only [Act.put]
          try simp only [List.setIfInBounds_toArray]
          try simp only [List.set_cons_succ]
          try simp only [List.set_cons_zero]
          refine wpAnyS_one (i := 8) (by kernel_rfl) rfl (fun KK hK => ?_)
          go_simp
          refine (HVAL.out).mono ?_
          rintro e w4 ⟨rfl, hb4⟩
          have d5 : w4.cell? ⟨rb, 5, none⟩ = some (.slice ar s.row.length cr) := (hb4.cell (p := ⟨rb, 5, none⟩) HX3.out.rd.lt).trans HX3.out.rd.head.2.2.2.2.2
          have HX4 : Hid (RdX w4 K M3 rb fb cb n wd sc ct bins size s vW (.slice ar s.row.length cr) wv3 vc) := HX3.out.touch (Touch.of_below (S := fun _ => False) hb4) (fun _ _ => id)
          have HT4 : Hid (Touch M w w4) := HT3.out.below hb4
          clear hb4
          go_simp
          refine hK.out _ _ d5 (fun hHeld => ?_)
          clear hK KK
          try simp only [Act.put]
          try simp only [List.setIfInBounds_toArray]
          try simp only [List.set_cons_succ]
          try simp only [List.set_cons_zero]
          refine wpAnyS_one (i := 9) (by kernel_rfl) rfl (fun KK hK => ?_)
          go_simp
          refine hK.out _ _ (by go_keep) (fun hHeld => ?_)
          clear hK KK
          try simp only [Act.put]
          try simp only [List.setIfInBounds_toArray]
          try simp only [List.set_cons_succ]
          try simp only [List.set_cons_zero]
          refine wpAnyS_one (i := 10) (by kernel_rfl) rfl (fun KK hK => ?_)
          refine step_append_mark rfl (.tmp 37) (.tmp 42) 251 rfl 0 308 i8 (.agg #[.bool false, .int .i64 0, .string ⟨#[]⟩]) 3 32 Tryz.underlying251 inf8 iz0 iz1 iz2 rfl (by decide) (.slice ar s.row.length cr) s.row.length (flatV s.row) (by simp [Act.eval]) (World.ownsRow.alloc HX4.out.or _) ⟨w4.heap.size, 0, none⟩ 1 1 (cellsV (valOf s.p s.bs)) (by simp [Act.eval]) rfl (one_new w4 #[.bool (decide (s.p.st = 0)), .int .i64 (numOf s.p), .string (strOfNums s.bs)] 308) (by intro u hu; simp only [cellsV, List.mem_cons, List.not_mem_nil, or_false] at hu; rcases hu with rfl | rfl | rfl <;> rfl) (by decide) (by unfold maxLen; omega) (by omega) (by simp) ?_
          intro v5 w5 hX5
          obtain ⟨ho, hg, hd, _, q5, p5, rfl⟩ := hX5.out
          have hb5 : RB w5 rb (.slice (some ⟨fb, 0, none⟩) n n) vW (.slice (some ⟨cb, 0, none⟩) n n) s.wt s.fl (.slice ar s.row.length cr) { s.p with wv := wv3 } := RB.grown (w := w4.alloc (.cells #[.bool (decide (s.p.st = 0)), .int .i64 (numOf s.p), .string (strOfNums s.bs)] 308)) ((Below.heap_alloc w4 _ rb HX4.out.rd.lt).trans HX4.out.rd) hg (fun e => row_ne HX4.out.or e.symm HX4.out.rd (by decide) rfl)
          have e5 : w5.cell? ⟨rb, 5, none⟩ = some (.slice ar s.row.length cr) := hb5.head.2.2.2.2.2
          have ef5 : ∀ o, w5.frozen? ⟨rb, o, none⟩ = false := hb5.part.2.2.2.2.2.2
          have hb6 := (((((((hb5.setVr (.slice (some ⟨q5, 0, none⟩) (s.row.length + 1) p5)).st 0).neg false).dig 0).unit 0).num 0).wv (.slice none 0 0))
          have t6 := ((((((put_touch' (u := .slice (some ⟨q5, 0, none⟩) (s.row.length + 1) p5) (j := 5) hg rb).setCell (p := ⟨rb, 6, none⟩) (fun _ => .inl rfl) (.int .i64 0)).setCell (p := ⟨rb, 7, none⟩) (fun _ => .inl rfl) (.bool false)).setCell (p := ⟨rb, 8, none⟩) (fun _ => .inl rfl) (.int .i64 0)).setCell (p := ⟨rb, 9, none⟩) (fun _ => .inl rfl) (.int .i64 0)).setCell (p := ⟨rb, 10, none⟩) (fun _ => .inl rfl) (.int .i64 0)).setCell (p := ⟨rb, 11, none⟩) (fun _ => .inl rfl) (.slice none 0 0)
          have hown : OwnV w5 0 (.slice (some ⟨q5, 0, none⟩) (s.row.length + 1) p5) (s.row ++ [valOf s.p s.bs]) := OwnV.more ho
          have hown6 := ((((((Touch.refl (fun k => k = rb) w5).setCell (p := ⟨rb, 5, none⟩) (fun _ => rfl) (.slice (some ⟨q5, 0, none⟩) (s.row.length + 1) p5)).setCell (p := ⟨rb, 6, none⟩) (fun _ => rfl) (.int .i64 0)).setCell (p := ⟨rb, 7, none⟩) (fun _ => rfl) (.bool false)).setCell (p := ⟨rb, 8, none⟩) (fun _ => rfl) (.int .i64 0)).setCell (p := ⟨rb, 9, none⟩) (fun _ => rfl) (.int .i64 0)).setCell (p := ⟨rb, 10, none⟩) (fun _ => rfl) (.int .i64 0)
          have HP : Hid _ := HX4.out.putRow (s := s) (p := part0) (bs := []) (wt := s.wt) (fl := s.fl) t6 hb6 (hown.touch (hown6.setCell (p := ⟨rb, 11, none⟩) (fun _ => rfl) (.slice none 0 0)) (fun k hk e => row_ne hown hk hb5 (by decide) e)) (by rcases put_new' hd with h1 | h1; exact .inl h1; exact .inr (.inr h1)) (OwnB.nil _ _) (.inl rfl)
          have d5b : (w5.setCell ⟨rb, 5, none⟩ (.slice (some ⟨q5, 0, none⟩) (s.row.length + 1) p5)).cell? ⟨rb, 5, none⟩ = some (.slice (some ⟨q5, 0, none⟩) (s.row.length + 1) p5) := (hb5.setVr _).head.2.2.2.2.2
          have dp := (hb5.setVr (.slice (some ⟨q5, 0, none⟩) (s.row.length + 1) p5)).part
          obtain ⟨g6, g7, g8, g9, g10, g11, gf⟩ := dp
          clear ho hg hd hX5 hb5 hb6 t6 hown hown6
          refine hK.out _ _ e5 (fun hHeld => ?_)
          clear hK KK
          try simp only [Act.put]
          try simp only [List.setIfInBounds_toArray]
          try simp only [List.set_cons_succ]
          try simp only [List.set_cons_zero]
          refine wpAnyS_take [12, 13] (i := 11) (v := ?_) rfl (by kernel_rfl) (by kernel_rfl) (by kernel_rfl) (by kernel_rfl) (by kernel_rfl) (fun _ _ _ h => h) (Or.inl ⟨by rfl, ?_⟩) (by assumption) ?_
          rotate_left
          · intro w hSw
            (try dsimp only at hSw)
            go_simp
            try with_reducible rfl
          try simp only [Act.put]
          try simp only [List.setIfInBounds_toArray]
          try simp only [List.set_cons_succ]
          try simp only [List.set_cons_zero]
          refine wpAnyS_take [13] (i := 12) (v := ?_) rfl (by kernel_rfl) (by kernel_rfl) (by kernel_rfl) (by kernel_rfl) (by kernel_rfl) (fun _ _ _ h => h) (Or.inl ⟨by rfl, ?_⟩) (by assumption) ?_
          rotate_left
          · intro w hSw
            (try dsimp only at hSw)
            go_simp
            try with_reducible rfl
          try simp only [Act.put]
          try simp only [List.setIfInBounds_toArray]
          try simp only [List.set_cons_succ]
          try simp only [List.set_cons_zero]
          refine wpAnyS_last (i := 13) (by kernel_rfl) rfl (by kernel_rfl) (fun KK hK => ?_)
          go_simp
          refine hK.out _ _ ?_
          clear hK KK
          try simp only [Act.put]
          try simp only [List.setIfInBounds_toArray]
          try simp only [List.set_cons_succ]
          try simp only [List.set_cons_zero]
          refine wpAnyS_done (by kernel_rfl) ?_ _

          have HP6 : Hid (RdX ((((((((w5.setCell ⟨rb, 5, none⟩ (.slice (some ⟨q5, 0, none⟩) (s.row.length + 1) p5)).setCell ⟨rb, 6, none⟩ (.int .i64 0)).setCell ⟨rb, 7, none⟩ (.bool false)).setCell ⟨rb, 8, none⟩ (.int .i64 0)).setCell ⟨rb, 9, none⟩ (.int .i64 0)).setCell ⟨rb, 10, none⟩ (.int .i64 0)).setCell ⟨rb, 11, none⟩ (.slice none 0 0))) K (fun k => M3 k ∨ (Value.slice (some ⟨q5, 0, none⟩) (s.row.length + 1) p5).ownBlock = some k) rb fb cb n wd sc ct bins size { s with row := s.row ++ [valOf s.p s.bs], p := part0, bs := [] } vW (.slice (some ⟨q5, 0, none⟩) (s.row.length + 1) p5) (.slice none 0 0) vc ∧ (∀ k, (M3 k ∨ (Value.slice (some ⟨q5, 0, none⟩) (s.row.length + 1) p5).ownBlock = some k) → M3 k ∨ w4.heap.size ≤ k) ∧ Touch M3 w4 ((((((((w5.setCell ⟨rb, 5, none⟩ (.slice (some ⟨q5, 0, none⟩) (s.row.length + 1) p5)).setCell ⟨rb, 6, none⟩ (.int .i64 0)).setCell ⟨rb, 7, none⟩ (.bool false)).setCell ⟨rb, 8, none⟩ (.int .i64 0)).setCell ⟨rb, 9, none⟩ (.int .i64 0)).setCell ⟨rb, 10, none⟩ (.int .i64 0)).setCell ⟨rb, 11, none⟩ (.slice none 0 0)))) := HP.out
          clear HP HVAL HX3 HT3 hHeld d5 e5 ef5 d5a
          go_upto_region 7 with fail
          clear g6 g7 g8 g9 g10 g11 gf d5b
          generalize (((((((w5.setCell ⟨rb, 5, none⟩ (.slice (some ⟨q5, 0, none⟩) (s.row.length + 1) p5)).setCell ⟨rb, 6, none⟩ (.int .i64 0)).setCell ⟨rb, 7, none⟩ (.bool false)).setCell ⟨rb, 8, none⟩ (.int .i64 0)).setCell ⟨rb, 9, none⟩ (.int .i64 0)).setCell ⟨rb, 10, none⟩ (.int .i64 0)).setCell ⟨rb, 11, none⟩ (.slice none 0 0)) = w6 at *
          obtain ⟨M6, hM6⟩ : ∃ M6 : Nat → Prop, M6 = (fun k => M3 k ∨ (Value.slice (some ⟨q5, 0, none⟩) (s.row.length + 1) p5).ownBlock = some k) := ⟨_, rfl⟩
          have HM6 : Hid ((∀ k, M6 k → M3 k ∨ w4.heap.size ≤ k) ∧ Touch M3 w4 w6) := by rw [hM6]; exact HP6.out.2
          have HX6 : Hid (RdX w6 K M6 rb fb cb n wd sc ct bins size { s with row := s.row ++ [valOf s.p s.bs], p := part0, bs := [] } vW (.slice (some ⟨q5, 0, none⟩) (s.row.length + 1) p5) (.slice none 0 0) vc) := by rw [hM6]; exact HP6.out.1
          have HT6 : Hid (Touch M w w6) := HT4.out.trans2 HM6.out.2 HM1.out.1
          have HN6 : Hid (∀ k, M6 k → M k ∨ w.heap.size ≤ k) := fun k hk => by
            rcases HM6.out.1 k hk with h1 | h1
            · exact HM1.out.1 k h1
            · exact .inr (by have := HT4.out.size; omega)
          have g0 : w6.cell? ⟨rb, 0, none⟩ = some (.slice (some ⟨fb, 0, none⟩) n n) := HX6.out.rd.head.1
          have g5 : w6.cell? ⟨rb, 5, none⟩ = some (.slice (some ⟨q5, 0, none⟩) (s.row.length + 1) p5) := HX6.out.rd.head.2.2.2.2.2
          have hcl : ∀ i, i < n → (s.cols i).length ≤ 200 := fun i hi => by rw [HI.out.col i hi]; omega
          clear hM6 HP6 HM6 HX4 HT4 HM1
          by_cases hl : s.row.length + 1 = n
          · have HRE : Hid (rowEnd n s (s.row ++ [valOf s.p s.bs]) = { ({ s with row := s.row ++ [valOf s.p s.bs], p := part0, bs := [] } : RS) with ws := s.ws ++ [s.wt], cols := fun i => if i < n then s.cols i ++ [(s.row ++ [valOf s.p s.bs]).getD i emptyV] else s.cols i, wt := 0, fl := false, row := [] }) := by show _ = _; unfold rowEnd; rw [if_pos (by simp; exact hl)]
            have HER : Hid (∀ m, Calls Tryz.prog 222 #[.pointer (some ⟨rb, 0, none⟩)] (w6.drewN m) fun e w' => e = .returned (.tuple #[]) ∧ Left (w6.drewN m) K M6 rb fb cb n wd sc ct bins size { ({ s with row := s.row ++ [valOf s.p s.bs], p := part0, bs := [] } : RS) with ws := s.ws ++ [s.wt], cols := fun i => if i < n then s.cols i ++ [(s.row ++ [valOf s.p s.bs]).getD i emptyV] else s.cols i, wt := 0, fl := false, row := [] } w') := fun m => endRow_any (w := w6.drewN m) (HX6.out.touch (w' := w6.drewN m) (S := fun _ => False) ⟨rfl, rfl, rfl, Nat.le_refl _, fun _ _ _ => rfl⟩ (fun _ _ => id)) (by simp; exact hl) hn (by show s.ws.length ≤ 200; omega) hcl
            have e1 : (((s.row.length + 1 : Nat) : Int) == (n : Int)) = true := by simp; omega
            have e2 : (((s.row.length : Int) + 1) == (n : Int)) = true := by simp; omega
            go_big_quiet (fail)
            go_wp2_with (go_at_call 222; refine (HER.out _).mono ?_; rintro e w7 ⟨rfl, hL⟩)
            go_ret
            rw [HO.out, HRE.out]
            obtain ⟨⟨M', hM', hs'⟩, hT'⟩ := hL
            refine ⟨rfl, ⟨M', hM', fun k hk => ?_⟩, HT6.out.trans2 ⟨hT'.os, hT'.tape, hT'.output, hT'.size, hT'.block⟩ HN6.out⟩
            rcases hs' k hk with h1 | h1
            · exact HN6.out k h1
            · exact .inr (Nat.le_trans HT6.out.size h1)
          · have HRE : Hid (rowEnd n s (s.row ++ [valOf s.p s.bs]) = { s with row := s.row ++ [valOf s.p s.bs], p := part0, bs := [] }) := by show _ = _; unfold rowEnd; rw [if_neg (by simp; exact hl)]
            have e1 : (((s.row.length + 1 : Nat) : Int) == (n : Int)) = false := beq_eq_false_iff_ne.2 (by omega)
            have e2 : (((s.row.length : Int) + 1) == (n : Int)) = false := beq_eq_false_iff_ne.2 (by omega)
            go_big_quiet (fail)
            go_wp2
            go_ret
            rw [HO.out, HRE.out]
            exact ⟨rfl, ⟨M6, ⟨_, _, _, _, HX6.out.touch (S := fun _ => False) ⟨rfl, rfl, rfl, Nat.le_refl _, fun _ _ _ => rfl⟩ (fun _ _ => id)⟩, HN6.out⟩, ⟨HT6.out.os, HT6.out.tape, HT6.out.output, HT6.out.size, HT6.out.block⟩⟩
        · have hmf : mayEnd s.p.st = false := by simpa using hm
          have HO : Hid (fieldOut n wd sc s c = none) := by show _ = _; rw [HOUT.out, if_neg (fun h => hm h.2)]
          rw [hmf] at HME
          rw [← hc] at HSEP
          clear hc hm hmf HOUT
          go_wp2_with (first | (go_at_call 219; refine (HSEP.out).mono ?_; rintro e w' ⟨rfl, m, rfl⟩) | (go_at_call 220; refine (HME.out _).mono ?_; rintro e w' ⟨rfl, hw'⟩; obtain rfl := hw'.symm))
          go_ret
          rw [HO.out]
          exact ⟨rfl, ⟨M3, ⟨_, _, _, _, HXD.out _⟩, HM1.out.1⟩, HTD.out _⟩
      · have HO : Hid (fieldOut n wd sc s c = none) := by show _ = _; rw [HOUT.out, if_neg (fun h => hc h.1)]
        have hcb : (c == sepOf s.row.length n) = false := beq_eq_false_iff_ne.2 hc
        generalize sepOf s.row.length n = sp at *
        clear HOUT
        go_wp2_with (first | (go_at_call 219; refine (HSEP.out).mono ?_; rintro e w' ⟨rfl, m, rfl⟩) | (go_at_call 220; refine (HME.out _).mono ?_; rintro e w' ⟨rfl, hw'⟩; obtain rfl := hw'.symm))
        go_ret
        rw [HO.out]
        exact ⟨rfl, ⟨M3, ⟨_, _, _, _, HXD.out _⟩, HM1.out.1⟩, HTD.out _⟩
end
end Go.Proofs.YtfcgnpchbcmdeaaGreat
