import Derived.Test.YtfcgnpchbcmdeaaGreatZpat
import Derived.Test.YtfcgnpchbcmdeaaGreatZpau
namespace Go.Proofs.YtfcgnpchbcmdeaaGreat
open Go.RowKit
theorem OwnB.nil (w : World) (base : Nat) : OwnB w base (.slice none 0 0) [] := World.ownsRow_nil w base 5 1
theorem put_touch' {w w2 : World} {o : Obj} {v u : Value} (hg : (w.alloc o).grownBy w2 v.ownBlock) (b : Nat) {j : Nat} : Touch (fun k => k = b ∨ v.ownBlock = some k) w (w2.setCell ⟨b, j, none⟩ u) :=
  (((Touch.refl (fun k => k = b ∨ v.ownBlock = some k) w).alloc o).grown hg (fun _ e _ => .inr e)).setCell (p := ⟨b, j, none⟩) (fun _ => .inl rfl) u
theorem put_new' {w w2 : World} {o : Obj} {v v' : Value} (hd : v'.ownBlock = v.ownBlock ∨ v'.ownBlock = some (w.alloc o).heap.size /\ Below (w.alloc o).heap.size (w.alloc o) w2) : v'.ownBlock = v.ownBlock ∨ ∃ k, v'.ownBlock = some k /\ w.heap.size <= k := by
  rcases hd with h | ⟨h, _⟩
  exact .inl h;exact .inr ⟨_, h, by simp⟩
def fieldOut (n : Nat) (wd : Nat -> Bool) (sc : Nat -> Int) (s : RS) (c : Int) : Option RS :=
  match fieldStep (wd s.row.length) (tenTo (sc s.row.length).toNat) s.p s.bs c with
  | some q => some { s with p := q.1, bs := q.2 }
  | none => if c = sepOf s.row.length n /\ mayEnd s.p.st = true then some (rowEnd n s (s.row ++ [valOf s.p s.bs])) else none
theorem Touch.undrew {S : Nat -> Prop} {w w' : World} (t : Touch S w.drew w') : Touch S w w' := ⟨t.os, t.tape, t.output, t.size, t.block⟩
section
variable {w : World} {K M : Nat -> Prop} {rb fb cb n : Nat} {wd : Nat -> Bool} {sc ct : Nat -> Int} {bins size : Int} {s : RS} {vW vr wv : Value} {vc : Nat -> Value}
set_option maxRecDepth 100000 in
set_option maxHeartbeats 4000000 in
theorem takeInField_any (c : Int) (hX : RdX w K M rb fb cb n wd sc ct bins size s vW vr wv vc) (hI : RInv n s) (hn : n <= 4) (hws : s.ws.length < 200) (hsc : ∀ i, i < n -> wd i = false -> 0 <= sc i /\ sc i <= 3) : Calls Tryz.prog 163 #[.pointer (some ⟨rb, 0, none⟩), .int .u8 c] w fun e w' => e = .returned (.bool (fieldOut n wd sc s c).isSome) /\ Left w K M rb fb cb n wd sc ct bins size ((fieldOut n wd sc s c).getD s) w' := by
  obtain ⟨i8, inf8, iz0, iz1, iz2⟩ := info_parts info308;obtain ⟨ar, cr, rfl⟩ := hX.or.form;obtain ⟨c0, _, _, _, _, c5⟩ := hX.rd.head;obtain ⟨v0, v1, v2, c6, hF⟩ := hX.feat hI.row;have bk1 : (0 : Int) <= (s.row.length : Int) := (by omega);have bk2 : (s.row.length : Int) < (n : Int) := (by have := hI.row; omega);have hXd : RdX w.drew K M rb fb cb n wd sc ct bins size s vW (.slice ar s.row.length cr) wv vc := hX.touch (S := fun _ => False) (Touch.refl _ w).drew (fun _ _ => id)
  have hread : ∃ (f : Nat) (cs : Array Value), v0 = .func (.func f) #[] cs /\ Calls Tryz.prog f (#[.pointer (some ⟨rb, 6, none⟩), .int .u8 c] ++ cs) w.drew (fun e w' => ReadX w.drew K M rb fb cb n wd sc ct bins size s vW (.slice ar s.row.length cr) vc (fieldStep (wd s.row.length) (tenTo (sc s.row.length).toNat) s.p s.bs c) e w') /\ ((f = 209 /\ cs = #[]) ∨ ∃ k0, f = 214 /\ cs = #[.pointer (some ⟨k0, 0, none⟩)]) := by
    rcases hF with ⟨e, k1, k2, k3, e0, _⟩ | ⟨e, k0, k1, k2, k3, e0, _, _, _, _, _, _, h0, _⟩
    refine ⟨209, #[], e0, ?_, .inl ⟨rfl, rfl⟩⟩;rw [e];exact read_word hXd c _ hI.bs;refine ⟨214, _, e0, ?_, .inr ⟨k0, rfl, rfl⟩⟩;have := hsc _ hI.row e;have ht := tenTo_in (sc s.row.length).toNat (by omega);rw [e];exact read_num hXd c _ k0 h0 (by omega) ht.2 hI.num
  obtain ⟨f, cs, rfl, hcall, hfc⟩ := hread;have HX : Hid (RdX w K M rb fb cb n wd sc ct bins size s vW (.slice ar s.row.length cr) wv vc) := hX;have HI : Hid (RInv n s) := hI;have hfbne : fb ≠ rb := hX.fb_ne;have hKM : ∀ k, K k -> ¬ M k := fun k e => (hX.kk k e).2;have hfbK : K fb := (by obtain ⟨_, _, _, h3, _⟩ := hX.fs; exact h3);have hflt : fb < w.heap.size := (hX.kk fb hfbK).1;have HNM : Hid (¬ M fb) := hKM fb hfbK;have hrl : s.row.length < n := hI.row;clear hX hXd hF hI hKM hfbK
  cases hfs : fieldStep (wd s.row.length) (tenTo (sc s.row.length).toNat) s.p s.bs c with
  | some q =>
    have HO : Hid (fieldOut n wd sc s c = some { s with p := q.1, bs := q.2 }) := (by show fieldOut n wd sc s c = _; unfold fieldOut; rw [hfs]);rw [hfs] at hcall;have HC : Hid (Calls Tryz.prog f (#[.pointer (some ⟨rb, 6, none⟩), .int .u8 c] ++ cs) w.drew (fun e w' => ReadX w.drew K M rb fb cb n wd sc ct bins size s vW (.slice ar s.row.length cr) vc (some q) e w')) := hcall;clear hcall hfs
    rcases hfc with ⟨rfl, rfl⟩ | ⟨k0, rfl, rfl⟩
    · go_enter Tryz.func163, Tryz.ntmps163;go_wp2_with fail
      go_region_held3 (fun w' => w'.cell? ⟨rb, 0, none⟩ = some (.slice (some ⟨fb, 0, none⟩) n n) /\ w'.cell? ⟨rb, 5, none⟩ = some (.slice ar s.row.length cr) /\ w'.cell? ⟨fb, s.row.length * 3, none⟩ = some (.func (.func 209) #[] #[])) (go_keep) (first | (go_at_call 209; refine (HC.out).mono ?_; rintro e w' ⟨rfl, ⟨M', wv', hR, hM1, hM2⟩, hT⟩; have e0 := hR.rd.head.1; have e5 := hR.rd.head.2.2.2.2.2; have ef : w'.cell? ⟨fb, s.row.length * 3, none⟩ = some (.func (.func 209) #[] #[]) := (World.cell?_of_block (w := w.drew) (a := ⟨fb, s.row.length * 3, none⟩) (hT.block fb hflt HNM.out)).trans c6; have HR : Hid (Left w K M rb fb cb n wd sc ct bins size { s with p := q.1, bs := q.2 } w') := ⟨⟨M', ⟨_, _, _, _, hR⟩, hM2⟩, hT.undrew⟩; clear hR hM1 hM2 hT))
      all_goals go_wp2
      all_goals go_ret
      all_goals rw [HO.out]
      all_goals exact ⟨rfl, HR.out⟩
    go_enter Tryz.func163, Tryz.ntmps163;go_wp2_with fail
    go_region_held3 (fun w' => w'.cell? ⟨rb, 0, none⟩ = some (.slice (some ⟨fb, 0, none⟩) n n) /\ w'.cell? ⟨rb, 5, none⟩ = some (.slice ar s.row.length cr) /\ w'.cell? ⟨fb, s.row.length * 3, none⟩ = some (.func (.func 214) #[] #[.pointer (some ⟨k0, 0, none⟩)])) (go_keep) (first | (go_at_call 214; refine (HC.out).mono ?_; rintro e w' ⟨rfl, ⟨M', wv', hR, hM1, hM2⟩, hT⟩; have e0 := hR.rd.head.1; have e5 := hR.rd.head.2.2.2.2.2; have ef : w'.cell? ⟨fb, s.row.length * 3, none⟩ = some (.func (.func 214) #[] #[.pointer (some ⟨k0, 0, none⟩)]) := (World.cell?_of_block (w := w.drew) (a := ⟨fb, s.row.length * 3, none⟩) (hT.block fb hflt HNM.out)).trans c6; have HR : Hid (Left w K M rb fb cb n wd sc ct bins size { s with p := q.1, bs := q.2 } w') := ⟨⟨M', ⟨_, _, _, _, hR⟩, hM2⟩, hT.undrew⟩; clear hR hM1 hM2 hT))
    all_goals go_wp2
    all_goals go_ret
    all_goals rw [HO.out]
    all_goals exact ⟨rfl, HR.out⟩
  | none =>
    rw [hfs] at hcall;have HC : Hid (Calls Tryz.prog f (#[.pointer (some ⟨rb, 6, none⟩), .int .u8 c] ++ cs) w.drew (fun e w' => ReadX w.drew K M rb fb cb n wd sc ct bins size s vW (.slice ar s.row.length cr) vc none e w')) := hcall
    have HFS := show Hid (fieldStep (wd s.row.length) (tenTo (sc s.row.length).toNat) s.p s.bs c = none) from hfs
    clear hcall hfs;go_enter Tryz.func163, Tryz.ntmps163;go_wp2_with fail
    go_cut [21] (fun v wx => v = .bool false /\ ∃ M3 wv3, Hid (RdX wx K M3 rb fb cb n wd sc ct bins size s vW (.slice ar s.row.length cr) wv3 vc) /\ Hid ((∀ k, M3 k -> M k ∨ w.heap.size <= k) /\ Touch M w wx))
    case first =>
      rcases hfc with ⟨rfl, rfl⟩ | ⟨k0, rfl, rfl⟩
      · go_region_held3 (fun w' => w'.cell? ⟨rb, 0, none⟩ = some (.slice (some ⟨fb, 0, none⟩) n n) /\ w'.cell? ⟨rb, 5, none⟩ = some (.slice ar s.row.length cr) /\ w'.cell? ⟨fb, s.row.length * 3, none⟩ = some (.func (.func 209) #[] #[])) (go_keep) (first | (go_at_call 209; refine (HC.out).mono ?_; rintro e w' ⟨rfl, ⟨M', wv', hR, hM1, hM2⟩, hT⟩; have e0 := hR.rd.head.1; have e5 := hR.rd.head.2.2.2.2.2; have ef : w'.cell? ⟨fb, s.row.length * 3, none⟩ = some (.func (.func 209) #[] #[]) := (World.cell?_of_block (w := w.drew) (a := ⟨fb, s.row.length * 3, none⟩) (hT.block fb hflt HNM.out)).trans c6; have HR : Hid (∃ M3 wv3, Hid (RdX w' K M3 rb fb cb n wd sc ct bins size s vW (.slice ar s.row.length cr) wv3 vc) /\ Hid ((∀ k, M3 k -> M k ∨ w.heap.size <= k) /\ Touch M w w')) := ⟨M', wv', hR, hM2, hT.undrew⟩; clear hR hM1 hM2 hT))
        all_goals go_wp2
        all_goals go_meet
        all_goals exact ⟨rfl, HR.out⟩
      go_region_held3 (fun w' => w'.cell? ⟨rb, 0, none⟩ = some (.slice (some ⟨fb, 0, none⟩) n n) /\ w'.cell? ⟨rb, 5, none⟩ = some (.slice ar s.row.length cr) /\ w'.cell? ⟨fb, s.row.length * 3, none⟩ = some (.func (.func 214) #[] #[.pointer (some ⟨k0, 0, none⟩)])) (go_keep) (first | (go_at_call 214; refine (HC.out).mono ?_; rintro e w' ⟨rfl, ⟨M', wv', hR, hM1, hM2⟩, hT⟩; have e0 := hR.rd.head.1; have e5 := hR.rd.head.2.2.2.2.2; have ef : w'.cell? ⟨fb, s.row.length * 3, none⟩ = some (.func (.func 214) #[] #[.pointer (some ⟨k0, 0, none⟩)]) := (World.cell?_of_block (w := w.drew) (a := ⟨fb, s.row.length * 3, none⟩) (hT.block fb hflt HNM.out)).trans c6; have HR : Hid (∃ M3 wv3, Hid (RdX w' K M3 rb fb cb n wd sc ct bins size s vW (.slice ar s.row.length cr) wv3 vc) /\ Hid ((∀ k, M3 k -> M k ∨ w.heap.size <= k) /\ Touch M w w')) := ⟨M', wv', hR, hM2, hT.undrew⟩; clear hR hM1 hM2 hT))
      all_goals go_wp2
      all_goals go_meet
      all_goals exact ⟨rfl, HR.out⟩
    case rest =>
      obtain ⟨rfl, M3, wv3, HX1, HM1⟩ := hcut;clear c0 c5 c6 hflt HNM HC hfc;have HSEP : Hid (Calls Tryz.prog 219 #[.pointer (some ⟨rb, 0, none⟩)] wc fun e w' => e = .returned (.int .u8 (sepOf s.row.length n)) /\ ∃ m, w' = wc.drewN m) := separator_any rb _ n n vW _ s.wt s.fl ar s.row.length cr _ wc HX1.out.rd (by omega) (by omega);have HME : Hid (∀ m, Calls Tryz.prog 220 #[.pointer (some ⟨rb, 6, none⟩)] (wc.drewN m) fun e w' => e = .returned (.bool (mayEnd s.p.st)) /\ w' = wc.drewN m) := fun m => mayEnd_any rb _ _ _ _ _ _ { s.p with wv := wv3 } (wc.drewN m) HX1.out.rd;have HXD : Hid (∀ m, RdX (wc.drewN m) K M3 rb fb cb n wd sc ct bins size s vW (.slice ar s.row.length cr) wv3 vc) := fun m => HX1.out.touch (S := fun _ => False) ⟨rfl, rfl, rfl, Nat.le_refl _, fun _ _ _ => rfl⟩ (fun _ _ => id)
      have HTD : Hid (∀ m, Touch M w (wc.drewN m)) := fun m => ⟨HM1.out.2.os, HM1.out.2.tape, HM1.out.2.output, HM1.out.2.size, HM1.out.2.block⟩;have HOUT : Hid (fieldOut n wd sc s c = if c = sepOf s.row.length n /\ mayEnd s.p.st = true then some (rowEnd n s (s.row ++ [valOf s.p s.bs])) else none) := (by show fieldOut n wd sc s c = _; unfold fieldOut; rw [HFS.out]);clear HFS
      by_cases hc : c = sepOf s.row.length n
      · by_cases hm : mayEnd s.p.st = true
        · have HO : Hid (fieldOut n wd sc s c = some (rowEnd n s (s.row ++ [valOf s.p s.bs]))) := (by show _ = _; rw [HOUT.out, if_pos ⟨hc, hm⟩]);rw [hm] at HME;rw [<- hc] at HSEP;clear hc hm HOUT;go_upto_region 5 with (first | (go_at_call 219; refine (HSEP.out).mono ?_; rintro e w' ⟨rfl, m, rfl⟩) | (go_at_call 220; refine (HME.out _).mono ?_; rintro e w' ⟨rfl, hw'⟩; obtain rfl := hw'.symm))
          have HX3 : Hid (RdX (wc.drewN m).drew K M3 rb fb cb n wd sc ct bins size s vW (.slice ar s.row.length cr) wv3 vc) := (HXD.out m).touch (S := fun _ => False) (Touch.refl _ _).drew (fun _ _ => id);have HT3 : Hid (Touch M w (wc.drewN m).drew) := (HTD.out m).drew;clear HXD HTD HSEP HME HX1;generalize wc.drewN m = w3 at *;have hle := HI.out.num.le;have hge := HI.out.num.n0;have HVAL : Hid (Calls Tryz.prog 221 #[.pointer (some ⟨rb, 6, none⟩)] w3.drew fun e w' => e = .returned (.agg #[.bool (decide (s.p.st = 0)), .int .i64 (numOf s.p), .string (strOfNums s.bs)]) /\ Below w3.drew.heap.size w3.drew w') := value_any rb 0 _ _ _ _ _ _ { s.p with wv := wv3 } s.bs w3.drew ⟨HX3.out.rd, HX3.out.ob⟩ (by show _ <= s.p.num; omega) (by show s.p.num <= _; omega);have d5a : w3.drew.cell? ⟨rb, 5, none⟩ = some (.slice ar s.row.length cr) := HX3.out.rd.head.2.2.2.2.2
          refine wp_region_S (fun w' => w'.cell? ⟨rb, 5, none⟩ = some (.slice ar s.row.length cr)) 13 (by kernel_rfl) d5a (fun hHeld => ?_);refine wpAnyS_take [11, 12, 13] (i := 0) (v := ?_) rfl (by kernel_rfl) (by kernel_rfl) (by kernel_rfl) (by kernel_rfl) (by kernel_rfl) (fun _ _ _ h => h) (Or.inl ⟨by rfl, ?_⟩) (by assumption) ?_
          rotate_left;· intro w hSw;(try dsimp only at hSw);go_simp;try with_reducible rfl
          try simp only [Act.put]
          try simp only [List.setIfInBounds_toArray]
          try simp only [List.set_cons_succ]
          try simp only [List.set_cons_zero]
          refine wpAnyS_take [2, 3, 4, 10, 11, 12, 13] (i := 1) (v := ?_) rfl (by kernel_rfl) (by kernel_rfl) (by kernel_rfl) (by kernel_rfl) (by kernel_rfl) (fun _ _ _ h => h) (Or.inl ⟨by rfl, ?_⟩) (by assumption) ?_
          rotate_left;· intro w hSw;(try dsimp only at hSw);go_simp;try with_reducible rfl
          try simp only [Act.put]
          try simp only [List.setIfInBounds_toArray]
          try simp only [List.set_cons_succ]
          try simp only [List.set_cons_zero]
          refine wpAnyS_take [3, 4, 10, 11, 12, 13] (i := 2) (v := ?_) rfl (by kernel_rfl) (by kernel_rfl) (by kernel_rfl) (by kernel_rfl) (by kernel_rfl) (fun _ _ _ h => h) (Or.inl ⟨by rfl, ?_⟩) (by assumption) ?_
          rotate_left;· intro w hSw;(try dsimp only at hSw);go_simp;try with_reducible rfl
          try simp only [Act.put]
          try simp only [List.setIfInBounds_toArray]
          try simp only [List.set_cons_succ]
          try simp only [List.set_cons_zero]
          refine wpAnyS_take [4, 10, 11, 12, 13] (i := 3) (v := ?_) rfl (by kernel_rfl) (by kernel_rfl) (by kernel_rfl) (by kernel_rfl) (by kernel_rfl) (fun _ _ _ h => h) (Or.inl ⟨by rfl, ?_⟩) (by assumption) ?_
          rotate_left;· intro w hSw;(try dsimp only at hSw);go_simp;try with_reducible rfl
          try simp only [Act.put]
          try simp only [List.setIfInBounds_toArray]
          try simp only [List.set_cons_succ]
          try simp only [List.set_cons_zero]
          refine wpAnyS_take [10, 11, 12, 13] (i := 4) (v := ?_) rfl (by kernel_rfl) (by kernel_rfl) (by kernel_rfl) (by kernel_rfl) (by kernel_rfl) (fun _ _ _ h => h) (Or.inl ⟨by rfl, ?_⟩) (by assumption) ?_
          rotate_left;· intro w hSw;(try dsimp only at hSw);go_simp;try with_reducible rfl
          try simp only [Act.put]
          try simp only [List.setIfInBounds_toArray]
          try simp only [List.set_cons_succ]
          try simp only [List.set_cons_zero]
          refine wpAnyS_take [6, 7, 8, 9, 10, 11, 12, 13] (i := 5) (v := ?_) rfl (by kernel_rfl) (by kernel_rfl) (by kernel_rfl) (by kernel_rfl) (by kernel_rfl) (fun _ _ _ h => h) (Or.inl ⟨by rfl, ?_⟩) (by assumption) ?_
          rotate_left;· intro w hSw;(try dsimp only at hSw);go_simp;try with_reducible rfl
          try simp only [Act.put]
          try simp only [List.setIfInBounds_toArray]
          try simp only [List.set_cons_succ]
          try simp only [List.set_cons_zero]
          refine wpAnyS_take [7, 8, 9, 10, 11, 12, 13] (i := 6) (v := ?_) rfl (by kernel_rfl) (by kernel_rfl) (by kernel_rfl) (by kernel_rfl) (by kernel_rfl) (fun _ _ _ h => h) (Or.inl ⟨by rfl, ?_⟩) (by assumption) ?_
          rotate_left;· intro w hSw;(try dsimp only at hSw);go_simp;try with_reducible rfl
          try simp only [Act.put]
          try simp only [List.setIfInBounds_toArray]
          try simp only [List.set_cons_succ]
          try simp only [List.set_cons_zero]
          refine wpAnyS_take [8, 9, 10, 11, 12, 13] (i := 7) (v := ?_) rfl (by kernel_rfl) (by kernel_rfl) (by kernel_rfl) (by kernel_rfl) (by kernel_rfl) (fun _ _ _ h => h) (Or.inl ⟨by rfl, ?_⟩) (by assumption) ?_
          rotate_left;· intro w hSw;(try dsimp only at hSw);go_simp;try with_reducible rfl
          try simp only [Act.put]
          try simp only [List.setIfInBounds_toArray]
          try simp only [List.set_cons_succ]
          try simp only [List.set_cons_zero]
          refine wpAnyS_one (i := 8) (by kernel_rfl) rfl (fun KK hK => ?_);go_simp;refine (HVAL.out).mono ?_;rintro e w4 ⟨rfl, hb4⟩;have d5 : w4.cell? ⟨rb, 5, none⟩ = some (.slice ar s.row.length cr) := (hb4.cell (p := ⟨rb, 5, none⟩) HX3.out.rd.lt).trans HX3.out.rd.head.2.2.2.2.2;have HX4 : Hid (RdX w4 K M3 rb fb cb n wd sc ct bins size s vW (.slice ar s.row.length cr) wv3 vc) := HX3.out.touch (Touch.of_below (S := fun _ => False) hb4) (fun _ _ => id);have HT4 : Hid (Touch M w w4) := HT3.out.below hb4;clear hb4;go_simp;refine hK.out _ _ d5 (fun hHeld => ?_);clear hK KK;try simp only [Act.put]
          try simp only [List.setIfInBounds_toArray]
          try simp only [List.set_cons_succ]
          try simp only [List.set_cons_zero]
          refine wpAnyS_one (i := 9) (by kernel_rfl) rfl (fun KK hK => ?_);go_simp;refine hK.out _ _ (by go_keep) (fun hHeld => ?_);clear hK KK;try simp only [Act.put]
          try simp only [List.setIfInBounds_toArray]
          try simp only [List.set_cons_succ]
          try simp only [List.set_cons_zero]
          refine wpAnyS_one (i := 10) (by kernel_rfl) rfl (fun KK hK => ?_);refine step_append_mark rfl (.tmp 37) (.tmp 42) 251 rfl 0 308 i8 (.agg #[.bool false, .int .i64 0, .string ⟨#[]⟩]) 3 32 Tryz.underlying251 inf8 iz0 iz1 iz2 rfl (by decide) (.slice ar s.row.length cr) s.row.length (flatV s.row) (by simp [Act.eval]) (World.ownsRow.alloc HX4.out.or _) ⟨w4.heap.size, 0, none⟩ 1 1 (cellsV (valOf s.p s.bs)) (by simp [Act.eval]) rfl (one_new w4 #[.bool (decide (s.p.st = 0)), .int .i64 (numOf s.p), .string (strOfNums s.bs)] 308) (by intro u hu; simp only [cellsV, List.mem_cons, List.not_mem_nil, or_false] at hu; rcases hu with rfl | rfl | rfl <;> rfl) (by decide) (by unfold maxLen; omega) (by omega) (by simp) ?_;intro v5 w5 hX5;obtain ⟨ho, hg, hd, _, q5, p5, rfl⟩ := hX5.out
          have hb5 : RB w5 rb (.slice (some ⟨fb, 0, none⟩) n n) vW (.slice (some ⟨cb, 0, none⟩) n n) s.wt s.fl (.slice ar s.row.length cr) { s.p with wv := wv3 } := RB.grown (w := w4.alloc (.cells #[.bool (decide (s.p.st = 0)), .int .i64 (numOf s.p), .string (strOfNums s.bs)] 308)) ((Below.heap_alloc w4 _ rb HX4.out.rd.lt).trans HX4.out.rd) hg (fun e => row_ne HX4.out.or e.symm HX4.out.rd (by decide) rfl);have e5 : w5.cell? ⟨rb, 5, none⟩ = some (.slice ar s.row.length cr) := hb5.head.2.2.2.2.2;have ef5 : ∀ o, w5.frozen? ⟨rb, o, none⟩ = false := hb5.part.2.2.2.2.2.2;have hb6 := (((((((hb5.setVr (.slice (some ⟨q5, 0, none⟩) (s.row.length + 1) p5)).st 0).neg false).dig 0).unit 0).num 0).wv (.slice none 0 0))
          have t6 := ((((((put_touch' (u := .slice (some ⟨q5, 0, none⟩) (s.row.length + 1) p5) (j := 5) hg rb).setCell (p := ⟨rb, 6, none⟩) (fun _ => .inl rfl) (.int .i64 0)).setCell (p := ⟨rb, 7, none⟩) (fun _ => .inl rfl) (.bool false)).setCell (p := ⟨rb, 8, none⟩) (fun _ => .inl rfl) (.int .i64 0)).setCell (p := ⟨rb, 9, none⟩) (fun _ => .inl rfl) (.int .i64 0)).setCell (p := ⟨rb, 10, none⟩) (fun _ => .inl rfl) (.int .i64 0)).setCell (p := ⟨rb, 11, none⟩) (fun _ => .inl rfl) (.slice none 0 0);have hown : OwnV w5 0 (.slice (some ⟨q5, 0, none⟩) (s.row.length + 1) p5) (s.row ++ [valOf s.p s.bs]) := OwnV.more ho
          have hown6 := ((((((Touch.refl (fun k => k = rb) w5).setCell (p := ⟨rb, 5, none⟩) (fun _ => rfl) (.slice (some ⟨q5, 0, none⟩) (s.row.length + 1) p5)).setCell (p := ⟨rb, 6, none⟩) (fun _ => rfl) (.int .i64 0)).setCell (p := ⟨rb, 7, none⟩) (fun _ => rfl) (.bool false)).setCell (p := ⟨rb, 8, none⟩) (fun _ => rfl) (.int .i64 0)).setCell (p := ⟨rb, 9, none⟩) (fun _ => rfl) (.int .i64 0)).setCell (p := ⟨rb, 10, none⟩) (fun _ => rfl) (.int .i64 0);have HP : Hid _ := HX4.out.putRow (s := s) (p := part0) (bs := []) (wt := s.wt) (fl := s.fl) t6 hb6 (hown.touch (hown6.setCell (p := ⟨rb, 11, none⟩) (fun _ => rfl) (.slice none 0 0)) (fun k hk e => row_ne hown hk hb5 (by decide) e)) (by rcases put_new' hd with h1 | h1; exact .inl h1; exact .inr (.inr h1)) (OwnB.nil _ _) (.inl rfl)
          have d5b : (w5.setCell ⟨rb, 5, none⟩ (.slice (some ⟨q5, 0, none⟩) (s.row.length + 1) p5)).cell? ⟨rb, 5, none⟩ = some (.slice (some ⟨q5, 0, none⟩) (s.row.length + 1) p5) := (hb5.setVr _).head.2.2.2.2.2;have dp := (hb5.setVr (.slice (some ⟨q5, 0, none⟩) (s.row.length + 1) p5)).part;obtain ⟨g6, g7, g8, g9, g10, g11, gf⟩ := dp;clear ho hg hd hX5 hb5 hb6 t6 hown hown6;refine hK.out _ _ e5 (fun hHeld => ?_);clear hK KK;try simp only [Act.put]
          try simp only [List.setIfInBounds_toArray]
          try simp only [List.set_cons_succ]
          try simp only [List.set_cons_zero]
          refine wpAnyS_take [12, 13] (i := 11) (v := ?_) rfl (by kernel_rfl) (by kernel_rfl) (by kernel_rfl) (by kernel_rfl) (by kernel_rfl) (fun _ _ _ h => h) (Or.inl ⟨by rfl, ?_⟩) (by assumption) ?_
          rotate_left;· intro w hSw;(try dsimp only at hSw);go_simp;try with_reducible rfl
          try simp only [Act.put]
          try simp only [List.setIfInBounds_toArray]
          try simp only [List.set_cons_succ]
          try simp only [List.set_cons_zero]
          refine wpAnyS_take [13] (i := 12) (v := ?_) rfl (by kernel_rfl) (by kernel_rfl) (by kernel_rfl) (by kernel_rfl) (by kernel_rfl) (fun _ _ _ h => h) (Or.inl ⟨by rfl, ?_⟩) (by assumption) ?_
          rotate_left;· intro w hSw;(try dsimp only at hSw);go_simp;try with_reducible rfl
          try simp only [Act.put]
          try simp only [List.setIfInBounds_toArray]
          try simp only [List.set_cons_succ]
          try simp only [List.set_cons_zero]
          refine wpAnyS_last (i := 13) (by kernel_rfl) rfl (by kernel_rfl) (fun KK hK => ?_);go_simp;refine hK.out _ _ ?_;clear hK KK;try simp only [Act.put]
          try simp only [List.setIfInBounds_toArray]
          try simp only [List.set_cons_succ]
          try simp only [List.set_cons_zero]
          refine wpAnyS_done (by kernel_rfl) ?_ _
          have HP6 : Hid (RdX ((((((((w5.setCell ⟨rb, 5, none⟩ (.slice (some ⟨q5, 0, none⟩) (s.row.length + 1) p5)).setCell ⟨rb, 6, none⟩ (.int .i64 0)).setCell ⟨rb, 7, none⟩ (.bool false)).setCell ⟨rb, 8, none⟩ (.int .i64 0)).setCell ⟨rb, 9, none⟩ (.int .i64 0)).setCell ⟨rb, 10, none⟩ (.int .i64 0)).setCell ⟨rb, 11, none⟩ (.slice none 0 0))) K (fun k => M3 k ∨ (Value.slice (some ⟨q5, 0, none⟩) (s.row.length + 1) p5).ownBlock = some k) rb fb cb n wd sc ct bins size { s with row := s.row ++ [valOf s.p s.bs], p := part0, bs := [] } vW (.slice (some ⟨q5, 0, none⟩) (s.row.length + 1) p5) (.slice none 0 0) vc /\ (∀ k, (M3 k ∨ (Value.slice (some ⟨q5, 0, none⟩) (s.row.length + 1) p5).ownBlock = some k) -> M3 k ∨ w4.heap.size <= k) /\ Touch M3 w4 ((((((((w5.setCell ⟨rb, 5, none⟩ (.slice (some ⟨q5, 0, none⟩) (s.row.length + 1) p5)).setCell ⟨rb, 6, none⟩ (.int .i64 0)).setCell ⟨rb, 7, none⟩ (.bool false)).setCell ⟨rb, 8, none⟩ (.int .i64 0)).setCell ⟨rb, 9, none⟩ (.int .i64 0)).setCell ⟨rb, 10, none⟩ (.int .i64 0)).setCell ⟨rb, 11, none⟩ (.slice none 0 0)))) := HP.out
          clear HP HVAL HX3 HT3 hHeld d5 e5 ef5 d5a;go_upto_region 7 with fail;clear g6 g7 g8 g9 g10 g11 gf d5b;generalize (((((((w5.setCell ⟨rb, 5, none⟩ (.slice (some ⟨q5, 0, none⟩) (s.row.length + 1) p5)).setCell ⟨rb, 6, none⟩ (.int .i64 0)).setCell ⟨rb, 7, none⟩ (.bool false)).setCell ⟨rb, 8, none⟩ (.int .i64 0)).setCell ⟨rb, 9, none⟩ (.int .i64 0)).setCell ⟨rb, 10, none⟩ (.int .i64 0)).setCell ⟨rb, 11, none⟩ (.slice none 0 0)) = w6 at *;obtain ⟨M6, hM6⟩ : ∃ M6 : Nat -> Prop, M6 = (fun k => M3 k ∨ (Value.slice (some ⟨q5, 0, none⟩) (s.row.length + 1) p5).ownBlock = some k) := ⟨_, rfl⟩;have HM6 : Hid ((∀ k, M6 k -> M3 k ∨ w4.heap.size <= k) /\ Touch M3 w4 w6) := by rw [hM6]; exact HP6.out.2
          have HX6 : Hid (RdX w6 K M6 rb fb cb n wd sc ct bins size { s with row := s.row ++ [valOf s.p s.bs], p := part0, bs := [] } vW (.slice (some ⟨q5, 0, none⟩) (s.row.length + 1) p5) (.slice none 0 0) vc) := (by rw [hM6]; exact HP6.out.1);have HT6 : Hid (Touch M w w6) := HT4.out.trans2 HM6.out.2 HM1.out.1
          have HN6 : Hid (∀ k, M6 k -> M k ∨ w.heap.size <= k) := fun k hk => by
            rcases HM6.out.1 k hk with h1 | h1
            exact HM1.out.1 k h1;exact .inr (by have := HT4.out.size; omega)
          have g0 : w6.cell? ⟨rb, 0, none⟩ = some (.slice (some ⟨fb, 0, none⟩) n n) := HX6.out.rd.head.1;have g5 : w6.cell? ⟨rb, 5, none⟩ = some (.slice (some ⟨q5, 0, none⟩) (s.row.length + 1) p5) := HX6.out.rd.head.2.2.2.2.2
          have hcl : ∀ i, i < n -> (s.cols i).length <= 200 := fun i hi => by rw [HI.out.col i hi]; omega
          clear hM6 HP6 HM6 HX4 HT4 HM1
          by_cases hl : s.row.length + 1 = n
          · have HRE : Hid (rowEnd n s (s.row ++ [valOf s.p s.bs]) = { ({ s with row := s.row ++ [valOf s.p s.bs], p := part0, bs := [] } : RS) with ws := s.ws ++ [s.wt], cols := fun i => if i < n then s.cols i ++ [(s.row ++ [valOf s.p s.bs]).getD i emptyV] else s.cols i, wt := 0, fl := false, row := [] }) := by show _ = _; unfold rowEnd; rw [if_pos (by simp; exact hl)]
            have HER : Hid (∀ m, Calls Tryz.prog 222 #[.pointer (some ⟨rb, 0, none⟩)] (w6.drewN m) fun e w' => e = .returned (.tuple #[]) /\ Left (w6.drewN m) K M6 rb fb cb n wd sc ct bins size { ({ s with row := s.row ++ [valOf s.p s.bs], p := part0, bs := [] } : RS) with ws := s.ws ++ [s.wt], cols := fun i => if i < n then s.cols i ++ [(s.row ++ [valOf s.p s.bs]).getD i emptyV] else s.cols i, wt := 0, fl := false, row := [] } w') := fun m => endRow_any (w := w6.drewN m) (HX6.out.touch (w' := w6.drewN m) (S := fun _ => False) ⟨rfl, rfl, rfl, Nat.le_refl _, fun _ _ _ => rfl⟩ (fun _ _ => id)) (by simp; exact hl) hn (by show s.ws.length <= 200; omega) hcl;have e1 : (((s.row.length + 1 : Nat) : Int) == (n : Int)) = true := (by simp; omega);have e2 : (((s.row.length : Int) + 1) == (n : Int)) = true := (by simp; omega);go_big_quiet (fail)
            go_wp2_with (go_at_call 222; refine (HER.out _).mono ?_; rintro e w7 ⟨rfl, hL⟩)
            go_ret;rw [HO.out, HRE.out];obtain ⟨⟨M', hM', hs'⟩, hT'⟩ := hL;refine ⟨rfl, ⟨M', hM', fun k hk => ?_⟩, HT6.out.trans2 ⟨hT'.os, hT'.tape, hT'.output, hT'.size, hT'.block⟩ HN6.out⟩
            rcases hs' k hk with h1 | h1
            exact HN6.out k h1;exact .inr (Nat.le_trans HT6.out.size h1)
          have HRE : Hid (rowEnd n s (s.row ++ [valOf s.p s.bs]) = { s with row := s.row ++ [valOf s.p s.bs], p := part0, bs := [] }) := (by show _ = _; unfold rowEnd; rw [if_neg (by simp; exact hl)]);have e1 : (((s.row.length + 1 : Nat) : Int) == (n : Int)) = false := beq_eq_false_iff_ne.2 (by omega);have e2 : (((s.row.length : Int) + 1) == (n : Int)) = false := beq_eq_false_iff_ne.2 (by omega);go_big_quiet (fail);go_wp2;go_ret;rw [HO.out, HRE.out];exact ⟨rfl, ⟨M6, ⟨_, _, _, _, HX6.out.touch (S := fun _ => False) ⟨rfl, rfl, rfl, Nat.le_refl _, fun _ _ _ => rfl⟩ (fun _ _ => id)⟩, HN6.out⟩, ⟨HT6.out.os, HT6.out.tape, HT6.out.output, HT6.out.size, HT6.out.block⟩⟩
        have hmf : mayEnd s.p.st = false := by simpa using hm
        have HO : Hid (fieldOut n wd sc s c = none) := (by show _ = _; rw [HOUT.out, if_neg (fun h => hm h.2)]);rw [hmf] at HME;rw [<- hc] at HSEP;clear hc hm hmf HOUT;go_wp2_with (first | (go_at_call 219; refine (HSEP.out).mono ?_; rintro e w' ⟨rfl, m, rfl⟩) | (go_at_call 220; refine (HME.out _).mono ?_; rintro e w' ⟨rfl, hw'⟩; obtain rfl := hw'.symm))
        go_ret;rw [HO.out];exact ⟨rfl, ⟨M3, ⟨_, _, _, _, HXD.out _⟩, HM1.out.1⟩, HTD.out _⟩
      have HO : Hid (fieldOut n wd sc s c = none) := (by show _ = _; rw [HOUT.out, if_neg (fun h => hc h.1)]);have hcb : (c == sepOf s.row.length n) = false := beq_eq_false_iff_ne.2 hc;generalize sepOf s.row.length n = sp at *;clear HOUT;go_wp2_with (first | (go_at_call 219; refine (HSEP.out).mono ?_; rintro e w' ⟨rfl, m, rfl⟩) | (go_at_call 220; refine (HME.out _).mono ?_; rintro e w' ⟨rfl, hw'⟩; obtain rfl := hw'.symm))
      go_ret;rw [HO.out];exact ⟨rfl, ⟨M3, ⟨_, _, _, _, HXD.out _⟩, HM1.out.1⟩, HTD.out _⟩
end
end Go.Proofs.YtfcgnpchbcmdeaaGreat

namespace Go.Proofs.YtfcgnpchbcmdeaaGreat
open Go.RowKit
theorem ints_form {w : World} {base : Nat} {v : Value} {L : List Int} (h : OwnI w base v L) : ∃ a c, v = .slice a L.length c := by
  rcases h.2 with ⟨rfl, h0⟩ | ⟨q, p, cur, rfl, _⟩
  exact ⟨none, 0, by rw [h0]⟩;exact ⟨_, _, rfl⟩
def TakeP (w : World) (K M : Nat -> Prop) (rb fb cb n : Nat) (wd : Nat -> Bool) (sc ct : Nat -> Int) (bins size : Int) (o : Except Int RS) (e : Ending) (w' : World) : Prop :=
  match o with
  | .error z => e = .returned (.int .i64 z) /\ Touch M w w'
  | .ok s' => e = .returned (.int .i64 0) /\ Left w K M rb fb cb n wd sc ct bins size s' w'
theorem RInv.take {n : Nat} {wd : Nat -> Bool} {sc : Nat -> Int} {s s' : RS} {c : Int} (h : RInv n s) (hn : 1 <= n) (hsc : ∀ i, i < n -> wd i = false -> 0 <= sc i /\ sc i <= 3) (ht : rtake n wd sc s c = .ok s') : RInv n s' := by
  unfold rtake at ht;split at ht
  · cases ht
  rename_i h200;split at ht
  · split at ht
    · cases ht
    injection ht with ht; subst ht; exact ⟨h.ws, h.col, h.wt0, h.wt1, h.row, h.num, h.bs⟩;rename_i z hz;injection ht with ht; subst ht;have := weightStep_in hz;exact ⟨h.ws, h.col, by show 0 <= z; omega, by show z <= 99; omega, h.row, h.num, h.bs⟩
  split at ht
  · rename_i p bs hf;injection ht with ht; subst ht
    have hok : NumOk p /\ bs.length <= 8 := by
      unfold fieldStep at hf;split at hf
      · cases hq : wordStep s.p.st s.bs c with
        | none => rw [hq] at hf; cases hf
        | some q =>
          rw [hq] at hf;injection hf with hf;injection hf with h1 h2;subst h1 h2;exact ⟨h.num.st _, wordStep_len hq h.bs⟩
      rename_i hw
      cases hq : numStep (tenTo (sc s.row.length).toNat) s.p c with
      | none => rw [hq] at hf; cases hf
      | some q =>
        rw [hq] at hf;injection hf with hf;injection hf with h1 h2;subst h1 h2;have := hsc _ h.row (by simpa using hw);have ht := tenTo_in (sc s.row.length).toNat (by omega);exact ⟨h.num.step ht.1 ht.2 hq, h.bs⟩
    exact ⟨h.ws, h.col, h.wt0, h.wt1, h.row, hok.1, hok.2⟩
  split at ht;injection ht with ht; subst ht;unfold rowEnd;split;rename_i hl;refine ⟨?_, fun i hi => ?_, Int.le_refl 0, by show (0 : Int) <= 99; decide, by show 0 < n; omega, NumOk.part0, Nat.zero_le _⟩;show (s.ws ++ [s.wt]).length <= 200;have := h.ws;simp; omega;show (if i < n then s.cols i ++ [(s.row ++ [valOf s.p s.bs]).getD i emptyV] else s.cols i).length = (s.ws ++ [s.wt]).length;rw [if_pos hi];have := h.col i hi;simp [this];rename_i hl;have := h.row;refine ⟨h.ws, h.col, h.wt0, h.wt1, ?_, NumOk.part0, Nat.zero_le _⟩;show (s.row ++ [valOf s.p s.bs]).length < n;simp at hl ⊢; omega
  cases ht
section
variable {w : World} {K M : Nat -> Prop} {rb fb cb n : Nat} {wd : Nat -> Bool} {sc ct : Nat -> Int} {bins size : Int} {s : RS}
set_option maxRecDepth 100000 in
set_option maxHeartbeats 4000000 in
theorem take_any (c : Int) (hR : RdM w K M rb fb cb n wd sc ct bins size s) (hI : RInv n s) (hn : n <= 4) (hsc : ∀ i, i < n -> wd i = false -> 0 <= sc i /\ sc i <= 3) (hc0 : 0 <= c) (hc1 : c <= 255) : Calls Tryz.prog 98 #[.pointer (some ⟨rb, 0, none⟩), .int .u8 c] w fun e w' => TakeP w K M rb fb cb n wd sc ct bins size (rtake n wd sc s c) e w' := by
  obtain ⟨vW, vr, wv, vc, hX⟩ := hR;obtain ⟨aW, cW, hvW⟩ := ints_form hX.ow
  by_cases h200 : s.ws.length = 200
  have HO : Hid (rtake n wd sc s c = .error 3) := if_pos h200;rw [h200] at hvW;subst hvW;refine (take_many rb _ aW cW _ _ _ _ _ c w hX.rd).mono ?_;rintro e w' ⟨rfl, rfl⟩;rw [HO.out];exact ⟨rfl, Touch.refl _ _⟩;have hlt : s.ws.length < 200 := (by have := hI.ws; omega);subst hvW
  cases hfl : s.fl with
  | false =>
    have hrd := hX.rd;rw [hfl] at hrd;refine (take_weight rb _ aW s.ws.length cW _ s.wt vr _ c w hrd hlt hI.wt0 hI.wt1 hc0 hc1).mono ?_;rintro e w' ⟨rfl, e', ht⟩
    have HO : rtake n wd sc s c = match weightStep s.wt c with | .no => .error 2 | .whole => .ok { s with fl := true } | .digit z => .ok { s with wt := z } := by unfold rtake; rw [if_neg h200, if_pos hfl]; cases weightStep s.wt c <;> rfl
    rw [HO];obtain ⟨hg, ht⟩ := ht;have t : Touch (fun k => k = rb ∨ some k = wv.ownBlock) w w' := (Touch.refl _ w).grown hg (fun k hk _ => .inl (by injection hk with hk; exact hk.symm))
    have tM : Touch M w w' := t.mono (fun k _ e => by
      rcases e with e | e
      exact e ▸ hX.mr
      exact hX.mw k e.symm)
    have hob : OwnB w' 0 wv s.bs := hX.ob.touch ((Touch.refl (fun k => k = rb) w).grown hg (fun k hk _ => by injection hk with hk; exact hk.symm)) (fun k hk e => by
      obtain ⟨cur, hc⟩ := row_type hX.ob hk
      exact hX.ne_of_type hc (by decide) e)
    have hM : ∀ k, (M k ∨ wv.ownBlock = some k) -> M k ∨ w.heap.size <= k := fun k e => by
      rcases e with e | e
      exact .inl e;exact .inl (hX.mw k e)
    cases hw : weightStep s.wt c with
    | no => exact ⟨rfl, tM⟩
    | whole =>
      rw [hw] at ht;exact ⟨rfl, ⟨_, ⟨_, _, _, _, hX.rewrite (p := s.p) (bs := s.bs) (wt := s.wt) (fl := true) t ht.2 hob (.inl rfl)⟩, hM⟩, tM⟩
    | digit z =>
      rw [hw] at ht;have hr2 := ht.2;rw [<- hfl] at hr2;exact ⟨rfl, ⟨_, ⟨_, _, _, _, hX.rewrite (p := s.p) (bs := s.bs) (wt := z) (fl := s.fl) t hr2 hob (.inl rfl)⟩, hM⟩, tM⟩
  | true =>
    have HC : Hid (Calls Tryz.prog 163 #[.pointer (some ⟨rb, 0, none⟩), .int .u8 c] w fun e w' => e = .returned (.bool (fieldOut n wd sc s c).isSome) /\ Left w K M rb fb cb n wd sc ct bins size ((fieldOut n wd sc s c).getD s) w') := takeInField_any c hX hI hn hlt hsc
    have HO : Hid (rtake n wd sc s c = match fieldOut n wd sc s c with | some s' => .ok s' | none => .error 2) := by
      show rtake n wd sc s c = _;unfold rtake fieldOut;rw [if_neg h200, if_neg (by rw [hfl]; decide)]
      cases fieldStep (wd s.row.length) (tenTo (sc s.row.length).toNat) s.p s.bs c with
      | some q => rfl
      | none =>
        show (if _ then _ else _) = _
        by_cases k : c = sepOf s.row.length n /\ mayEnd s.p.st = true
        rw [if_pos k, if_pos k];rw [if_neg k, if_neg k]
    obtain ⟨_, c1, _, _, c4, _⟩ := hX.rd.head;rw [hfl] at c4;have hne : ((s.ws.length : Int) == 200) = false := beq_eq_false_iff_ne.2 (by omega);have hne' : ¬ (s.ws.length : Int) = 200 := (by omega);clear hX hfl;rw [HO.out]
    cases hout : fieldOut n wd sc s c with
    | none =>
      rw [hout] at HC;clear hout;go_enter Tryz.func98, Tryz.ntmps98;go_wp2_with fail
      refine HC.out.mono ?_;rintro e w1 ⟨rfl, hL⟩
      have HL := show Hid _ from hL
      clear hL;simp only [Option.isSome];go_wp2;go_ret;exact ⟨rfl, HL.out.2⟩
    | some s' =>
      rw [hout] at HC;clear hout;go_enter Tryz.func98, Tryz.ntmps98;go_wp2_with fail
      refine HC.out.mono ?_;rintro e w1 ⟨rfl, hL⟩
      have HL := show Hid _ from hL
      clear hL;simp only [Option.isSome];go_wp2;go_ret;exact ⟨rfl, HL.out⟩
end
end Go.Proofs.YtfcgnpchbcmdeaaGreat

namespace Go.Proofs.YtfcgnpchbcmdeaaGreat
open Go.RowKit
def bytesL (b : ByteArray) : List Int := b.data.toList.map (fun u => (u.toNat : Int))
def rtakes (n : Nat) (wd : Nat -> Bool) (sc : Nat -> Int) : RS -> List Int -> Nat -> Except (Int × Nat) RS
  | s, [], _ => .ok s
  | s, c :: r, k => match rtake n wd sc s c with
    | .error z => .error (z, k)
    | .ok s' => rtakes n wd sc s' r (k + 1)
theorem rtakes_append (n : Nat) (wd : Nat -> Bool) (sc : Nat -> Int) : ∀ (a b : List Int) (s : RS) (k : Nat), rtakes n wd sc s (a ++ b) k = match rtakes n wd sc s a k with
    | .error z => .error z
    | .ok s' => rtakes n wd sc s' b (k + a.length)
  | [], b, s, k => by simp [rtakes]
  | c :: a, b, s, k => by
    simp only [List.cons_append, rtakes]
    cases rtake n wd sc s c with
    | error z => rfl
    | ok s' =>
      have := rtakes_append n wd sc a b s' (k + 1);simp only;rw [this, show k + 1 + a.length = k + (c :: a).length by simp; omega]
theorem RInv.takes {n : Nat} {wd : Nat -> Bool} {sc : Nat -> Int} (hn : 1 <= n) (hsc : ∀ i, i < n -> wd i = false -> 0 <= sc i /\ sc i <= 3) : ∀ (l : List Int) {s s' : RS} {k : Nat}, RInv n s -> rtakes n wd sc s l k = .ok s' -> RInv n s'
  | [], s, s', k, h, e => by injection e with e; subst e; exact h
  | c :: l, s, s', k, h, e => by
    simp only [rtakes] at e
    cases ht : rtake n wd sc s c with
    | error z => rw [ht] at e; cases e
    | ok s1 => rw [ht] at e; exact RInv.takes hn hsc l (h.take hn hsc ht) e
theorem rtake_err {n : Nat} {wd : Nat -> Bool} {sc : Nat -> Int} {s : RS} {c z : Int} (h : rtake n wd sc s c = .error z) : z = 2 ∨ z = 3 := by
  unfold rtake at h;split at h;injection h with h; exact .inr h.symm;split at h
  · split at h;injection h with h; exact .inl h.symm
    · cases h
    cases h
  split at h
  · cases h
  split at h
  · cases h
  injection h with h; exact .inl h.symm
structure InX (w : World) (K M : Nat -> Prop) (ib tb rb fb cb n : Nat) (wd : Nat -> Bool) (sc ct : Nat -> Int) (bins size budget : Int) (s : RS) (len : Nat) : Prop where
  ik : w.heap[ib]? = some (.cells #[.pointer (some ⟨tb, 0, none⟩), .bool false, .int .i64 0, .int .i64 0] 119 (0, 0))
  tx : w.heap[tb]? = some (.cells #[.slice (some ⟨fb, 0, none⟩) n n, .int .i64 budget, .pointer (some ⟨rb, 0, none⟩), .int .i64 len] 158 (0, 0))
  rd : RdM w K M rb fb cb n wd sc ct bins size s
  ni : ¬ K ib /\ ¬ M ib
  nt : ¬ K tb /\ ¬ M tb
section
variable {w : World} {K M : Nat -> Prop} {ib tb rb fb cb n : Nat} {wd : Nat -> Bool} {sc ct : Nat -> Int} {bins size budget : Int} {s : RS} {len : Nat}
theorem InX.ne (h : InX w K M ib tb rb fb cb n wd sc ct bins size budget s len) : ib ≠ tb := fun e => by have h1 := h.ik;rw [e, h.tx] at h1;simp at h1
def FedP (w : World) (K M : Nat -> Prop) (ib tb rb fb cb n : Nat) (wd : Nat -> Bool) (sc ct : Nat -> Int) (bins size budget : Int) (len : Nat) (o : Except (Int × Nat) RS) (w' : World) : Prop :=
  (match o with
  | .error (z, p) => w'.heap[ib]? = some (.cells #[.pointer none, .bool false, .int .i64 z, .int .i64 p] 119 (0, 0))
  | .ok s' => ∃ M', InX w' K M' ib tb rb fb cb n wd sc ct bins size budget s' len /\ (∀ k, M' k -> M k ∨ w.heap.size <= k)) /\ Touch (fun k => M k ∨ k = ib ∨ k = tb) w w'
set_option maxRecDepth 100000 in
set_option maxHeartbeats 4000000 in
theorem intake_any (b : ByteArray) (hX : InX w K M ib tb rb fb cb n wd sc ct bins size budget s len) (hI : RInv n s) (hn1 : 1 <= n) (hn : n <= 4) (hsc : ∀ i, i < n -> wd i = false -> 0 <= sc i /\ sc i <= 3) (hlen : len + b.size <= 4000000000000000000) : Calls Tryz.prog 58 #[.pointer (some ⟨ib, 0, none⟩), .string b] w fun e w' => e = .returned (.tuple #[]) /\ FedP w K M ib tb rb fb cb n wd sc ct bins size budget (len + b.size) (rtakes n wd sc s (bytesL b) len) w' := by
  have HX : Hid (InX w K M ib tb rb fb cb n wd sc ct bins size budget s len) := hX;clear hX;go_enter Tryz.func58, Tryz.ntmps58;go_wp2_with fail
  go_loopw [8] (fun ti wr => ∃ (k : Nat) (sk : RS) (Mk : Nat -> Prop), k <= b.size /\ ti = .int .i64 k /\ Hid (rtakes n wd sc s ((bytesL b).take k) len = .ok sk) /\ Hid (InX wr K Mk ib tb rb fb cb n wd sc ct bins size budget sk (len + k)) /\ Hid ((∀ z, Mk z -> M z ∨ w.heap.size <= z) /\ Touch (fun z => M z ∨ z = ib ∨ z = tb) w wr)) (fun ti _ => b.size - (intOf ti).toNat)
  case atStart => exact ⟨0, s, M, Nat.zero_le _, rfl, rfl, HX.out, fun _ e => .inl e, Touch.refl _ _⟩
  case round =>
    obtain ⟨k, sk, Mk, hk, rfl, HR, HXk, HT⟩ := hrel;have i0 : wr.cell? ⟨ib, 0, none⟩ = some (.pointer (some ⟨tb, 0, none⟩)) := cell_of_row _ _ 0 _ 119 (0, 0) HXk.out.ik;have i2 : wr.cell? ⟨ib, 2, none⟩ = some (.int .i64 0) := cell_of_row _ _ 2 _ 119 (0, 0) HXk.out.ik;have i3 : wr.cell? ⟨ib, 3, none⟩ = some (.int .i64 0) := cell_of_row _ _ 3 _ 119 (0, 0) HXk.out.ik;have t2 : wr.cell? ⟨tb, 2, none⟩ = some (.pointer (some ⟨rb, 0, none⟩)) := cell_of_row _ _ 2 _ 158 (0, 0) HXk.out.tx
    by_cases hlt : k < b.size
    · have bk1 : (0 : Int) <= (k : Int) := (by omega);have bk2 : (k : Int) < (b.size : Int) := (by omega);go_upto_region 3 with fail;have HC : Hid (Calls Tryz.prog 98 #[.pointer (some ⟨rb, 0, none⟩), .int .u8 (b[k].toNat : Int)] wr.drew fun e w' => TakeP wr.drew K Mk rb fb cb n wd sc ct bins size (rtake n wd sc sk (b[k].toNat : Int)) e w') := take_any (w := wr.drew) _ (HXk.out.rd.touch (w' := wr.drew) (S := fun _ => False) (Touch.refl _ wr).drew (fun _ _ => id)) (RInv.takes hn1 hsc _ hI HR.out) hn hsc (by omega) (by have := UInt8.toNat_lt b[k]; omega);refine wp_region_S (fun w' => w'.cell? ⟨ib, 0, none⟩ = some (.pointer (some ⟨tb, 0, none⟩)) /\ w'.cell? ⟨tb, 2, none⟩ = some (.pointer (some ⟨rb, 0, none⟩))) 10 (by kernel_rfl) ⟨i0, t2⟩ (fun hHeld => ?_);refine tkM [1, 2, 3, 4, 5, 6, 10, 11] 0 (v := ?_) ?_ ?_
      rotate_left;· intro w hSw;(try dsimp only at hSw);go_simp;try with_reducible rfl
      try simp only [Act.put]
      try simp only [List.setIfInBounds_toArray]
      try simp only [List.set_cons_succ]
      try simp only [List.set_cons_zero]
      refine tkM [2, 3, 4, 5, 6, 10, 11] 1 (v := ?_) ?_ ?_
      rotate_left;· intro w hSw;(try dsimp only at hSw);go_simp;try with_reducible rfl
      try simp only [Act.put]
      try simp only [List.setIfInBounds_toArray]
      try simp only [List.set_cons_succ]
      try simp only [List.set_cons_zero]
      refine tkM [3, 4, 5, 6, 10, 11] 2 (v := ?_) ?_ ?_
      rotate_left;· intro w hSw;(try dsimp only at hSw);go_simp;try with_reducible rfl
      try simp only [Act.put]
      try simp only [List.setIfInBounds_toArray]
      try simp only [List.set_cons_succ]
      try simp only [List.set_cons_zero]
      refine tkM [4, 5, 6, 10, 11] 3 (v := ?_) ?_ ?_
      rotate_left
      · intro w hSw;try obtain ⟨_, _⟩ := hSw
        (try dsimp only at hSw)
        go_simp;try with_reducible rfl
      try simp only [Act.put]
      try simp only [List.setIfInBounds_toArray]
      try simp only [List.set_cons_succ]
      try simp only [List.set_cons_zero]
      refine tkM [5, 6, 10, 11] 4 (v := ?_) ?_ ?_
      rotate_left;· intro w hSw;(try dsimp only at hSw);go_simp;try with_reducible rfl
      try simp only [Act.put]
      try simp only [List.setIfInBounds_toArray]
      try simp only [List.set_cons_succ]
      try simp only [List.set_cons_zero]
      refine tkM [6, 10, 11] 5 (v := ?_) ?_ ?_
      rotate_left;· intro w hSw;(try dsimp only at hSw);go_simp;try with_reducible rfl
      try simp only [Act.put]
      try simp only [List.setIfInBounds_toArray]
      try simp only [List.set_cons_succ]
      try simp only [List.set_cons_zero]
      refine tkM [10, 11] 6 (v := ?_) ?_ ?_
      rotate_left
      · intro w hSw;try obtain ⟨_, _⟩ := hSw
        (try dsimp only at hSw)
        go_simp;try with_reducible rfl
      try simp only [Act.put]
      try simp only [List.setIfInBounds_toArray]
      try simp only [List.set_cons_succ]
      try simp only [List.set_cons_zero]
      refine tkM [9, 10, 11] 7 (v := ?_) ?_ ?_
      rotate_left;· intro w hSw;(try dsimp only at hSw);go_simp;try with_reducible rfl
      try simp only [Act.put]
      try simp only [List.setIfInBounds_toArray]
      try simp only [List.set_cons_succ]
      try simp only [List.set_cons_zero]
      refine tkM [9, 10, 11] 8 (v := ?_) ?_ ?_
      rotate_left;· intro w hSw;(try dsimp only at hSw);go_simp;try with_reducible rfl
      try simp only [Act.put]
      try simp only [List.setIfInBounds_toArray]
      try simp only [List.set_cons_succ]
      try simp only [List.set_cons_zero]
      refine tkM [10, 11] 9 (v := ?_) ?_ ?_
      rotate_left;· intro w hSw;(try dsimp only at hSw);go_simp;try with_reducible rfl
      try simp only [Act.put]
      try simp only [List.setIfInBounds_toArray]
      try simp only [List.set_cons_succ]
      try simp only [List.set_cons_zero]
      refine wpAnyS_lastL (i := 10) (by kernel_rfl) rfl (by kernel_rfl) (fun KK hK => ?_);go_simp;refine (HC.out).mono ?_;intro e w1 hP;have HP : Hid (TakeP wr.drew K Mk rb fb cb n wd sc ct bins size (rtake n wd sc sk (b[k].toNat : Int)) e w1) := hP
      have he : ∃ z : Int, e = .returned (.int .i64 z) := by
        unfold TakeP at hP
        cases ht : rtake n wd sc sk (b[k].toNat : Int) with
        | error z => rw [ht] at hP; exact ⟨z, hP.1⟩
        | ok s' => rw [ht] at hP; exact ⟨0, hP.1⟩
      obtain ⟨z, rfl⟩ := he;clear hP;go_simp;refine hK.out _ _ ?_;clear hK KK;try simp only [Act.put]
      try simp only [List.setIfInBounds_toArray]
      try simp only [List.set_cons_succ]
      try simp only [List.set_cons_zero]
      refine wpAnyS_lastL (i := 11) (by kernel_rfl) rfl (by kernel_rfl) (fun KK hK => ?_);go_simp;refine hK.out _ _ ?_;clear hK KK;try simp only [Act.put]
      try simp only [List.setIfInBounds_toArray]
      try simp only [List.set_cons_succ]
      try simp only [List.set_cons_zero]
      refine wpAnyS_done (by kernel_rfl) ?_ _;have HKB : Hid ((bytesL b).take (k + 1) = (bytesL b).take k ++ [(b[k].toNat : Int)]) := (by show _ = _;rw [List.take_succ_eq_append_getElem (by unfold bytesL; rw [List.length_map]; exact hlt)];congr 2;simp only [bytesL, List.getElem_map];rfl);have HRS : Hid (rtakes n wd sc s ((bytesL b).take (k + 1)) len = match rtake n wd sc sk (b[k].toNat : Int) with | .error z => .error (z, len + k) | .ok s' => .ok s') := (by show _ = _;rw [HKB.out, rtakes_append, HR.out];have hl : ((bytesL b).take k).length = k := (by rw [List.length_take]; unfold bytesL; rw [List.length_map]; exact Nat.min_eq_left hk);simp only [hl, rtakes]);clear HC hHeld i0 i2 i3 t2;have hne := HXk.out.ne
      cases hrt : rtake n wd sc sk (b[k].toNat : Int) with
      | error y =>
        rw [hrt] at HP HRS;have HPO : Hid (Value.int .i64 z = .int .i64 y /\ Touch Mk wr.drew w1) := ⟨by have := HP.out.1; injection this, HP.out.2⟩;obtain ⟨hz, ht⟩ := HPO.out;injection hz with _ hz;subst hz;have hT1 : Touch Mk wr w1 := ht.undrew;have hi1 : w1.heap[ib]? = some (.cells #[.pointer (some ⟨tb, 0, none⟩), .bool false, .int .i64 0, .int .i64 0] 119 (0, 0)) := hT1.at_ HXk.out.ik HXk.out.ni.2;have htx1 : w1.heap[tb]? = some (.cells #[.slice (some ⟨fb, 0, none⟩) n n, .int .i64 budget, .pointer (some ⟨rb, 0, none⟩), .int .i64 ((len + k : Nat) : Int)] 158 (0, 0)) := hT1.at_ HXk.out.tx HXk.out.nt.2;have j0 : w1.cell? ⟨ib, 0, none⟩ = some (.pointer (some ⟨tb, 0, none⟩)) := cell_of_row _ _ 0 _ 119 (0, 0) hi1;have j2 : w1.cell? ⟨ib, 2, none⟩ = some (.int .i64 0) := cell_of_row _ _ 2 _ 119 (0, 0) hi1
        have j3 : w1.cell? ⟨ib, 3, none⟩ = some (.int .i64 0) := cell_of_row _ _ 3 _ 119 (0, 0) hi1;have jf : ∀ o, w1.frozen? ⟨ib, o, none⟩ = false := fun o => frozen_of_row _ _ o _ 119 hi1;have x3 : w1.cell? ⟨tb, 3, none⟩ = some (.int .i64 ((len + k : Nat) : Int)) := cell_of_row _ _ 3 _ 158 (0, 0) htx1;have hfin : (((w1.setCell ⟨ib, 2, none⟩ (.int .i64 z)).setCell ⟨ib, 3, none⟩ (.int .i64 ((len + k : Nat) : Int))).setCell ⟨ib, 0, none⟩ (.pointer none)).heap[ib]? = some (.cells #[.pointer none, .bool false, .int .i64 z, .int .i64 ((len + k : Nat) : Int)] 119 (0, 0)) := heap_setCell_same _ ib 0 _ 119 _ (heap_setCell_same _ ib 3 _ 119 _ (heap_setCell_same w1 ib 2 _ 119 _ hi1))
        have HFIN : Hid (FedP w K M ib tb rb fb cb n wd sc ct bins size budget (len + b.size) (rtakes n wd sc s (bytesL b) len) (((w1.setCell ⟨ib, 2, none⟩ (.int .i64 z)).setCell ⟨ib, 3, none⟩ (.int .i64 ((len + k : Nat) : Int))).setCell ⟨ib, 0, none⟩ (.pointer none))) := by have e : rtakes n wd sc s (bytesL b) len = .error (z, len + k) := (by have : bytesL b = (bytesL b).take (k + 1) ++ (bytesL b).drop (k + 1) := (List.take_append_drop _ _).symm;rw [this, rtakes_append, HRS.out]);rw [e];refine ⟨hfin, ?_⟩;have t1 : Touch (fun q => M q ∨ q = ib ∨ q = tb) w w1 := HT.out.2.trans2 hT1 (fun q hq => by rcases HT.out.1 q hq with h1 | h1; exact .inl (.inl h1); exact .inr h1);exact ((t1.setCell (p := ⟨ib, 2, none⟩) (fun _ => .inr (.inl rfl)) _).setCell (p := ⟨ib, 3, none⟩) (fun _ => .inr (.inl rfl)) _).setCell (p := ⟨ib, 0, none⟩) (fun _ => .inr (.inl rfl)) _
        have HZ : Hid (z = 2 ∨ z = 3) := rtake_err hrt;clear hrt HPO ht hT1 hi1 htx1 hfin HRS HP
        rcases HZ.out with rfl | rfl
        · go_wp2;exact bodyPost_ret (results_none rfl _ _ _) rfl ⟨rfl, HFIN.out⟩
        go_wp2;exact bodyPost_ret (results_none rfl _ _ _) rfl ⟨rfl, HFIN.out⟩
      | ok s1 =>
        rw [hrt] at HP HRS;have HPO : Hid (Value.int .i64 z = .int .i64 0 /\ Left wr.drew K Mk rb fb cb n wd sc ct bins size s1 w1) := ⟨by have := HP.out.1; injection this, HP.out.2⟩;obtain ⟨hz, ⟨M1, hR1, hM1⟩, ht⟩ := HPO.out;injection hz with _ hz;subst hz;have hT1 : Touch Mk wr w1 := ht.undrew;have hi1 : w1.heap[ib]? = some (.cells #[.pointer (some ⟨tb, 0, none⟩), .bool false, .int .i64 0, .int .i64 0] 119 (0, 0)) := hT1.at_ HXk.out.ik HXk.out.ni.2;have htx1 : w1.heap[tb]? = some (.cells #[.slice (some ⟨fb, 0, none⟩) n n, .int .i64 budget, .pointer (some ⟨rb, 0, none⟩), .int .i64 ((len + k : Nat) : Int)] 158 (0, 0)) := hT1.at_ HXk.out.tx HXk.out.nt.2;have j0 : w1.cell? ⟨ib, 0, none⟩ = some (.pointer (some ⟨tb, 0, none⟩)) := cell_of_row _ _ 0 _ 119 (0, 0) hi1;have x3 : w1.cell? ⟨tb, 3, none⟩ = some (.int .i64 ((len + k : Nat) : Int)) := cell_of_row _ _ 3 _ 158 (0, 0) htx1
        have xf : ∀ o, w1.frozen? ⟨tb, o, none⟩ = false := fun o => frozen_of_row _ _ o _ 158 htx1;have hib : ib < wr.heap.size := (Array.getElem?_eq_some_iff.1 HXk.out.ik).1;have htb : tb < wr.heap.size := (Array.getElem?_eq_some_iff.1 HXk.out.tx).1
        have ni1 : ¬ M1 ib := fun e => by rcases hM1 ib e with h1 | h1; exact HXk.out.ni.2 h1; exact absurd hib (by simpa using h1)
        have nt1 : ¬ M1 tb := fun e => by rcases hM1 tb e with h1 | h1; exact HXk.out.nt.2 h1; exact absurd htb (by simpa using h1)
        have HNX : Hid (InX (w1.setCell ⟨tb, 3, none⟩ (.int .i64 (((len + k : Nat) : Int) + 1))) K M1 ib tb rb fb cb n wd sc ct bins size budget s1 (len + (k + 1))) := by
          refine ⟨(Below.heap_setCell _ _ _ _ (fun e => hne e)).trans hi1, ?_, hR1.touch ((Touch.refl (fun q => q = tb) w1).setCell (p := ⟨tb, 3, none⟩) (fun _ => rfl) _) ?_, ⟨HXk.out.ni.1, ni1⟩, ⟨HXk.out.nt.1, nt1⟩⟩;have := heap_setCell_same w1 tb 3 _ 158 (.int .i64 (((len + k : Nat) : Int) + 1)) htx1;rw [this];have : (((len + k : Nat) : Int) + 1) = ((len + (k + 1) : Nat) : Int) := (by omega);rw [this]; rfl;intro q hq e;subst e
          rcases hq with h1 | h1
          exact HXk.out.nt.1 h1;exact nt1 h1
        have HNT : Hid ((∀ q, M1 q -> M q ∨ w.heap.size <= q) /\ Touch (fun q => M q ∨ q = ib ∨ q = tb) w (w1.setCell ⟨tb, 3, none⟩ (.int .i64 (((len + k : Nat) : Int) + 1)))) := by
          refine ⟨fun q hq => ?_, ?_⟩
          · rcases hM1 q hq with h1 | h1
            exact HT.out.1 q h1;exact .inr (Nat.le_trans HT.out.2.size h1)
          exact (HT.out.2.trans2 hT1 (fun q hq => by rcases HT.out.1 q hq with h1 | h1; exact .inl (.inl h1); exact .inr h1)).setCell (p := ⟨tb, 3, none⟩) (fun _ => .inr (.inr rfl)) _
        have hwr : IntKind.i64.wrap (((len + k : Nat) : Int) + 1) = ((len + k : Nat) : Int) + 1 := wrapI (by omega) (by omega);generalize ((len + k : Nat) : Int) = lk at *;clear hrt HPO hR1 hM1 ht hT1 hi1 htx1 HP HXk HT ni1 nt1;go_wp2;go_roundw;case rel => exact ⟨k + 1, s1, M1, by omega, by go_num, HRS.out, HNX.out, HNT.out⟩
        case measure => simp [intOf]; omega
    obtain rfl : k = b.size := (by omega);have HE : Hid ((bytesL b).take b.size = bytesL b) := List.take_of_length_le (by unfold bytesL; rw [List.length_map]; exact Nat.le_refl _);go_wp2;go_end0;refine ⟨rfl, ?_, HT.out.2⟩;rw [<- HE.out, HR.out];exact ⟨Mk, HXk.out, HT.out.1⟩
end
end Go.Proofs.YtfcgnpchbcmdeaaGreat

namespace Go.Proofs.YtfcgnpchbcmdeaaGreat
set_option maxRecDepth 100000
set_option maxHeartbeats 4000000
open Go.RowKit
def fedAns : Except (Int × Nat) RS -> Int × Int
  | .error (z, p) => (z, p)
  | .ok _ => (0, 0)
def DeadX (w : World) (ib : Nat) (cl : Bool) (z p : Int) : Prop := w.heap[ib]? = some (.cells #[.pointer none, .bool cl, .int .i64 z, .int .i64 p] 119 (0, 0))
section
variable {w : World} {K M : Nat -> Prop} {ib tb rb fb cb n : Nat} {wd : Nat -> Bool} {sc ct : Nat -> Int} {bins size budget : Int} {s : RS} {len : Nat}
theorem FedP.drewN {o : Except (Int × Nat) RS} {w' : World} (h : FedP w K M ib tb rb fb cb n wd sc ct bins size budget len o w') (m : Nat) : FedP w K M ib tb rb fb cb n wd sc ct bins size budget len o (w'.drewN m) := by
  obtain ⟨h1, h2⟩ := h;refine ⟨?_, ⟨h2.os, h2.tape, h2.output, h2.size, h2.block⟩⟩
  cases o with
  | error q => exact h1
  | ok s' =>
    obtain ⟨M', hX, hM⟩ := h1;exact ⟨M', ⟨hX.ik, hX.tx, hX.rd.touch (w' := w'.drewN m) (S := fun _ => False) ⟨rfl, rfl, rfl, Nat.le_refl _, fun _ _ _ => rfl⟩ (fun _ _ => id), hX.ni, hX.nt⟩, hM⟩
theorem feed_any (b : ByteArray) (hX : InX w K M ib tb rb fb cb n wd sc ct bins size budget s len) (hI : RInv n s) (hn1 : 1 <= n) (hn : n <= 4) (hsc : ∀ i, i < n -> wd i = false -> 0 <= sc i /\ sc i <= 3) (hlen : len + b.size <= 4000000000000000000) : Calls Tryz.prog 32 #[.pointer (some ⟨ib, 0, none⟩), .string b] w fun e w' => e = .returned (.tuple #[.int .i64 (fedAns (rtakes n wd sc s (bytesL b) len)).1, .int .i64 (fedAns (rtakes n wd sc s (bytesL b) len)).2]) /\ FedP w K M ib tb rb fb cb n wd sc ct bins size budget (len + b.size) (rtakes n wd sc s (bytesL b) len) w' := by
  have HC : Hid (Calls Tryz.prog 58 #[.pointer (some ⟨ib, 0, none⟩), .string b] w fun e w' => e = .returned (.tuple #[]) /\ FedP w K M ib tb rb fb cb n wd sc ct bins size budget (len + b.size) (rtakes n wd sc s (bytesL b) len) w') := intake_any b hX hI hn1 hn hsc hlen;have i1 : w.cell? ⟨ib, 1, none⟩ = some (.bool false) := cell_of_row _ _ 1 _ 119 (0, 0) hX.ik;have i2 : w.cell? ⟨ib, 2, none⟩ = some (.int .i64 0) := cell_of_row _ _ 2 _ 119 (0, 0) hX.ik;clear hX;go_enter Tryz.func32, Tryz.ntmps32;go_wp2_with fail
  refine HC.out.mono ?_;rintro e w1 ⟨rfl, hF⟩;have HF : Hid (FedP w K M ib tb rb fb cb n wd sc ct bins size budget (len + b.size) (rtakes n wd sc s (bytesL b) len) w1) := hF
  have hc : w1.cell? ⟨ib, 2, none⟩ = some (.int .i64 (fedAns (rtakes n wd sc s (bytesL b) len)).1) /\ w1.cell? ⟨ib, 3, none⟩ = some (.int .i64 (fedAns (rtakes n wd sc s (bytesL b) len)).2) := by
    cases hr : rtakes n wd sc s (bytesL b) len with
    | error q =>
      rw [hr] at hF;exact ⟨cell_of_row _ _ 2 _ 119 (0, 0) hF.1, cell_of_row _ _ 3 _ 119 (0, 0) hF.1⟩
    | ok s' =>
      rw [hr] at hF;obtain ⟨⟨M', hX, _⟩, _⟩ := hF;exact ⟨cell_of_row _ _ 2 _ 119 (0, 0) hX.ik, cell_of_row _ _ 3 _ 119 (0, 0) hX.ik⟩
  obtain ⟨c2, c3⟩ := hc;clear hF i1 i2 HC;go_wp2_with fail
  go_big_quiet (fail);go_wp2;go_ret2
  exact ⟨rfl, HF.out.drewN _⟩
end
theorem feed_fault (b : ByteArray) (ib : Nat) (z p : Int) (w : World) (h : DeadX w ib false z p) (hz : z = 2 ∨ z = 3) : Calls Tryz.prog 32 #[.pointer (some ⟨ib, 0, none⟩), .string b] w fun e w' => e = .returned (.tuple #[.int .i64 z, .int .i64 p]) /\ ∃ m, w' = w.drewN m := by
  have i1 : w.cell? ⟨ib, 1, none⟩ = some (.bool false) := cell_of_row _ _ 1 _ 119 (0, 0) h;have i2 : w.cell? ⟨ib, 2, none⟩ = some (.int .i64 z) := cell_of_row _ _ 2 _ 119 (0, 0) h;have i3 : w.cell? ⟨ib, 3, none⟩ = some (.int .i64 p) := cell_of_row _ _ 3 _ 119 (0, 0) h;clear h
  rcases hz with rfl | rfl
  all_goals go_enter Tryz.func32, Tryz.ntmps32
  all_goals go_wp2_with fail
  all_goals go_big_quiet (fail)
  all_goals go_wp2
  all_goals go_ret2
  all_goals exact ⟨rfl, _, rfl⟩
end Go.Proofs.YtfcgnpchbcmdeaaGreat
