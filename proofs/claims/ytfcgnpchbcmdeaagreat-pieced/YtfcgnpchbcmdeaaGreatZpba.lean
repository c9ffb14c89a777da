import Derived.Test.YtfcgnpchbcmdeaaGreatZpaz
import Derived.Test.YtfcgnpchbcmdeaaGreatZpbb
import Derived.Test.YtfcgnpchbcmdeaaGreatZpaq
namespace Go.Proofs.YtfcgnpchbcmdeaaGreat
open Go.RowKit
theorem colStep_off (Ks : List KS) (Os : List (List Bool)) (Bb : List (List Nat)) (n : Nat) : ∀ (fs : List Nat) (s : CS), s.off <= (fs.foldl (colStep Ks Os Bb n) s).off
  | [], s => Nat.le_refl _
  | f :: fs, s => by have := colStep_off Ks Os Bb n fs (colStep Ks Os Bb n s f);simp only [List.foldl_cons];have h2 : s.off <= (colStep Ks Os Bb n s f).off := (by simp [colStep]);omega
theorem colStep_len (Ks : List KS) (Os : List (List Bool)) (Bb : List (List Nat)) (n : Nat) : ∀ (fs : List Nat) (s : CS), s.N.length = n -> (fs.foldl (colStep Ks Os Bb n) s).N.length = n /\ (fs.foldl (colStep Ks Os Bb n) s).xs.length <= s.xs.length + fs.length * n
  | [], s, h => ⟨h, by simp⟩
  | f :: fs, s, h => by have h1 : (colStep Ks Os Bb n s f).N.length = n := (by show (putN _ _ _ _ n).length = n;rw [putN_len _ _ _ _ (by omega)]; exact h);have h2 : (colStep Ks Os Bb n s f).xs.length <= s.xs.length + n := (by show (s.xs ++ putX _ _ _ _ n).length <= _;have := putX_len f (Os.getD f []) (Bb.getD f []) s.N n;rw [List.length_append]; omega);obtain ⟨i1, i2⟩ := colStep_len Ks Os Bb n fs _ h1;simp only [List.foldl_cons, List.length_cons];refine ⟨i1, ?_⟩;rw [Nat.add_mul, Nat.one_mul];omega
theorem DsX.moreB {w w' : World} {db : Nat} {vK vB vX vB' : Value} {bvs bvs' : List (Value × Value)} {bs bs' : List BS} {xs : List XS} (h : DsX w db vK vB vX bvs bs xs) (hg : w.grownBy w' vB.ownBlock) (hb : BunX w' vB' bvs' bs') : DsX (w'.setCell ⟨db, 1, none⟩ vB') db vK vB' vX bvs' bs' xs := by
  have t : Touch (fun k => vB.ownBlock = some k) w w' := (Touch.refl _ w).grown hg (fun k hk _ => hk)
  have hblk : w'.heap[db]? = some (.cells #[vK, vB, vX] 168 (0, 0)) := t.at_ h.blk (fun e => by
    obtain ⟨c, hc⟩ := row_type h.bn.row e;have := h.blk;rw [hc] at this
    simp at this)
  have hxn : OwnX w' 0 vX xs := t.row h.xn (fun k hk hk2 => by
    obtain ⟨c, hc⟩ := row_type h.xn hk;obtain ⟨c2, hc2⟩ := row_type h.bn.row hk2;rw [hc] at hc2
    simp at hc2)
  have t2 : Touch (fun k => k = db) w' (w'.setCell ⟨db, 1, none⟩ vB') := (Touch.refl (fun k => k = db) w').setCell (p := ⟨db, 1, none⟩) (fun _ => rfl) vB'
  have hst2 : STy (fun k => k = db) w' := fun k cur ty hk hs => by subst hs;rw [hblk] at hk;simp at hk;exact .inl hk.2.symm
  refine ⟨heap_setCell_same _ db 1 _ 168 _ hblk, hb.touch t2 (fun k hk e => ?_) hst2, own_put' hxn hblk (by decide)⟩;subst e;obtain ⟨c2, hc2⟩ := row_type hb.row hk;rw [hblk] at hc2;simp at hc2
def AddedP (w w' : World) (db : Nat) (vK vB vX : Value) (bs : List BS) (xs : List XS) : Prop := ∃ vB' vX' bvs', DsX w' db vK vB' vX' bvs' bs xs /\ Touch (DsS db vB vX) w w' /\ ∀ k, DsS db vB' vX' k -> DsS db vB vX k ∨ w.heap.size <= k
theorem DsX.touch {S : Nat -> Prop} {w w' : World} {db : Nat} {vK vB vX : Value} {bvs : List (Value × Value)} {bs : List BS} {xs : List XS} (h : DsX w db vK vB vX bvs bs xs) (t : Touch S w w') (hs : ∀ k ty cur, w.heap[k]? = some (.cells cur ty (0, 0)) -> ty ≠ 3 -> ¬ S k) (hfs : ∀ i, i < bs.length -> ∀ k, (bvs.getD i vv0).1.ownBlock = some k -> ¬ S k) : DsX w' db vK vB vX bvs bs xs := by
  have hr : ∀ {base e size n : Nat} {v : Value} {l : List Value}, w.ownsRow base e size v n l -> e ≠ 3 -> ∀ k, v.ownBlock = some k -> ¬ S k := fun hh he k hk => by obtain ⟨cur, hc⟩ := row_type hh hk;exact hs k _ cur hc he
  refine ⟨t.at_ h.blk (hs db _ _ h.blk (by decide)), ⟨t.row h.bn.row (hr h.bn.row (by decide)), h.bn.len, fun i hi => ⟨t.row (h.bn.each i hi).1 (hfs i hi), ?_⟩⟩, t.row h.xn (hr h.xn (by decide))⟩
  rcases (h.bn.each i hi).2 with ⟨h1, p, e, sb, vc, e2, hb, hX⟩ | ⟨h1, p, e, d2, q, e2, hb, hX⟩
  exact .inl ⟨h1, p, e, sb, vc, e2, hb, t.at_ hX.blk (hs _ _ _ hX.blk (by decide)), t.row hX.row (hr hX.row (by decide))⟩;exact .inr ⟨h1, p, e, d2, q, e2, hb, t.at_ hX.blk (hs _ _ _ hX.blk (by decide)), t.row hX.row (hr hX.row (by decide))⟩
structure MidX (w wr : World) (db : Nat) (vK vB vX vX' : Value) (bvs : List (Value × Value)) (bs : List BS) (qn n : Nat) (N : List Nat) (xs : List XS) : Prop where
  ds : DsX wr db vK vB vX' bvs bs xs
  nm : OwnI wr w.heap.size (.slice (some ⟨qn, 0, none⟩) n n) (natI N)
  t : Touch (DsS db vB vX) w wr
  nx : ∀ k, vX'.ownBlock = some k -> DsS db vB vX k ∨ w.heap.size <= k
theorem MidX.below {w wr w2 : World} {db : Nat} {vK vB vX vX' : Value} {bvs : List (Value × Value)} {bs : List BS} {qn n : Nat} {N : List Nat} {xs : List XS} (h : MidX w wr db vK vB vX vX' bvs bs qn n N xs) (hb : Below wr.heap.size wr w2) : MidX w w2 db vK vB vX vX' bvs bs qn n N xs :=
  ⟨h.ds.below hb, h.nm.below hb, h.t.below hb, h.nx⟩
set_option maxRecDepth 100000 in
set_option maxHeartbeats 8000000 in
theorem addBundle_any (db gb m n qk kc qf fc qo oc conf bns : Nat) (vB vX vf : Value) (oa : Option Addr) (occ : Nat) (bvs kvs : List (Value × Value)) (fvs : List (Value × Value × Value)) (os : List Value) (bs : List BS) (xs : List XS) (Ks : List KS) (es : List ES) (Bb : List (List Nat)) (Os : List (List Bool)) (fs : List Nat) (w : World) (hD : DsX w db (.slice (some ⟨qk, 0, none⟩) (m + 1) kc) vB vX bvs bs xs) (hK : KnsX w (.slice (some ⟨qk, 0, none⟩) (m + 1) kc) kvs Ks) (hKl : Ks.length = m + 1) (hgb : w.heap[gb]? = some (.cells #[vf, .slice oa n occ, .int .i64 (conf : Nat), .int .i64 (bns : Nat)] 351 (0, 0))) (hfs : OwnI w 0 vf (natI fs)) (hF : BndX w (.slice (some ⟨qf, 0, none⟩) (m + 1) fc) fvs es Bb) (hEl : es.length = m + 1) (hO : OutsX w (.slice (some ⟨qo, 0, none⟩) (m + 1) oc) os Os) (hOl : Os.length = m + 1) (hlO : ∀ O ∈ Os, O.length = n) (hlB : ∀ i, i < m + 1 -> (Bb.getD i []).length = n) (hfl : ∀ f ∈ fs, f < m + 1) (hn : n <= 200) (hfsl : fs.length <= 100) (hbin : ∀ i, i < m + 1 -> ∀ b ∈ Bb.getD i [], b <= 1000) (hmany : ∀ K ∈ Ks, K.many <= 100) (hoff : (colF Ks Os Bb n xs fs).off <= 64) (hx : xs.length <= 100000) (hbl : bs.length <= 1000) : Calls Tryz.prog 207 #[.pointer (some ⟨db, 0, none⟩), .pointer (some ⟨gb, 0, none⟩), .slice (some ⟨qf, 0, none⟩) (m + 1) fc, .slice (some ⟨qo, 0, none⟩) (m + 1) oc] w fun e w' => e = .returned (.tuple #[]) /\ AddedP w w' db (.slice (some ⟨qk, 0, none⟩) (m + 1) kc) vB vX (bs ++ [⟨fs, (colF Ks Os Bb n xs fs).N, (colF Ks Os Bb n xs fs).off - 1⟩]) (colF Ks Os Bb n xs fs).xs := by
  have HH : Hid (KnsX w (.slice (some ⟨qk, 0, none⟩) (m + 1) kc) kvs Ks /\ BndX w (.slice (some ⟨qf, 0, none⟩) (m + 1) fc) fvs es Bb /\ OutsX w (.slice (some ⟨qo, 0, none⟩) (m + 1) oc) os Os /\ OwnI w 0 vf (natI fs) /\ w.heap[gb]? = some (.cells #[vf, .slice oa n occ, .int .i64 (conf : Nat), .int .i64 (bns : Nat)] 351 (0, 0))) := ⟨hK, hF, hO, hfs, hgb⟩;have HL : Hid (Ks.length = m + 1 /\ es.length = m + 1 /\ Os.length = m + 1 /\ (∀ O ∈ Os, O.length = n) /\ (∀ i, i < m + 1 -> (Bb.getD i []).length = n) /\ (∀ f ∈ fs, f < m + 1) /\ (∀ i, i < m + 1 -> ∀ b ∈ Bb.getD i [], b <= 1000) /\ ∀ K ∈ Ks, K.many <= 100) := ⟨hKl, hEl, hOl, hlO, hlB, hfl, hbin, hmany⟩;have HSTY : Hid (STy (DsS db vB vX) w) := hD.sty;have HD : Hid (DsX w db (.slice (some ⟨qk, 0, none⟩) (m + 1) kc) vB vX bvs bs xs) := hD;obtain ⟨fa, fcc, hvf⟩ := hfs.shape;rw [natI_len] at hvf;subst hvf
  have g0 : w.cell? ⟨gb, 0, none⟩ = some (.slice fa fs.length fcc) := cell_of_row _ _ 0 _ 351 (0, 0) hgb;have g1 : w.cell? ⟨gb, 1, none⟩ = some (.slice oa n occ) := cell_of_row _ _ 1 _ 351 (0, 0) hgb;have hgl : gb < w.heap.size := (Array.getElem?_eq_some_iff.1 hgb).1;have hdl : db < w.heap.size := (Array.getElem?_eq_some_iff.1 hD.blk).1;have HCF : Hid (colF Ks Os Bb n xs fs = fs.foldl (colStep Ks Os Bb n) ⟨List.replicate n 0, xs, 1⟩ /\ (colF Ks Os Bb n xs fs).off <= 64) := ⟨rfl, hoff⟩;have hmk := make_ints n (by omega);obtain ⟨fl, hfl2⟩ : ∃ fl, fl = fs.length := ⟨_, rfl⟩;have HFL : Hid (fl = fs.length) := hfl2;rw [<- hfl2] at hfsl g0;clear hD hK hKl hgb hfs hF hEl hO hOl hlO hlB hfl hbin hmany hoff hfl2;obtain ⟨i0, hinf, hz0, hz1, hz2⟩ := info_parts info184;obtain ⟨j0, jinf, jz0, jz1, jz2⟩ := info_parts info163;go_enter Tryz.func207, Tryz.ntmps207;go_wp2_with fail
  go_loopw [26, 9] (fun ti to_ wr => ∃ (k : Nat) (vX' : Value), ti = .int .i64 k /\ k <= fl /\ to_ = .int .i64 (((fs.take k).foldl (colStep Ks Os Bb n) ⟨List.replicate n 0, xs, 1⟩).off : Nat) /\ Hid (MidX w wr db (.slice (some ⟨qk, 0, none⟩) (m + 1) kc) vB vX vX' bvs bs w.heap.size n ((fs.take k).foldl (colStep Ks Os Bb n) ⟨List.replicate n 0, xs, 1⟩).N ((fs.take k).foldl (colStep Ks Os Bb n) ⟨List.replicate n 0, xs, 1⟩).xs)) (fun ti _ _ => fl - (intOf ti).toNat)
  case atStart =>
    refine ⟨0, vX, rfl, Nat.zero_le _, rfl, ?_⟩;have hm := made_ints n w w.heap.size (by omega) (Nat.le_refl _);have e : natI (List.replicate n 0) = List.replicate n 0 := (by simp [natI]);exact ⟨HD.out.below ((Below.refl _ _).alloc (Nat.le_refl _) _), by rw [List.take_zero]; show OwnI _ _ _ (natI (List.replicate n 0)); rw [e]; exact hm, (Touch.refl _ _).alloc _, fun k hk => .inl (.inr (.inr hk))⟩
  case round =>
    clear hmk;obtain ⟨k, vX', rfl, hk, rfl, HR⟩ := hrel;have hsz := HR.out.t.size
    by_cases hkl : k < fl
    · have hkf : k < fs.length := (by rw [<- HFL.out]; exact hkl);have htk : fs.take (k + 1) = fs.take k ++ [fs.getD k 0] := (by rw [List.take_succ_eq_append_getElem hkf]; simp [List.getD, hkf]);have hfm : fs.getD k 0 < m + 1 := (by have : fs.getD k 0 = fs[k] := (by simp [List.getD, hkf]);rw [this]; exact HL.out.2.2.2.2.2.1 _ (List.getElem_mem hkf));have HNX : Hid ((fs.take (k + 1)).foldl (colStep Ks Os Bb n) ⟨List.replicate n 0, xs, 1⟩ = colStep Ks Os Bb n ((fs.take k).foldl (colStep Ks Os Bb n) ⟨List.replicate n 0, xs, 1⟩) (fs.getD k 0)) := by show _ = _;rw [htk, List.foldl_append]; rfl
      have hoff2 : ((fs.take (k + 1)).foldl (colStep Ks Os Bb n) ⟨List.replicate n 0, xs, 1⟩).off <= 64 := (by have h1 := colStep_off Ks Os Bb n (fs.drop (k + 1)) ((fs.take (k + 1)).foldl (colStep Ks Os Bb n) ⟨List.replicate n 0, xs, 1⟩);rw [<- List.foldl_append, List.take_append_drop, <- HCF.out.1] at h1;exact Nat.le_trans h1 HCF.out.2);have hlen := colStep_len Ks Os Bb n (fs.take k) ⟨List.replicate n 0, xs, 1⟩ (by simp)
      have hcf : wr.cell? ⟨(match fa with | some p => p.block | none => 0), k, none⟩ = some (.int .i64 ((fs.getD k 0 : Nat) : Int)) /\ ∃ q, fa = some ⟨q, 0, none⟩ := (by obtain ⟨q, hq, hql, _, hc, _⟩ := HH.out.2.2.2.1.atK (by rw [natI_len]) hkf;subst hq;rw [natI_getD] at hc;have hnot := HSTY.out.row HH.out.2.2.2.1 (by decide) (by decide) (by decide) q rfl;refine ⟨?_, q, rfl⟩;show wr.cell? ⟨q, k, none⟩ = _;rw [World.cell?_of_block (a := ⟨q, k, none⟩) (HR.out.t.block q hql hnot)];exact hc);obtain ⟨hcf, q, hq⟩ := hcf;subst hq;simp only at hcf;have HOFF : Hid (∀ f, (colStep Ks Os Bb n ((fs.take k).foldl (colStep Ks Os Bb n) ⟨List.replicate n 0, xs, 1⟩) f).off = ((fs.take k).foldl (colStep Ks Os Bb n) ⟨List.replicate n 0, xs, 1⟩).off + (Ks.getD f k0S).many) := fun f => rfl
      have hxsl : ((fs.take k).foldl (colStep Ks Os Bb n) ⟨List.replicate n 0, xs, 1⟩).xs.length <= 200000 := by have h1 := hlen.2;have h2 : (fs.take k).length * n <= 100 * 200 := Nat.mul_le_mul (by simp; omega) hn;simp only at h1;omega
      have HLEN : Hid (((fs.take k).foldl (colStep Ks Os Bb n) ⟨List.replicate n 0, xs, 1⟩).N.length = n) := hlen.1;rw [HNX.out, HOFF.out] at hoff2;clear htk hlen;generalize fs.getD k 0 = f at *;generalize (fs.take k).foldl (colStep Ks Os Bb n) ⟨List.replicate n 0, xs, 1⟩ = s at *;have hOw := HH.out.2.2.1.touchS HR.out.t HSTY.out;have hOf := hOw.each f (by rw [HL.out.2.2.1]; exact hfm);obtain ⟨hqol, o0⟩ := hOw.at2 (i := f) (by rw [HL.out.2.2.1]; exact hfm);have hOfl : (Os.getD f []).length = n := HL.out.2.2.2.1 _ (by simp [List.getD, show f < Os.length by rw [HL.out.2.2.1]; exact hfm]);have hBfl := HL.out.2.2.2.2.1 f hfm;have hBin := HL.out.2.2.2.2.2.2.1 f hfm;obtain ⟨xa, xc, hxv⟩ := hOf.shape;rw [hxv] at o0 hOf;rw [hOfl] at o0 hOf
      have HSTEP : Hid (colStep Ks Os Bb n s f = ⟨putN s.off (Os.getD f []) (Bb.getD f []) s.N n, s.xs ++ putX f (Os.getD f []) (Bb.getD f []) s.N n, s.off + (Ks.getD f k0S).many⟩) := rfl;have HOF : Hid (OwnO w 0 (.slice xa n xc) (Os.getD f []) /\ (Os.getD f []).length = n) := by have h1 := HH.out.2.2.1.each f (by rw [HL.out.2.2.1]; exact hfm);rw [hxv, hOfl] at h1;exact ⟨h1, hOfl⟩
      have hBw := HH.out.2.1.touch HR.out.t HSTY.out;obtain ⟨hqfl, _, _, _, b3⟩ := hBw.cells (i := f) (by rw [HL.out.2.1]; exact hfm);have hBf := (HH.out.2.1.each f (by rw [HL.out.2.1]; exact hfm)).2.2;obtain ⟨ba, bc, hbv⟩ := hBf.shape;rw [natI_len, hBfl] at hbv;rw [hbv] at b3 hBf;have hbw : OwnI w 0 (.slice ba n bc) (natI (Bb.getD f [])) /\ (Bb.getD f []).length = n /\ ∀ b ∈ Bb.getD f [], b <= 1000 := ⟨hBf, hBfl, hBin⟩;have HBF : Hid (OwnI w 0 (.slice ba n bc) (natI (Bb.getD f [])) /\ (Bb.getD f []).length = n /\ ∀ b ∈ Bb.getD f [], b <= 1000) := hbw
      have HQF : Hid (∀ W : World, Touch (DsS db vB vX) w W -> W.cell? ⟨qf, f * 4 + 3, none⟩ = some (.slice ba n bc)) := fun W hW => by have h1 := (HH.out.2.1.touch hW HSTY.out).cells (i := f) (by rw [HL.out.2.1]; exact hfm);rw [hbv] at h1;exact h1.2.2.2.2
      clear hOw hOf hOfl hBfl hBin hBw hBf hbw hxv hbv b3;generalize Os.getD f [] = Of at *;generalize Bb.getD f [] = Bf at *;have bk1 : (0 : Int) <= (k : Int) := (by omega);have bk2 : (k : Int) < (fl : Int) := (by omega);have bf1 : (0 : Int) <= (f : Int) := (by omega);have bf2 : (f : Int) < (m : Int) + 1 := (by omega);obtain ⟨wl, hwl⟩ : ∃ wl, wl = wr := ⟨wr, rfl⟩;subst hwl;go_wp2_with fail
      go_loopw [35] (fun tj wr => ∃ (j : Nat) (vY : Value), tj = .int .i64 j /\ j <= n /\ Hid (MidX w wr db (.slice (some ⟨qk, 0, none⟩) (m + 1) kc) vB vX vY bvs bs w.heap.size n (putN s.off Of Bf s.N j) (s.xs ++ putX f Of Bf s.N j))) (fun tj _ => n - (intOf tj).toNat)
      case atStart =>
        refine ⟨0, vX', rfl, Nat.zero_le _, ?_⟩;rw [putN_zero];show MidX _ _ _ _ _ _ _ _ _ _ _ _ (s.xs ++ []);rw [List.append_nil];exact HR.out
      case round =>
        clear HR hcf hqol o0 hsz;obtain ⟨j, vY, rfl, hj, HI⟩ := hrel;have hsz := HI.out.t.size
        by_cases hjn : j < n
        · obtain ⟨qx, hqx, hqxl, _, x0, _⟩ := HOF.out.1.atK HOF.out.2 hjn;subst hqx;obtain ⟨qb, hqb, hqbl, _, y0, _⟩ := HBF.out.1.atK (by rw [natI_len]; exact HBF.out.2.1) hjn;subst hqb;rw [natI_getD] at y0;have x1 : wr.cell? ⟨qx, j, none⟩ = some (.bool (Of.getD j false)) := (by rw [World.cell?_of_block (a := ⟨qx, j, none⟩) (HI.out.t.block qx hqxl (HSTY.out.row HOF.out.1 (by decide) (by decide) (by decide) qx rfl))];exact x0);have y1 : wr.cell? ⟨qb, j, none⟩ = some (.int .i64 ((Bf.getD j 0 : Nat) : Int)) := by rw [World.cell?_of_block (a := ⟨qb, j, none⟩) (HI.out.t.block qb hqbl (HSTY.out.row HBF.out.1 (by decide) (by decide) (by decide) qb rfl))];exact y0
          have y2 := HQF.out wr HI.out.t;have hNl : (putN s.off Of Bf s.N j).length = n := (by rw [putN_len _ _ _ _ (by have := HLEN.out; omega)]; exact HLEN.out);obtain ⟨n1, nf⟩ := HI.out.nm.cellK (k := j) (by rw [natI_len]; exact hNl.symm) hjn;rw [natI_getD, putN_at] at n1;have hb1000 : Bf.getD j 0 <= 1000 := by have hjb : j < Bf.length := (by have := HBF.out.2.1; omega);have : Bf.getD j 0 = Bf[j] := (by simp [List.getD, hjb]);rw [this]; exact HBF.out.2.2 _ (List.getElem_mem hjb)
          have HNL : Hid (n = (natI (putN s.off Of Bf s.N j)).length) := (by rw [natI_len]; exact hNl.symm);have HROWN : Hid (rowN s.off Of Bf s.N j = if Of.getD j false = true /\ s.N.getD j 0 = 0 then s.off + Bf.getD j 0 else s.N.getD j 0) := rfl;have HROWX : Hid (putX f Of Bf s.N (j + 1) = putX f Of Bf s.N j ++ (if Of.getD j false = true /\ s.N.getD j 0 ≠ 0 then [⟨j, f, Bf.getD j 0⟩] else [])) := rfl;have HPS : Hid ((putN s.off Of Bf s.N j).set j (rowN s.off Of Bf s.N j) = putN s.off Of Bf s.N (j + 1)) := putN_set s.off Of Bf s.N (by have := HLEN.out; omega);have HPE : Hid (rowN s.off Of Bf s.N j = s.N.getD j 0 -> putN s.off Of Bf s.N (j + 1) = putN s.off Of Bf s.N j) := putN_same s.off Of Bf s.N (by have := HLEN.out; omega);have hql : qf < wr.heap.size := by have := (HH.out.2.1.cells (i := f) (by rw [HL.out.2.1]; exact hfm)).1;omega
          have bj1 : (0 : Int) <= (j : Int) := (by omega);have bj2 : (j : Int) < (n : Int) := (by omega);have hs64 : s.off <= 64 := by omega
          have HXL : Hid ((s.xs ++ putX f Of Bf s.N j).length <= 300000) := (by have := putX_len f Of Bf s.N j;show _ <= _;rw [List.length_append]; omega);clear x0 y0 hNl;generalize Of.getD j false = ob at *;generalize Bf.getD j 0 = yb at *;generalize s.N.getD j 0 = nz at *
          cases ob with
          | false =>
            have HF : Hid (MidX w wr db (.slice (some ⟨qk, 0, none⟩) (m + 1) kc) vB vX vY bvs bs w.heap.size n (putN s.off Of Bf s.N (j + 1)) (s.xs ++ putX f Of Bf s.N (j + 1))) := by have h1 := HROWN.out;rw [if_neg (by simp)] at h1;rw [HPE.out h1, HROWX.out, if_neg (by simp), List.append_nil];exact HI.out
            clear HI HROWN HROWX HPS HPE n1;go_wp2;go_roundw;case rel => exact ⟨j + 1, _, by go_num, by omega, HF⟩
            case measure => simp [intOf]; omega
          | true =>
            by_cases hz : nz = 0
            · subst hz
              have HF : Hid (MidX w (wr.setCell ⟨w.heap.size, j, none⟩ (.int .i64 ((s.off : Int) + (yb : Int)))) db (.slice (some ⟨qk, 0, none⟩) (m + 1) kc) vB vX vY bvs bs w.heap.size n (putN s.off Of Bf s.N (j + 1)) (s.xs ++ putX f Of Bf s.N (j + 1))) := by
                have h1 := HROWN.out;rw [if_pos ⟨rfl, rfl⟩] at h1;rw [HROWX.out, if_neg (by simp), List.append_nil, <- HPS.out, h1];obtain ⟨p1, p2⟩ := HI.out.nm.put (k := j) HNL.out ((s.off : Int) + (yb : Int));have t2 : Touch (fun x => x = w.heap.size) wr (wr.setCell ⟨w.heap.size, j, none⟩ (.int .i64 ((s.off : Int) + (yb : Int)))) := (Touch.refl (fun x => x = w.heap.size) wr).setCell (p := ⟨w.heap.size, j, none⟩) (fun _ => rfl) _;obtain ⟨cu, hcu⟩ := row_type HI.out.nm (k := w.heap.size) rfl;refine ⟨HI.out.ds.touch t2 (fun k ty cur hk hty e => ?_) (fun i hi k hk e => by have := (World.ownsRow.lt (HD.out.bn.each i hi).1 k hk).2; omega), ?_, HI.out.t.setCell (p := ⟨w.heap.size, j, none⟩) (fun h => absurd h (Nat.lt_irrefl _)) _, HI.out.nx⟩;subst e;rw [hcu] at hk;simp at hk;exact hty hk.2.symm
                show OwnI _ _ _ (natI ((putN s.off Of Bf s.N j).set j (s.off + yb)));rw [<- natI_set];have : ((s.off + yb : Nat) : Int) = (s.off : Int) + (yb : Int) := (by omega);rw [this];exact p1
              have HWR : Hid (IntKind.i64.wrap ((s.off : Int) + (yb : Int)) = (s.off : Int) + (yb : Int)) := wrapI (by omega) (by omega);clear HI HROWN HROWX HPS HPE;go_wp2;go_roundw;case rel => exact ⟨j + 1, _, by go_num, by omega, HF⟩
              case measure => simp [intOf]; omega
            have hzb : ((nz : Int) == 0) = false := beq_eq_false_iff_ne.2 (by omega);have HXN : Hid (s.xs ++ putX f Of Bf s.N (j + 1) = (s.xs ++ putX f Of Bf s.N j) ++ [⟨j, f, yb⟩]) := by show _ = _;rw [HROWX.out, if_pos ⟨rfl, hz⟩, List.append_assoc]
            have HPN : Hid (putN s.off Of Bf s.N (j + 1) = putN s.off Of Bf s.N j) := HPE.out (by rw [HROWN.out, if_neg (fun h => hz h.2)]);obtain ⟨ya, yc, hvY⟩ := HI.out.ds.xn.shape;subst hvY;have dc2 : wr.cell? ⟨db, 2, none⟩ = some (.slice ya (s.xs ++ putX f Of Bf s.N j).length yc) := cell_of_row _ _ 2 _ 168 (0, 0) HI.out.ds.blk;have hdbl : db < wr.heap.size := (by omega);have HRW : Hid (wr.ownsRow 0 184 3 (.slice ya (s.xs ++ putX f Of Bf s.N j).length yc) (s.xs ++ putX f Of Bf s.N j).length (flatX (s.xs ++ putX f Of Bf s.N j))) := HI.out.ds.xn;clear hz HROWX HROWN HPS HPE;generalize hxx : s.xs ++ putX f Of Bf s.N j = XX at *;generalize hxl : XX.length = xl at *;have hxl2 : xl <= 300000 := HXL.out
            go_wp2_with (at_builtin; refine wpList_append_mark rfl (.tmp 52) (.tmp 57) 166 rfl 0 184 i0 (.agg #[.int .i64 0, .int .i64 0, .int .i64 0]) 3 24 Tryz.underlying166 hinf hz0 hz1 hz2 rfl (by decide) _ xl (flatX XX) rfl (HRW.out.alloc _) ⟨wr.heap.size, 0, none⟩ 1 1 [.int .i64 (j : Nat), .int .i64 (f : Nat), .int .i64 (yb : Nat)] rfl rfl ?_ ?_ ?_ ?_ ?_ ?_ ?_)
            exact one_new wr #[.int .i64 (j : Nat), .int .i64 (f : Nat), .int .i64 (yb : Nat)] 184
            · intro u hu; simp at hu; rcases hu with rfl | rfl | rfl <;> rfl
            decide;unfold maxLen; omega;omega;simp;intro v4 w4 H4;obtain ⟨r4, g4, d4, _, _⟩ := H4.out;have hDs1 := HI.out.ds.below ((Below.refl _ wr).alloc (Nat.le_refl _) (.cells #[.int .i64 (j : Nat), .int .i64 (f : Nat), .int .i64 (yb : Nat)] 184));have hO4 : OwnX w4 0 v4 (XX ++ [⟨j, f, yb⟩]) := (by refine OwnX.more ?_;rw [hxl];exact r4);have hDs4 := hDs1.more g4 hO4;have hblk4 : w4.heap[db]? = some (.cells #[.slice (some ⟨qk, 0, none⟩) (m + 1) kc, vB, .slice ya xl yc] 168 (0, 0)) := (by rw [g4.block db (by simp; omega) (fun e => row_ne HRW.out e.symm HI.out.ds.blk (by decide) rfl)];exact (Below.heap_alloc wr _ _ hdbl).trans HI.out.ds.blk);have c4 : w4.cell? ⟨db, 2, none⟩ = some (.slice ya xl yc) := cell_of_row _ _ 2 _ 168 (0, 0) hblk4;have f4 : w4.frozen? ⟨db, 2, none⟩ = false := frozen_of_row _ _ 2 _ 168 hblk4
            have hm4 : OwnI (w4.setCell ⟨db, 2, none⟩ v4) w.heap.size (.slice (some ⟨w.heap.size, 0, none⟩) n n) (natI (putN s.off Of Bf s.N j)) :=
              own_put' (World.ownsRow.kept (OwnI.alloc HI.out.nm _) g4 (types_apart HRW.out HI.out.nm (by decide))) hblk4 (by decide)
            have ht4 : Touch (DsS db vB vX) w (w4.setCell ⟨db, 2, none⟩ v4) :=
              ((HI.out.t.alloc _).grown g4 (fun k hk hkl => by
                rcases HI.out.nx k hk with h | h
                exact h
                omega)).setCell (p := ⟨db, 2, none⟩) (fun _ => .inl rfl) v4
            obtain ⟨a5, c5, hv5⟩ := hO4.shape
            have HF : Hid (MidX w (w4.setCell ⟨db, 2, none⟩ v4) db (.slice (some ⟨qk, 0, none⟩) (m + 1) kc) vB vX v4 bvs bs w.heap.size n (putN s.off Of Bf s.N (j + 1)) (s.xs ++ putX f Of Bf s.N (j + 1))) := by
              rw [HXN.out, HPN.out];refine ⟨hDs4, hm4, ht4, fun k hk => ?_⟩
              rcases d4 with e | e
              exact HI.out.nx k (e ▸ hk);rw [e.1] at hk;injection hk with hk;exact .inr (by omega)
            rw [hv5] at HF;subst hv5;clear H4 r4 g4 d4 hDs1 hO4 hDs4 hblk4 hm4 ht4 HI HRW HXN HPN hxx hxl dc2;generalize (XX ++ [(⟨j, f, yb⟩ : XS)]).length = l5 at *;go_wp2;go_roundw;case rel => exact ⟨j + 1, _, by go_num, by omega, HF⟩
            case measure => simp [intOf]; omega
        have hnj : ¬ (j : Int) < (n : Int) := (by omega);have hjn2 : j = n := (by omega);have hKw := HH.out.1.touchS HI.out.t HSTY.out;obtain ⟨ab, cb, aw, cw, hqkl, k0, k1, k2, k3, _, _⟩ := hKw.at2 (i := f) (by rw [HL.out.1]; exact hfm);have dc0 : wr.cell? ⟨db, 0, none⟩ = some (.slice (some ⟨qk, 0, none⟩) (m + 1) kc) := cell_of_row _ _ 0 _ 168 (0, 0) HI.out.ds.blk;have hmany : (Ks.getD f k0S).many <= 100 := HL.out.2.2.2.2.2.2.2 _ (by simp [List.getD, show f < Ks.length by rw [HL.out.1]; exact hfm]);have HMN := KS.many_eq (Ks.getD f k0S)
        have HHM : Hid (∀ W : World, Calls Tryz.prog 146 #[.agg #[.bool (Ks.getD f k0S).e.wd, .slice ab (Ks.getD f k0S).e.bs.length cb, .slice aw (Ks.getD f k0S).e.ww.length cw]] W fun e w' => e = .returned (.int .i64 (((Ks.getD f k0S).many : Nat) : Int)) /\ Below W.heap.size W w') := fun W => by rw [<- HMN];exact howMany_any _ ab aw _ cb _ cw W (by unfold KS.many ES.cnt at hmany; omega)
        have HNN : Hid ((fs.take (k + 1)).foldl (colStep Ks Os Bb n) ⟨List.replicate n 0, xs, 1⟩ = ⟨putN s.off Of Bf s.N n, s.xs ++ putX f Of Bf s.N n, s.off + (Ks.getD f k0S).many⟩) := (by show _ = _;rw [HNX.out, HSTEP.out]);have HI2 : Hid (MidX w wr db (.slice (some ⟨qk, 0, none⟩) (m + 1) kc) vB vX vY bvs bs w.heap.size n (putN s.off Of Bf s.N n) (s.xs ++ putX f Of Bf s.N n)) := (by rw [hjn2] at HI;exact HI);clear hKw k3 HMN HI hjn2;generalize Ks.getD f k0S = Kf at *;generalize Kf.e.wd = kwd at *;generalize Kf.e.bs.length = knb at *;generalize Kf.e.ww.length = knw at *;generalize Kf.many = km at *;go_wp2_with fail
        refine (HHM.out _).mono ?_;rintro e w2 ⟨rfl, hb2⟩;have HF : Hid (MidX w w2 db (.slice (some ⟨qk, 0, none⟩) (m + 1) kc) vB vX vY bvs bs w.heap.size n ((fs.take (k + 1)).foldl (colStep Ks Os Bb n) ⟨List.replicate n 0, xs, 1⟩).N ((fs.take (k + 1)).foldl (colStep Ks Os Bb n) ⟨List.replicate n 0, xs, 1⟩).xs) := by rw [HNN.out];exact HI2.out.below hb2
        clear hb2 HI2 k0 k1 k2 dc0 HHM;go_wp2;go_roundw;case rel => exact ⟨k + 1, vY, by go_num, by omega, by rw [HNN.out]; go_num, HF⟩
        case measure => simp [intOf]; omega
    have hnk : ¬ (k : Int) < (fl : Int) := (by omega);have hkk : fs.take k = fs := List.take_of_length_le (by have := HFL.out; omega);rw [hkk] at HR ⊢;have hlen := colStep_len Ks Os Bb n fs ⟨List.replicate n 0, xs, 1⟩ (by simp);have hof := colStep_off Ks Os Bb n fs ⟨List.replicate n 0, xs, 1⟩;rw [<- HCF.out.1] at HR hlen hof ⊢;have hof64 := HCF.out.2;simp only at hof;obtain ⟨s, hse⟩ : ∃ s, s = colF Ks Os Bb n xs fs := ⟨_, rfl⟩;have HSE : Hid (s = colF Ks Os Bb n xs fs) := hse;rw [<- hse] at HR hlen hof hof64 ⊢;clear hse;have hNl := hlen.1;clear hkk hlen;have HM : Hid (MidX w wr db (.slice (some ⟨qk, 0, none⟩) (m + 1) kc) vB vX vX' bvs bs w.heap.size n s.N s.xs) := HR
    have HCO : Hid (∀ W : World, Below wr.heap.size wr W -> Calls Tryz.prog 257 #[.slice (some ⟨w.heap.size, 0, none⟩) n n, .int .i64 ((s.off - 1 : Nat) : Int)] W fun e w' => ∃ v, e = .returned v /\ ColV w' W.heap.size v s.N (s.off - 1) /\ Below W.heap.size W w') := fun W hW => by have h1 := HM.out.nm.below hW;have h2 : OwnI W 0 (.slice (some ⟨w.heap.size, 0, none⟩) n n) (natI s.N) := OwnI.mono h1 (Nat.zero_le _);exact colOf_any _ n n (s.off - 1) s.N W h2 hNl hn (by omega)
    have q1 : IntKind.i64.wrap ((s.off : Int) - 1) = ((s.off - 1 : Nat) : Int) := by rw [wrapI (by omega) (by omega)]; omega
    obtain ⟨ba, bcap, hvB⟩ : ∃ a c, vB = .slice a bs.length c := by
      rcases HM.out.ds.bn.row.2 with ⟨rfl, h0⟩ | ⟨q, p, cur, rfl, _⟩
      exact ⟨none, 0, by rw [h0]⟩;exact ⟨_, _, rfl⟩
    subst hvB;have cd1 : wr.drew.cell? ⟨db, 1, none⟩ = some (.slice ba bs.length bcap) := cell_of_row _ _ 1 _ 168 (0, 0) HM.out.ds.blk;have hgnot : ¬ DsS db (.slice ba bs.length bcap) vX gb := HSTY.out.at HH.out.2.2.2.2 (by decide) (by decide) (by decide);have cg0 : wr.drew.cell? ⟨gb, 0, none⟩ = some (.slice fa fl fcc) := by have : wr.heap[gb]? = w.heap[gb]? := HM.out.t.block gb hgl hgnot;have h2 := World.cell?_of_block (a := ⟨gb, 0, none⟩) this;exact h2.trans g0
    have hdbl : db < wr.heap.size := (by omega);have hgbl : gb < wr.heap.size := (by omega);have HRW : Hid (wr.ownsRow 0 163 2 (.slice ba bs.length bcap) bs.length (flatBu bvs)) := HM.out.ds.bn.row;clear HR g0 g1;generalize hbsl : bs.length = bl at *;go_upto_region 16 with fail;refine wp_region_S (fun w' => w'.cell? ⟨db, 1, none⟩ = some (.slice ba bl bcap) /\ w'.cell? ⟨gb, 0, none⟩ = some (.slice fa fl fcc)) 18 (by kernel_rfl) ⟨cd1, cg0⟩ (fun hHeld => ?_);refine tkM [16, 17, 18] 0 (v := ?_) ?_ ?_
    rotate_left;· intro w hSw;(try dsimp only at hSw);go_simp;try with_reducible rfl
    try simp only [Act.put, sA, sB, sC]
    refine tkM [2, 3, 4, 15, 16, 17, 18] 1 (v := ?_) ?_ ?_
    rotate_left;· intro w hSw;(try dsimp only at hSw);go_simp;try with_reducible rfl
    try simp only [Act.put, sA, sB, sC]
    refine tkM [3, 4, 15, 16, 17, 18] 2 (v := ?_) ?_ ?_
    rotate_left;· intro w hSw;(try dsimp only at hSw);go_simp;try with_reducible rfl
    try simp only [Act.put, sA, sB, sC]
    refine tkM [4, 15, 16, 17, 18] 3 (v := ?_) ?_ ?_
    rotate_left;· intro w hSw;(try dsimp only at hSw);go_simp;try with_reducible rfl
    try simp only [Act.put, sA, sB, sC]
    refine tkM [15, 16, 17, 18] 4 (v := ?_) ?_ ?_
    rotate_left
    · intro w hSw;try obtain ⟨_, _⟩ := hSw
      (try dsimp only at hSw)
      go_simp;try with_reducible rfl
    try simp only [Act.put, sA, sB, sC]
    refine tkM [6, 7, 8, 13, 14, 15, 16, 17, 18] 5 (v := ?_) ?_ ?_
    rotate_left;· intro w hSw;(try dsimp only at hSw);go_simp;try with_reducible rfl
    try simp only [Act.put, sA, sB, sC]
    refine tkM [7, 8, 13, 14, 15, 16, 17, 18] 6 (v := ?_) ?_ ?_
    rotate_left;· intro w hSw;(try dsimp only at hSw);go_simp;try with_reducible rfl
    try simp only [Act.put, sA, sB, sC]
    refine tkM [8, 13, 14, 15, 16, 17, 18] 7 (v := ?_) ?_ ?_
    rotate_left;· intro w hSw;(try dsimp only at hSw);go_simp;try with_reducible rfl
    try simp only [Act.put, sA, sB, sC]
    refine tkM [13, 14, 15, 16, 17, 18] 8 (v := ?_) ?_ ?_
    rotate_left
    · intro w hSw;try obtain ⟨_, _⟩ := hSw
      (try dsimp only at hSw)
      go_simp;try with_reducible rfl
    try simp only [Act.put, sA, sB, sC]
    refine tkM [12, 13, 14, 15, 16, 17, 18] 9 (v := ?_) ?_ ?_
    rotate_left;· intro w hSw;(try dsimp only at hSw);go_simp;try with_reducible rfl
    try simp only [Act.put, sA, sB, sC]
    refine tkM [11, 12, 13, 14, 15, 16, 17, 18] 10 (v := ?_) ?_ ?_
    rotate_left;· intro w hSw;(try dsimp only at hSw);go_simp;try with_reducible rfl
    try simp only [Act.put, sA, sB, sC]
    refine tkM [12, 13, 14, 15, 16, 17, 18] 11 (v := ?_) ?_ ?_
    rotate_left;· intro w hSw;(try dsimp only at hSw);go_simp;try with_reducible rfl
    try simp only [Act.put, sA, sB, sC]
    refine wpAnyS_oneL (i := 12) (by kernel_rfl) rfl (fun KK hK => ?_);go_simp;refine (HCO.out _ ((Below.refl _ _).drew)).mono ?_;rintro e w4 ⟨v4, rfl, hC4, hb4⟩;have d4a : w4.cell? ⟨db, 1, none⟩ = some (.slice ba bl bcap) := (hb4.cell (p := ⟨db, 1, none⟩) hdbl).trans cd1;have d4b : w4.cell? ⟨gb, 0, none⟩ = some (.slice fa fl fcc) := (hb4.cell (p := ⟨gb, 0, none⟩) hgbl).trans cg0;obtain ⟨ct, cp, hv4⟩ := hC4.iface;subst hv4;go_simp;refine hK.out _ _ ⟨d4a, d4b⟩ (fun hHeld => ?_);clear hK KK;try simp only [Act.put, sA, sB, sC]
    refine tkM [14, 15, 16, 17, 18] 13 (v := ?_) ?_ ?_
    rotate_left;· intro w hSw;(try dsimp only at hSw);go_simp;try with_reducible rfl
    try simp only [Act.put, sA, sB, sC]
    refine wpAnyS_oneL (i := 14) (by kernel_rfl) rfl (fun KK hK => ?_);go_simp;have hdb4 : db < w4.heap.size := Nat.lt_of_lt_of_le hdbl hb4.size;have hgb4 : gb < w4.heap.size := Nat.lt_of_lt_of_le hgbl hb4.size;refine hK.out _ _ ⟨(Below.cell (B := w4.heap.size) (p := ⟨db, 1, none⟩) ((Below.refl _ _).alloc (Nat.le_refl _) _) hdb4).trans d4a, (Below.cell (B := w4.heap.size) (p := ⟨gb, 0, none⟩) ((Below.refl _ _).alloc (Nat.le_refl _) _) hgb4).trans d4b⟩ (fun hHeld => ?_);clear hK KK;try simp only [Act.put, sA, sB, sC]
    refine wpAnyS_oneL (i := 15) (by kernel_rfl) rfl (fun KK hK => ?_);have hb4' : Below wr.heap.size wr w4 := (Below.refl wr.heap.size wr).drew.trans hb4;refine step_append_mark rfl (.tmp 93) (.tmp 103) 165 rfl 0 163 j0 (.agg #[.slice none 0 0, .nilIface]) 2 40 Tryz.underlying165 jinf jz0 jz1 jz2 rfl (by decide) (.slice ba bl bcap) bl (flatBu bvs) (by simp [Act.eval]) (World.ownsRow.alloc ((Touch.of_below (S := fun _ => False) hb4').row HRW.out (fun _ _ => id)) _) ⟨w4.heap.size, 0, none⟩ 1 1 [.slice fa fl fcc, .iface ct (.pointer (some ⟨cp, 0, none⟩))] (by simp [Act.eval]) rfl (one_new w4 #[.slice fa fl fcc, .iface ct (.pointer (some ⟨cp, 0, none⟩))] 163) (by intro u hu; simp only [List.mem_cons, List.not_mem_nil, or_false] at hu; rcases hu with rfl | rfl <;> rfl) (by decide) (by unfold maxLen; omega) (by omega) (by simp) ?_;intro v6 w6 H6
    obtain ⟨r6, g6, d6, _, q6, p6, hv6⟩ := H6.out;have hDs4 := HM.out.ds.below hb4';have hDs5 := hDs4.below ((Below.refl _ w4).alloc (Nat.le_refl _) (.cells #[.slice fa fl fcc, .iface ct (.pointer (some ⟨cp, 0, none⟩))] 163));have t46 : Touch (fun k => (Value.slice ba bl bcap).ownBlock = some k) (w4.alloc (.cells #[.slice fa fl fcc, .iface ct (.pointer (some ⟨cp, 0, none⟩))] 163)) w6 := (Touch.refl _ _).grown g6 (fun k hk _ => hk);have hst5 : STy (fun k => (Value.slice ba bl bcap).ownBlock = some k) (w4.alloc (.cells #[.slice fa fl fcc, .iface ct (.pointer (some ⟨cp, 0, none⟩))] 163)) := fun k cur ty hk hs => hDs5.sty k cur ty hk (.inr (.inl hs))
    have hfs5 : OwnI (w4.alloc (.cells #[.slice fa fl fcc, .iface ct (.pointer (some ⟨cp, 0, none⟩))] 163)) 0 (.slice fa fl fcc) (natI fs) := (by have h1 := HM.out.t.row HH.out.2.2.2.1 (HSTY.out.row HH.out.2.2.2.1 (by decide) (by decide) (by decide));rw [<- HFL.out] at h1;exact ((Touch.of_below (S := fun _ => False) hb4').row h1 (fun _ _ => id)).alloc _);have hcol5 : ColV (w4.alloc (.cells #[.slice fa fl fcc, .iface ct (.pointer (some ⟨cp, 0, none⟩))] 163)) 0 (.iface ct (.pointer (some ⟨cp, 0, none⟩))) s.N (s.off - 1) := hC4.zero.below ((Below.refl _ w4).alloc (Nat.le_refl _) _)
    have hbun6 : BunX w6 v6 (bvs ++ [(.slice fa fl fcc, .iface ct (.pointer (some ⟨cp, 0, none⟩)))]) (bs ++ [⟨fs, s.N, s.off - 1⟩]) := by
      have hvl : bvs.length = bl := (by have := HM.out.ds.bn.len; omega);refine ⟨by rw [List.length_append, flatBu_append, hbsl]; exact r6, by simp [hvl, hbsl], fun i hi => ?_⟩;rw [List.length_append] at hi;simp at hi
      by_cases hib : i < bs.length
      have e1 : (bvs ++ [((.slice fa fl fcc : Value), (.iface ct (.pointer (some ⟨cp, 0, none⟩)) : Value))]).getD i vv0 = bvs.getD i vv0 := (by simp [List.getD, List.getElem?_append_left (show i < bvs.length by omega)]);have e2 : (bs ++ [(⟨fs, s.N, s.off - 1⟩ : BS)]).getD i b0S = bs.getD i b0S := (by simp [List.getD, List.getElem?_append_left hib]);rw [e1, e2];exact ⟨t46.row (hDs5.bn.each i hib).1 (hst5.row (hDs5.bn.each i hib).1 (by decide) (by decide) (by decide)), (hDs5.bn.each i hib).2.touch t46 hst5⟩
      have ei : i = bs.length := (by omega);subst ei;have e1 : (bvs ++ [((.slice fa fl fcc : Value), (.iface ct (.pointer (some ⟨cp, 0, none⟩)) : Value))]).getD bs.length vv0 = ((.slice fa fl fcc : Value), (.iface ct (.pointer (some ⟨cp, 0, none⟩)) : Value)) := (by simp [List.getD, HM.out.ds.bn.len.symm]);have e2 : (bs ++ [(⟨fs, s.N, s.off - 1⟩ : BS)]).getD bs.length b0S = ⟨fs, s.N, s.off - 1⟩ := (by simp [List.getD]);rw [e1, e2];exact ⟨t46.row hfs5 (hst5.row hfs5 (by decide) (by decide) (by decide)), hcol5.touch t46 hst5⟩
    have hDs6 := hDs5.moreB g6 hbun6;have hblk6 : w6.heap[db]? = some (.cells #[.slice (some ⟨qk, 0, none⟩) (m + 1) kc, .slice ba bl bcap, vX'] 168 (0, 0)) := t46.at_ hDs5.blk (fun e => row_ne (World.ownsRow.alloc ((Touch.of_below (S := fun _ => False) hb4').row HRW.out (fun _ _ => id)) _) e hDs5.blk (by decide) rfl);have c6a : w6.cell? ⟨db, 1, none⟩ = some (.slice ba bl bcap) := cell_of_row _ _ 1 _ 168 (0, 0) hblk6;have f6a : w6.frozen? ⟨db, 1, none⟩ = false := frozen_of_row _ _ 1 _ 168 hblk6;have hgnot2 : ¬ (Value.slice ba bl bcap).ownBlock = some gb := fun e => hgnot (.inr (.inl e))
    have c6b : w6.cell? ⟨gb, 0, none⟩ = some (.slice fa fl fcc) := by have h1 : w6.heap[gb]? = (w4.alloc (.cells #[.slice fa fl fcc, .iface ct (.pointer (some ⟨cp, 0, none⟩))] 163)).heap[gb]? := t46.block gb (by simp; omega) hgnot2;rw [World.cell?_of_block (a := ⟨gb, 0, none⟩) h1];exact (Below.cell (B := w4.heap.size) (p := ⟨gb, 0, none⟩) ((Below.refl _ _).alloc (Nat.le_refl _) _) hgb4).trans d4b
    have ht6 : Touch (DsS db (.slice ba bl bcap) vX) w (w6.setCell ⟨db, 1, none⟩ v6) :=
      (((HM.out.t.below hb4').alloc _).grown g6 (fun k hk _ => .inr (.inl hk))).setCell (p := ⟨db, 1, none⟩) (fun _ => .inl rfl) v6
    have HADD : Hid (AddedP w (w6.setCell ⟨db, 1, none⟩ v6) db (.slice (some ⟨qk, 0, none⟩) (m + 1) kc) (.slice ba bl bcap) vX (bs ++ [⟨fs, s.N, s.off - 1⟩]) s.xs) := by
      refine ⟨v6, vX', _, hDs6, ht6, fun k hk => ?_⟩
      rcases hk with e | e | e
      exact .inl (.inl e)
      · rcases d6 with e2 | e2
        exact .inl (.inr (.inl (e2 ▸ e)));rw [e2.1] at e;injection e with e;have := hb4.size;simp at this;exact .inr (by simp at e; omega)
      exact HM.out.nx k e
    subst hv6;clear H6 r6 g6 d6 hDs4 hDs5 t46 hst5 hfs5 hcol5 hbun6 hDs6 hblk6 ht6 HM HCO HRW hC4;refine hK.out _ _ ⟨c6a, c6b⟩ (fun hHeld => ?_);clear hK KK;try simp only [Act.put, sA, sB, sC]
    refine tkM [17, 18] 16 (v := ?_) ?_ ?_
    rotate_left;· intro w hSw;(try dsimp only at hSw);go_simp;try with_reducible rfl
    try simp only [Act.put, sA, sB, sC]
    refine tkM [18] 17 (v := ?_) ?_ ?_
    rotate_left;· intro w hSw;(try dsimp only at hSw);go_simp;try with_reducible rfl
    try simp only [Act.put, sA, sB, sC]
    refine wpAnyS_lastL (i := 18) (by kernel_rfl) rfl (by kernel_rfl) (fun KK hK => ?_);go_simp;refine hK.out _ _ ?_;clear hK KK;try simp only [Act.put, sA, sB, sC]
    refine wpAnyS_done (by kernel_rfl) ?_ _;go_wp2;go_end0;rw [<- HSE.out];exact ⟨rfl, HADD.out⟩
end Go.Proofs.YtfcgnpchbcmdeaaGreat

namespace Go.Proofs.YtfcgnpchbcmdeaaGreat
set_option maxRecDepth 100000
set_option maxHeartbeats 4000000
open Go.RowKit Go.Lib Go.Sort
def orI (a b : Int) : Int := if a = 0 then b else a
theorem or_any (q c : Nat) (a b : Int) (w : World) (h0 : w.cell? ⟨q, 0, none⟩ = some (.int .i64 a)) (h1 : w.cell? ⟨q, 1, none⟩ = some (.int .i64 b)) : Calls Tryz.prog 192 #[.slice (some ⟨q, 0, none⟩) 2 c] w fun e w' => e = .returned (.int .i64 (orI a b)) /\ w' = w := by
  have HO : Hid (orI a b = if a = 0 then b else a) := rfl;generalize orI a b = r at *;go_enter Tryz.func192, Tryz.ntmps192;go_wp2_with fail
  go_loop [8] (fun ti => ∃ k : Nat, ti = .int .i64 k /\ k <= 2 /\ (1 <= k -> Hid (a = 0)) /\ (2 <= k -> Hid (b = 0))) (fun ti => 2 - (intOf ti).toNat)
  case atStart => exact ⟨0, rfl, by omega, fun h => by omega, fun h => by omega⟩
  case round =>
    obtain ⟨k, rfl, hk, ha, hb⟩ := hrel
    rcases (show k = 0 ∨ k = 1 ∨ k = 2 by omega) with rfl | rfl | rfl
    · clear ha hb
      by_cases ea : a = 0
      · have eb : (a != 0) = false := (by simp [ea]);have HA : Hid (a = 0) := ea;clear ea;go_wp2;go_roundw;case rel => exact ⟨1, rfl, by omega, fun _ => HA, fun h => by omega⟩
        case measure => simp [intOf]
      have eb : (a != 0) = true := by simpa using ea
      have HR : Hid (r = a) := (by show _ = _; rw [HO.out, if_neg ea]);clear ea HO;go_wp2;go_ret;exact ⟨by rw [HR.out]; rfl, rfl⟩
    · have HA := ha (by omega);clear ha hb
      by_cases ea : b = 0
      · have eb : (b != 0) = false := (by simp [ea]);have HB : Hid (b = 0) := ea;clear ea;go_wp2;go_roundw;case rel => exact ⟨2, rfl, by omega, fun _ => HA, fun _ => HB⟩
        case measure => simp [intOf]
      have eb : (b != 0) = true := by simpa using ea
      have HR : Hid (r = b) := (by show _ = _; rw [HO.out, if_pos HA.out]);clear ea HO;go_wp2;go_ret;exact ⟨by rw [HR.out]; rfl, rfl⟩
    have HA := ha (by omega);have HB := hb (by omega);have HR : Hid (r = 0) := (by show _ = _; rw [HO.out, if_pos HA.out, HB.out]);clear ha hb HO;go_wp2;go_ret;exact ⟨by rw [HR.out]; rfl, rfl⟩
def Gr (W w' : World) : Prop := ∃ q os, w' = grow (W.drewN q) os
theorem Gr.refl (W : World) : Gr W W := ⟨0, #[], by simp; rfl⟩
theorem Gr.alloc {W w' : World} (h : Gr W w') (o : Obj) : Gr W (w'.alloc o) := by obtain ⟨q, os, rfl⟩ := h;exact ⟨q, os ++ #[o], by rw [alloc_eq_grow, grow_grow]⟩
theorem Gr.drew {W w' : World} (h : Gr W w') : Gr W w'.drew := by obtain ⟨q, os, rfl⟩ := h;exact ⟨q + 1, os, rfl⟩
theorem Gr.below {W w' : World} (h : Gr W w') : Below W.heap.size W w' := by obtain ⟨q, os, rfl⟩ := h;refine ⟨rfl, rfl, rfl, by simp [grow], fun k hk => ?_⟩;rw [Go.Sort.heap_grow_old _ _ (by simpa using hk)];rfl
def cmpX (x y : XS) : Int := orI (Lib.compareInt (x.row : Nat) (y.row : Nat)) (Lib.compareInt (x.f : Nat) (y.f : Nat))
theorem byRowAndFeature_any (x y : XS) (W : World) : Calls Tryz.prog 148 #[.agg #[.int .i64 (x.row : Nat), .int .i64 (x.f : Nat), .int .i64 (x.bin : Nat)], .agg #[.int .i64 (y.row : Nat), .int .i64 (y.f : Nat), .int .i64 (y.bin : Nat)]] W fun e w' => e = .returned (.int .i64 (cmpX x y)) /\ Gr W w' := by
  have HC : Hid (cmpX x y = orI (Lib.compareInt (x.row : Nat) (y.row : Nat)) (Lib.compareInt (x.f : Nat) (y.f : Nat))) := rfl;have H1 : Hid (∀ w : World, Calls Tryz.prog 151 #[.int .i64 (x.row : Nat), .int .i64 (y.row : Nat)] w fun e w' => e = .returned (.int .i64 (Lib.compareInt (x.row : Nat) (y.row : Nat))) /\ w' = w) := fun w => Tryz.cmp_Compare_int _ _ w;have H2 : Hid (∀ w : World, Calls Tryz.prog 151 #[.int .i64 (x.f : Nat), .int .i64 (y.f : Nat)] w fun e w' => e = .returned (.int .i64 (Lib.compareInt (x.f : Nat) (y.f : Nat))) /\ w' = w) := fun w => Tryz.cmp_Compare_int _ _ w;obtain ⟨x1, x2, x3⟩ := x;obtain ⟨y1, y2, y3⟩ := y;simp only at HC H1 H2 ⊢;generalize cmpX ⟨x1, x2, x3⟩ ⟨y1, y2, y3⟩ = r at *;generalize Lib.compareInt (x1 : Nat) (y1 : Nat) = c1 at *;generalize Lib.compareInt (x2 : Nat) (y2 : Nat) = c2 at *;go_enter Tryz.func148, Tryz.ntmps148;go_upto_region 1 with fail
  generalize hw0 : (W.alloc (.cells #[.int .i64 (x1 : Nat), .int .i64 (x2 : Nat), .int .i64 (x3 : Nat)] 184)).alloc (.cells #[.int .i64 (y1 : Nat), .int .i64 (y2 : Nat), .int .i64 (y3 : Nat)] 184) = w0;have hs0 : w0.heap.size = W.heap.size + 1 + 1 := (by rw [<- hw0]; simp);have HG0 : Hid (Gr W w0) := (by show Gr _ _; rw [<- hw0]; exact ((Gr.refl W).alloc _).alloc _);have a0 : w0.cell? ⟨W.heap.size, 0, none⟩ = some (.int .i64 (x1 : Nat)) := (by rw [<- hw0]; simp [go_sem]);have a1 : w0.cell? ⟨W.heap.size, 1, none⟩ = some (.int .i64 (x2 : Nat)) := (by rw [<- hw0]; simp [go_sem]);have b0 : w0.cell? ⟨W.heap.size + 1, 0, none⟩ = some (.int .i64 (y1 : Nat)) := (by rw [<- hw0]; simp [go_sem]);have b1 : w0.cell? ⟨W.heap.size + 1, 1, none⟩ = some (.int .i64 (y2 : Nat)) := (by rw [<- hw0]; simp [go_sem]);have l0 : W.heap.size < w0.heap.size := by omega
  have l1 : W.heap.size + 1 < w0.heap.size := (by omega);clear hw0 hs0
  have H3 : Hid (∀ w : World, w.cell? ⟨w0.heap.size, 0, none⟩ = some (.int .i64 c1) -> w.cell? ⟨w0.heap.size, 1, none⟩ = some (.int .i64 c2) -> Calls Tryz.prog 192 #[.slice (some ⟨w0.heap.size, 0, none⟩) 2 2] w fun e w' => e = .returned (.int .i64 r) /\ w' = w) := fun w h0 h1 => by rw [HC.out];exact or_any w0.heap.size 2 c1 c2 w h0 h1
  go_region_held3 (fun w' => w'.cell? ⟨W.heap.size, 0, none⟩ = some (.int .i64 (x1 : Nat)) /\ w'.cell? ⟨W.heap.size, 1, none⟩ = some (.int .i64 (x2 : Nat)) /\ w'.cell? ⟨W.heap.size + 1, 0, none⟩ = some (.int .i64 (y1 : Nat)) /\ w'.cell? ⟨W.heap.size + 1, 1, none⟩ = some (.int .i64 (y2 : Nat))) (exact ⟨(Below.cell (B := w0.heap.size) (w := w0) (p := ⟨W.heap.size, 0, none⟩) (by repeat (first | with_reducible exact Below.refl _ _ | with_reducible apply Below.drew | (refine Below.alloc ?_ (by first | omega | (simp; omega) | simp) _))) l0).trans a0, (Below.cell (B := w0.heap.size) (w := w0) (p := ⟨W.heap.size, 1, none⟩) (by repeat (first | with_reducible exact Below.refl _ _ | with_reducible apply Below.drew | (refine Below.alloc ?_ (by first | omega | (simp; omega) | simp) _))) l0).trans a1, (Below.cell (B := w0.heap.size) (w := w0) (p := ⟨W.heap.size + 1, 0, none⟩) (by repeat (first | with_reducible exact Below.refl _ _ | with_reducible apply Below.drew | (refine Below.alloc ?_ (by first | omega | (simp; omega) | simp) _))) l1).trans b0, (Below.cell (B := w0.heap.size) (w := w0) (p := ⟨W.heap.size + 1, 1, none⟩) (by repeat (first | with_reducible exact Below.refl _ _ | with_reducible apply Below.drew | (refine Below.alloc ?_ (by first | omega | (simp; omega) | simp) _))) l1).trans b1⟩) (first | (go_at_call_of 151 (x1); refine (H1.out _).mono ?_; rintro e w' ⟨rfl, rfl⟩) | (go_at_call_of 151 (x2); refine (H2.out _).mono ?_; rintro e w' ⟨rfl, rfl⟩) | (go_at_call 192; refine (H3.out _ (by simp [go_sem]) (by simp [go_sem])).mono ?_; rintro e w' ⟨rfl, rfl⟩))
  go_wp2;go_ret;exact ⟨rfl, (HG0.out.alloc _).drew⟩
def encX (x : XS) : List Value := cellsX x
instance : Inhabited XS := ⟨⟨0, 0, 0⟩⟩
theorem ltX (x y : XS) : ltOf cmpX x y = decide (x.row < y.row ∨ x.row = y.row /\ x.f < y.f) := by
  obtain ⟨x1, x2, x3⟩ := x;obtain ⟨y1, y2, y3⟩ := y;unfold ltOf cmpX orI Lib.compareInt;simp only
  by_cases h1 : x1 < y1
  simp [h1]
  by_cases h2 : y1 < x1
  have : ¬ x1 = y1 := (by omega);simp [h1, h2, this];have e : x1 = y1 := (by omega);subst e
  by_cases h3 : x2 < y2
  simp [h3]
  by_cases h4 : y2 < x2 <;> simp [h3, h4]
theorem swoX : SWO (ltOf cmpX) where
  irrefl x := by rw [ltX]; simp
  trans x y z h1 h2 := by rw [ltX] at *; simp at *; omega
  ntrans x y z h1 h2 := by rw [ltX] at *; simp at *; omega
theorem cmpLaysX (blk off size : Nat) (w : World) : CmpLays Tryz.prog 148 #[] encX 3 cmpX blk off size w :=
  fun _ _ _ _ x y => byRowAndFeature_any x y _
theorem sortX_any (blk cap : Nat) (d : Array XS) (w : World) (hH : HoldsK encX 3 w blk 0 d) (hblk : blk < w.heap.size) (hsz : d.size < 4611686018427387904) : Calls Tryz.prog 208 #[.slice (some ⟨blk, 0, none⟩) d.size cap, .func (.func 148) #[] #[]] w fun e w' => e = .returned (.tuple #[]) /\ ∃ (d' : Array XS) (n : Nat) (os : Array Obj), PermIn 0 d.size d d' /\ SortedIn (ltOf cmpX) 0 d.size d' /\ w' = sortWorldK encX 3 w blk 0 n d' os := by have eg : ∀ args w, (callFunc 148 args).run Tryz.prog w = .ok (.enter 148 args) w := enters_of Tryz.func148 (by kernel_rfl) rfl;exact AnyQ.slices_SortFunc Tryz.sortX 3 Tryz.isAgg184 Tryz.sizeOf184 encX (fun _ => rfl) (fun x v hv => by simp [encX, cellsX] at hv; rcases hv with rfl | rfl | rfl <;> rfl) cmpX swoX 148 #[] blk 0 cap d w eg (cmpLaysX blk 0 d.size w) hH hblk hsz
theorem sortX_none (p : Option Addr) (cap : Nat) (w : World) : Calls Tryz.prog 208 #[.slice p 0 cap, .func (.func 148) #[] #[]] w fun e w' => e = .returned (.tuple #[]) /\ w' = w := AnyF.slices_SortFunc_none { Tryz.sortX with } p cap _ w
theorem flatX_key (L : List XS) : ∀ (i r : Nat), i < L.length -> r < 3 -> (flatX L)[i * 3 + r]? = (cellsX (L.getD i ⟨0, 0, 0⟩))[r]? := by
  induction L with
  | nil => intro i r hi; simp at hi
  | cons e L ih =>
    intro i r hi hr
    cases i with
    | zero => simp only [flatX, Nat.zero_mul, Nat.zero_add, List.getD_cons_zero]; rw [List.getElem?_append_left (by simpa [cellsX] using hr)]
    | succ i =>
      simp only [flatX, List.getD_cons_succ];rw [List.getElem?_append_right (by simp [cellsX]; omega)];have := ih i r (by simpa using hi) hr;rw [<- this];congr 1;simp [cellsX]; omega
theorem flatK_X (d : List XS) : (Go.Sort.flatK encX 3 d.toArray).toList = flatX d := by
  apply List.ext_getElem?;intro t
  by_cases ht : t < d.length * 3
  · have hk := flatX_key d (t / 3) (t % 3) (by omega) (by omega);rw [show t / 3 * 3 + t % 3 = t by omega] at hk;rw [hk, Array.getElem?_toList];have hd : t / 3 < d.length := (by omega);simp only [Go.Sort.flatK];rw [Array.getElem?_map];simp [ht, hd, encX, cellsX, List.getD]
    rcases (show t % 3 = 0 ∨ t % 3 = 1 ∨ t % 3 = 2 by omega) with e | e | e <;> simp [e]
  rw [List.getElem?_eq_none (by simp; omega), List.getElem?_eq_none (by rw [flatX_len]; omega)]
theorem ownX_sorted {w : World} {base g cap m : Nat} {os : Array Obj} {P D : List XS} (hl : D.length = P.length) (h : OwnX w base (.slice (some ⟨g, 0, none⟩) P.length cap) P) : OwnX (Go.Proofs.sortWorldK encX 3 w g 0 m D.toArray os) base (.slice (some ⟨g, 0, none⟩) P.length cap) D /\ w.grownBy (Go.Proofs.sortWorldK encX 3 w g 0 m D.toArray os) (some g) := by
  rcases h.2 with ⟨e, _⟩ | ⟨g', cap', cur, e, hb, hg, hnc, hcm, hcs, htake⟩
  simp at e;simp only [Value.slice.injEq, Option.some.injEq, Addr.mk.injEq, and_true, true_and] at e;obtain ⟨rfl, rfl⟩ := e;have hgl : g < w.heap.size := (Array.getElem?_eq_some_iff.1 hg).1;have hF : (Go.Sort.flatK encX 3 D.toArray).size = P.length * 3 := by simp [hl]
  have hh : (Go.Proofs.sortWorldK encX 3 w g 0 m D.toArray os).heap[g]? = some (.cells (Go.Sort.putCells id 0 (Go.Sort.flatK encX 3 D.toArray) cur) 184 (0, 0)) := (by unfold Go.Proofs.sortWorldK Go.Sort.putRowK;rw [Go.Sort.heap_grow_old _ _ (by simpa using hgl)];simp [Go.Sort.putRow, Go.Sort.mapBlock, Go.Sort.ahead, Array.getElem?_modify, hg, Go.Sort.onCells]);refine ⟨⟨by rw [flatX_len], .inr ⟨g, cap, _, by simp [hl], hb, hh, by simpa [hl] using hnc, hcm, by simp [Go.Sort.putCells, hcs], ?_⟩⟩, ⟨rfl, rfl, rfl, ?_, fun k hk hne => ?_⟩⟩;rw [<- flatK_X, show D.length * 3 = (Go.Sort.flatK encX 3 D.toArray).size by simp];exact take_put cur _ (by rw [hF, hcs]; exact Nat.mul_le_mul_right _ hnc);unfold Go.Proofs.sortWorldK Go.Sort.putRowK;simp
  unfold Go.Proofs.sortWorldK Go.Sort.putRowK;rw [Go.Sort.heap_grow_old _ _ (by simpa using hk)];have : g ≠ k := fun e => hne (by rw [e]);simp [Go.Sort.putRow, Go.Sort.mapBlock, Go.Sort.ahead, Array.getElem?_modify, this]
theorem ownX_holds {w : World} {base g cap : Nat} {P : List XS} (h : OwnX w base (.slice (some ⟨g, 0, none⟩) P.length cap) P) : Go.Sort.HoldsK encX 3 w g 0 P.toArray := by
  intro j hj
  have hj' : j < P.length * 3 := by simpa using hj
  refine ⟨?_, ?_⟩;rw [Nat.zero_add, World.ownsRow.cellAt h j hj', <- flatK_X];have : j < (Go.Sort.flatK encX 3 P.toArray).size := hj;rw [Array.getElem?_toList, Array.getElem?_eq_getElem this, getElem!_pos _ j this];rfl;rw [Nat.zero_add];exact World.ownsRow.frozenAt h j
def SortedX (D : List XS) : Prop := D.Pairwise fun x y => x.row < y.row ∨ x.row = y.row /\ x.f <= y.f
theorem sorted_any (v : Value) (xs : List XS) (w : World) (h : OwnX w 0 v xs) (hl : xs.length <= 1000000) : Calls Tryz.prog 208 #[v, .func (.func 148) #[] #[]] w fun e w' => e = .returned (.tuple #[]) /\ (∃ D : List XS, D.Perm xs /\ SortedX D /\ OwnX w' 0 v D) /\ w.grownBy w' v.ownBlock := by
  have h' := h
  rcases h.2 with ⟨rfl, h0⟩ | ⟨g, cap, cur, rfl, _, hh, _⟩
  have e : xs = [] := List.length_eq_zero_iff.1 h0;subst e;refine (sortX_none none 0 w).mono ?_;rintro e w' ⟨rfl, rfl⟩;exact ⟨rfl, ⟨[], List.Perm.refl _, List.Pairwise.nil, h⟩, grown_refl _ _⟩;have hs := sortX_any g cap xs.toArray w (ownX_holds h') (Array.getElem?_eq_some_iff.1 hh).1 (by simp; omega);rw [show xs.toArray.size = xs.length by simp] at hs;refine hs.mono ?_;rintro e w' ⟨rfl, d', m, os, hperm, hsort, rfl⟩;obtain ⟨hps, _, hpp⟩ := hperm;have hds : d'.size = xs.length := (by rw [hps]; simp);have hD : d'.toList.length = xs.length := (by rw [Array.length_toList, hds]);have ho := ownX_sorted (m := m) (os := os) hD h';rw [show d'.toList.toArray = d' by simp] at ho;refine ⟨rfl, ⟨d'.toList, ?_, ?_, ho.1⟩, ho.2⟩;have e1 : d'.extract 0 xs.length = d' := (by rw [<- hds]; simp);have e2 : xs.toArray.extract 0 xs.length = xs.toArray := (by simp);rw [e1, e2] at hpp;exact hpp
  unfold SortedX;rw [List.pairwise_iff_getElem];intro i j hi hj hij;simp at hi hj;have := hsort i j (Nat.zero_le _) hij (by omega);rw [ltX] at this;simp [hi, hj] at this;simp only [Array.getElem_toList];omega
end Go.Proofs.YtfcgnpchbcmdeaaGreat

namespace Go.Proofs.YtfcgnpchbcmdeaaGreat
open Go.RowKit
theorem idxOf_in : ∀ (zs : List Int) (x : Int) (i : Nat), x ∈ zs -> 0 <= Lib.idxFrom zs x i /\ Lib.idxFrom zs x i < (i + zs.length : Nat)
  | [], x, i, h => by simp at h
  | z :: zs, x, i, h => by
    simp only [Lib.idxFrom];split;simp; omega;rename_i hne
    have hm : x ∈ zs := by
      rcases List.mem_cons.1 h with e | e
      exact absurd e.symm hne;exact e
    have := idxOf_in zs x (i + 1) hm;simp only [List.length_cons];omega
theorem foldl_max_mem : ∀ (zs : List Int) (a : Int), zs.foldl max a = a ∨ zs.foldl max a ∈ zs
  | [], a => .inl rfl
  | z :: zs, a => by
    simp only [List.foldl_cons]
    rcases foldl_max_mem zs (max a z) with h | h
    · by_cases e : a <= z
      have : max a z = z := (by omega);rw [this] at h;right; rw [this, h]; simp;have : max a z = a := (by omega);rw [this] at h;left; rw [this]; exact h
    right; simp [h]
theorem maxOf_mem {zs : List Int} (h : 0 < zs.length) : Lib.maxOf zs ∈ zs := by
  cases zs with
  | nil => simp at h
  | cons z zs =>
    have hm : Lib.maxOf (z :: zs) = List.foldl max z zs := by first | rfl | (simp [Lib.maxOf]) | (simp [Lib.maxOf, Int.max_def])
    rw [hm]
    rcases foldl_max_mem zs z with e | e
    rw [e]; simp;simp [e]
theorem mostF_in (B : List Nat) {h : Nat} (h0 : 0 < h) : 0 <= mostF B h /\ mostF B h < h := by have := idxOf_in (cntsOf B h) (Lib.maxOf (cntsOf B h)) 0 (maxOf_mem (by rw [cntsOf_len]; exact h0));rw [cntsOf_len] at this;unfold mostF Lib.idxOf;omega
def dflF (e : ES) (B : List Nat) : Nat := (mostF B (e.cnt + 2)).toNat
theorem dflF_eq (e : ES) (B : List Nat) : mostF B (e.cnt + 2) = ((dflF e B : Nat) : Int) := by have := mostF_in B (show 0 < e.cnt + 2 by omega);unfold dflF;omega
def kF (es : List ES) (Bb : List (List Nat)) (k : Nat) : KS := ⟨es.getD k e0S, dflF (es.getD k e0S) (Bb.getD k [])⟩
def oF (es : List ES) (Bb : List (List Nat)) (k : Nat) : List Bool := outsOf (Bb.getD k []) (dflF (es.getD k e0S) (Bb.getD k []))
def ksF (es : List ES) (Bb : List (List Nat)) (k : Nat) : List KS := (List.range k).map (kF es Bb)
def osF (es : List ES) (Bb : List (List Nat)) (k : Nat) : List (List Bool) := (List.range k).map (oF es Bb)
theorem ksF_len (es : List ES) (Bb : List (List Nat)) (k : Nat) : (ksF es Bb k).length = k := by simp [ksF]
theorem osF_len (es : List ES) (Bb : List (List Nat)) (k : Nat) : (osF es Bb k).length = k := by simp [osF]
theorem ksF_succ (es : List ES) (Bb : List (List Nat)) (k : Nat) : ksF es Bb (k + 1) = ksF es Bb k ++ [kF es Bb k] := by simp [ksF, List.range_succ]
theorem ksF_getD (es : List ES) (Bb : List (List Nat)) {n i : Nat} (h : i < n) : (ksF es Bb n).getD i k0S = kF es Bb i := by simp [ksF, List.getD, h]
theorem osF_getD (es : List ES) (Bb : List (List Nat)) {n i : Nat} (h : i < n) : (osF es Bb n).getD i [] = oF es Bb i := by simp [osF, List.getD, h]
theorem flatKn_append : ∀ (A B : List KS) (u v : List (Value × Value)), u.length = A.length -> flatKn (A ++ B) (u ++ v) = flatKn A u ++ flatKn B v
  | [], B, u, v, h => by
    cases u with
    | nil => simp [flatKn]
    | cons x u => simp at h
  | a :: A, B, u, v, h => by
    cases u with
    | nil => simp at h
    | cons x u =>
      simp only [List.cons_append, flatKn, List.append_assoc];rw [flatKn_append A B u v (by simpa using h)]
theorem info101 : (Tryz.prog.info? 101).map (fun i => (i.zero, i.size, i.bytes)) = some (some (.slice none 0 0), 1, 24) := by kernel_rfl
theorem make_outs (n : Nat) (hn : n <= 1000000) (W : World) : (Instr.makeSlice 309 (.int .i64 (n : Int)) (.int .i64 (n : Int))).run Tryz.prog W = .ok (.slice (some ⟨W.heap.size, 0, none⟩) n n) (W.alloc (.cells (madeCells #[.slice none 0 0] n) 101)) := by obtain ⟨i0, hinf, hz0, hz1, hz2⟩ := info_parts info101;have := run_make (P := Tryz.prog) W 309 101 i0 _ Tryz.underlying309 hinf hz0 .i64 .i64 (n : Int) (n : Int) (by omega) (by omega) (by rw [hz2]; omega) (by omega);rw [hz1] at this;rw [this, Int.toNat_natCast, Nat.mul_one];rfl
theorem made_outs (n : Nat) (W : World) (base : Nat) (hn : n <= 1000000) (hb : base <= W.heap.size) : (W.alloc (.cells (madeCells #[.slice none 0 0] n) 101)).ownsRow base 101 1 (.slice (some ⟨W.heap.size, 0, none⟩) n n) n (List.replicate n (.slice none 0 0)) := by
  have := World.ownsRow_lit (base := base) (size := 1) (e := 101) W (madeCells #[.slice none 0 0] n) n hb (by unfold maxLen; omega) (by simp [madeCells]);rw [made_one] at this
  simpa using this
theorem info172 : (Tryz.prog.info? 172).map (fun i => (i.zero, i.size, i.bytes)) = some (some (.agg #[.bool false, .slice none 0 0, .slice none 0 0, .int .i64 0]), 4, 64) := by kernel_rfl
end Go.Proofs.YtfcgnpchbcmdeaaGreat
