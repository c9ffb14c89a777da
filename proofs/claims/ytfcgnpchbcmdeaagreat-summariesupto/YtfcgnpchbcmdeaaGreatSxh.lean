/-
  The contract of one step of a script that speaks of configurations and summaries alone.
-/
import Derived.Test.YtfcgnpchbcmdeaaGreatSxg
import Derived.Test.YtfcgnpchbcmdeaaGreatCke
namespace Go.Proofs.YtfcgnpchbcmdeaaGreat
open Go.RowKit

theorem PostS.of_below {U : List Int} {g : Nat} {c : Array Value} {nx : Int} {w w' : World} {Ls : List (List Ent)} (hS : StateE w g c Ls nx) (hG : ∀ L ∈ Ls, GoodU U L) (hb : Below w.heap.size w w') : PostS U g c nx w (.returned (.bool true)) w' :=
  ⟨rfl, c, Ls, nx, hS.below hb, hG, by omega, fun _ _ _ _ _ => rfl, hb.mono (Nat.le_of_lt hS.lt), Frame.of_below hb⟩

theorem PostS.back {U : List Int} {g : Nat} {c : Array Value} {nx : Int} {w w1 w' : World} {e : Ending} (hb : Below w.heap.size w w1) (hg : g < w.heap.size) (h : PostS U g c nx w1 e w') : PostS U g c nx w e w' := by
  obtain ⟨h1, c', Ls', nx', h2, h3, h4, h5, h6, h7⟩ := h
  exact ⟨h1, c', Ls', nx', h2, h3, h4, h5, (hb.mono (by omega)).trans h6, (Frame.of_below hb).trans h7⟩

set_option maxRecDepth 100000 in
set_option maxHeartbeats 2000000 in
theorem step_s (g : Nat) (c : Array Value) (Ls : List (List Ent)) (nx : Int) (U : List Int) (d : OpD) (w : World)
    (hS : StateE w g c Ls nx) (hG : ∀ L ∈ Ls, GoodU U L) (hn : nx ≤ 9000000) (hU : U.length ≤ 2097152) (hR : OpR w d) (lV : d.vl ≤ 2097152) (lW : d.wl ≤ 2097152) (hZ : ∀ z ∈ d.vz, clampV z ∈ U) (hk1 : 1 ≤ d.kd) (hk4 : d.kd ≤ 4) :
    Calls Tryz.prog 41 #[.pointer (some ⟨g, 0, none⟩), .agg #[.int .i64 d.kd, .int .i64 d.pk, .int .i64 d.bb, .slice d.fa d.fl d.fc, .int .i64 d.bins, .int .i64 d.size, .int .i64 d.budget, .slice d.va d.vl d.vc, .slice d.wa d.wl d.wc, .string d.st, .int .i64 d.x, .int .i64 d.y]] w
      fun e w' => PostS U g c nx w e w' := by
  have hgl := hS.lt
  have h : d.kd = 1 ∨ d.kd = 2 ∨ d.kd = 3 ∨ d.kd = 4 := by omega
  rcases h with h | h | h | h
  · rw [h]
    refine (step_check _ _ _ _ _ _ _ _ _ _ _ _ _ _ _ _ _ _ d.fw d.fs d.ft w hR.fl hR.feats).mono ?_
    rintro e w' ⟨rfl, hb⟩
    exact PostS.of_below hS hG hb
  all_goals rw [h]
  all_goals have HB : Hid (Below w.heap.size w (w.alloc (.cells #[.int .i64 d.kd, .int .i64 d.pk, .int .i64 d.bb, .slice d.fa d.fl d.fc, .int .i64 d.bins, .int .i64 d.size, .int .i64 d.budget, .slice d.va d.vl d.vc, .slice d.wa d.wl d.wc, .string d.st, .int .i64 d.x, .int .i64 d.y] 93))) := (Below.refl _ _).alloc (Nat.le_refl _) _
  all_goals rw [h] at HB
  all_goals have HS : Hid (StateE w g c Ls nx ∧ ∀ L ∈ Ls, GoodU U L) := ⟨hS, hG⟩
  all_goals have HR : Hid (OpR w d) := hR
  all_goals have HZ : Hid (∀ z ∈ d.vz, clampV z ∈ U) := hZ
  all_goals clear hS hG hR hZ h hk1 hk4
  · go_enter Tryz.func41, Tryz.ntmps41
    go_wp2_with fail
    refine (summary_k2 g c Ls nx U d.pk d.bb d.fa d.fl d.fc d.bins d.size d.budget d.va d.vl d.vc d.wa d.wl d.wc d.st d.x d.y d.vz d.wz _ (HS.out.1.below HB.out) HS.out.2 hn hU (ints_below HR.out.vz HB.out (ints_lt HR.out.vz)) (ints_below HR.out.wz HB.out (ints_lt HR.out.wz)) HR.out.vnil HR.out.wnil lV lW HZ.out).mono ?_
    rintro e w' hp
    have HP : Hid (PostS U g c nx w e w') := hp.back HB.out hgl
    obtain ⟨rfl, _⟩ := hp
    go_wp2
    go_ret
    exact HP.out
  · go_enter Tryz.func41, Tryz.ntmps41
    go_wp2_with fail
    refine (summary_k3 g c Ls nx U d.pk d.bb d.fa d.fl d.fc d.bins d.size d.budget d.va d.vl d.vc d.wa d.wl d.wc d.st d.x d.y _ (HS.out.1.below HB.out) HS.out.2 hn hU).mono ?_
    rintro e w' hp
    have HP : Hid (PostS U g c nx w e w') := hp.back HB.out hgl
    obtain ⟨rfl, _⟩ := hp
    go_wp2
    go_ret
    exact HP.out
  · go_enter Tryz.func41, Tryz.ntmps41
    go_wp2_with fail
    refine (summary_k4 g c Ls nx U d.pk d.bb d.fa d.fl d.fc d.bins d.size d.budget d.va d.vl d.vc d.wa d.wl d.wc d.st d.x d.y _ (HS.out.1.below HB.out) HS.out.2 hn hU).mono ?_
    rintro e w' hp
    have HP : Hid (PostS U g c nx w e w') := hp.back HB.out hgl
    obtain ⟨rfl, _⟩ := hp
    go_wp2
    go_ret
    exact HP.out
end Go.Proofs.YtfcgnpchbcmdeaaGreat
