import Derived.Test.YtfcgnpchbcmdeaaGreatZpam
import Derived.Laws.EntriesVeiled
import Derived.Test.YtfcgnpchbcmdeaaGreatZpar
import Derived.Deep.RegionHeld3
import Derived.Test.YtfcgnpchbcmdeaaGreatZpab
namespace Go.Proofs.YtfcgnpchbcmdeaaGreat
open Go.RowKit
end Go.Proofs.YtfcgnpchbcmdeaaGreat

namespace Go.Proofs.YtfcgnpchbcmdeaaGreat
open Go.RowKit
theorem take_many (b : Nat) (vf : Value) (aW : Option Addr) (cW : Nat) (vC : Value) (wt : Int) (fl : Bool) (vr : Value) (p : PartS) (c : Int) (w : World) (h : RB w b vf (.slice aW 200 cW) vC wt fl vr p) : Calls Tryz.prog 98 #[.pointer (some ⟨b, 0, none⟩), .int .u8 c] w fun e w' => e = .returned (.int .i64 3) /\ w' = w := by obtain ⟨_, c1, _, _, _, _⟩ := h.head;clear h;go_enter Tryz.func98, Tryz.ntmps98;go_wp2;go_ret;exact ⟨rfl, rfl⟩
def wErr : WStep -> Int
  | .no => 2
  | _ => 0
set_option maxHeartbeats 2000000 in
theorem take_weight (b : Nat) (vf : Value) (aW : Option Addr) (nW cW : Nat) (vC : Value) (wt : Int) (vr : Value) (p : PartS) (c : Int) (w : World) (h : RB w b vf (.slice aW nW cW) vC wt false vr p) (hW : nW < 200) (h0 : 0 <= wt) (h1 : wt <= 99) (hc0 : 0 <= c) (hc1 : c <= 255) : Calls Tryz.prog 98 #[.pointer (some ⟨b, 0, none⟩), .int .u8 c] w fun e w' => e = .returned (.int .i64 (wErr (weightStep wt c))) /\ ∃ e', WTook b vf (.slice aW nW cW) vC wt false vr p (weightStep wt c) w e' w' := by
  obtain ⟨_, c1, _, _, c4, _⟩ := h.head;have hne : ((nW : Int) == 200) = false := beq_eq_false_iff_ne.2 (by omega);have hne' : ¬ (nW : Int) = 200 := (by omega);have H : Hid (RB w b vf (.slice aW nW cW) vC wt false vr p) := h;clear h;go_enter Tryz.func98, Tryz.ntmps98;go_wp2_with fail
  refine (takeInWeight_any b vf (.slice aW nW cW) vC wt false vr p c w H.out h0 h1 hc0 hc1).mono ?_;rintro e w1 ht;have HT : Hid (WTook b vf (.slice aW nW cW) vC wt false vr p (weightStep wt c) w e w1) := ht
  have hs : (e = .returned (.bool false) /\ wErr (weightStep wt c) = 2) ∨ (e = .returned (.bool true) /\ wErr (weightStep wt c) = 0) := by
    obtain ⟨_, ht⟩ := ht
    cases hw : weightStep wt c with
    | no => rw [hw] at ht; exact .inl ⟨ht.1, rfl⟩
    | whole => rw [hw] at ht; exact .inr ⟨ht.1, rfl⟩
    | digit z => rw [hw] at ht; exact .inr ⟨ht.1, rfl⟩
  clear ht
  rcases hs with ⟨rfl, hs⟩ | ⟨rfl, hs⟩
  all_goals
    have HE := show Hid _ from hs
    clear hs;go_wp2;go_ret;rw [HE.out];exact ⟨rfl, _, HT.out⟩
end Go.Proofs.YtfcgnpchbcmdeaaGreat

namespace Go.Proofs.YtfcgnpchbcmdeaaGreat
set_option maxRecDepth 100000
set_option maxHeartbeats 2000000
open Go.RowKit
theorem orMissing_any (f : Nat) (w : World) : Calls Tryz.prog 212 #[.func (.func f) #[] #[]] w fun e w' => e = .returned (.func (.func 266) #[] #[.pointer (some ⟨w.heap.size, 0, none⟩)]) /\ w' = w.alloc (.cells #[.func (.func f) #[] #[]] 261) := by go_enter Tryz.func212, Tryz.ntmps212;go_wp2;go_ret;exact ⟨rfl, rfl⟩
structure MadeW (w : World) (base : Nat) (v : Value) (cut bins : Int) : Prop where
  ex : ∃ k1 k2 k3 : Nat, v = .agg #[.func (.func 209) #[] #[], .func (.func 210) #[] #[.pointer (some ⟨k1, 0, none⟩), .pointer (some ⟨k2, 0, none⟩)], .func (.func 266) #[] #[.pointer (some ⟨k3, 0, none⟩)]] /\
    base <= k1 /\ base <= k2 /\ base <= k3 /\ w.heap[k1]? = some (.cells #[.int .i64 cut] 3 (0, 0)) /\ w.heap[k2]? = some (.cells #[.int .i64 bins] 3 (0, 0)) /\ w.heap[k3]? = some (.cells #[.func (.func 213) #[] #[]] 261 (0, 0))
theorem alloc_in (W : World) (o : Obj) (n : Nat) (h : W.heap.size = n) : (W.alloc o).heap[n]? = some o := by subst h; exact heap_alloc_new W o
theorem ofWords_any (cut bins : Int) (w : World) : Calls Tryz.prog 160 #[.int .i64 cut, .int .i64 bins] w fun e w' => ∃ v, e = .returned v /\ MadeW w' w.heap.size v cut bins /\ Below w.heap.size w w' := by
  have HM : Hid (∀ W, Calls Tryz.prog 212 #[.func (.func 213) #[] #[]] W fun e w' => e = .returned (.func (.func 266) #[] #[.pointer (some ⟨W.heap.size, 0, none⟩)]) /\ w' = W.alloc (.cells #[.func (.func 213) #[] #[]] 261)) := fun W => orMissing_any 213 W
  have HX : Hid ((((w.alloc (.cells #[.int .i64 cut] 3)).alloc (.cells #[.int .i64 bins] 3)).alloc (.cells #[.nilFunc, .nilFunc, .nilFunc] 263)).heap[w.heap.size]? = some (.cells #[.int .i64 cut] 3 (0, 0)) /\ (((w.alloc (.cells #[.int .i64 cut] 3)).alloc (.cells #[.int .i64 bins] 3)).alloc (.cells #[.nilFunc, .nilFunc, .nilFunc] 263)).heap[w.heap.size + 1]? = some (.cells #[.int .i64 bins] 3 (0, 0)) /\ (((w.alloc (.cells #[.int .i64 cut] 3)).alloc (.cells #[.int .i64 bins] 3)).alloc (.cells #[.nilFunc, .nilFunc, .nilFunc] 263)).heap[w.heap.size + 1 + 1]? = some (.cells #[.nilFunc, .nilFunc, .nilFunc] 263 (0, 0)) /\ Below w.heap.size w (((w.alloc (.cells #[.int .i64 cut] 3)).alloc (.cells #[.int .i64 bins] 3)).alloc (.cells #[.nilFunc, .nilFunc, .nilFunc] 263)) /\ (((w.alloc (.cells #[.int .i64 cut] 3)).alloc (.cells #[.int .i64 bins] 3)).alloc (.cells #[.nilFunc, .nilFunc, .nilFunc] 263)).heap.size = w.heap.size + 1 + 1 + 1) :=
    ⟨(Below.heap_alloc _ _ _ (by simp <;> omega)).trans ((Below.heap_alloc _ _ _ (by simp)).trans (alloc_in _ _ _ rfl)), (Below.heap_alloc _ _ _ (by simp)).trans (alloc_in _ _ _ (by simp)), alloc_in _ _ _ (by simp), (((Below.refl _ _).alloc (Nat.le_refl _) _).alloc (by simp) _).alloc (by simp <;> omega) _, by simp⟩
  go_enter Tryz.func160, Tryz.ntmps160;go_upto_region 1 with fail;generalize (((w.alloc (.cells #[.int .i64 cut] 3)).alloc (.cells #[.int .i64 bins] 3)).alloc (.cells #[.nilFunc, .nilFunc, .nilFunc] 263)) = w3 at *;have h3 : (w3.alloc (.cells #[.func (.func 213) #[] #[]] 261)).heap[w.heap.size + 1 + 1]? = some (.cells #[.nilFunc, .nilFunc, .nilFunc] 263 (0, 0)) := (Below.heap_alloc _ _ _ (by have := HX.out.2.2.2.2; omega)).trans HX.out.2.2.1;have q0 : (w3.alloc (.cells #[.func (.func 213) #[] #[]] 261)).cell? ⟨w.heap.size + 1 + 1, 0, none⟩ = some .nilFunc := cell_of_row _ _ 0 _ 263 (0, 0) h3;have q1 : (w3.alloc (.cells #[.func (.func 213) #[] #[]] 261)).cell? ⟨w.heap.size + 1 + 1, 1, none⟩ = some .nilFunc := cell_of_row _ _ 1 _ 263 (0, 0) h3
  have q2 : (w3.alloc (.cells #[.func (.func 213) #[] #[]] 261)).cell? ⟨w.heap.size + 1 + 1, 2, none⟩ = some .nilFunc := cell_of_row _ _ 2 _ 263 (0, 0) h3;have qf : ∀ o, (w3.alloc (.cells #[.func (.func 213) #[] #[]] 261)).frozen? ⟨w.heap.size + 1 + 1, o, none⟩ = false := fun o => frozen_of_row _ _ o _ 263 h3
  have hfin : ((((w3.alloc (.cells #[.func (.func 213) #[] #[]] 261)).setCell ⟨w.heap.size + 1 + 1, 0, none⟩ (.func (.func 209) #[] #[])).setCell ⟨w.heap.size + 1 + 1, 1, none⟩ (.func (.func 210) #[] #[.pointer (some ⟨w.heap.size, 0, none⟩), .pointer (some ⟨w.heap.size + 1, 0, none⟩)])).setCell ⟨w.heap.size + 1 + 1, 2, none⟩ (.func (.func 266) #[] #[.pointer (some ⟨w3.heap.size, 0, none⟩)])).heap[w.heap.size + 1 + 1]? = some (.cells #[.func (.func 209) #[] #[], .func (.func 210) #[] #[.pointer (some ⟨w.heap.size, 0, none⟩), .pointer (some ⟨w.heap.size + 1, 0, none⟩)], .func (.func 266) #[] #[.pointer (some ⟨w3.heap.size, 0, none⟩)]] 263 (0, 0)) := by
    have k1 := heap_setCell_same _ (w.heap.size + 1 + 1) 0 _ 263 (.func (.func 209) #[] #[]) h3;have k2 := heap_setCell_same _ (w.heap.size + 1 + 1) 1 _ 263 (.func (.func 210) #[] #[.pointer (some ⟨w.heap.size, 0, none⟩), .pointer (some ⟨w.heap.size + 1, 0, none⟩)]) k1;exact heap_setCell_same _ (w.heap.size + 1 + 1) 2 _ 263 (.func (.func 266) #[] #[.pointer (some ⟨w3.heap.size, 0, none⟩)]) k2
  have HR : Hid (((((w3.alloc (.cells #[.func (.func 213) #[] #[]] 261)).setCell ⟨w.heap.size + 1 + 1, 0, none⟩ (.func (.func 209) #[] #[])).setCell ⟨w.heap.size + 1 + 1, 1, none⟩ (.func (.func 210) #[] #[.pointer (some ⟨w.heap.size, 0, none⟩), .pointer (some ⟨w.heap.size + 1, 0, none⟩)])).setCell ⟨w.heap.size + 1 + 1, 2, none⟩ (.func (.func 266) #[] #[.pointer (some ⟨w3.heap.size, 0, none⟩)])).cell? ⟨w.heap.size + 1 + 1, 0, none⟩ = some (.func (.func 209) #[] #[]) /\ ((((w3.alloc (.cells #[.func (.func 213) #[] #[]] 261)).setCell ⟨w.heap.size + 1 + 1, 0, none⟩ (.func (.func 209) #[] #[])).setCell ⟨w.heap.size + 1 + 1, 1, none⟩ (.func (.func 210) #[] #[.pointer (some ⟨w.heap.size, 0, none⟩), .pointer (some ⟨w.heap.size + 1, 0, none⟩)])).setCell ⟨w.heap.size + 1 + 1, 2, none⟩ (.func (.func 266) #[] #[.pointer (some ⟨w3.heap.size, 0, none⟩)])).cell? ⟨w.heap.size + 1 + 1, 1, none⟩ = some (.func (.func 210) #[] #[.pointer (some ⟨w.heap.size, 0, none⟩), .pointer (some ⟨w.heap.size + 1, 0, none⟩)]) /\ ((((w3.alloc (.cells #[.func (.func 213) #[] #[]] 261)).setCell ⟨w.heap.size + 1 + 1, 0, none⟩ (.func (.func 209) #[] #[])).setCell ⟨w.heap.size + 1 + 1, 1, none⟩ (.func (.func 210) #[] #[.pointer (some ⟨w.heap.size, 0, none⟩), .pointer (some ⟨w.heap.size + 1, 0, none⟩)])).setCell ⟨w.heap.size + 1 + 1, 2, none⟩ (.func (.func 266) #[] #[.pointer (some ⟨w3.heap.size, 0, none⟩)])).cell? ⟨w.heap.size + 1 + 1, 2, none⟩ = some (.func (.func 266) #[] #[.pointer (some ⟨w3.heap.size, 0, none⟩)])) := ⟨cell_of_row _ _ 0 _ 263 (0, 0) hfin, cell_of_row _ _ 1 _ 263 (0, 0) hfin, cell_of_row _ _ 2 _ 263 (0, 0) hfin⟩
  have HBF : Hid (Below w.heap.size w ((((w3.alloc (.cells #[.func (.func 213) #[] #[]] 261)).setCell ⟨w.heap.size + 1 + 1, 0, none⟩ (.func (.func 209) #[] #[])).setCell ⟨w.heap.size + 1 + 1, 1, none⟩ (.func (.func 210) #[] #[.pointer (some ⟨w.heap.size, 0, none⟩), .pointer (some ⟨w.heap.size + 1, 0, none⟩)])).setCell ⟨w.heap.size + 1 + 1, 2, none⟩ (.func (.func 266) #[] #[.pointer (some ⟨w3.heap.size, 0, none⟩)]))) := (((HX.out.2.2.2.1.alloc (by have := HX.out.2.2.2.2; omega) _).setCell (p := ⟨w.heap.size + 1 + 1, 0, none⟩) (by simp; omega) _).setCell (p := ⟨w.heap.size + 1 + 1, 1, none⟩) (by simp; omega) _).setCell (p := ⟨w.heap.size + 1 + 1, 2, none⟩) (by simp; omega) _
  have HO : Hid (∀ k, k ≠ w.heap.size + 1 + 1 -> k < w3.heap.size + 1 -> ((((w3.alloc (.cells #[.func (.func 213) #[] #[]] 261)).setCell ⟨w.heap.size + 1 + 1, 0, none⟩ (.func (.func 209) #[] #[])).setCell ⟨w.heap.size + 1 + 1, 1, none⟩ (.func (.func 210) #[] #[.pointer (some ⟨w.heap.size, 0, none⟩), .pointer (some ⟨w.heap.size + 1, 0, none⟩)])).setCell ⟨w.heap.size + 1 + 1, 2, none⟩ (.func (.func 266) #[] #[.pointer (some ⟨w3.heap.size, 0, none⟩)])).heap[k]? = (w3.alloc (.cells #[.func (.func 213) #[] #[]] 261)).heap[k]?) := fun k hk _ => (Below.heap_setCell _ _ _ _ hk).trans ((Below.heap_setCell _ _ _ _ hk).trans (Below.heap_setCell _ _ _ _ hk))
  have HMW : Hid (MadeW ((((w3.alloc (.cells #[.func (.func 213) #[] #[]] 261)).setCell ⟨w.heap.size + 1 + 1, 0, none⟩ (.func (.func 209) #[] #[])).setCell ⟨w.heap.size + 1 + 1, 1, none⟩ (.func (.func 210) #[] #[.pointer (some ⟨w.heap.size, 0, none⟩), .pointer (some ⟨w.heap.size + 1, 0, none⟩)])).setCell ⟨w.heap.size + 1 + 1, 2, none⟩ (.func (.func 266) #[] #[.pointer (some ⟨w3.heap.size, 0, none⟩)])) w.heap.size (.agg #[.func (.func 209) #[] #[], .func (.func 210) #[] #[.pointer (some ⟨w.heap.size, 0, none⟩), .pointer (some ⟨w.heap.size + 1, 0, none⟩)], .func (.func 266) #[] #[.pointer (some ⟨w3.heap.size, 0, none⟩)]]) cut bins) := by
    have hs := HX.out.2.2.2.2;refine ⟨⟨w.heap.size, w.heap.size + 1, w3.heap.size, rfl, Nat.le_refl _, by omega, by omega, ?_, ?_, ?_⟩⟩;rw [HO.out _ (by omega) (by omega), Below.heap_alloc _ _ _ (by omega)]; exact HX.out.1;rw [HO.out _ (by omega) (by omega), Below.heap_alloc _ _ _ (by omega)]; exact HX.out.2.1;rw [HO.out _ (by omega) (by omega)]; exact heap_alloc_new w3 _
  have p0 : w3.cell? ⟨w.heap.size + 1 + 1, 0, none⟩ = some .nilFunc := cell_of_row _ _ 0 _ 263 (0, 0) HX.out.2.2.1;have p1 : w3.cell? ⟨w.heap.size + 1 + 1, 1, none⟩ = some .nilFunc := cell_of_row _ _ 1 _ 263 (0, 0) HX.out.2.2.1;have p2 : w3.cell? ⟨w.heap.size + 1 + 1, 2, none⟩ = some .nilFunc := cell_of_row _ _ 2 _ 263 (0, 0) HX.out.2.2.1;have pf : ∀ o, w3.frozen? ⟨w.heap.size + 1 + 1, o, none⟩ = false := fun o => frozen_of_row _ _ o _ 263 HX.out.2.2.1;have pn := World.new_ne w3 _ p0;clear h3 hfin;go_wp2_with (go_at_call 212; refine (HM.out _).mono ?_; rintro e w' ⟨rfl, rfl⟩)
  obtain ⟨r0, r1, r2⟩ := HR.out;exact bodyPost_ret (v := .agg #[.func (.func 209) #[] #[], .func (.func 210) #[] #[.pointer (some ⟨w.heap.size, 0, none⟩), .pointer (some ⟨w.heap.size + 1, 0, none⟩)], .func (.func 266) #[] #[.pointer (some ⟨w3.heap.size, 0, none⟩)]]) (by simp [results, Tryz.results160, go_sem, r0, r1, r2]) rfl ⟨_, rfl, HMW.out, HBF.out⟩
def tenTo : Nat -> Int
  | 0 => 1
  | n + 1 => tenTo n * 10
theorem tenTo_in : ∀ n, n <= 3 -> 1 <= tenTo n /\ tenTo n <= 1000
  | 0, _ => by simp [tenTo]
  | 1, _ => by simp [tenTo]
  | 2, _ => by simp [tenTo]
  | 3, _ => by simp [tenTo]
  | n + 4, h => by omega
structure MadeN (w : World) (base : Nat) (v : Value) (unit bins size : Int) : Prop where
  ex : ∃ k0 k1 k2 k3 : Nat, v = .agg #[.func (.func 214) #[] #[.pointer (some ⟨k0, 0, none⟩)], .func (.func 216) #[] #[.pointer (some ⟨k1, 0, none⟩), .pointer (some ⟨k2, 0, none⟩)], .func (.func 266) #[] #[.pointer (some ⟨k3, 0, none⟩)]] /\
    base <= k0 /\ base <= k1 /\ base <= k2 /\ base <= k3 /\ w.heap[k0]? = some (.cells #[.int .i64 unit] 3 (0, 0)) /\ w.heap[k1]? = some (.cells #[.int .i64 bins] 3 (0, 0)) /\ w.heap[k2]? = some (.cells #[.int .i64 size] 3 (0, 0)) /\ w.heap[k3]? = some (.cells #[.func (.func 218) #[] #[]] 261 (0, 0))
theorem ofNumbers_any (n : Nat) (bins size : Int) (w : World) (hn : n <= 3) : Calls Tryz.prog 161 #[.int .i64 n, .int .i64 bins, .int .i64 size] w fun e w' => ∃ v, e = .returned v /\ MadeN w' w.heap.size v (tenTo n) bins size /\ Below w.heap.size w w' := by
  have HM : Hid (∀ W, Calls Tryz.prog 212 #[.func (.func 218) #[] #[]] W fun e w' => e = .returned (.func (.func 266) #[] #[.pointer (some ⟨W.heap.size, 0, none⟩)]) /\ w' = W.alloc (.cells #[.func (.func 218) #[] #[]] 261)) := fun W => orMissing_any 218 W
  have HX : Hid (((((w.alloc (.cells #[.int .i64 bins] 3)).alloc (.cells #[.int .i64 size] 3)).alloc (.cells #[.nilFunc, .nilFunc, .nilFunc] 263)).alloc (.cells #[.int .i64 1] 3)).heap[w.heap.size]? = some (.cells #[.int .i64 bins] 3 (0, 0)) /\ ((((w.alloc (.cells #[.int .i64 bins] 3)).alloc (.cells #[.int .i64 size] 3)).alloc (.cells #[.nilFunc, .nilFunc, .nilFunc] 263)).alloc (.cells #[.int .i64 1] 3)).heap[w.heap.size + 1]? = some (.cells #[.int .i64 size] 3 (0, 0)) /\ ((((w.alloc (.cells #[.int .i64 bins] 3)).alloc (.cells #[.int .i64 size] 3)).alloc (.cells #[.nilFunc, .nilFunc, .nilFunc] 263)).alloc (.cells #[.int .i64 1] 3)).heap[w.heap.size + 1 + 1]? = some (.cells #[.nilFunc, .nilFunc, .nilFunc] 263 (0, 0)) /\ ((((w.alloc (.cells #[.int .i64 bins] 3)).alloc (.cells #[.int .i64 size] 3)).alloc (.cells #[.nilFunc, .nilFunc, .nilFunc] 263)).alloc (.cells #[.int .i64 1] 3)).heap[w.heap.size + 1 + 1 + 1]? = some (.cells #[.int .i64 1] 3 (0, 0)) /\ Below w.heap.size w ((((w.alloc (.cells #[.int .i64 bins] 3)).alloc (.cells #[.int .i64 size] 3)).alloc (.cells #[.nilFunc, .nilFunc, .nilFunc] 263)).alloc (.cells #[.int .i64 1] 3)) /\ ((((w.alloc (.cells #[.int .i64 bins] 3)).alloc (.cells #[.int .i64 size] 3)).alloc (.cells #[.nilFunc, .nilFunc, .nilFunc] 263)).alloc (.cells #[.int .i64 1] 3)).heap.size = w.heap.size + 1 + 1 + 1 + 1) :=
    ⟨(Below.heap_alloc _ _ _ (by simp <;> omega)).trans ((Below.heap_alloc _ _ _ (by simp <;> omega)).trans ((Below.heap_alloc _ _ _ (by simp)).trans (alloc_in _ _ _ rfl))), (Below.heap_alloc _ _ _ (by simp <;> omega)).trans ((Below.heap_alloc _ _ _ (by simp)).trans (alloc_in _ _ _ (by simp))), (Below.heap_alloc _ _ _ (by simp)).trans (alloc_in _ _ _ (by simp)), alloc_in _ _ _ (by simp), ((((Below.refl _ _).alloc (Nat.le_refl _) _).alloc (by simp) _).alloc (by simp <;> omega) _).alloc (by simp <;> omega) _, by simp⟩
  go_enter Tryz.func161, Tryz.ntmps161;go_wp2_with fail
  generalize ((((w.alloc (.cells #[.int .i64 bins] 3)).alloc (.cells #[.int .i64 size] 3)).alloc (.cells #[.nilFunc, .nilFunc, .nilFunc] 263)).alloc (.cells #[.int .i64 1] 3)) = w4 at *;go_loopw [9] (fun ti wr => ∃ k : Nat, k <= n /\ ti = .int .i64 k /\ Hid (wr.heap[w.heap.size + 1 + 1 + 1]? = some (.cells #[.int .i64 (tenTo k)] 3 (0, 0))) /\ Hid (w4.grownBy wr (some (w.heap.size + 1 + 1 + 1)))) (fun ti _ => n - (intOf ti).toNat)
  case atStart => exact ⟨0, Nat.zero_le _, rfl, HX.out.2.2.2.1, grown_refl _ _⟩
  case round =>
    obtain ⟨k, hk, rfl, HU, HG⟩ := hrel;have u0 : wr.cell? ⟨w.heap.size + 1 + 1 + 1, 0, none⟩ = some (.int .i64 (tenTo k)) := cell_of_row _ _ 0 _ 3 (0, 0) HU.out;have uf : ∀ o, wr.frozen? ⟨w.heap.size + 1 + 1 + 1, o, none⟩ = false := fun o => frozen_of_row _ _ o _ 3 HU.out
    by_cases hlt : k < n
    · obtain ⟨t1, t2⟩ := tenTo_in k (by omega);have HT : Hid (tenTo (k + 1) = tenTo k * 10) := rfl;generalize tenTo k = tk at *;have hw : IntKind.i64.wrap (tk * 10) = tk * 10 := wrapI (by omega) (by omega);have HN : Hid ((wr.setCell ⟨w.heap.size + 1 + 1 + 1, 0, none⟩ (.int .i64 (tk * 10))).heap[w.heap.size + 1 + 1 + 1]? = some (.cells #[.int .i64 (tk * 10)] 3 (0, 0))) := heap_setCell_same wr (w.heap.size + 1 + 1 + 1) 0 _ 3 _ HU.out;go_wp2;go_roundw;case rel => exact ⟨k + 1, by omega, by go_num, by rw [HT.out]; exact HN.out, grown_set HG.out _ _⟩
      case measure => simp [intOf]; omega
    obtain rfl : k = n := (by omega);have hsz := HX.out.2.2.2.2.2
    have HW3 : Hid (wr.heap[w.heap.size]? = some (.cells #[.int .i64 bins] 3 (0, 0)) /\ wr.heap[w.heap.size + 1]? = some (.cells #[.int .i64 size] 3 (0, 0)) /\ wr.heap[w.heap.size + 1 + 1]? = some (.cells #[.nilFunc, .nilFunc, .nilFunc] 263 (0, 0)) /\ wr.heap[w.heap.size + 1 + 1 + 1]? = some (.cells #[.int .i64 (tenTo k)] 3 (0, 0)) /\ Below w.heap.size w wr /\ w.heap.size + 1 + 1 + 1 < wr.heap.size) :=
      ⟨(HG.out.block _ (by omega) (fun e => by have e' := Option.some.inj e; omega)).trans HX.out.1, (HG.out.block _ (by omega) (fun e => by have e' := Option.some.inj e; omega)).trans HX.out.2.1, (HG.out.block _ (by omega) (fun e => by have e' := Option.some.inj e; omega)).trans HX.out.2.2.1, HU.out, HX.out.2.2.2.2.1.grown HG.out (by omega) (fun q hq => by simp at hq; omega), (Array.getElem?_eq_some_iff.1 HU.out).1⟩
    clear hsz HX HG HU u0 uf;generalize wr = w3 at *;have h3 : (w3.alloc (.cells #[.func (.func 218) #[] #[]] 261)).heap[w.heap.size + 1 + 1]? = some (.cells #[.nilFunc, .nilFunc, .nilFunc] 263 (0, 0)) := (Below.heap_alloc _ _ _ (by have := HW3.out.2.2.2.2.2; omega)).trans HW3.out.2.2.1;have q0 : (w3.alloc (.cells #[.func (.func 218) #[] #[]] 261)).cell? ⟨w.heap.size + 1 + 1, 0, none⟩ = some .nilFunc := cell_of_row _ _ 0 _ 263 (0, 0) h3;have q1 : (w3.alloc (.cells #[.func (.func 218) #[] #[]] 261)).cell? ⟨w.heap.size + 1 + 1, 1, none⟩ = some .nilFunc := cell_of_row _ _ 1 _ 263 (0, 0) h3;have q2 : (w3.alloc (.cells #[.func (.func 218) #[] #[]] 261)).cell? ⟨w.heap.size + 1 + 1, 2, none⟩ = some .nilFunc := cell_of_row _ _ 2 _ 263 (0, 0) h3
    have qf : ∀ o, (w3.alloc (.cells #[.func (.func 218) #[] #[]] 261)).frozen? ⟨w.heap.size + 1 + 1, o, none⟩ = false := fun o => frozen_of_row _ _ o _ 263 h3
    have hfin : ((((w3.alloc (.cells #[.func (.func 218) #[] #[]] 261)).setCell ⟨w.heap.size + 1 + 1, 0, none⟩ (.func (.func 214) #[] #[.pointer (some ⟨w.heap.size + 1 + 1 + 1, 0, none⟩)])).setCell ⟨w.heap.size + 1 + 1, 1, none⟩ (.func (.func 216) #[] #[.pointer (some ⟨w.heap.size, 0, none⟩), .pointer (some ⟨w.heap.size + 1, 0, none⟩)])).setCell ⟨w.heap.size + 1 + 1, 2, none⟩ (.func (.func 266) #[] #[.pointer (some ⟨w3.heap.size, 0, none⟩)])).heap[w.heap.size + 1 + 1]? = some (.cells #[.func (.func 214) #[] #[.pointer (some ⟨w.heap.size + 1 + 1 + 1, 0, none⟩)], .func (.func 216) #[] #[.pointer (some ⟨w.heap.size, 0, none⟩), .pointer (some ⟨w.heap.size + 1, 0, none⟩)], .func (.func 266) #[] #[.pointer (some ⟨w3.heap.size, 0, none⟩)]] 263 (0, 0)) := by
      have k1 := heap_setCell_same _ (w.heap.size + 1 + 1) 0 _ 263 (.func (.func 214) #[] #[.pointer (some ⟨w.heap.size + 1 + 1 + 1, 0, none⟩)]) h3;have k2 := heap_setCell_same _ (w.heap.size + 1 + 1) 1 _ 263 (.func (.func 216) #[] #[.pointer (some ⟨w.heap.size, 0, none⟩), .pointer (some ⟨w.heap.size + 1, 0, none⟩)]) k1;exact heap_setCell_same _ (w.heap.size + 1 + 1) 2 _ 263 (.func (.func 266) #[] #[.pointer (some ⟨w3.heap.size, 0, none⟩)]) k2
    have HR : Hid (((((w3.alloc (.cells #[.func (.func 218) #[] #[]] 261)).setCell ⟨w.heap.size + 1 + 1, 0, none⟩ (.func (.func 214) #[] #[.pointer (some ⟨w.heap.size + 1 + 1 + 1, 0, none⟩)])).setCell ⟨w.heap.size + 1 + 1, 1, none⟩ (.func (.func 216) #[] #[.pointer (some ⟨w.heap.size, 0, none⟩), .pointer (some ⟨w.heap.size + 1, 0, none⟩)])).setCell ⟨w.heap.size + 1 + 1, 2, none⟩ (.func (.func 266) #[] #[.pointer (some ⟨w3.heap.size, 0, none⟩)])).cell? ⟨w.heap.size + 1 + 1, 0, none⟩ = some (.func (.func 214) #[] #[.pointer (some ⟨w.heap.size + 1 + 1 + 1, 0, none⟩)]) /\ ((((w3.alloc (.cells #[.func (.func 218) #[] #[]] 261)).setCell ⟨w.heap.size + 1 + 1, 0, none⟩ (.func (.func 214) #[] #[.pointer (some ⟨w.heap.size + 1 + 1 + 1, 0, none⟩)])).setCell ⟨w.heap.size + 1 + 1, 1, none⟩ (.func (.func 216) #[] #[.pointer (some ⟨w.heap.size, 0, none⟩), .pointer (some ⟨w.heap.size + 1, 0, none⟩)])).setCell ⟨w.heap.size + 1 + 1, 2, none⟩ (.func (.func 266) #[] #[.pointer (some ⟨w3.heap.size, 0, none⟩)])).cell? ⟨w.heap.size + 1 + 1, 1, none⟩ = some (.func (.func 216) #[] #[.pointer (some ⟨w.heap.size, 0, none⟩), .pointer (some ⟨w.heap.size + 1, 0, none⟩)]) /\ ((((w3.alloc (.cells #[.func (.func 218) #[] #[]] 261)).setCell ⟨w.heap.size + 1 + 1, 0, none⟩ (.func (.func 214) #[] #[.pointer (some ⟨w.heap.size + 1 + 1 + 1, 0, none⟩)])).setCell ⟨w.heap.size + 1 + 1, 1, none⟩ (.func (.func 216) #[] #[.pointer (some ⟨w.heap.size, 0, none⟩), .pointer (some ⟨w.heap.size + 1, 0, none⟩)])).setCell ⟨w.heap.size + 1 + 1, 2, none⟩ (.func (.func 266) #[] #[.pointer (some ⟨w3.heap.size, 0, none⟩)])).cell? ⟨w.heap.size + 1 + 1, 2, none⟩ = some (.func (.func 266) #[] #[.pointer (some ⟨w3.heap.size, 0, none⟩)])) := ⟨cell_of_row _ _ 0 _ 263 (0, 0) hfin, cell_of_row _ _ 1 _ 263 (0, 0) hfin, cell_of_row _ _ 2 _ 263 (0, 0) hfin⟩
    have HBF : Hid (Below w.heap.size w ((((w3.alloc (.cells #[.func (.func 218) #[] #[]] 261)).setCell ⟨w.heap.size + 1 + 1, 0, none⟩ (.func (.func 214) #[] #[.pointer (some ⟨w.heap.size + 1 + 1 + 1, 0, none⟩)])).setCell ⟨w.heap.size + 1 + 1, 1, none⟩ (.func (.func 216) #[] #[.pointer (some ⟨w.heap.size, 0, none⟩), .pointer (some ⟨w.heap.size + 1, 0, none⟩)])).setCell ⟨w.heap.size + 1 + 1, 2, none⟩ (.func (.func 266) #[] #[.pointer (some ⟨w3.heap.size, 0, none⟩)]))) := (((HW3.out.2.2.2.2.1.alloc (by have := HW3.out.2.2.2.2.2; omega) _).setCell (p := ⟨w.heap.size + 1 + 1, 0, none⟩) (by simp; omega) _).setCell (p := ⟨w.heap.size + 1 + 1, 1, none⟩) (by simp; omega) _).setCell (p := ⟨w.heap.size + 1 + 1, 2, none⟩) (by simp; omega) _
    have HO : Hid (∀ q, q ≠ w.heap.size + 1 + 1 -> ((((w3.alloc (.cells #[.func (.func 218) #[] #[]] 261)).setCell ⟨w.heap.size + 1 + 1, 0, none⟩ (.func (.func 214) #[] #[.pointer (some ⟨w.heap.size + 1 + 1 + 1, 0, none⟩)])).setCell ⟨w.heap.size + 1 + 1, 1, none⟩ (.func (.func 216) #[] #[.pointer (some ⟨w.heap.size, 0, none⟩), .pointer (some ⟨w.heap.size + 1, 0, none⟩)])).setCell ⟨w.heap.size + 1 + 1, 2, none⟩ (.func (.func 266) #[] #[.pointer (some ⟨w3.heap.size, 0, none⟩)])).heap[q]? = (w3.alloc (.cells #[.func (.func 218) #[] #[]] 261)).heap[q]?) := fun q hq => (Below.heap_setCell _ _ _ _ hq).trans ((Below.heap_setCell _ _ _ _ hq).trans (Below.heap_setCell _ _ _ _ hq))
    have HMN : Hid (MadeN ((((w3.alloc (.cells #[.func (.func 218) #[] #[]] 261)).setCell ⟨w.heap.size + 1 + 1, 0, none⟩ (.func (.func 214) #[] #[.pointer (some ⟨w.heap.size + 1 + 1 + 1, 0, none⟩)])).setCell ⟨w.heap.size + 1 + 1, 1, none⟩ (.func (.func 216) #[] #[.pointer (some ⟨w.heap.size, 0, none⟩), .pointer (some ⟨w.heap.size + 1, 0, none⟩)])).setCell ⟨w.heap.size + 1 + 1, 2, none⟩ (.func (.func 266) #[] #[.pointer (some ⟨w3.heap.size, 0, none⟩)])) w.heap.size (.agg #[.func (.func 214) #[] #[.pointer (some ⟨w.heap.size + 1 + 1 + 1, 0, none⟩)], .func (.func 216) #[] #[.pointer (some ⟨w.heap.size, 0, none⟩), .pointer (some ⟨w.heap.size + 1, 0, none⟩)], .func (.func 266) #[] #[.pointer (some ⟨w3.heap.size, 0, none⟩)]]) (tenTo k) bins size) := by
      have hs := HW3.out.2.2.2.2.2;refine ⟨⟨w.heap.size + 1 + 1 + 1, w.heap.size, w.heap.size + 1, w3.heap.size, rfl, by omega, Nat.le_refl _, by omega, by omega, ?_, ?_, ?_, ?_⟩⟩;rw [HO.out _ (by omega), Below.heap_alloc _ _ _ (by omega)]; exact HW3.out.2.2.2.1;rw [HO.out _ (by omega), Below.heap_alloc _ _ _ (by omega)]; exact HW3.out.1;rw [HO.out _ (by omega), Below.heap_alloc _ _ _ (by omega)]; exact HW3.out.2.1;rw [HO.out _ (by omega)]; exact heap_alloc_new w3 _
    have p0 : w3.cell? ⟨w.heap.size + 1 + 1, 0, none⟩ = some .nilFunc := cell_of_row _ _ 0 _ 263 (0, 0) HW3.out.2.2.1;have p1 : w3.cell? ⟨w.heap.size + 1 + 1, 1, none⟩ = some .nilFunc := cell_of_row _ _ 1 _ 263 (0, 0) HW3.out.2.2.1;have p2 : w3.cell? ⟨w.heap.size + 1 + 1, 2, none⟩ = some .nilFunc := cell_of_row _ _ 2 _ 263 (0, 0) HW3.out.2.2.1;have pf : ∀ o, w3.frozen? ⟨w.heap.size + 1 + 1, o, none⟩ = false := fun o => frozen_of_row _ _ o _ 263 HW3.out.2.2.1;have pn := World.new_ne w3 _ p0;clear h3 hfin;go_wp2_with (go_at_call 212; refine (HM.out _).mono ?_; rintro e w' ⟨rfl, rfl⟩)
    obtain ⟨r0, r1, r2⟩ := HR.out;exact bodyPost_ret (v := .agg #[.func (.func 214) #[] #[.pointer (some ⟨w.heap.size + 1 + 1 + 1, 0, none⟩)], .func (.func 216) #[] #[.pointer (some ⟨w.heap.size, 0, none⟩), .pointer (some ⟨w.heap.size + 1, 0, none⟩)], .func (.func 266) #[] #[.pointer (some ⟨w3.heap.size, 0, none⟩)]]) (by simp [results, Tryz.results161, go_sem, r0, r1, r2]) rfl ⟨_, rfl, HMN.out, HBF.out⟩
end Go.Proofs.YtfcgnpchbcmdeaaGreat

namespace Go.Proofs.YtfcgnpchbcmdeaaGreat
open Go.RowKit
theorem info263 : (Tryz.prog.info? 263).map (fun i => (i.zero, i.size, i.bytes)) = some (some (.agg #[.nilFunc, .nilFunc, .nilFunc]), 3, 24) := by kernel_rfl
theorem keep_at {S : Nat -> Prop} {w w' : World} (t : Touch S w w') (hs : ∀ k, S k -> k < w.heap.size -> ∃ cur, w.heap[k]? = some (.cells cur 263 (0, 0))) {k : Nat} {cs : Array Value} {ty : TypeId} (h : w.heap[k]? = some (.cells cs ty (0, 0))) (hne : ty ≠ 263) : w'.heap[k]? = some (.cells cs ty (0, 0)) :=
  t.at_ h (fun e => by
    obtain ⟨cur, hc⟩ := hs k e (Array.getElem?_eq_some_iff.1 h).1;rw [hc] at h;simp at h
    exact hne h.2.symm)
theorem MadeW.touch {S : Nat -> Prop} {w w' : World} {base : Nat} {v : Value} {cut bins : Int} (h : MadeW w base v cut bins) (t : Touch S w w') (hs : ∀ k, S k -> k < w.heap.size -> ∃ cur, w.heap[k]? = some (.cells cur 263 (0, 0))) : MadeW w' base v cut bins := by obtain ⟨⟨k1, k2, k3, h1, h2, h3, h4, h5, h6, h7⟩⟩ := h;exact ⟨⟨k1, k2, k3, h1, h2, h3, h4, keep_at t hs h5 (by decide), keep_at t hs h6 (by decide), keep_at t hs h7 (by decide)⟩⟩
theorem MadeN.touch {S : Nat -> Prop} {w w' : World} {base : Nat} {v : Value} {u bins size : Int} (h : MadeN w base v u bins size) (t : Touch S w w') (hs : ∀ k, S k -> k < w.heap.size -> ∃ cur, w.heap[k]? = some (.cells cur 263 (0, 0))) : MadeN w' base v u bins size := by obtain ⟨⟨k0, k1, k2, k3, h0, h1, h2, h3, h4, h5, h6, h7, h8⟩⟩ := h;exact ⟨⟨k0, k1, k2, k3, h0, h1, h2, h3, h4, keep_at t hs h5 (by decide), keep_at t hs h6 (by decide), keep_at t hs h7 (by decide), keep_at t hs h8 (by decide)⟩⟩
theorem MadeW.base {w : World} {b b' : Nat} {v : Value} {cut bins : Int} (h : MadeW w b' v cut bins) (hb : b <= b') : MadeW w b v cut bins := by obtain ⟨⟨k1, k2, k3, h1, h2, h3, h4, r⟩⟩ := h;exact ⟨⟨k1, k2, k3, h1, by omega, by omega, by omega, r⟩⟩
theorem MadeN.base {w : World} {b b' : Nat} {v : Value} {u bins size : Int} (h : MadeN w b' v u bins size) (hb : b <= b') : MadeN w b v u bins size := by obtain ⟨⟨k0, k1, k2, k3, h0, h1, h2, h3, h4, r⟩⟩ := h;exact ⟨⟨k0, k1, k2, k3, h0, by omega, by omega, by omega, by omega, r⟩⟩
def MadeF (w : World) (base : Nat) (v : Value) (wd : Bool) (sc ct bins size : Int) : Prop := (wd = true /\ MadeW w base v ct bins) ∨ (wd = false /\ MadeN w base v (tenTo sc.toNat) bins size)
theorem MadeF.touch {S : Nat -> Prop} {w w' : World} {base : Nat} {v : Value} {wd : Bool} {sc ct bins size : Int} (h : MadeF w base v wd sc ct bins size) (t : Touch S w w') (hs : ∀ k, S k -> k < w.heap.size -> ∃ cur, w.heap[k]? = some (.cells cur 263 (0, 0))) : MadeF w' base v wd sc ct bins size := by
  rcases h with ⟨h1, h2⟩ | ⟨h1, h2⟩
  exact .inl ⟨h1, h2.touch t hs⟩;exact .inr ⟨h1, h2.touch t hs⟩
theorem MadeF.form {w : World} {base : Nat} {v : Value} {wd : Bool} {sc ct bins size : Int} (h : MadeF w base v wd sc ct bins size) : ∃ f0 c0 f1 c1 f2 c2, v = .agg #[.func f0 #[] c0, .func f1 #[] c1, .func f2 #[] c2] := by
  rcases h with ⟨_, ⟨k1, k2, k3, h1, _⟩⟩ | ⟨_, ⟨k0, k1, k2, k3, h1, _⟩⟩
  exact ⟨_, _, _, _, _, _, h1⟩;exact ⟨_, _, _, _, _, _, h1⟩
structure FeatsM (w : World) (base fb n k : Nat) (wd : Nat -> Bool) (sc ct : Nat -> Int) (bins size : Int) : Prop where
  ex : ∃ cur : Array Value, w.heap[fb]? = some (.cells cur 263 (0, 0)) /\ cur.size = n * 3 /\ (∀ i, i < k -> ∃ v0 v1 v2, cur[i * 3]? = some v0 /\ cur[i * 3 + 1]? = some v1 /\ cur[i * 3 + 2]? = some v2 /\ MadeF w base (.agg #[v0, v1, v2]) (wd i) (sc i) (ct i) bins size)
theorem FeatsM.touch {S : Nat -> Prop} {w w' : World} {base fb n k : Nat} {wd : Nat -> Bool} {sc ct : Nat -> Int} {bins size : Int} (h : FeatsM w base fb n k wd sc ct bins size) (t : Touch S w w') (hs : ∀ k, k < w.heap.size -> ¬ S k) : FeatsM w' base fb n k wd sc ct bins size := by obtain ⟨cur, h1, h2, h3⟩ := h;refine ⟨cur, t.at_ h1 (hs fb (Array.getElem?_eq_some_iff.1 h1).1), h2, fun i hi => ?_⟩;obtain ⟨v0, v1, v2, a, b, c, d⟩ := h3 i hi;exact ⟨v0, v1, v2, a, b, c, d.touch t (fun k hk hl => absurd hk (hs k hl))⟩
theorem FeatsM.cells {w : World} {base fb n k : Nat} {wd : Nat -> Bool} {sc ct : Nat -> Int} {bins size : Int} (h : FeatsM w base fb n k wd sc ct bins size) (hk : k < n) : (∃ u0 u1 u2, w.cell? ⟨fb, k * 3, none⟩ = some u0 /\ w.cell? ⟨fb, k * 3 + 1, none⟩ = some u1 /\ w.cell? ⟨fb, k * 3 + 2, none⟩ = some u2) /\ ∀ o, w.frozen? ⟨fb, o, none⟩ = false := by obtain ⟨cur, h1, h2, _⟩ := h;refine ⟨⟨cur[k * 3]'(by omega), cur[k * 3 + 1]'(by omega), cur[k * 3 + 2]'(by omega), ?_, ?_, ?_⟩, fun o => frozen_of_row w fb o cur 263 h1⟩;rw [cell_of_row w fb _ cur 263 (0, 0) h1]; exact Array.getElem?_eq_getElem _;rw [cell_of_row w fb _ cur 263 (0, 0) h1]; exact Array.getElem?_eq_getElem _;rw [cell_of_row w fb _ cur 263 (0, 0) h1]; exact Array.getElem?_eq_getElem _
theorem FeatsM.put {w : World} {base fb n k : Nat} {wd : Nat -> Bool} {sc ct : Nat -> Int} {bins size : Int} (h : FeatsM w base fb n k wd sc ct bins size) (hk : k < n) {v0 v1 v2 : Value} (hm : MadeF w base (.agg #[v0, v1, v2]) (wd k) (sc k) (ct k) bins size) : FeatsM (((w.setCell ⟨fb, k * 3, none⟩ v0).setCell ⟨fb, k * 3 + 1, none⟩ v1).setCell ⟨fb, k * 3 + 2, none⟩ v2) base fb n (k + 1) wd sc ct bins size := by
  have t : Touch (fun q => q = fb) w (((w.setCell ⟨fb, k * 3, none⟩ v0).setCell ⟨fb, k * 3 + 1, none⟩ v1).setCell ⟨fb, k * 3 + 2, none⟩ v2) := (((Touch.refl (fun q => q = fb) w).setCell (p := ⟨fb, k * 3, none⟩) (fun _ => rfl) _).setCell (p := ⟨fb, k * 3 + 1, none⟩) (fun _ => rfl) _).setCell (p := ⟨fb, k * 3 + 2, none⟩) (fun _ => rfl) _;obtain ⟨cur, h1, h2, h3⟩ := h
  have hs : ∀ q, (fun q => q = fb) q -> q < w.heap.size -> ∃ cur, w.heap[q]? = some (.cells cur 263 (0, 0)) := fun q e _ => by subst e; exact ⟨cur, h1⟩
  have k1 := heap_setCell_same w fb (k * 3) _ 263 v0 h1;have k2 := heap_setCell_same _ fb (k * 3 + 1) _ 263 v1 k1;have k3 := heap_setCell_same _ fb (k * 3 + 2) _ 263 v2 k2;refine ⟨_, k3, by simp [h2], fun i hi => ?_⟩
  by_cases e : i = k
  subst e;refine ⟨v0, v1, v2, ?_, ?_, ?_, hm.touch t hs⟩;rw [Array.getElem?_setIfInBounds_ne (by omega), Array.getElem?_setIfInBounds_ne (by omega), Array.getElem?_setIfInBounds_self_of_lt (by omega)];rw [Array.getElem?_setIfInBounds_ne (by omega), Array.getElem?_setIfInBounds_self_of_lt (by simp; omega)];rw [Array.getElem?_setIfInBounds_self_of_lt (by simp; omega)]
  obtain ⟨u0, u1, u2, a, b, c, d⟩ := h3 i (by omega);refine ⟨u0, u1, u2, ?_, ?_, ?_, d.touch t hs⟩;rw [Array.getElem?_setIfInBounds_ne (by omega), Array.getElem?_setIfInBounds_ne (by omega), Array.getElem?_setIfInBounds_ne (by omega)]; exact a;rw [Array.getElem?_setIfInBounds_ne (by omega), Array.getElem?_setIfInBounds_ne (by omega), Array.getElem?_setIfInBounds_ne (by omega)]; exact b;rw [Array.getElem?_setIfInBounds_ne (by omega), Array.getElem?_setIfInBounds_ne (by omega), Array.getElem?_setIfInBounds_ne (by omega)]; exact c
set_option maxRecDepth 100000 in
set_option maxHeartbeats 4000000 in
theorem fromConfig_any (b off n fc : Nat) (bins size budget : Int) (wd : Nat -> Bool) (sc ct : Nat -> Int) (w : World) (hF : Feats w b off n wd sc ct) (h1 : 1 <= n) (h4 : n <= 4) (hsc : ∀ i, i < n -> wd i = false -> 0 <= sc i /\ sc i <= 3) : Calls Tryz.prog 96 #[.agg #[.slice (some ⟨b, off, none⟩) n fc, .int .i64 bins, .int .i64 size, .int .i64 budget]] w fun e w' => ∃ fb, e = .returned (.slice (some ⟨fb, 0, none⟩) n n) /\ w.heap.size <= fb /\ FeatsM w' w.heap.size fb n n wd sc ct bins size /\ Below w.heap.size w w' := by
  obtain ⟨i0, hinf, hz0, hz1, hz2⟩ := info_parts info263
  have hmk : ∀ W : World, (Instr.makeSlice 155 (.int .i64 (n : Int)) (.int .i64 (n : Int))).run Tryz.prog W = .ok (.slice (some ⟨W.heap.size, 0, none⟩) n n) (W.alloc (.cells (madeCells #[.nilFunc, .nilFunc, .nilFunc] (n * 3)) 263)) := fun W => by have := run_make (P := Tryz.prog) W 155 263 i0 _ Tryz.underlying155 hinf hz0 .i64 .i64 (n : Int) (n : Int) (by omega) (by omega) (by rw [hz2]; omega) (by omega);rw [this];simp [hz1, Value.cells]
  have HF : Hid (Feats w b off n wd sc ct) := hF;have hbl := hF.lt (by omega);clear hF;go_enter Tryz.func96, Tryz.ntmps96;go_wp2_with fail
  have HM0 : Hid (FeatsM ((w.alloc (.cells #[.slice (some ⟨b, off, none⟩) n fc, .int .i64 bins, .int .i64 size, .int .i64 budget] 37)).alloc (.cells (madeCells #[.nilFunc, .nilFunc, .nilFunc] (n * 3)) 263)) w.heap.size (w.heap.size + 1) n 0 wd sc ct bins size) := ⟨_, alloc_in _ _ _ (by simp), by simp [madeCells], fun i hi => by omega⟩;have HC0 : Hid (((w.alloc (.cells #[.slice (some ⟨b, off, none⟩) n fc, .int .i64 bins, .int .i64 size, .int .i64 budget] 37)).alloc (.cells (madeCells #[.nilFunc, .nilFunc, .nilFunc] (n * 3)) 263)).heap[w.heap.size]? = some (.cells #[.slice (some ⟨b, off, none⟩) n fc, .int .i64 bins, .int .i64 size, .int .i64 budget] 37 (0, 0))) := (Below.heap_alloc _ _ _ (by simp)).trans (heap_alloc_new w _)
  have HB0 : Hid (Below w.heap.size w ((w.alloc (.cells #[.slice (some ⟨b, off, none⟩) n fc, .int .i64 bins, .int .i64 size, .int .i64 budget] 37)).alloc (.cells (madeCells #[.nilFunc, .nilFunc, .nilFunc] (n * 3)) 263))) := ((Below.refl _ _).alloc (Nat.le_refl _) _).alloc (by simp) _;generalize ((w.alloc (.cells #[.slice (some ⟨b, off, none⟩) n fc, .int .i64 bins, .int .i64 size, .int .i64 budget] 37)).alloc (.cells (madeCells #[.nilFunc, .nilFunc, .nilFunc] (n * 3)) 263)) = w0 at *;go_loopw [13] (fun ti wr => ∃ k : Nat, k <= n /\ ti = .int .i64 k /\ Hid (FeatsM wr w.heap.size (w.heap.size + 1) n k wd sc ct bins size) /\ Hid (wr.heap[w.heap.size]? = some (.cells #[.slice (some ⟨b, off, none⟩) n fc, .int .i64 bins, .int .i64 size, .int .i64 budget] 37 (0, 0))) /\ Hid (Below w.heap.size w wr)) (fun ti _ => n - (intOf ti).toNat)
  case atStart => exact ⟨0, Nat.zero_le _, rfl, HM0.out, HC0.out, HB0.out⟩
  case round =>
    obtain ⟨k, hk2, rfl, HM, HCB, HB⟩ := hrel;have hcl : w.heap.size < wr.heap.size := (Array.getElem?_eq_some_iff.1 HCB.out).1
    by_cases hk : k < n
    · have c0 := (HB.out.cell (p := ⟨b, off + k * 3, none⟩) hbl).trans (HF.out.c0 k hk);have c1 := (HB.out.cell (p := ⟨b, off + k * 3 + 1, none⟩) hbl).trans (HF.out.c1 k hk);have c2 := (HB.out.cell (p := ⟨b, off + k * 3 + 2, none⟩) hbl).trans (HF.out.c2 k hk);have bk1 : (0 : Int) <= (k : Int) := (by omega);have bk2 : (k : Int) < (n : Int) := (by omega);clear hmk HM0 HC0 HB0
      cases hwd : wd k with
      | true =>
        rw [hwd] at c0;have HC : Hid (Calls Tryz.prog 160 #[.int .i64 (ct k), .int .i64 bins] (wr.alloc (.cells #[.bool true, .int .i64 (sc k), .int .i64 (ct k)] 51)) fun e w2 => ∃ v, e = .returned v /\ MadeW w2 (wr.heap.size + 1) v (ct k) bins /\ Below (wr.heap.size + 1) (wr.alloc (.cells #[.bool true, .int .i64 (sc k), .int .i64 (ct k)] 51)) w2) := by have := ofWords_any (ct k) bins (wr.alloc (.cells #[.bool true, .int .i64 (sc k), .int .i64 (ct k)] 51));rw [show (wr.alloc (.cells #[.bool true, .int .i64 (sc k), .int .i64 (ct k)] 51)).heap.size = wr.heap.size + 1 by simp] at this;exact this
        have hba : Below wr.heap.size wr (wr.alloc (.cells #[.bool true, .int .i64 (sc k), .int .i64 (ct k)] 51)) := (Below.refl _ _).alloc (Nat.le_refl _) _;have b1 : (wr.alloc (.cells #[.bool true, .int .i64 (sc k), .int .i64 (ct k)] 51)).cell? ⟨w.heap.size, 1, none⟩ = some (.int .i64 bins) := (hba.cell (p := ⟨w.heap.size, 1, none⟩) hcl).trans (cell_of_row _ _ 1 _ 37 (0, 0) HCB.out);have b2 : (wr.alloc (.cells #[.bool true, .int .i64 (sc k), .int .i64 (ct k)] 51)).cell? ⟨w.heap.size, 2, none⟩ = some (.int .i64 size) := (hba.cell (p := ⟨w.heap.size, 2, none⟩) hcl).trans (cell_of_row _ _ 2 _ 37 (0, 0) HCB.out);have HBA : Hid (Below wr.heap.size wr (wr.alloc (.cells #[.bool true, .int .i64 (sc k), .int .i64 (ct k)] 51))) := hba;clear hba;go_wp2_with fail
        refine HC.out.mono ?_;rintro e w2 ⟨v, rfl, hm, hb2⟩;have hb3 : Below wr.heap.size wr w2 := HBA.out.trans (hb2.mono (by omega));have HMF : Hid (MadeF w2 w.heap.size v (wd k) (sc k) (ct k) bins size) := .inl ⟨hwd, hm.base (by have := HB.out.size; omega)⟩;have HFM : Hid (FeatsM w2 w.heap.size (w.heap.size + 1) n k wd sc ct bins size) := HM.out.touch (Touch.of_below (S := fun _ => False) hb3) (fun _ _ => id);have HCB2 : Hid (w2.heap[w.heap.size]? = some (.cells #[.slice (some ⟨b, off, none⟩) n fc, .int .i64 bins, .int .i64 size, .int .i64 budget] 37 (0, 0))) := (hb3.block _ hcl).trans HCB.out;have HB2 : Hid (Below w.heap.size w w2) := HB.out.trans (hb3.mono (by have := HB.out.size; omega));obtain ⟨f0, d0, f1, d1, f2, d2, hv⟩ := HMF.out.form;subst hv;obtain ⟨⟨u0, u1, u2, g0, g1, g2⟩, gf⟩ := HFM.out.cells hk
        have HNX : Hid (FeatsM (((w2.setCell ⟨w.heap.size + 1, k * 3, none⟩ (.func f0 #[] d0)).setCell ⟨w.heap.size + 1, k * 3 + 1, none⟩ (.func f1 #[] d1)).setCell ⟨w.heap.size + 1, k * 3 + 2, none⟩ (.func f2 #[] d2)) w.heap.size (w.heap.size + 1) n (k + 1) wd sc ct bins size) := HFM.out.put hk HMF.out;clear hm hb2 hb3 c0 c1 c2 b1 b2 HC HBA;go_wp2;go_roundw;case rel => exact ⟨k + 1, by omega, by go_num, HNX.out, (Below.heap_setCell _ _ _ _ (by simp)).trans ((Below.heap_setCell _ _ _ _ (by simp)).trans ((Below.heap_setCell _ _ _ _ (by simp)).trans HCB2.out)), ((HB2.out.setCell (p := ⟨w.heap.size + 1, k * 3, none⟩) (by simp) _).setCell (p := ⟨w.heap.size + 1, k * 3 + 1, none⟩) (by simp) _).setCell (p := ⟨w.heap.size + 1, k * 3 + 2, none⟩) (by simp) _⟩
        case measure => simp [intOf]; omega
      | false =>
        rw [hwd] at c0;obtain ⟨hs1, hs2⟩ := hsc k hk hwd;have hsn : ((sc k).toNat : Int) = sc k := (by omega);have HSN : Hid (((sc k).toNat : Int) = sc k) := hsn;clear hsn;have HC : Hid (Calls Tryz.prog 161 #[.int .i64 (sc k), .int .i64 bins, .int .i64 size] (wr.alloc (.cells #[.bool false, .int .i64 (sc k), .int .i64 (ct k)] 51)) fun e w2 => ∃ v, e = .returned v /\ MadeN w2 (wr.heap.size + 1) v (tenTo (sc k).toNat) bins size /\ Below (wr.heap.size + 1) (wr.alloc (.cells #[.bool false, .int .i64 (sc k), .int .i64 (ct k)] 51)) w2) := by have := ofNumbers_any (sc k).toNat bins size (wr.alloc (.cells #[.bool false, .int .i64 (sc k), .int .i64 (ct k)] 51)) (by omega);rw [show (wr.alloc (.cells #[.bool false, .int .i64 (sc k), .int .i64 (ct k)] 51)).heap.size = wr.heap.size + 1 by simp] at this;rw [HSN.out] at this; exact this
        have hba : Below wr.heap.size wr (wr.alloc (.cells #[.bool false, .int .i64 (sc k), .int .i64 (ct k)] 51)) := (Below.refl _ _).alloc (Nat.le_refl _) _;have b1 : (wr.alloc (.cells #[.bool false, .int .i64 (sc k), .int .i64 (ct k)] 51)).cell? ⟨w.heap.size, 1, none⟩ = some (.int .i64 bins) := (hba.cell (p := ⟨w.heap.size, 1, none⟩) hcl).trans (cell_of_row _ _ 1 _ 37 (0, 0) HCB.out);have b2 : (wr.alloc (.cells #[.bool false, .int .i64 (sc k), .int .i64 (ct k)] 51)).cell? ⟨w.heap.size, 2, none⟩ = some (.int .i64 size) := (hba.cell (p := ⟨w.heap.size, 2, none⟩) hcl).trans (cell_of_row _ _ 2 _ 37 (0, 0) HCB.out);have HBA : Hid (Below wr.heap.size wr (wr.alloc (.cells #[.bool false, .int .i64 (sc k), .int .i64 (ct k)] 51))) := hba;clear hba;go_wp2_with fail
        refine HC.out.mono ?_;rintro e w2 ⟨v, rfl, hm, hb2⟩;have hb3 : Below wr.heap.size wr w2 := HBA.out.trans (hb2.mono (by omega));have HMF : Hid (MadeF w2 w.heap.size v (wd k) (sc k) (ct k) bins size) := .inr ⟨hwd, hm.base (by have := HB.out.size; omega)⟩;have HFM : Hid (FeatsM w2 w.heap.size (w.heap.size + 1) n k wd sc ct bins size) := HM.out.touch (Touch.of_below (S := fun _ => False) hb3) (fun _ _ => id);have HCB2 : Hid (w2.heap[w.heap.size]? = some (.cells #[.slice (some ⟨b, off, none⟩) n fc, .int .i64 bins, .int .i64 size, .int .i64 budget] 37 (0, 0))) := (hb3.block _ hcl).trans HCB.out;have HB2 : Hid (Below w.heap.size w w2) := HB.out.trans (hb3.mono (by have := HB.out.size; omega));obtain ⟨f0, d0, f1, d1, f2, d2, hv⟩ := HMF.out.form;subst hv;obtain ⟨⟨u0, u1, u2, g0, g1, g2⟩, gf⟩ := HFM.out.cells hk
        have HNX : Hid (FeatsM (((w2.setCell ⟨w.heap.size + 1, k * 3, none⟩ (.func f0 #[] d0)).setCell ⟨w.heap.size + 1, k * 3 + 1, none⟩ (.func f1 #[] d1)).setCell ⟨w.heap.size + 1, k * 3 + 2, none⟩ (.func f2 #[] d2)) w.heap.size (w.heap.size + 1) n (k + 1) wd sc ct bins size) := HFM.out.put hk HMF.out;clear hm hb2 hb3 c0 c1 c2 b1 b2 HC HBA;go_wp2;go_roundw;case rel => exact ⟨k + 1, by omega, by go_num, HNX.out, (Below.heap_setCell _ _ _ _ (by simp)).trans ((Below.heap_setCell _ _ _ _ (by simp)).trans ((Below.heap_setCell _ _ _ _ (by simp)).trans HCB2.out)), ((HB2.out.setCell (p := ⟨w.heap.size + 1, k * 3, none⟩) (by simp) _).setCell (p := ⟨w.heap.size + 1, k * 3 + 1, none⟩) (by simp) _).setCell (p := ⟨w.heap.size + 1, k * 3 + 2, none⟩) (by simp) _⟩
        case measure => simp [intOf]; omega
    obtain rfl : k = n := (by omega);clear hmk HM0 HC0 HB0;go_wp2;go_ret;exact ⟨_, rfl, by omega, HM.out, HB.out⟩
end Go.Proofs.YtfcgnpchbcmdeaaGreat

namespace Go.Proofs.YtfcgnpchbcmdeaaGreat
set_option maxRecDepth 100000
set_option maxHeartbeats 2000000
open Go.RowKit
theorem info251 : (Tryz.prog.info? 251).map (fun i => (i.zero, i.size, i.bytes)) = some (some (.slice none 0 0), 1, 24) := by kernel_rfl
def part0 : PartS := ⟨0, false, 0, 0, 0, .slice none 0 0⟩
theorem newReader_any (fb n : Nat) (w : World) (h4 : n <= 4) : Calls Tryz.prog 97 #[.slice (some ⟨fb, 0, none⟩) n n] w fun e w' => e = .returned (.pointer (some ⟨w.heap.size + 1, 0, none⟩)) /\ w' = (w.alloc (.cells (madeCells #[.slice none 0 0] n) 251)).alloc (.cells #[.slice (some ⟨fb, 0, none⟩) n n, .slice none 0 0, .slice (some ⟨w.heap.size, 0, none⟩) n n, .int .i64 0, .bool false, .slice none 0 0, .int .i64 0, .bool false, .int .i64 0, .int .i64 0, .int .i64 0, .slice none 0 0] 256) := by
  obtain ⟨i0, hinf, hz0, hz1, hz2⟩ := info_parts info251
  have hmk : ∀ W : World, (Instr.makeSlice 248 (.int .i64 (n : Int)) (.int .i64 (n : Int))).run Tryz.prog W = .ok (.slice (some ⟨W.heap.size, 0, none⟩) n n) (W.alloc (.cells (madeCells #[.slice none 0 0] n) 251)) := fun W => by have := run_make (P := Tryz.prog) W 248 251 i0 _ Tryz.underlying248 hinf hz0 .i64 .i64 (n : Int) (n : Int) (by omega) (by omega) (by rw [hz2]; omega) (by omega);rw [this];simp [hz1, Value.cells]
  go_enter Tryz.func97, Tryz.ntmps97;go_wp2;go_ret;exact ⟨by simp, rfl⟩
theorem FeatsM.base {w : World} {base base' fb n k : Nat} {wd : Nat -> Bool} {sc ct : Nat -> Int} {bins size : Int} (h : FeatsM w base' fb n k wd sc ct bins size) (hb : base <= base') : FeatsM w base fb n k wd sc ct bins size := by
  obtain ⟨cur, h1, h2, h3⟩ := h;refine ⟨cur, h1, h2, fun i hi => ?_⟩;obtain ⟨v0, v1, v2, a, b, c, d⟩ := h3 i hi;refine ⟨v0, v1, v2, a, b, c, ?_⟩
  rcases d with ⟨e, d⟩ | ⟨e, d⟩
  exact .inl ⟨e, d.base hb⟩;exact .inr ⟨e, d.base hb⟩
structure TextM (w : World) (base tb fb rb cb n : Nat) (wd : Nat -> Bool) (sc ct : Nat -> Int) (bins size budget : Int) : Prop where
  tx : w.heap[tb]? = some (.cells #[.slice (some ⟨fb, 0, none⟩) n n, .int .i64 budget, .pointer (some ⟨rb, 0, none⟩), .int .i64 0] 158 (0, 0))
  rd : RB w rb (.slice (some ⟨fb, 0, none⟩) n n) (.slice none 0 0) (.slice (some ⟨cb, 0, none⟩) n n) 0 false (.slice none 0 0) part0
  cl : w.heap[cb]? = some (.cells (madeCells #[.slice none 0 0] n) 251 (0, 0))
  fs : FeatsM w base fb n n wd sc ct bins size
  lo : base <= tb /\ base <= fb /\ base <= rb /\ base <= cb
theorem newText_any (b off n fc : Nat) (bins size budget : Int) (wd : Nat -> Bool) (sc ct : Nat -> Int) (w : World) (hF : Feats w b off n wd sc ct) (h1 : 1 <= n) (h4 : n <= 4) (hsc : ∀ i, i < n -> wd i = false -> 0 <= sc i /\ sc i <= 3) : Calls Tryz.prog 57 #[.agg #[.slice (some ⟨b, off, none⟩) n fc, .int .i64 bins, .int .i64 size, .int .i64 budget]] w fun e w' => ∃ tb fb rb cb, e = .returned (.pointer (some ⟨tb, 0, none⟩)) /\ TextM w' w.heap.size tb fb rb cb n wd sc ct bins size budget /\ Below w.heap.size w w' := by
  have HBX : Hid (Below w.heap.size w (w.alloc (.cells #[.slice (some ⟨b, off, none⟩) n fc, .int .i64 bins, .int .i64 size, .int .i64 budget] 37))) := (Below.refl _ _).alloc (Nat.le_refl _) _;have hbl := hF.lt (by omega);have HF1 : Hid (Feats (w.alloc (.cells #[.slice (some ⟨b, off, none⟩) n fc, .int .i64 bins, .int .i64 size, .int .i64 budget] 37)) b off n wd sc ct) := by have k : ∀ o, (w.alloc (.cells #[.slice (some ⟨b, off, none⟩) n fc, .int .i64 bins, .int .i64 size, .int .i64 budget] 37)).cell? ⟨b, o, none⟩ = w.cell? ⟨b, o, none⟩ := fun o => HBX.out.cell (p := ⟨b, o, none⟩) hbl;exact ⟨hF.le, fun _ => by simp; omega, fun i hi => (k _).trans (hF.c0 i hi), fun i hi => (k _).trans (hF.c1 i hi), fun i hi => (k _).trans (hF.c2 i hi)⟩
  have HS : Hid (∀ i, i < n -> wd i = false -> 0 <= sc i /\ sc i <= 3) := hsc;have c3 : (w.alloc (.cells #[.slice (some ⟨b, off, none⟩) n fc, .int .i64 bins, .int .i64 size, .int .i64 budget] 37)).cell? ⟨w.heap.size, 3, none⟩ = some (.int .i64 budget) := (by simp);have hs0 : (w.alloc (.cells #[.slice (some ⟨b, off, none⟩) n fc, .int .i64 bins, .int .i64 size, .int .i64 budget] 37)).heap.size = w.heap.size + 1 := (by simp);have HS0 : Hid ((w.alloc (.cells #[.slice (some ⟨b, off, none⟩) n fc, .int .i64 bins, .int .i64 size, .int .i64 budget] 37)).heap.size = w.heap.size + 1) := hs0;clear hF hsc hs0;go_enter Tryz.func57, Tryz.ntmps57;go_wp2_with fail
  generalize w.alloc (.cells #[.slice (some ⟨b, off, none⟩) n fc, .int .i64 bins, .int .i64 size, .int .i64 budget] 37) = w0 at *;refine (fromConfig_any b off n fc bins size budget wd sc ct w0 HF1.out h1 h4 HS.out).mono ?_;rintro e w1 ⟨fb, rfl, hfb, hfm, hb1⟩;have d3 : w1.cell? ⟨w.heap.size, 3, none⟩ = some (.int .i64 budget) := (hb1.cell (p := ⟨w.heap.size, 3, none⟩) (by have := HS0.out; simp; omega)).trans c3;have HFM : Hid (FeatsM w1 w0.heap.size fb n n wd sc ct bins size /\ w0.heap.size <= fb /\ Below w0.heap.size w0 w1) := ⟨hfm, hfb, hb1⟩;have hlt1 : w.heap.size < w1.heap.size := (by have := hb1.size; have := HS0.out; omega);clear hfm hfb hb1 c3
  have HNR : Hid (∀ W, Calls Tryz.prog 97 #[.slice (some ⟨fb, 0, none⟩) n n] W fun e w' => e = .returned (.pointer (some ⟨W.heap.size + 1, 0, none⟩)) /\ w' = (W.alloc (.cells (madeCells #[.slice none 0 0] n) 251)).alloc (.cells #[.slice (some ⟨fb, 0, none⟩) n n, .slice none 0 0, .slice (some ⟨W.heap.size, 0, none⟩) n n, .int .i64 0, .bool false, .slice none 0 0, .int .i64 0, .bool false, .int .i64 0, .int .i64 0, .int .i64 0, .slice none 0 0] 256)) := fun W => newReader_any fb n W h4;go_wp2_with fail
  have n1 := World.new_ne w1 _ d3;have m1 : w1.heap.size + 1 ≠ w.heap.size := (by omega);have m2 : w1.heap.size + 1 + 1 ≠ w.heap.size := (by omega);have m3 : w.heap.size ≠ w1.heap.size + 1 := (by omega);have m4 : w.heap.size ≠ w1.heap.size + 1 + 1 := (by omega);have m5 : w.heap.size ≠ w1.heap.size := (by omega);go_region_held3 (fun w' => w'.cell? ⟨w.heap.size, 3, none⟩ = some (.int .i64 budget)) (exact (Below.cell (B := w1.heap.size) (w := w1) (p := ⟨w.heap.size, 3, none⟩) (by repeat (first | with_reducible exact Below.refl _ _ | with_reducible apply Below.drew | (refine Below.alloc ?_ (by first | omega | (simp; omega) | simp) _))) hlt1).trans d3) (first | (go_at_call 97; refine (HNR.out _).mono ?_; rintro e w' ⟨rfl, rfl⟩))
  all_goals go_wp2
  all_goals go_ret
  have hbn : Below w1.heap.size w1 (((w1.alloc (.cells (madeCells #[.slice none 0 0] n) 251)).alloc (.cells #[.slice (some ⟨fb, 0, none⟩) n n, .slice none 0 0, .slice (some ⟨w1.heap.size, 0, none⟩) n n, .int .i64 0, .bool false, .slice none 0 0, .int .i64 0, .bool false, .int .i64 0, .int .i64 0, .int .i64 0, .slice none 0 0] 256)).alloc (.cells #[.slice (some ⟨fb, 0, none⟩) n n, .int .i64 budget, .pointer (some ⟨w1.heap.size + 1, 0, none⟩), .int .i64 0] 158)).drew := ((((Below.refl _ _).alloc (Nat.le_refl _) _).alloc (by simp) _).alloc (by simp <;> omega) _).drew;have hs0 := HS0.out;have hs1 := HFM.out.2.2.size
  refine ⟨w1.heap.size + 1 + 1, fb, w1.heap.size + 1, w1.heap.size, rfl, ⟨alloc_in _ _ _ (by simp), (Below.heap_alloc _ _ _ (by simp)).trans (alloc_in _ _ _ (by simp)), (Below.heap_alloc _ _ _ (by simp <;> omega)).trans ((Below.heap_alloc _ _ _ (by simp)).trans (alloc_in _ _ _ rfl)), (HFM.out.1.base (by omega)).touch (Touch.of_below (S := fun _ => False) hbn) (fun _ _ => id), by omega, by have := HFM.out.2.1; omega, by omega, by omega⟩, ?_⟩;exact (HBX.out.trans (HFM.out.2.2.mono (by omega))).trans (hbn.mono (by omega))
end Go.Proofs.YtfcgnpchbcmdeaaGreat

namespace Go.Proofs.YtfcgnpchbcmdeaaGreat
open Go.RowKit
structure IntakeM (w : World) (base ib tb fb rb cb n : Nat) (wd : Nat -> Bool) (sc ct : Nat -> Int) (bins size budget : Int) : Prop where
  ik : w.heap[ib]? = some (.cells #[.pointer (some ⟨tb, 0, none⟩), .bool false, .int .i64 0, .int .i64 0] 119 (0, 0))
  tx : TextM w base tb fb rb cb n wd sc ct bins size budget
  lo : base <= ib
theorem conf_parts {n : Nat} {bins size budget : Int} {wd : Nat -> Bool} {sc ct : Nat -> Int} (h : confB n bins size budget wd sc ct = true) : 1 <= n /\ n <= 4 /\ 2 <= bins /\ bins <= 16 /\ bins <= size /\ size <= 32 /\ 0 <= budget /\ budget <= 20 /\ ∀ i, i < n -> featB (wd i) (sc i) (ct i) = true := by unfold confB at h;simp only [Bool.and_eq_true, decide_eq_true_eq] at h;obtain ⟨⟨h1, h2, h3, h4, h5, h6, h7, h8⟩, h9⟩ := h;refine ⟨by omega, by omega, h3, h4, h5, h6, h7, h8, fun i hi => ?_⟩;unfold allB at h9;rw [List.all_eq_true] at h9;exact h9 i (by simpa using hi)
theorem TextM.below {w w' : World} {base tb fb rb cb n : Nat} {wd : Nat -> Bool} {sc ct : Nat -> Int} {bins size budget : Int} (h : TextM w base tb fb rb cb n wd sc ct bins size budget) (hb : Below w.heap.size w w') : TextM w' base tb fb rb cb n wd sc ct bins size budget :=
  ⟨(hb.block _ (Array.getElem?_eq_some_iff.1 h.tx).1).trans h.tx, h.rd.below hb h.rd.lt, (hb.block _ (Array.getElem?_eq_some_iff.1 h.cl).1).trans h.cl, h.fs.touch (Touch.of_below (S := fun _ => False) hb) (fun _ _ => id), h.lo⟩
theorem TextM.base {w : World} {base base' tb fb rb cb n : Nat} {wd : Nat -> Bool} {sc ct : Nat -> Int} {bins size budget : Int} (h : TextM w base' tb fb rb cb n wd sc ct bins size budget) (hb : base <= base') : TextM w base tb fb rb cb n wd sc ct bins size budget :=
  ⟨h.tx, h.rd, h.cl, h.fs.base hb, by have := h.lo; omega⟩
set_option maxRecDepth 100000 in
set_option maxHeartbeats 2000000 in
theorem reader_yes (b off n fc : Nat) (bins size budget : Int) (wd : Nat -> Bool) (sc ct : Nat -> Int) (w : World) (hF : Feats w b off n wd sc ct) (hc : confB n bins size budget wd sc ct = true) : Calls Tryz.prog 31 #[.agg #[.slice (some ⟨b, off, none⟩) n fc, .int .i64 bins, .int .i64 size, .int .i64 budget]] w fun e w' => ∃ ib tb fb rb cb, e = .returned (.tuple #[.pointer (some ⟨ib, 0, none⟩), .int .i64 0]) /\ IntakeM w' w.heap.size ib tb fb rb cb n wd sc ct bins size budget /\ Below w.heap.size w w' := by
  obtain ⟨h1, h4, _, _, _, _, _, _, hfe⟩ := conf_parts hc
  have HSC : Hid (∀ i, i < n -> wd i = false -> 0 <= sc i /\ sc i <= 3) := fun i hi hw => by have := hfe i hi;unfold featB at this;rw [hw] at this;simp at this;omega
  have hbl := hF.lt (by omega);have HBX : Hid (Below w.heap.size w (w.alloc (.cells #[.slice (some ⟨b, off, none⟩) n fc, .int .i64 bins, .int .i64 size, .int .i64 budget] 37))) := (Below.refl _ _).alloc (Nat.le_refl _) _;have HBK : Hid ((w.alloc (.cells #[.slice (some ⟨b, off, none⟩) n fc, .int .i64 bins, .int .i64 size, .int .i64 budget] 37)).heap[w.heap.size]? = some (.cells #[.slice (some ⟨b, off, none⟩) n fc, .int .i64 bins, .int .i64 size, .int .i64 budget] 37 (0, 0))) := heap_alloc_new w _
  have HKF : Hid (∀ W, Below w.heap.size w W -> Feats W b off n wd sc ct) := fun W hb => by have k : ∀ o, W.cell? ⟨b, o, none⟩ = w.cell? ⟨b, o, none⟩ := fun o => hb.cell (p := ⟨b, o, none⟩) hbl;exact ⟨hF.le, fun _ => by have := hb.size; omega, fun i hi => (k _).trans (hF.c0 i hi), fun i hi => (k _).trans (hF.c1 i hi), fun i hi => (k _).trans (hF.c2 i hi)⟩
  have HC : Hid (confB n bins size budget wd sc ct = true) := hc;have hml : n <= maxLen := hF.le;clear hF hc hfe;go_enter Tryz.func31, Tryz.ntmps31;go_wp2_with fail
  generalize w.alloc (.cells #[.slice (some ⟨b, off, none⟩) n fc, .int .i64 bins, .int .i64 size, .int .i64 budget] 37) = w0 at *;refine (isConfig_any (some ⟨b, off, none⟩) n fc bins size budget wd sc ct w0 hml (.inr ⟨b, off, rfl, HKF.out _ HBX.out⟩)).mono ?_;rintro e w1 ⟨rfl, hb1⟩;rw [HC.out];have hlt0 : w.heap.size < w0.heap.size := (Array.getElem?_eq_some_iff.1 HBK.out).1;have hk1 : w1.heap[w.heap.size]? = some (.cells #[.slice (some ⟨b, off, none⟩) n fc, .int .i64 bins, .int .i64 size, .int .i64 budget] 37 (0, 0)) := (hb1.block _ hlt0).trans HBK.out;have d0 : w1.cell? ⟨w.heap.size, 0, none⟩ = some (.slice (some ⟨b, off, none⟩) n fc) := cell_of_row _ _ 0 _ 37 (0, 0) hk1;have d1 : w1.cell? ⟨w.heap.size, 1, none⟩ = some (.int .i64 bins) := cell_of_row _ _ 1 _ 37 (0, 0) hk1;have d2 : w1.cell? ⟨w.heap.size, 2, none⟩ = some (.int .i64 size) := cell_of_row _ _ 2 _ 37 (0, 0) hk1
  have d3 : w1.cell? ⟨w.heap.size, 3, none⟩ = some (.int .i64 budget) := cell_of_row _ _ 3 _ 37 (0, 0) hk1;have HB1 : Hid (Below w.heap.size w w1) := HBX.out.trans (hb1.mono (by omega));have hs1 : w.heap.size <= w1.heap.size := HB1.out.size;clear hb1 hk1;go_wp2_with fail
  refine (newText_any b off n fc bins size budget wd sc ct w1 (HKF.out _ HB1.out) h1 h4 HSC.out).mono ?_;rintro e w2 ⟨tb, fb, rb, cb, rfl, hT, hb2⟩;have HT : Hid (TextM w2 w.heap.size tb fb rb cb n wd sc ct bins size budget) := hT.base hs1;have HB2 : Hid (Below w.heap.size w w2) := HB1.out.trans (hb2.mono hs1);clear hT hb2 d0 d1 d2 d3;go_wp2;go_ret2
  have hb3 : Below w2.heap.size w2 (w2.alloc (.cells #[.pointer (some ⟨tb, 0, none⟩), .bool false, .int .i64 0, .int .i64 0] 119)) := (Below.refl _ _).alloc (Nat.le_refl _) _;exact ⟨w2.heap.size, tb, fb, rb, cb, rfl, ⟨heap_alloc_new w2 _, HT.out.below hb3, HB2.out.size⟩, HB2.out.trans (hb3.mono HB2.out.size)⟩
end Go.Proofs.YtfcgnpchbcmdeaaGreat

namespace Go.Proofs.YtfcgnpchbcmdeaaGreat
open Go.RowKit
structure RS where
  ws : List Int
  cols : Nat -> List VS
  wt : Int
  fl : Bool
  row : List VS
  p : PartS
  bs : List Int
def RS.start : RS := ⟨[], fun _ => [], 0, false, [], part0, []⟩
def valOf (p : PartS) (bs : List Int) : VS := ⟨decide (p.st = 0), numOf p, strOfNums bs⟩
def fieldStep (wd : Bool) (u : Int) (p : PartS) (bs : List Int) (c : Int) : Option (PartS × List Int) :=
  if wd = true then (wordStep p.st bs c).map (fun q => ({ p with st := q.1 }, q.2)) else (numStep u p c).map (fun q => (q, bs))
def emptyV : VS := ⟨false, 0, ⟨#[]⟩⟩
def rowEnd (n : Nat) (s : RS) (row : List VS) : RS :=
  if row.length = n then ⟨s.ws ++ [s.wt], fun i => if i < n then s.cols i ++ [row.getD i emptyV] else s.cols i, 0, false, [], part0, []⟩
  else { s with row := row, p := part0, bs := [] }
def rtake (n : Nat) (wd : Nat -> Bool) (sc : Nat -> Int) (s : RS) (c : Int) : Except Int RS :=
  if s.ws.length = 200 then .error 3
  else if s.fl = false then
    match weightStep s.wt c with
    | .no => .error 2
    | .whole => .ok { s with fl := true }
    | .digit z => .ok { s with wt := z }
  else
    match fieldStep (wd s.row.length) (tenTo (sc s.row.length).toNat) s.p s.bs c with
    | some (p, bs) => .ok { s with p := p, bs := bs }
    | none => if c = sepOf s.row.length n /\ mayEnd s.p.st = true then .ok (rowEnd n s (s.row ++ [valOf s.p s.bs])) else .error 2
structure NumOk (p : PartS) : Prop where
  u0 : 0 <= p.unit
  u1 : p.unit <= 1000
  n0 : 0 <= p.num
  d0 : 0 <= p.dig
  d1 : p.dig <= 5
  nu : p.num + p.unit <= tenTo p.dig.toNat * 1000
theorem tenTo_five (k : Nat) (h : k <= 5) : 1 <= tenTo k /\ tenTo k <= 100000 := by
  have : k = 0 ∨ k = 1 ∨ k = 2 ∨ k = 3 ∨ k = 4 ∨ k = 5 := by omega
  rcases this with rfl | rfl | rfl | rfl | rfl | rfl <;> decide
theorem NumOk.le {p : PartS} (h : NumOk p) : p.num <= 100000000 := by have h1 := h.nu;have h2 := h.u0;have h3 := (tenTo_five p.dig.toNat (by have := h.d0; have := h.d1; omega)).2;omega
theorem NumOk.part0 : NumOk part0 := ⟨by decide, by decide, by decide, by decide, by decide, by decide⟩
theorem digitB_in {c : Int} (h : digitB c = true) : 48 <= c /\ c <= 57 := by simpa [digitB] using h
theorem NumOk.step {u : Int} (hu0 : 1 <= u) (hu1 : u <= 1000) {p q : PartS} {c : Int} (h : NumOk p) (hs : numStep u p c = some q) : NumOk q := by
  obtain ⟨a0, a1, a2, a3, a4, a5⟩ := h
  have first : ∀ q, firstD u p c = some q -> NumOk q := fun q hq => by
    unfold firstD at hq;split at hq;rename_i hd;obtain ⟨c0, c1⟩ := digitB_in hd;injection hq with hq;subst hq;have m0 : 0 <= (c - 48) * u := Int.mul_nonneg (by omega) (by omega);have m1 : (c - 48) * u <= 9 * u := Int.mul_le_mul_of_nonneg_right (by omega) (by omega);refine ⟨by show 0 <= u; omega, hu1, m0, by show (0 : Int) <= 1; decide, by show (1 : Int) <= 5; decide, ?_⟩;show (c - 48) * u + u <= tenTo 1 * 1000;have : tenTo 1 = 10 := (by decide);rw [this]; omega
    cases hq
  have minus : ∀ q, minusD p c = some q -> NumOk q := fun q hq => by
    unfold minusD at hq;split at hq;injection hq with hq;subst hq;exact ⟨a0, a1, a2, a3, a4, a5⟩
    cases hq
  have point : ∀ q, pointD p c = some q -> NumOk q := fun q hq => by
    unfold pointD at hq;split at hq;injection hq with hq;subst hq;exact ⟨a0, a1, a2, a3, a4, a5⟩
    cases hq
  have digit : ∀ q, digitD p c = some q -> NumOk q := fun q hq => by
    unfold digitD at hq;split at hq;rename_i hd;obtain ⟨hd, h5⟩ := hd;obtain ⟨c0, c1⟩ := digitB_in hd;injection hq with hq;subst hq;have m0 : 0 <= (c - 48) * p.unit := Int.mul_nonneg (by omega) a0;have m1 : (c - 48) * p.unit <= 9 * p.unit := Int.mul_le_mul_of_nonneg_right (by omega) a0;refine ⟨a0, a1, ?_, ?_, ?_, ?_⟩;show 0 <= p.num * 10 + (c - 48) * p.unit; omega;show 0 <= p.dig + 1; omega;show p.dig + 1 <= 5; omega;show p.num * 10 + (c - 48) * p.unit + p.unit <= tenTo (p.dig + 1).toNat * 1000;have e : (p.dig + 1).toNat = p.dig.toNat + 1 := (by omega);rw [e];show _ <= tenTo p.dig.toNat * 10 * 1000;omega
    cases hq
  have behind : ∀ q, behindD p c = some q -> NumOk q := fun q hq => by
    unfold behindD at hq;split at hq;rename_i hd;obtain ⟨hd, h5⟩ := hd;obtain ⟨c0, c1⟩ := digitB_in hd;injection hq with hq;subst hq;have v0 : 0 <= p.unit / 10 := (by omega);have m0 : 0 <= (c - 48) * (p.unit / 10) := Int.mul_nonneg (by omega) v0;have m1 : (c - 48) * (p.unit / 10) <= 9 * (p.unit / 10) := Int.mul_le_mul_of_nonneg_right (by omega) v0;refine ⟨v0, ?_, ?_, a3, a4, ?_⟩;show p.unit / 10 <= 1000; omega;show 0 <= p.num + (c - 48) * (p.unit / 10); omega;show p.num + (c - 48) * (p.unit / 10) + p.unit / 10 <= tenTo p.dig.toNat * 1000;omega
    cases hq
  unfold numStep at hs;split at hs
  · cases hm : minusD p c with
    | some q' => rw [hm] at hs; exact minus q (hm.trans hs)
    | none => rw [hm] at hs; exact first q hs
  split at hs
  · exact first q hs
  split at hs
  · cases hm : digitD p c with
    | some q' => rw [hm] at hs; exact digit q (hm.trans hs)
    | none => rw [hm] at hs; exact point q hs
  split at hs;exact point q hs;exact behind q hs
theorem NumOk.st {p : PartS} (h : NumOk p) (z : Int) : NumOk { p with st := z } := ⟨h.u0, h.u1, h.n0, h.d0, h.d1, h.nu⟩
theorem numStep_wv (u : Int) (p : PartS) (c : Int) (v : Value) : numStep u { p with wv := v } c = (numStep u p c).map (fun q => { q with wv := v }) := by
  have e1 : minusD { p with wv := v } c = (minusD p c).map (fun q => { q with wv := v }) := (by unfold minusD; split <;> rfl);have e2 : firstD u { p with wv := v } c = (firstD u p c).map (fun q => { q with wv := v }) := by unfold firstD; split <;> rfl
  have e3 : digitD { p with wv := v } c = (digitD p c).map (fun q => { q with wv := v }) := by
    unfold digitD
    by_cases k : digitB c = true /\ p.dig ≠ 5
    rw [if_pos k, if_pos k]; rfl;rw [if_neg k, if_neg k]; rfl
  have e4 : pointD { p with wv := v } c = (pointD p c).map (fun q => { q with wv := v }) := by
    unfold pointD
    by_cases k : c = 46 /\ p.unit ≠ 1
    rw [if_pos k, if_pos k]; rfl;rw [if_neg k, if_neg k]; rfl
  have e5 : behindD { p with wv := v } c = (behindD p c).map (fun q => { q with wv := v }) := by
    unfold behindD
    by_cases k : digitB c = true /\ p.unit ≠ 1
    rw [if_pos k, if_pos k]; rfl;rw [if_neg k, if_neg k]; rfl
  unfold numStep;rw [e1, e2, e3, e4, e5];show (if p.st = 0 then _ else if p.st = 1 then _ else if p.st = 3 then _ else if p.st = 2 then _ else _) = _
  by_cases s0 : p.st = 0
  · rw [if_pos s0, if_pos s0]
    cases minusD p c <;> rfl
  rw [if_neg s0, if_neg s0]
  by_cases s1 : p.st = 1
  rw [if_pos s1, if_pos s1];rw [if_neg s1, if_neg s1]
  by_cases s3 : p.st = 3
  · rw [if_pos s3, if_pos s3]
    cases digitD p c <;> rfl
  rw [if_neg s3, if_neg s3]
  by_cases s2 : p.st = 2
  rw [if_pos s2, if_pos s2];rw [if_neg s2, if_neg s2]
theorem wordStep_len {st : Int} {bs : List Int} {c : Int} {q : Int × List Int} (h : wordStep st bs c = some q) (hb : bs.length <= 8) : q.2.length <= 8 := by
  have letter : ∀ q, letterD bs c = some q -> q.2.length <= 8 := fun q hq => by
    unfold letterD at hq;split at hq;rename_i k;injection hq with hq; subst hq;have := k.2;simp; omega
    cases hq
  have sign : ∀ q, signD st bs c = some q -> q.2.length <= 8 := fun q hq => by
    unfold signD at hq;split at hq;rename_i k;injection hq with hq; subst hq;have := k.2;simp; omega
    cases hq
  have second : ∀ q, secondD bs c = some q -> q.2.length <= 8 := fun q hq => by
    unfold secondD at hq;split at hq;rename_i k;injection hq with hq; subst hq;have := k.2;simp; omega
    cases hq
  unfold wordStep at h;split at h
  · by_cases k : c = 34
    rw [if_pos k] at h;injection h with h; subst h; exact hb;rw [if_neg k] at h; exact letter q h
  split at h;exact letter q h;split at h
  · by_cases k : c = 34
    rw [if_pos k] at h;injection h with h; subst h; exact hb;rw [if_neg k] at h; exact sign q h
  exact second q h
structure RInv (n : Nat) (s : RS) : Prop where
  ws : s.ws.length <= 200
  col : ∀ i, i < n -> (s.cols i).length = s.ws.length
  wt0 : 0 <= s.wt
  wt1 : s.wt <= 99
  row : s.row.length < n
  num : NumOk s.p
  bs : s.bs.length <= 8
theorem RInv.start {n : Nat} (h : 1 <= n) : RInv n RS.start := ⟨by decide, fun _ _ => rfl, by decide, by decide, h, NumOk.part0, by decide⟩
theorem weightStep_in {wt c z : Int} (h : weightStep wt c = .digit z) : 1 <= z /\ z <= 99 := by
  unfold weightStep at h;split at h
  · cases h
  split at h;injection h with h;omega
  cases h
end Go.Proofs.YtfcgnpchbcmdeaaGreat
