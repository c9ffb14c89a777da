/-
  The library's functions that the program calls, at the program's own numbers.
  How a number finds its bin.
  The contract of Bins: the bins of many values.
-/
import Derived.Shelf.Small.Bits
import Derived.Shelf.Small.Wraps
import Derived.Shelf.Strconv.Itoa0
import Derived.Shelf.LaysM
import Derived.Shelf.Strconv.Clone
import Derived.Shelf.Slices.Turned
import Derived.Shelf.Slices.Clone
import Derived.Shelf.Slices.SearchI
import Derived.Shelf.Slices.Empties
import Derived.Shelf.SlSortCmp.Insertion
import Derived.Shelf.SlSortCmp.Insertion1
import Derived.Shelf.SlSortCmp.NoneTotal
import Derived.Test.YtfcgnpchbcmdeaaGreatProg
import Derived.Test.YtfcgnpchbcmdeaaGreatZtap
namespace Go.Proofs
open Go.Shelf
def Tryz.lays128_ren : Go.Shelf.Ren := ⟨fun | 128 => 201 | n => n, fun | 51 => 185 | 3 => 3 | 4 => 4 | 46 => 243 | 5 => 5 | 9 => 9 | n => n, fun | n => n⟩
theorem Tryz.lays128 : Go.Proofs.Lays.n128 Tryz.prog Tryz.lays128_ren := {
  mixed := by kernel_rfl
  f128 := Tryz.func201.trans (congrArg some (by kernel_rfl))
  t3 := Tryz.underlying3
  a3 := Tryz.isAgg3
  z3 := Tryz.sizeOf3
  v3 := Tryz.zeroValue3
  t4 := Tryz.underlying4
  a4 := Tryz.isAgg4
  z4 := Tryz.sizeOf4
  v4 := Tryz.zeroValue4
  t5 := Tryz.underlying5
  a5 := Tryz.isAgg5
  z5 := Tryz.sizeOf5
  v5 := Tryz.zeroValue5
  t9 := Tryz.underlying9
  a9 := Tryz.isAgg9
  z9 := Tryz.sizeOf9
  v9 := Tryz.zeroValue9
  t46 := Tryz.underlying243
  a46 := Tryz.isAgg243
  z46 := Tryz.sizeOf243
  v46 := Tryz.zeroValue243
  t51 := Tryz.underlying185
  a51 := Tryz.isAgg185
  z51 := Tryz.sizeOf185
  v51 := Tryz.zeroValue185 }
theorem Tryz.bits_Len32 (x : Int) (w : World) (h0 : 0 ≤ x) (h1 : x ≤ 4294967295) :
    Calls Tryz.prog 201 #[.int .u32 x] w fun e w' => e = .returned (.int .i64 (Lib.bitLen x.toNat)) ∧ w' = w := Any.bits_Len32 Tryz.lays128 x w h0 h1
def Tryz.lays125_ren : Go.Shelf.Ren := ⟨fun | 125 => 150 | 128 => 201 | 129 => 202 | n => n, fun | 46 => 243 | 3 => 3 | 51 => 185 | 53 => 306 | 4 => 4 | 5 => 5 | 9 => 9 | n => n, fun | n => n⟩
theorem Tryz.lays125 : Go.Proofs.Lays.n125 Tryz.prog Tryz.lays125_ren := {
  mixed := by kernel_rfl
  f125 := Tryz.func150.trans (congrArg some (by kernel_rfl))
  f128 := Tryz.func201.trans (congrArg some (by kernel_rfl))
  f129 := Tryz.func202.trans (congrArg some (by kernel_rfl))
  t3 := Tryz.underlying3
  a3 := Tryz.isAgg3
  z3 := Tryz.sizeOf3
  v3 := Tryz.zeroValue3
  t4 := Tryz.underlying4
  a4 := Tryz.isAgg4
  z4 := Tryz.sizeOf4
  v4 := Tryz.zeroValue4
  t5 := Tryz.underlying5
  a5 := Tryz.isAgg5
  z5 := Tryz.sizeOf5
  v5 := Tryz.zeroValue5
  t9 := Tryz.underlying9
  a9 := Tryz.isAgg9
  z9 := Tryz.sizeOf9
  v9 := Tryz.zeroValue9
  t46 := Tryz.underlying243
  a46 := Tryz.isAgg243
  z46 := Tryz.sizeOf243
  v46 := Tryz.zeroValue243
  t51 := Tryz.underlying185
  a51 := Tryz.isAgg185
  z51 := Tryz.sizeOf185
  v51 := Tryz.zeroValue185
  t53 := Tryz.underlying306
  a53 := Tryz.isAgg306
  z53 := Tryz.sizeOf306
  v53 := Tryz.zeroValue306 }
theorem Tryz.bits_Len (x : Int) (w : World) (h0 : 0 ≤ x) (h1 : x ≤ 18446744073709551615) :
    Calls Tryz.prog 150 #[.int .u64 x] w fun e w' => e = .returned (.int .i64 (Lib.bitLen x.toNat)) ∧ w' = w := Any.bits_Len Tryz.lays125 x w h0 h1
def Tryz.lays215_ren : Go.Shelf.Ren := ⟨fun | 215 => 203 | n => n, fun | 3 => 3 | 4 => 4 | n => n, fun | n => n⟩
theorem Tryz.lays215 : Go.Proofs.Lays.n215 Tryz.prog Tryz.lays215_ren := {
  mixed := by kernel_rfl
  f215 := Tryz.func203.trans (congrArg some (by kernel_rfl))
  t3 := Tryz.underlying3
  a3 := Tryz.isAgg3
  z3 := Tryz.sizeOf3
  v3 := Tryz.zeroValue3
  t4 := Tryz.underlying4
  a4 := Tryz.isAgg4
  z4 := Tryz.sizeOf4
  v4 := Tryz.zeroValue4 }
open Go.RowKit in
theorem Tryz.cmp_isNaN_int (x : Int) (w : World) :
    Calls Tryz.prog 203 #[.int .i64 x] w fun e w' => e = .returned (.bool false) ∧ w' = w := Any.cmp_isNaN_int Tryz.lays215 x w
def Tryz.lays122_ren : Go.Shelf.Ren := ⟨fun | 122 => 151 | 215 => 203 | n => n, fun | 3 => 3 | 4 => 4 | n => n, fun | n => n⟩
theorem Tryz.lays122 : Go.Proofs.Lays.n122 Tryz.prog Tryz.lays122_ren := {
  mixed := by kernel_rfl
  f122 := Tryz.func151.trans (congrArg some (by kernel_rfl))
  f215 := Tryz.func203.trans (congrArg some (by kernel_rfl))
  t3 := Tryz.underlying3
  a3 := Tryz.isAgg3
  z3 := Tryz.sizeOf3
  v3 := Tryz.zeroValue3
  t4 := Tryz.underlying4
  a4 := Tryz.isAgg4
  z4 := Tryz.sizeOf4
  v4 := Tryz.zeroValue4 }
open Go.RowKit in
theorem Tryz.cmp_Compare_int (x y : Int) (w : World) :
    Calls Tryz.prog 151 #[.int .i64 x, .int .i64 y] w fun e w' => e = .returned (.int .i64 (Lib.compareInt x y)) ∧ w' = w := Any.cmp_Compare_int Tryz.lays122 x y w
def Tryz.lays129_ren : Go.Shelf.Ren := ⟨fun | 129 => 202 | n => n, fun | 53 => 306 | 3 => 3 | 4 => 4 | 46 => 243 | 5 => 5 | 9 => 9 | n => n, fun | n => n⟩
theorem Tryz.lays129 : Go.Proofs.Lays.n129 Tryz.prog Tryz.lays129_ren := {
  mixed := by kernel_rfl
  f129 := Tryz.func202.trans (congrArg some (by kernel_rfl))
  t3 := Tryz.underlying3
  a3 := Tryz.isAgg3
  z3 := Tryz.sizeOf3
  v3 := Tryz.zeroValue3
  t4 := Tryz.underlying4
  a4 := Tryz.isAgg4
  z4 := Tryz.sizeOf4
  v4 := Tryz.zeroValue4
  t5 := Tryz.underlying5
  a5 := Tryz.isAgg5
  z5 := Tryz.sizeOf5
  v5 := Tryz.zeroValue5
  t9 := Tryz.underlying9
  a9 := Tryz.isAgg9
  z9 := Tryz.sizeOf9
  v9 := Tryz.zeroValue9
  t46 := Tryz.underlying243
  a46 := Tryz.isAgg243
  z46 := Tryz.sizeOf243
  v46 := Tryz.zeroValue243
  t53 := Tryz.underlying306
  a53 := Tryz.isAgg306
  z53 := Tryz.sizeOf306
  v53 := Tryz.zeroValue306 }
theorem Tryz.bits_Len64 (x : Int) (w : World) (h0 : 0 ≤ x) (h1 : x ≤ 18446744073709551615) :
    Calls Tryz.prog 202 #[.int .u64 x] w fun e w' => e = .returned (.int .i64 (Lib.bitLen x.toNat)) ∧ w' = w := Any.bits_Len64 Tryz.lays129 x w h0 h1
def Tryz.laysM316_ren : Go.Shelf.Ren := ⟨fun | 316 => 276 | n => n, fun | 9 => 9 | 3 => 3 | 4 => 4 | 37 => 66 | 0 => 0 | 127 => 394 | 5 => 5 | n => n, fun | n => n⟩
theorem Tryz.laysM316 : Go.Proofs.LaysM.n316 Tryz.prog Tryz.laysM316_ren := {
  mixed := by kernel_rfl
  f316 := Tryz.func276.trans (congrArg some (by kernel_rfl))
  t0 := Tryz.underlying0
  a0 := Tryz.isAgg0
  z0 := Tryz.sizeOf0
  v0 := Tryz.zeroValue0
  t3 := Tryz.underlying3
  a3 := Tryz.isAgg3
  z3 := Tryz.sizeOf3
  v3 := Tryz.zeroValue3
  t4 := Tryz.underlying4
  a4 := Tryz.isAgg4
  z4 := Tryz.sizeOf4
  v4 := Tryz.zeroValue4
  t9 := Tryz.underlying9
  a9 := Tryz.isAgg9
  z9 := Tryz.sizeOf9
  v9 := Tryz.zeroValue9
  t37 := Tryz.underlying66
  a37 := Tryz.isAgg66
  z37 := Tryz.sizeOf66
  v37 := Tryz.zeroValue66
  t127 := Tryz.underlying394
  a127 := Tryz.isAgg394
  z127 := Tryz.sizeOf394
  v127 := Tryz.zeroValue394
  t5 := Tryz.underlying5
  a5 := Tryz.isAgg5
  z5 := Tryz.sizeOf5
  v5 := Tryz.zeroValue5
  i0 := by kernel_rfl
  i3 := by kernel_rfl
  i4 := by kernel_rfl
  i5 := by kernel_rfl
  i9 := by kernel_rfl
  i37 := by kernel_rfl
  i127 := by kernel_rfl }
open Go.RowKit in
theorem Tryz.stringslite_Clone (s : ByteArray) (w : World) (hlim : s.size ≤ 281474976710656) :
    Calls Tryz.prog 276 #[.string s] w fun e w' => e = .returned (.string s) ∧ Below w.heap.size w w' := Any.stringslite_Clone Tryz.laysM316 s w hlim
def Tryz.lays108_ren : Go.Shelf.Ren := ⟨fun | 108 => 252 | n => n, fun | 28 => 25 | 3 => 3 | 0 => 0 | 4 => 4 | n => n, fun | n => n⟩
theorem Tryz.lays108 : Go.Proofs.Lays.n108 Tryz.prog Tryz.lays108_ren := {
  mixed := by kernel_rfl
  f108 := Tryz.func252.trans (congrArg some (by kernel_rfl))
  t0 := Tryz.underlying0
  a0 := Tryz.isAgg0
  z0 := Tryz.sizeOf0
  v0 := Tryz.zeroValue0
  t3 := Tryz.underlying3
  a3 := Tryz.isAgg3
  z3 := Tryz.sizeOf3
  v3 := Tryz.zeroValue3
  t4 := Tryz.underlying4
  a4 := Tryz.isAgg4
  z4 := Tryz.sizeOf4
  v4 := Tryz.zeroValue4
  t28 := Tryz.underlying25
  a28 := Tryz.isAgg25
  z28 := Tryz.sizeOf25
  v28 := Tryz.zeroValue25 }
open Go.Lib in
theorem Tryz.slices_Index_int (b off n c : Nat) (zs : List Int) (x : Int) (w : World) (hz : n ≤ zs.length) (hbig : n ≤ 9223372036854775807) (hc : ∀ j, j < zs.length → w.cell? ⟨b, off + j, none⟩ = some (.int .i64 (zs.getD j 0))) :
    Calls Tryz.prog 252 #[.slice (some ⟨b, off, none⟩) n c, .int .i64 x] w fun e w' => e = .returned (.int .i64 (Lib.idxOf (zs.take n) x)) ∧ w' = w := Any.slices_Index_int Tryz.lays108 b off n c zs x w hz hbig hc
open Go.Lib in
theorem Tryz.slices_Index_int_empty (a : Option Addr) (c : Nat) (x : Int) (w : World) :
    Calls Tryz.prog 252 #[.slice a 0 c, .int .i64 x] w fun e w' => e = .returned (.int .i64 (Lib.idxOf [] x)) ∧ w' = w := Any.slices_Index_int_empty Tryz.lays108 a c x w
def Tryz.lays109_ren : Go.Shelf.Ren := ⟨fun | 109 => 267 | n => n, fun | 31 => 47 | 9 => 9 | 3 => 3 | 0 => 0 | 4 => 4 | n => n, fun | n => n⟩
theorem Tryz.lays109 : Go.Proofs.Lays.n109 Tryz.prog Tryz.lays109_ren := {
  mixed := by kernel_rfl
  f109 := Tryz.func267.trans (congrArg some (by kernel_rfl))
  t0 := Tryz.underlying0
  a0 := Tryz.isAgg0
  z0 := Tryz.sizeOf0
  v0 := Tryz.zeroValue0
  t3 := Tryz.underlying3
  a3 := Tryz.isAgg3
  z3 := Tryz.sizeOf3
  v3 := Tryz.zeroValue3
  t4 := Tryz.underlying4
  a4 := Tryz.isAgg4
  z4 := Tryz.sizeOf4
  v4 := Tryz.zeroValue4
  t9 := Tryz.underlying9
  a9 := Tryz.isAgg9
  z9 := Tryz.sizeOf9
  v9 := Tryz.zeroValue9
  t31 := Tryz.underlying47
  a31 := Tryz.isAgg47
  z31 := Tryz.sizeOf47
  v31 := Tryz.zeroValue47 }
open Go.Lib in
theorem Tryz.slices_Index_string (b off n c : Nat) (zs : List ByteArray) (x : ByteArray) (w : World) (hz : n ≤ zs.length) (hbig : n ≤ 9223372036854775807) (hc : ∀ j, j < zs.length → w.cell? ⟨b, off + j, none⟩ = some (.string (zs.getD j ByteArray.empty))) :
    Calls Tryz.prog 267 #[.slice (some ⟨b, off, none⟩) n c, .string x] w fun e w' => e = .returned (.int .i64 (Lib.idxOfS (zs.take n) x)) ∧ w' = w := Any.slices_Index_string Tryz.lays109 b off n c zs x w hz hbig hc
open Go.Lib in
theorem Tryz.slices_Index_string_empty (a : Option Addr) (c : Nat) (x : ByteArray) (w : World) :
    Calls Tryz.prog 267 #[.slice a 0 c, .string x] w fun e w' => e = .returned (.int .i64 (Lib.idxOfS [] x)) ∧ w' = w := Any.slices_Index_string_empty Tryz.lays109 a c x w
def Tryz.lays110_ren : Go.Shelf.Ren := ⟨fun | 110 => 322 | 109 => 267 | n => n, fun | 31 => 47 | 9 => 9 | 4 => 4 | 3 => 3 | 0 => 0 | n => n, fun | n => n⟩
theorem Tryz.lays110 : Go.Proofs.Lays.n110 Tryz.prog Tryz.lays110_ren := {
  mixed := by kernel_rfl
  f109 := Tryz.func267.trans (congrArg some (by kernel_rfl))
  f110 := Tryz.func322.trans (congrArg some (by kernel_rfl))
  t0 := Tryz.underlying0
  a0 := Tryz.isAgg0
  z0 := Tryz.sizeOf0
  v0 := Tryz.zeroValue0
  t3 := Tryz.underlying3
  a3 := Tryz.isAgg3
  z3 := Tryz.sizeOf3
  v3 := Tryz.zeroValue3
  t4 := Tryz.underlying4
  a4 := Tryz.isAgg4
  z4 := Tryz.sizeOf4
  v4 := Tryz.zeroValue4
  t9 := Tryz.underlying9
  a9 := Tryz.isAgg9
  z9 := Tryz.sizeOf9
  v9 := Tryz.zeroValue9
  t31 := Tryz.underlying47
  a31 := Tryz.isAgg47
  z31 := Tryz.sizeOf47
  v31 := Tryz.zeroValue47 }
open Go.Lib in
theorem Tryz.slices_Contains_string (b off n c : Nat) (zs : List ByteArray) (x : ByteArray) (w : World) (hz : n ≤ zs.length) (hbig : n ≤ 9223372036854775807) (hc : ∀ j, j < zs.length → w.cell? ⟨b, off + j, none⟩ = some (.string (zs.getD j ByteArray.empty))) :
    Calls Tryz.prog 322 #[.slice (some ⟨b, off, none⟩) n c, .string x] w fun e w' => e = .returned (.bool (Lib.containsS (zs.take n) x)) ∧ w' = w := Any.slices_Contains_string Tryz.lays110 b off n c zs x w hz hbig hc
open Go.Lib in
theorem Tryz.slices_Contains_string_empty (a : Option Addr) (c : Nat) (x : ByteArray) (w : World) :
    Calls Tryz.prog 322 #[.slice a 0 c, .string x] w fun e w' => e = .returned (.bool false) ∧ w' = w := Any.slices_Contains_string_empty Tryz.lays110 a c x w
def Tryz.lays113_ren : Go.Shelf.Ren := ⟨fun | 113 => 253 | n => n, fun | 28 => 25 | 3 => 3 | 4 => 4 | 9 => 9 | 20 => 20 | 0 => 0 | n => n, fun | n => n⟩
theorem Tryz.lays113 : Go.Proofs.Lays.n113 Tryz.prog Tryz.lays113_ren := {
  mixed := by kernel_rfl
  f113 := Tryz.func253.trans (congrArg some (by kernel_rfl))
  t0 := Tryz.underlying0
  a0 := Tryz.isAgg0
  z0 := Tryz.sizeOf0
  v0 := Tryz.zeroValue0
  t3 := Tryz.underlying3
  a3 := Tryz.isAgg3
  z3 := Tryz.sizeOf3
  v3 := Tryz.zeroValue3
  t4 := Tryz.underlying4
  a4 := Tryz.isAgg4
  z4 := Tryz.sizeOf4
  v4 := Tryz.zeroValue4
  t9 := Tryz.underlying9
  a9 := Tryz.isAgg9
  z9 := Tryz.sizeOf9
  v9 := Tryz.zeroValue9
  t20 := Tryz.underlying20
  a20 := Tryz.isAgg20
  z20 := Tryz.sizeOf20
  v20 := Tryz.zeroValue20
  t28 := Tryz.underlying25
  a28 := Tryz.isAgg25
  z28 := Tryz.sizeOf25
  v28 := Tryz.zeroValue25 }
open Go.Lib in
theorem Tryz.slices_Max_int (b off n c : Nat) (zs : List Int) (w : World) (hn : 0 < n) (hz : n ≤ zs.length) (hbig : n ≤ 9223372036854775807) (hc : ∀ j, j < zs.length → w.cell? ⟨b, off + j, none⟩ = some (.int .i64 (zs.getD j 0))) :
    Calls Tryz.prog 253 #[.slice (some ⟨b, off, none⟩) n c] w fun e w' => e = .returned (.int .i64 (Lib.maxOf (zs.take n))) ∧ w' = w := Any.slices_Max_int Tryz.lays113 b off n c zs w hn hz hbig hc
def Tryz.laysNm215_ren : Go.Shelf.Ren := ⟨fun | 15 => 158 | n => n, fun | 22 => 25 | 3 => 3 | 4 => 4 | n => n, fun | n => n⟩
theorem Tryz.laysNm215 : Go.Proofs.Lays2.n15 Tryz.prog Tryz.laysNm215_ren := {
  mixed := by kernel_rfl
  f15 := Tryz.func158.trans (congrArg some (by kernel_rfl))
  t3 := Tryz.underlying3
  a3 := Tryz.isAgg3
  z3 := Tryz.sizeOf3
  v3 := Tryz.zeroValue3
  t4 := Tryz.underlying4
  a4 := Tryz.isAgg4
  z4 := Tryz.sizeOf4
  v4 := Tryz.zeroValue4
  t22 := Tryz.underlying25
  a22 := Tryz.isAgg25
  z22 := Tryz.sizeOf25
  v22 := Tryz.zeroValue25
  i3 := by kernel_rfl }
open Go.RowKit Go.Lib in
theorem Tryz.slices_Clone_int (b off n c : Nat) (zs : List Int) (w : World) (hz : n ≤ zs.length) (hbig : n * 8 ≤ 140737488355328) (hc : ∀ j, j < zs.length → w.cell? ⟨b, off + j, none⟩ = some (.int .i64 (zs.getD j 0))) :
    Calls Tryz.prog 158 #[.slice (some ⟨b, off, none⟩) n c] w fun e w' => ∃ v', e = .returned v' ∧ w'.ownsRow w.heap.size 3 1 v' n ((zs.take n).map (Value.int .i64)) ∧ v' ≠ .slice none 0 0 ∧ Below w.heap.size w w' := Any.slices_Clone_int Tryz.laysNm215 b off n c zs w hz hbig hc
open Go.RowKit Go.Lib in
theorem Tryz.slices_Clone_int_nil (n c : Nat) (w : World) :
    Calls Tryz.prog 158 #[.slice none n c] w fun e w' => e = .returned (.slice none 0 0) ∧ w' = w := Any.slices_Clone_int_nil Tryz.laysNm215 n c w
open Go.RowKit Go.Lib in
theorem Tryz.slices_Clone_int_zero (a : Addr) (c : Nat) (w : World) :
    Calls Tryz.prog 158 #[.slice (some a) 0 c] w fun e w' => ∃ v', e = .returned v' ∧ w'.ownsRow w.heap.size 3 1 v' 0 [] ∧ v' ≠ .slice none 0 0 ∧ Below w.heap.size w w' := Any.slices_Clone_int_zero Tryz.laysNm215 a c w
def Tryz.laysNm237_ren : Go.Shelf.Ren := ⟨fun | 37 => 203 | n => n, fun | 3 => 3 | 4 => 4 | n => n, fun | n => n⟩
theorem Tryz.laysNm237 : Go.Proofs.Lays2.n37 Tryz.prog Tryz.laysNm237_ren := {
  mixed := by kernel_rfl
  f37 := Tryz.func203.trans (congrArg some (by kernel_rfl))
  t3 := Tryz.underlying3
  a3 := Tryz.isAgg3
  z3 := Tryz.sizeOf3
  v3 := Tryz.zeroValue3
  t4 := Tryz.underlying4
  a4 := Tryz.isAgg4
  z4 := Tryz.sizeOf4
  v4 := Tryz.zeroValue4 }
open Go.RowKit Go.Lib in
theorem Tryz.cmp_isNaN_int2 (x : Int) (w : World) :
    Calls Tryz.prog 203 #[.int .i64 x] w fun e w' => e = .returned (.bool false) ∧ w' = w := Any.cmp_isNaN_int2 Tryz.laysNm237 x w
def Tryz.laysNm232_ren : Go.Shelf.Ren := ⟨fun | 32 => 320 | n => n, fun | 3 => 3 | 4 => 4 | n => n, fun | n => n⟩
theorem Tryz.laysNm232 : Go.Proofs.Lays2.n32 Tryz.prog Tryz.laysNm232_ren := {
  mixed := by kernel_rfl
  f32 := Tryz.func320.trans (congrArg some (by kernel_rfl))
  t3 := Tryz.underlying3
  a3 := Tryz.isAgg3
  z3 := Tryz.sizeOf3
  v3 := Tryz.zeroValue3
  t4 := Tryz.underlying4
  a4 := Tryz.isAgg4
  z4 := Tryz.sizeOf4
  v4 := Tryz.zeroValue4 }
open Go.RowKit Go.Lib in
theorem Tryz.slices_isNaN_int2 (x : Int) (w : World) :
    Calls Tryz.prog 320 #[.int .i64 x] w fun e w' => e = .returned (.bool false) ∧ w' = w := Any.slices_isNaN_int2 Tryz.laysNm232 x w
def Tryz.laysNm231_ren : Go.Shelf.Ren := ⟨fun | 31 => 319 | 37 => 203 | n => n, fun | 3 => 3 | 4 => 4 | n => n, fun | n => n⟩
theorem Tryz.laysNm231 : Go.Proofs.Lays2.n31 Tryz.prog Tryz.laysNm231_ren := {
  mixed := by kernel_rfl
  f31 := Tryz.func319.trans (congrArg some (by kernel_rfl))
  f37 := Tryz.func203.trans (congrArg some (by kernel_rfl))
  t3 := Tryz.underlying3
  a3 := Tryz.isAgg3
  z3 := Tryz.sizeOf3
  v3 := Tryz.zeroValue3
  t4 := Tryz.underlying4
  a4 := Tryz.isAgg4
  z4 := Tryz.sizeOf4
  v4 := Tryz.zeroValue4 }
open Go.RowKit Go.Lib in
theorem Tryz.cmp_Less_int2 (x y : Int) (w : World) :
    Calls Tryz.prog 319 #[.int .i64 x, .int .i64 y] w fun e w' => e = .returned (.bool (decide (x < y))) ∧ w' = w := Any.cmp_Less_int2 Tryz.laysNm231 x y w
def Tryz.laysNm225_ren : Go.Shelf.Ren := ⟨fun | 25 => 275 | 31 => 319 | 32 => 320 | 37 => 203 | n => n, fun | 22 => 25 | 3 => 3 | 4 => 4 | 40 => 243 | 0 => 0 | n => n, fun | n => n⟩
theorem Tryz.laysNm225 : Go.Proofs.Lays2.n25 Tryz.prog Tryz.laysNm225_ren := {
  mixed := by kernel_rfl
  f25 := Tryz.func275.trans (congrArg some (by kernel_rfl))
  f31 := Tryz.func319.trans (congrArg some (by kernel_rfl))
  f32 := Tryz.func320.trans (congrArg some (by kernel_rfl))
  f37 := Tryz.func203.trans (congrArg some (by kernel_rfl))
  t0 := Tryz.underlying0
  a0 := Tryz.isAgg0
  z0 := Tryz.sizeOf0
  v0 := Tryz.zeroValue0
  t3 := Tryz.underlying3
  a3 := Tryz.isAgg3
  z3 := Tryz.sizeOf3
  v3 := Tryz.zeroValue3
  t4 := Tryz.underlying4
  a4 := Tryz.isAgg4
  z4 := Tryz.sizeOf4
  v4 := Tryz.zeroValue4
  t22 := Tryz.underlying25
  a22 := Tryz.isAgg25
  z22 := Tryz.sizeOf25
  v22 := Tryz.zeroValue25
  t40 := Tryz.underlying243
  a40 := Tryz.isAgg243
  z40 := Tryz.sizeOf243
  v40 := Tryz.zeroValue243 }
open Go.RowKit Go.Lib in
theorem Tryz.slices_BinarySearch_int (b off n c : Nat) (zs : List Int) (x : Int) (w : World) (hz : n ≤ zs.length) (hbig : n < 4611686018427387904) (hc : ∀ j, j < zs.length → w.cell? ⟨b, off + j, none⟩ = some (.int .i64 (zs.getD j 0))) (hs : (zs.take n).Pairwise (· ≤ ·)) :
    Calls Tryz.prog 275 #[.slice (some ⟨b, off, none⟩) n c, .int .i64 x] w fun e w' => e = .returned (.tuple #[.int .i64 ((zs.take n).countP (· < x) : Nat), .bool ((zs.take n).contains x)]) ∧ ∃ q, w' = w.drewN q := Any.slices_BinarySearch_int Tryz.laysNm225 b off n c zs x w hz hbig hc hs
open Go.RowKit Go.Lib in
theorem Tryz.slices_BinarySearch_int_empty (a : Option Addr) (c : Nat) (x : Int) (w : World) :
    Calls Tryz.prog 275 #[.slice a 0 c, .int .i64 x] w fun e w' => e = .returned (.tuple #[.int .i64 0, .bool false]) ∧ w' = w := Any.slices_BinarySearch_int_empty Tryz.laysNm225 a c x w
def Tryz.laysSlF20_f346_ren : Go.Shelf.Ren := ⟨fun | 20 => 346 | n => n, fun | 24 => 3 | 22 => 25 | 3 => 3 | 25 => 27 | 4 => 4 | 0 => 0 | n => n, fun | n => n⟩
theorem Tryz.laysSlF20_f346 : Go.Proofs.SlLaysF.n20 Tryz.prog Tryz.laysSlF20_f346_ren := {
  mixed := by kernel_rfl
  f20 := ⟨Tryz.f346.name, by decide, Tryz.func346.trans (congrArg some (by kernel_rfl))⟩
  t0 := Tryz.underlying0
  a0 := Tryz.isAgg0
  z0 := Tryz.sizeOf0
  v0 := Tryz.zeroValue0
  t3 := Tryz.underlying3
  a3 := Tryz.isAgg3
  z3 := Tryz.sizeOf3
  v3 := Tryz.zeroValue3
  t4 := Tryz.underlying4
  a4 := Tryz.isAgg4
  z4 := Tryz.sizeOf4
  v4 := Tryz.zeroValue4
  t22 := Tryz.underlying25
  a22 := Tryz.isAgg25
  z22 := Tryz.sizeOf25
  v22 := Tryz.zeroValue25
  a24 := Tryz.isAgg3
  z24 := Tryz.sizeOf3
  t25 := Tryz.underlying27
  a25 := Tryz.isAgg27
  z25 := Tryz.sizeOf27
  v25 := Tryz.zeroValue27 }
open Go.RowKit Go.Lib Go.Sort in
theorem Tryz.insertionSortCmpFunc_one {α : Type} [Inhabited α] (enc : α → Value) (hO : OneCell enc) (cf : α → α → Int) (g : Nat) (cb : Array Value) (blk off cap a b : Nat) (d : Array α) (w : World) (eg : ∀ args w, (callFunc g args).run Tryz.prog w = .ok (.enter g args) w) (hcmp : CmpReads Tryz.prog g cb enc cf blk off d.size w) (hH : Holds enc w blk off d) (hab : a ≤ b) (hb : b ≤ d.size) (hsz : d.size < 4611686018427387904) :
    Calls Tryz.prog 346 #[.slice (some ⟨blk, off, none⟩) d.size cap, .int .i64 a, .int .i64 b, .func (.func g) #[] cb] w fun e w' =>
      e = .returned (.tuple #[]) ∧ ∃ n, w' = (putRow enc w blk off (Sort.insertionSort (ltOf cf) d a b)).drewN n := Any.insertionSortCmpFunc_one Tryz.laysSlF20_f346 enc hO cf g cb blk off cap a b d w eg hcmp hH hab hb hsz
open Go.RowKit Go.Lib Go.Sort in
theorem Tryz.insertionSortCmpFunc_s {α : Type} [Inhabited α] (enc : α → Value) (cf : α → α → Int) (g : Nat) (cb : Array Value) (blk off cap a b : Nat) (d0 d : Array α) (w0 w : World) (eg : ∀ args w, (callFunc g args).run Tryz.prog w = .ok (.enter g args) w) (hcmp : CmpLays1 Tryz.prog g cb enc cf blk off d0.size w0) (R : Row1 enc w0 blk off d0) (hs : d0.size = d.size) (S : SW enc w0 blk off d w) (hab : a ≤ b) (hb : b ≤ d.size) (hsz : d.size < 4611686018427387904) :
    Calls Tryz.prog 346 #[.slice (some ⟨blk, off, none⟩) d.size cap, .int .i64 a, .int .i64 b, .func (.func g) #[] cb] w fun e w' => e = .returned (.tuple #[]) ∧ SW enc w0 blk off (Sort.insertionSort (ltOf cf) d a b) w' := Any.insertionSortCmpFunc_s Tryz.laysSlF20_f346 enc cf g cb blk off cap a b d0 d w0 w eg hcmp R hs S hab hb hsz
def Tryz.laysSlF020_f346_ren : Go.Shelf.Ren := ⟨fun | 20 => 346 | n => n, fun | 24 => 3 | 22 => 25 | 3 => 3 | 25 => 27 | 4 => 4 | 0 => 0 | n => n, fun | n => n⟩
theorem Tryz.laysSlF020_f346 : Go.Proofs.SlLaysF0.n20 Tryz.prog Tryz.laysSlF020_f346_ren := {
  mixed := by kernel_rfl
  f20 := ⟨Tryz.f346.name, by decide, Tryz.func346.trans (congrArg some (by kernel_rfl))⟩
  t0 := Tryz.underlying0
  a0 := Tryz.isAgg0
  z0 := Tryz.sizeOf0
  v0 := Tryz.zeroValue0
  t3 := Tryz.underlying3
  a3 := Tryz.isAgg3
  z3 := Tryz.sizeOf3
  v3 := Tryz.zeroValue3
  t4 := Tryz.underlying4
  a4 := Tryz.isAgg4
  z4 := Tryz.sizeOf4
  v4 := Tryz.zeroValue4
  t22 := Tryz.underlying25
  a22 := Tryz.isAgg25
  z22 := Tryz.sizeOf25
  v22 := Tryz.zeroValue25
  t25 := Tryz.underlying27
  a25 := Tryz.isAgg27
  z25 := Tryz.sizeOf27
  v25 := Tryz.zeroValue27 }
open Go.RowKit Go.Lib Go.Sort in
theorem Tryz.insertionSortCmpFunc_none {α : Type} [Inhabited α] (p : Option Addr) (cap : Nat) (fv : Value) (w : World) :
    Calls Tryz.prog 346 #[.slice p 0 cap, .int .i64 0, .int .i64 0, fv] w fun e w' => e = .returned (.tuple #[]) ∧ w' = w := AnyF.insertionSortCmpFunc_none Tryz.laysSlF020_f346 p cap fv w
end Go.Proofs

namespace Go.Proofs.YtfcgnpchbcmdeaaGreat
open Go.RowKit

/-- WORDS OF THE CALL's OWN. -/
def OwnS (w : World) (base : Nat) (v : Value) (ss : List ByteArray) : Prop := w.ownsRow base 9 1 v ss.length (ss.map Value.string)
theorem OwnS.nil (w : World) (base : Nat) : OwnS w base (.slice none 0 0) [] := World.ownsRow_nil w base 9 1

/-- A FEATURE's EDGES. -/
structure ES where
  wd : Bool
  bs : List Int
  ww : List ByteArray
def ES.cnt (e : ES) : Nat := cntE e.wd e.bs.length e.ww.length
def EdgM (w : World) (base : Nat) (v : Value) (e : ES) : Prop := ∃ vb vw, v = .agg #[.bool e.wd, vb, vw] ∧ OwnI w base vb e.bs ∧ OwnS w base vw e.ww

/-- The bin of a value. -/
def binS (e : ES) (v : VS) : Nat := if v.miss = true then e.cnt + 1 else if e.wd = true then e.ww.findIdx (fun y => decide (y = v.word)) else e.bs.countP (fun b => decide (b < v.num))

theorem OwnS.below {w w' : World} {base : Nat} {v : Value} {L : List ByteArray} (h : OwnS w base v L) (hb : Below w.heap.size w w') : OwnS w' base v L := (Touch.of_below (S := fun _ => False) hb).row h (fun _ _ => id)
theorem EdgM.below {w w' : World} {base : Nat} {v : Value} {e : ES} (h : EdgM w base v e) (hb : Below w.heap.size w w') : EdgM w' base v e := by
  obtain ⟨vb, vw, h1, h2, h3⟩ := h
  exact ⟨vb, vw, h1, h2.below hb, h3.below hb⟩
theorem OwnI.shape {w : World} {base : Nat} {v : Value} {L : List Int} (h : OwnI w base v L) : ∃ a c, v = .slice a L.length c := by
  rcases h.2 with ⟨rfl, h0⟩ | ⟨q, p, cur, rfl, _⟩
  · exact ⟨none, 0, by rw [h0]⟩
  · exact ⟨_, _, rfl⟩
theorem OwnS.form {w : World} {base : Nat} {v : Value} {L : List ByteArray} (h : OwnS w base v L) : ∃ a c, v = .slice a L.length c := by
  rcases h.2 with ⟨rfl, h0⟩ | ⟨q, p, cur, rfl, _⟩
  · exact ⟨none, 0, by rw [h0]⟩
  · exact ⟨_, _, rfl⟩
theorem EdgM.mono {w : World} {b b' : Nat} {v : Value} {e : ES} (h : EdgM w b' v e) (hb : b ≤ b') : EdgM w b v e := by
  obtain ⟨vb, vw, h1, h2, h3⟩ := h
  refine ⟨vb, vw, h1, h2.mono hb, h3.1, ?_⟩
  rcases h3.2 with hn | ⟨g, cap, cur, e, hg, r⟩
  · exact .inl hn
  · exact .inr ⟨g, cap, cur, e, Nat.le_trans hb hg, r⟩
theorem EdgM.form {w : World} {base : Nat} {v : Value} {e : ES} (h : EdgM w base v e) : ∃ ab cb aw cw, v = .agg #[.bool e.wd, .slice ab e.bs.length cb, .slice aw e.ww.length cw] ∧ OwnI w base (.slice ab e.bs.length cb) e.bs ∧ OwnS w base (.slice aw e.ww.length cw) e.ww := by
  obtain ⟨vb, vw, h1, h2, h3⟩ := h
  obtain ⟨ab, cb, rfl⟩ := h2.shape
  obtain ⟨aw, cw, rfl⟩ := h3.form
  exact ⟨ab, cb, aw, cw, h1, h2, h3⟩
theorem EdgN.edg {w : World} {base : Nat} {v : Value} {bs : List Int} (h : EdgN w base v bs) : EdgM w base v ⟨false, bs, []⟩ := by
  obtain ⟨vb, h1, h2⟩ := h
  exact ⟨vb, .slice none 0 0, h1, h2, OwnS.nil _ _⟩

/-- The search among bounds. -/
theorem search_any (a : Option Addr) (c base : Nat) (bs : List Int) (x : Int) (w : World) (h : OwnI w base (.slice a bs.length c) bs) (hs : bs.Pairwise (· ≤ ·)) (hl : bs.length ≤ 1000000) :
    Calls Tryz.prog 275 #[.slice a bs.length c, .int .i64 x] w fun e w' => (∃ f, e = .returned (.tuple #[.int .i64 (bs.countP (fun b => decide (b < x)) : Nat), .bool f])) ∧ Below w.heap.size w w' := by
  have h' := h
  rcases h.2 with ⟨e, h0⟩ | ⟨g, cap, cur, e, _, hh, hnc, _⟩
  · rw [h0]
    refine (Tryz.slices_BinarySearch_int_empty a c x w).mono ?_
    rintro e w' ⟨rfl, rfl⟩
    have : bs = [] := List.length_eq_zero_iff.1 h0
    subst this
    exact ⟨⟨false, rfl⟩, Below.refl _ _⟩
  · injection e with e1 e2 e3
    subst e1 e3
    refine (Tryz.slices_BinarySearch_int g 0 bs.length c bs x w (Nat.le_refl _) (by omega) (fun j hj => ?_) (by rw [List.take_length]; exact hs)).mono ?_
    · rw [Nat.zero_add, World.ownsRow.cellAt h' j (by omega)]
      simp [List.getD, hj]
    · rintro e w' ⟨rfl, q, rfl⟩
      rw [List.take_length]
      exact ⟨⟨_, rfl⟩, below_drewN (Below.refl _ _) q⟩

set_option maxHeartbeats 1000000 in
theorem binOfNumber_any (v x : Value) (base : Nat) (e : ES) (s : VS) (w : World) (h : EdgM w base v e) (hs : e.bs.Pairwise (· ≤ ·)) (hl : e.bs.length ≤ 1000000) (hx : x = .agg #[.bool s.miss, .int .i64 s.num, .string s.word]) :
    Calls Tryz.prog 218 #[v, x] w fun r w' => r = .returned (.int .i64 (e.bs.countP (fun b => decide (b < s.num)) : Nat)) ∧ Below w.heap.size w w' := by
  obtain ⟨ab, cb, aw, cw, rfl, hb, _⟩ := h.form
  subst hx
  have HS : Hid (∀ W : World, Below w.heap.size w W → Calls Tryz.prog 275 #[.slice ab e.bs.length cb, .int .i64 s.num] W fun r w' => (∃ f, r = .returned (.tuple #[.int .i64 (e.bs.countP (fun b => decide (b < s.num)) : Nat), .bool f])) ∧ Below W.heap.size W w') := fun W hW => search_any ab cb base e.bs s.num W (hb.below hW) hs hl
  clear h hb hs
  generalize e.bs.countP (fun b => decide (b < s.num)) = r at *
  generalize e.bs.length = n at *
  go_enter Tryz.func218, Tryz.ntmps218
  go_wp2_with fail
  refine (HS.out _ (((Below.refl _ _).alloc (Nat.le_refl _) _).alloc (by simp) _)).mono ?_
  rintro q w1 ⟨⟨f, rfl⟩, hb1⟩
  have hb2 : Below w.heap.size w w1 := (((Below.refl _ _).alloc (Nat.le_refl _) _).alloc (by simp) _).trans (hb1.mono (by simp; omega))
  clear hb1
  go_wp2
  go_ret
  exact ⟨rfl, hb2⟩

theorem idx_find : ∀ (ss : List ByteArray) (x : ByteArray) (i : Nat), (if 0 ≤ Lib.idxFromS ss x i then Lib.idxFromS ss x i else ((i + ss.length : Nat) : Int)) = ((i + ss.findIdx (fun y => decide (y = x)) : Nat) : Int)
  | [], x, i => by simp [Lib.idxFromS]
  | z :: ss, x, i => by
    have ih := idx_find ss x (i + 1)
    by_cases e : z = x
    · subst e; simp [Lib.idxFromS, List.findIdx_cons]
    · simp only [Lib.idxFromS, List.findIdx_cons, e, decide_false, cond_false, List.length_cons, if_false]
      rw [show i + (ss.length + 1) = i + 1 + ss.length by omega, show i + (ss.findIdx (fun y => decide (y = x)) + 1) = i + 1 + ss.findIdx (fun y => decide (y = x)) by omega]
      exact ih

/-- The place among words. -/
theorem index_any (a : Option Addr) (c base : Nat) (ss : List ByteArray) (x : ByteArray) (w : World) (h : OwnS w base (.slice a ss.length c) ss) (hl : ss.length ≤ 1000000) :
    Calls Tryz.prog 267 #[.slice a ss.length c, .string x] w fun e w' => e = .returned (.int .i64 (Lib.idxOfS ss x)) ∧ w' = w := by
  have h' := h
  rcases h.2 with ⟨e, h0⟩ | ⟨g, cap, cur, e, _, hh, hnc, _⟩
  · rw [h0]
    have : ss = [] := List.length_eq_zero_iff.1 h0
    subst this
    exact Tryz.slices_Index_string_empty a c x w
  · injection e with e1 e2 e3
    subst e1 e3
    have := Tryz.slices_Index_string g 0 ss.length c ss x w (Nat.le_refl _) (by omega) (fun j hj => by
      rw [Nat.zero_add, World.ownsRow.cellAt h' j (by omega)]
      simp [List.getD, hj])
    rw [List.take_length] at this
    exact this

set_option maxHeartbeats 1000000 in
theorem binOfWord_any (v x : Value) (base : Nat) (e : ES) (s : VS) (w : World) (h : EdgM w base v e) (hl : e.ww.length ≤ 1000000) (hx : x = .agg #[.bool s.miss, .int .i64 s.num, .string s.word]) :
    Calls Tryz.prog 213 #[v, x] w fun r w' => r = .returned (.int .i64 (e.ww.findIdx (fun y => decide (y = s.word)) : Nat)) ∧ Below w.heap.size w w' := by
  obtain ⟨ab, cb, aw, cw, rfl, _, hb⟩ := h.form
  subst hx
  have HS : Hid (∀ W : World, Below w.heap.size w W → Calls Tryz.prog 267 #[.slice aw e.ww.length cw, .string s.word] W fun r w' => r = .returned (.int .i64 (Lib.idxOfS e.ww s.word)) ∧ w' = W) := fun W hW => index_any aw cw base e.ww s.word W (hb.below hW) hl
  have hid := idx_find e.ww s.word 0
  simp only [Nat.zero_add] at hid
  have HI : Hid ((if 0 ≤ Lib.idxOfS e.ww s.word then Lib.idxOfS e.ww s.word else (e.ww.length : Int)) = ((e.ww.findIdx (fun y => decide (y = s.word)) : Nat) : Int)) := hid
  clear h hb hid
  generalize e.ww.findIdx (fun y => decide (y = s.word)) = r at *
  generalize Lib.idxOfS e.ww s.word = d at *
  generalize e.ww.length = n at *
  by_cases hd : 0 ≤ d
  · have hd2 : ¬ d < 0 := by omega
    have HR : Hid (d = (r : Int)) := by have := HI.out; rw [if_pos hd] at this; exact this
    clear HI
    go_enter Tryz.func213, Tryz.ntmps213
    go_wp2_with fail
    refine (HS.out _ (((Below.refl _ _).alloc (Nat.le_refl _) _).alloc (by simp) _)).mono ?_
    rintro q w1 ⟨rfl, rfl⟩
    go_wp2
    go_ret
    exact ⟨by rw [HR.out]; rfl, (((Below.refl _ _).alloc (Nat.le_refl _) _).alloc (by simp) _)⟩
  · have hd2 : d < 0 := by omega
    have HR : Hid ((n : Int) = (r : Int)) := by have := HI.out; rw [if_neg hd] at this; exact this
    clear HI
    go_enter Tryz.func213, Tryz.ntmps213
    go_wp2_with fail
    refine (HS.out _ (((Below.refl _ _).alloc (Nat.le_refl _) _).alloc (by simp) _)).mono ?_
    rintro q w1 ⟨rfl, rfl⟩
    go_wp2
    go_ret
    exact ⟨by rw [HR.out]; rfl, (((Below.refl _ _).alloc (Nat.le_refl _) _).alloc (by simp) _)⟩

/-- What edges are like. -/
structure EdgOk (e : ES) : Prop where
  rise : e.bs.Pairwise (· ≤ ·)
  lb : e.bs.length ≤ 1000
  lw : e.ww.length ≤ 1000

set_option maxHeartbeats 1000000 in
/-- How a value finds its bin. -/
theorem bin_any (v x : Value) (base k3 : Nat) (e : ES) (s : VS) (w : World) (h : EdgM w base v e) (hk : EdgOk e) (hx : x = .agg #[.bool s.miss, .int .i64 s.num, .string s.word]) (hc : w.cell? ⟨k3, 0, none⟩ = some (.func (.func (if e.wd = true then 213 else 218)) #[] #[])) (hkl : k3 < w.heap.size) :
    Calls Tryz.prog 266 #[v, x, .pointer (some ⟨k3, 0, none⟩)] w fun r w' => r = .returned (.int .i64 (binS e s : Nat)) ∧ Below w.heap.size w w' := by
  obtain ⟨ab, cb, aw, cw, hv, _, _⟩ := h.form
  have HM : Hid (∀ W : World, Calls Tryz.prog 191 #[v] W fun r w' => r = .returned (.int .i64 ((e.cnt : Nat) + 1)) ∧ Below W.heap.size W w') := fun W => by
    rw [hv]
    exact missing_any e.wd ab aw _ cb _ cw W (by have := hk.lb; have := hk.lw; unfold cntE; split <;> omega)
  have HN : Hid (∀ W : World, Below w.heap.size w W → Calls Tryz.prog 218 #[v, x] W fun r w' => r = .returned (.int .i64 (e.bs.countP (fun b => decide (b < s.num)) : Nat)) ∧ Below W.heap.size W w') := fun W hW => binOfNumber_any v x base e s W (h.below hW) hk.rise (by have := hk.lb; omega) hx
  have HW : Hid (∀ W : World, Below w.heap.size w W → Calls Tryz.prog 213 #[v, x] W fun r w' => r = .returned (.int .i64 (e.ww.findIdx (fun y => decide (y = s.word)) : Nat)) ∧ Below W.heap.size W w') := fun W hW => binOfWord_any v x base e s W (h.below hW) (by have := hk.lw; omega) hx
  have HB : Hid (binS e s = if s.miss = true then e.cnt + 1 else if e.wd = true then e.ww.findIdx (fun y => decide (y = s.word)) else e.bs.countP (fun b => decide (b < s.num))) := rfl
  subst hv hx
  clear h hk
  obtain ⟨sm, sn, sw⟩ := s
  simp only at HM HN HW HB ⊢
  generalize e.ww.findIdx (fun y => decide (y = sw)) = r1 at *
  generalize e.bs.countP (fun b => decide (b < sn)) = r2 at *
  generalize binS e ⟨sm, sn, sw⟩ = r at *
  generalize e.cnt = cn at *
  obtain ⟨ew, eb, es⟩ := e
  simp only at HM HN HW HB hc ⊢
  generalize eb.length = nb at *
  generalize es.length = nw at *
  cases sm with
  | true =>
    have HB2 : Hid (r = cn + 1) := by have := HB.out; rw [if_pos rfl] at this; exact this
    clear HB HN HW
    go_enter Tryz.func266, Tryz.ntmps266
    go_wp2_with fail
    refine (HM.out _).mono ?_
    rintro q w1 ⟨rfl, hb1⟩
    have hb2 : Below w.heap.size w w1 := (((Below.refl _ _).alloc (Nat.le_refl _) _).alloc (by simp) _).trans (hb1.mono (by simp; omega))
    clear hb1
    go_wp2
    go_ret
    exact ⟨by rw [HB2.out]; rfl, hb2⟩
  | false =>
    have hB := HB.out
    rw [if_neg (by decide)] at hB
    clear HB HM
    cases ew with
    | true =>
      have HB2 : Hid (r = r1) := by rw [if_pos rfl] at hB; exact hB
      rw [if_pos rfl] at hc
      clear hB HN
      go_enter Tryz.func266, Tryz.ntmps266
      go_wp2_with fail
      refine (HW.out _ (((Below.refl _ _).alloc (Nat.le_refl _) _).alloc (by simp) _)).mono ?_
      rintro q w1 ⟨rfl, hb1⟩
      have hb2 : Below w.heap.size w w1 := (((Below.refl _ _).alloc (Nat.le_refl _) _).alloc (by simp) _).trans (hb1.mono (by simp; omega))
      clear hb1
      go_wp2
      go_ret
      exact ⟨by rw [HB2.out]; rfl, hb2⟩
    | false =>
      have HB2 : Hid (r = r2) := by rw [if_neg (by decide)] at hB; exact hB
      rw [if_neg (by decide)] at hc
      clear hB HW
      go_enter Tryz.func266, Tryz.ntmps266
      go_wp2_with fail
      refine (HN.out _ (((Below.refl _ _).alloc (Nat.le_refl _) _).alloc (by simp) _)).mono ?_
      rintro q w1 ⟨rfl, hb1⟩
      have hb2 : Below w.heap.size w w1 := (((Below.refl _ _).alloc (Nat.le_refl _) _).alloc (by simp) _).trans (hb1.mono (by simp; omega))
      clear hb1
      go_wp2
      go_ret
      exact ⟨by rw [HB2.out]; rfl, hb2⟩
end Go.Proofs.YtfcgnpchbcmdeaaGreat

namespace Go.Proofs.YtfcgnpchbcmdeaaGreat
open Go.RowKit

theorem made_one (u : Value) (n : Nat) : (madeCells #[u] n).toList = List.replicate n u := by
  apply List.ext_getElem
  · simp [madeCells]
  · intro i h1 h2
    simp [madeCells, Nat.mod_one]

/-- A row of numbers, made. -/
theorem make_ints (n : Nat) (hn : n ≤ 1000000) (W : World) : (Instr.makeSlice 25 (.int .i64 (n : Int)) (.int .i64 (n : Int))).run Tryz.prog W = .ok (.slice (some ⟨W.heap.size, 0, none⟩) n n) (W.alloc (.cells (madeCells #[.int .i64 0] n) 3)) := by
  obtain ⟨i0, hinf, hz0, hz1, hz2⟩ := info_parts info3
  have := run_make (P := Tryz.prog) W 25 3 i0 _ Tryz.underlying25 hinf hz0 .i64 .i64 (n : Int) (n : Int) (by omega) (by omega) (by rw [hz2]; omega) (by omega)
  rw [hz1] at this
  rw [this, Int.toNat_natCast, Nat.mul_one]
  rfl
theorem made_ints (n : Nat) (W : World) (base : Nat) (hn : n ≤ 1000000) (hb : base ≤ W.heap.size) : OwnI (W.alloc (.cells (madeCells #[.int .i64 0] n) 3)) base (.slice (some ⟨W.heap.size, 0, none⟩) n n) (List.replicate n 0) := by
  have := World.ownsRow_lit (base := base) (size := 1) (e := 3) W (madeCells #[.int .i64 0] n) n hb (by unfold maxLen; omega) (by simp [madeCells])
  rw [made_one] at this
  unfold OwnI
  simpa using this

/-- A number put into a row of one's own. -/
theorem OwnI.put {w : World} {base g cap n k : Nat} {zs : List Int} (h : OwnI w base (.slice (some ⟨g, 0, none⟩) n cap) zs) (hn : n = zs.length) (z : Int) :
    OwnI (w.setCell ⟨g, k, none⟩ (.int .i64 z)) base (.slice (some ⟨g, 0, none⟩) n cap) (zs.set k z) ∧ w.grownBy (w.setCell ⟨g, k, none⟩ (.int .i64 z)) (some g) := by
  subst hn
  obtain ⟨h1, h2⟩ := World.ownsRow.stored h k (.int .i64 z)
  refine ⟨?_, h2⟩
  unfold OwnI
  rw [List.length_set, List.map_set]
  exact h1
theorem OwnI.cellK {w : World} {base g cap n k : Nat} {zs : List Int} (h : OwnI w base (.slice (some ⟨g, 0, none⟩) n cap) zs) (hn : n = zs.length) (hk : k < n) : w.cell? ⟨g, k, none⟩ = some (.int .i64 (zs.getD k 0)) ∧ w.frozen? ⟨g, k, none⟩ = false := by
  subst hn
  refine ⟨?_, World.ownsRow.frozenAt h k⟩
  rw [World.ownsRow.cellAt h k (by omega)]
  simp [List.getD, hk]

/-- Behind k rounds of filling. -/
def fillI (f : Nat → Int) (n k : Nat) : List Int := (List.range k).map f ++ List.replicate (n - k) 0
theorem fillI_len (f : Nat → Int) {n k : Nat} (h : k ≤ n) : (fillI f n k).length = n := by simp [fillI]; omega
theorem fillI_zero (f : Nat → Int) (n : Nat) : fillI f n 0 = List.replicate n 0 := by simp [fillI]
theorem fillI_full (f : Nat → Int) (n : Nat) : fillI f n n = (List.range n).map f := by simp [fillI]
theorem fillI_set (f : Nat → Int) {n k : Nat} (h : k < n) : (fillI f n k).set k (f k) = fillI f n (k + 1) := by
  unfold fillI
  rw [show n - k = n - (k + 1) + 1 by omega, List.replicate_succ, List.set_append_right _ _ (by simp), List.length_map, List.length_range, Nat.sub_self, List.set_cons_zero, List.range_succ, List.map_append, List.append_assoc]
  rfl
theorem range_getD {α β : Type} (g : α → β) (d : α) (L : List α) : (List.range L.length).map (fun i => g (L.getD i d)) = L.map g := by
  apply List.ext_getElem
  · simp
  · intro i h1 h2
    simp at h1
    simp [List.getD, h1]

set_option maxRecDepth 100000 in
set_option maxHeartbeats 4000000 in
theorem bins_any (v0 v1 ve : Value) (base k3 : Nat) (va : Option Addr) (n cap : Nat) (e : ES) (L : List VS) (w : World) (hE : EdgM w base ve e) (hk : EdgOk e) (hv : OwnV w 0 (.slice va n cap) L) (hL : L.length = n) (hn : n ≤ 200) (hf0 : ∃ f c, v0 = .func f #[] c) (hf1 : ∃ f c, v1 = .func f #[] c) (hc : w.cell? ⟨k3, 0, none⟩ = some (.func (.func (if e.wd = true then 213 else 218)) #[] #[])) (hkl : k3 < w.heap.size) :
    Calls Tryz.prog 156 #[.agg #[v0, v1, .func (.func 266) #[] #[.pointer (some ⟨k3, 0, none⟩)]], ve, .slice va n cap] w fun r w' => ∃ v, r = .returned v ∧ OwnI w' w.heap.size v (L.map (fun x => ((binS e x : Nat) : Int))) ∧ Below w.heap.size w w' := by
  obtain ⟨ab, cb, aw, cw, hve, _, _⟩ := hE.form
  have HBIN : Hid (∀ (W : World) (s : VS), Below w.heap.size w W → Calls Tryz.prog 266 #[ve, .agg #[.bool s.miss, .int .i64 s.num, .string s.word], .pointer (some ⟨k3, 0, none⟩)] W fun r w' => r = .returned (.int .i64 (binS e s : Nat)) ∧ Below W.heap.size W w') := fun W s hW => bin_any ve _ base k3 e s W (hE.below hW) hk rfl ((hW.cell (p := ⟨k3, 0, none⟩) hkl).trans hc) (Nat.lt_of_lt_of_le hkl hW.size)
  have HV : Hid (OwnV w 0 (.slice va n cap) L) := hv
  have HLL : Hid (L.length = n) := hL
  have hmk := make_ints n (by omega)
  obtain ⟨f0, g0, rfl⟩ := hf0
  obtain ⟨f1, g1, rfl⟩ := hf1
  have HFIN : Hid (L.map (fun x => ((binS e x : Nat) : Int)) = fillI (fun i => ((binS e (L.getD i emptyV) : Nat) : Int)) n n) := by
    show _ = _
    rw [fillI_full, ← hL, range_getD (fun x => ((binS e x : Nat) : Int)) emptyV L]
  subst hve
  clear hE hv hk hc hkl hL
  generalize e.bs.length = nb at *
  generalize e.ww.length = nw at *
  generalize e.wd = ew at *
  obtain ⟨w2, hw2⟩ : ∃ w2, w2 = (w.alloc (.cells #[.func f0 #[] g0, .func f1 #[] g1, .func (.func 266) #[] #[.pointer (some ⟨k3, 0, none⟩)]] 263)).alloc (.cells #[.bool ew, .slice ab nb cb, .slice aw nw cw] 170) := ⟨_, rfl⟩
  have HB2 : Hid (Below w.heap.size w w2) := by
    show Below _ _ _
    rw [hw2]
    exact ((Below.refl _ _).alloc (Nat.le_refl _) _).alloc (by simp) _
  have hs2 : w2.heap.size = w.heap.size + 1 + 1 := by rw [hw2]; simp
  go_enter Tryz.func156, Tryz.ntmps156
  go_wp2_with fail
  go_loopw [15] (fun ti wr => ∃ k : Nat, ti = .int .i64 k ∧ k ≤ n ∧ Hid (OwnI wr (w.heap.size + 1 + 1) (.slice (some ⟨w.heap.size + 1 + 1, 0, none⟩) n n) (fillI (fun i => ((binS e (L.getD i emptyV) : Nat) : Int)) n k)) ∧ Hid (Below (w.heap.size + 1 + 1) w2 wr)) (fun ti _ => n - (intOf ti).toNat)
  case atStart =>
    refine ⟨0, rfl, Nat.zero_le _, ?_, ?_⟩
    · rw [fillI_zero]
      have := made_ints n w2 (w.heap.size + 1 + 1) (by omega) (by omega)
      rw [hs2, hw2] at this
      exact this
    · show Below _ _ _
      rw [hw2]
      exact (Below.refl _ _).alloc (by simp) _
  case round =>
    clear hmk
    obtain ⟨k, rfl, hk, HO, HBL⟩ := hrel
    have hbel := HBL.out
    have hsz := hbel.size
    rw [hs2] at hsz
    have d0 : wr.cell? ⟨w.heap.size, 2, none⟩ = some (.func (.func 266) #[] #[.pointer (some ⟨k3, 0, none⟩)]) := (hbel.cell (p := ⟨w.heap.size, 2, none⟩) (by show w.heap.size < _; omega)).trans (by rw [hw2]; simp [go_sem])
    have d1 : wr.cell? ⟨w.heap.size + 1, 0, none⟩ = some (.bool ew) := (hbel.cell (p := ⟨w.heap.size + 1, 0, none⟩) (by show w.heap.size + 1 < _; omega)).trans (by rw [hw2]; simp [go_sem])
    have d2 : wr.cell? ⟨w.heap.size + 1, 1, none⟩ = some (.slice ab nb cb) := (hbel.cell (p := ⟨w.heap.size + 1, 1, none⟩) (by show w.heap.size + 1 < _; omega)).trans (by rw [hw2]; simp [go_sem])
    have d3 : wr.cell? ⟨w.heap.size + 1, 2, none⟩ = some (.slice aw nw cw) := (hbel.cell (p := ⟨w.heap.size + 1, 2, none⟩) (by show w.heap.size + 1 < _; omega)).trans (by rw [hw2]; simp [go_sem])
    by_cases hkn : k < n
    · have hkL : k < L.length := by rw [HLL.out]; exact hkn
      obtain ⟨q, rfl, hql, c0, c1, c2⟩ := HV.out.at hkL
      have hbw : Below w.heap.size w wr := HB2.out.trans (hbel.mono (by omega))
      have a0 := (hbw.cell (p := ⟨q, k * 3, none⟩) hql).trans c0
      have a1 := (hbw.cell (p := ⟨q, k * 3 + 1, none⟩) hql).trans c1
      have a2 := (hbw.cell (p := ⟨q, k * 3 + 2, none⟩) hql).trans c2
      have hfl := fillI_len (fun i => ((binS e (L.getD i emptyV) : Nat) : Int)) (show k ≤ n by omega)
      have hset := fillI_set (fun i => ((binS e (L.getD i emptyV) : Nat) : Int)) hkn
      have HSET : Hid ((fillI (fun i => ((binS e (L.getD i emptyV) : Nat) : Int)) n k).set k ((binS e (L.getD k emptyV) : Nat) : Int) = fillI (fun i => ((binS e (L.getD i emptyV) : Nat) : Int)) n (k + 1)) := hset
      have HFL : Hid (n = (fillI (fun i => ((binS e (L.getD i emptyV) : Nat) : Int)) n k).length) := hfl.symm
      clear c0 c1 c2 hset hfl
      generalize L.getD k emptyV = x at *
      obtain ⟨xm, xn, xw⟩ := x
      simp only at a0 a1 a2
      have bk1 : (0 : Int) ≤ (k : Int) := by omega
      have bk2 : (k : Int) < (n : Int) := by omega
      have HBW : Hid (Below w.heap.size w wr) := hbw
      have HHB : Hid (Below (w.heap.size + 1 + 1) w2 wr) := hbel
      clear hbw hbel hw2 HBL
      have hlt0 : w.heap.size < wr.heap.size := by omega
      have hlt1 : w.heap.size + 1 < wr.heap.size := by omega
      go_wp2_with fail
      refine (HBIN.out _ ⟨xm, xn, xw⟩ (HBW.out.alloc (by omega) _)).mono ?_
      rintro r w3 ⟨rfl, hb3⟩
      have hs3 := hb3.size
      simp at hs3
      have HO3 : Hid (OwnI w3 (w.heap.size + 1 + 1) (.slice (some ⟨w.heap.size + 1 + 1, 0, none⟩) n n) (fillI (fun i => ((binS e (L.getD i emptyV) : Nat) : Int)) n k)) := (HO.out.alloc _).below hb3
      have hcf := HO3.out.cellK HFL.out hkn
      obtain ⟨cf1, cf2⟩ := hcf
      have hbf : Below (w.heap.size + 1 + 1) w2 w3 := HHB.out.trans ((((Below.refl _ _).alloc (by omega) _)).trans (hb3.mono (by simp; omega)))
      have HBF : Hid (Below (w.heap.size + 1 + 1) w2 w3) := hbf
      clear hb3 hbf HO HBIN HBW HHB
      generalize (fillI (fun i => ((binS e (L.getD i emptyV) : Nat) : Int)) n k) = F at *
      generalize binS e ⟨xm, xn, xw⟩ = r at *
      generalize F.getD k 0 = z0 at *
      go_wp2
      go_roundw
      case rel =>
        refine ⟨k + 1, by go_num, by omega, ?_, ?_⟩
        · rw [← HSET.out]
          exact (HO3.out.put HFL.out _).1
        · exact HBF.out.setCell (Nat.le_refl _) _
      case measure => simp [intOf]; omega
    · have hnk : ¬ (k : Int) < (n : Int) := by omega
      have HF : Hid (OwnI wr w.heap.size (.slice (some ⟨w.heap.size + 1 + 1, 0, none⟩) n n) (L.map (fun x => ((binS e x : Nat) : Int))) ∧ Below w.heap.size w wr) := by
        rw [HFIN.out]
        have : k = n := by omega
        subst this
        exact ⟨HO.out.mono (by omega), HB2.out.trans (hbel.mono (by omega))⟩
      clear HO hw2 HBL hbel
      go_wp2
      go_ret
      exact ⟨_, rfl, HF.out.1, HF.out.2⟩
end Go.Proofs.YtfcgnpchbcmdeaaGreat
