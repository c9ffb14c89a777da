import Derived.Test.YtfcgnpchbcmdeaaGreatZtaa
import Derived.Deep.DeepCutAuto
namespace Go.Proofs.YtfcgnpchbcmdeaaGreat
open Go.RowKit
def headB (len : Nat) (bins size budget : Int) : Bool :=
  decide ((1 : Int) <= len /\ (len : Int) <= 4 /\ 2 <= bins /\ bins <= 16 /\ bins <= size /\ size <= 32 /\ 0 <= budget /\ budget <= 20)
end Go.Proofs.YtfcgnpchbcmdeaaGreat

namespace Go.Proofs.YtfcgnpchbcmdeaaGreat
set_option maxRecDepth 100000
set_option maxHeartbeats 1000000
open Go.RowKit
structure Given (w wx : World) : Prop where
  bel : Below w.heap.size w wx
  size : wx.heap.size = w.heap.size + 5
  k0 : wx.cell? ⟨w.heap.size + 4, 0, none⟩ = some (.int .i64 2)
  k1 : wx.cell? ⟨w.heap.size + 4, 12, none⟩ = some (.int .i64 5)
  k2 : wx.cell? ⟨w.heap.size + 4, 24, none⟩ = some (.int .i64 6)
  k3 : wx.cell? ⟨w.heap.size + 4, 36, none⟩ = some (.int .i64 7)
  k4 : wx.cell? ⟨w.heap.size + 4, 48, none⟩ = some (.int .i64 5)
  k5 : wx.cell? ⟨w.heap.size + 4, 60, none⟩ = some (.int .i64 15)
  f1 : wx.cell? ⟨w.heap.size + 4, 1, none⟩ = some (.int .i64 0)
  f2 : wx.cell? ⟨w.heap.size + 4, 2, none⟩ = some (.int .i64 0)
  f3 : wx.cell? ⟨w.heap.size + 4, 3, none⟩ = some (.slice none 0 0)
  f4 : wx.cell? ⟨w.heap.size + 4, 4, none⟩ = some (.int .i64 0)
  f5 : wx.cell? ⟨w.heap.size + 4, 5, none⟩ = some (.int .i64 0)
  f6 : wx.cell? ⟨w.heap.size + 4, 6, none⟩ = some (.int .i64 0)
  f7 : wx.cell? ⟨w.heap.size + 4, 7, none⟩ = some (.slice (some ⟨w.heap.size, 0, none⟩) 3 3)
  f8 : wx.cell? ⟨w.heap.size + 4, 8, none⟩ = some (.slice (some ⟨w.heap.size + 1, 0, none⟩) 3 3)
  f9 : wx.cell? ⟨w.heap.size + 4, 9, none⟩ = some (.string ⟨#[]⟩)
  f10 : wx.cell? ⟨w.heap.size + 4, 10, none⟩ = some (.int .i64 0)
  f11 : wx.cell? ⟨w.heap.size + 4, 11, none⟩ = some (.int .i64 0)
  v0 : wx.cell? ⟨w.heap.size, 0, none⟩ = some (.int .i64 5)
  v1 : wx.cell? ⟨w.heap.size, 1, none⟩ = some (.int .i64 3)
  v2 : wx.cell? ⟨w.heap.size, 2, none⟩ = some (.int .i64 5)
  u0 : wx.cell? ⟨w.heap.size + 1, 0, none⟩ = some (.int .i64 1)
  u1 : wx.cell? ⟨w.heap.size + 1, 1, none⟩ = some (.int .i64 2)
  u2 : wx.cell? ⟨w.heap.size + 1, 2, none⟩ = some (.int .i64 4)
end Go.Proofs.YtfcgnpchbcmdeaaGreat
