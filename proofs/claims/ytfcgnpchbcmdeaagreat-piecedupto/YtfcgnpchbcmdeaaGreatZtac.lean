import Derived.Test.YtfcgnpchbcmdeaaGreatZtab
import Derived.Deep.RegionWith
namespace Go.Proofs.YtfcgnpchbcmdeaaGreat
open Go.RowKit
end Go.Proofs.YtfcgnpchbcmdeaaGreat

namespace Go.Proofs.YtfcgnpchbcmdeaaGreat
open Go.RowKit
structure OpD where
  kd : Int
  pk : Int
  bb : Int
  fa : Option Addr
  fl : Nat
  fc : Nat
  bins : Int
  size : Int
  budget : Int
  va : Option Addr
  vl : Nat
  vc : Nat
  wa : Option Addr
  wl : Nat
  wc : Nat
  st : ByteArray
  x : Int
  y : Int
  fw : Nat -> Bool
  fs : Nat -> Int
  ft : Nat -> Int
  vz : List Int
  wz : List Int
def IntsV (w : World) (a : Option Addr) (len : Nat) (zs : List Int) : Prop :=
  zs.length = len /\ (∀ z ∈ zs, (Lit.int .i64 z).wf = true) /\ (len = 0 ∨ ∃ b off, a = some ⟨b, off, none⟩ /\ b < w.heap.size /\ ∀ i, i < len -> w.cell? ⟨b, off + i, none⟩ = some (.int .i64 (zs.getD i 0)))
structure OpR (w : World) (d : OpD) : Prop where
  fl : d.fl <= maxLen
  vl : d.vl <= maxLen
  wl : d.wl <= maxLen
  feats : FeatsV w d.fa d.fl d.fw d.fs d.ft
  vz : IntsV w d.va d.vl d.vz
  wz : IntsV w d.wa d.wl d.wz
  vnil : d.va = none -> d.vl = 0 /\ d.vc = 0
  wnil : d.wa = none -> d.wl = 0 /\ d.wc = 0
structure OpC (w : World) (b off : Nat) (d : OpD) : Prop where
  c0 : w.cell? ⟨b, off, none⟩ = some (.int .i64 d.kd)
  c1 : w.cell? ⟨b, off + 1, none⟩ = some (.int .i64 d.pk)
  c2 : w.cell? ⟨b, off + 2, none⟩ = some (.int .i64 d.bb)
  c3 : w.cell? ⟨b, off + 3, none⟩ = some (.slice d.fa d.fl d.fc)
  c4 : w.cell? ⟨b, off + 4, none⟩ = some (.int .i64 d.bins)
  c5 : w.cell? ⟨b, off + 5, none⟩ = some (.int .i64 d.size)
  c6 : w.cell? ⟨b, off + 6, none⟩ = some (.int .i64 d.budget)
  c7 : w.cell? ⟨b, off + 7, none⟩ = some (.slice d.va d.vl d.vc)
  c8 : w.cell? ⟨b, off + 8, none⟩ = some (.slice d.wa d.wl d.wc)
  c9 : w.cell? ⟨b, off + 9, none⟩ = some (.string d.st)
  c10 : w.cell? ⟨b, off + 10, none⟩ = some (.int .i64 d.x)
  c11 : w.cell? ⟨b, off + 11, none⟩ = some (.int .i64 d.y)
def ScriptV (w : World) (a : Option Addr) (len : Nat) (D : Nat -> OpD) : Prop :=
  len <= maxLen /\ (len = 0 ∨ ∃ b off, a = some ⟨b, off, none⟩ /\ b < w.heap.size /\ ∀ i, i < len -> OpC w b (off + i * 12) (D i) /\ OpR w (D i))
end Go.Proofs.YtfcgnpchbcmdeaaGreat
