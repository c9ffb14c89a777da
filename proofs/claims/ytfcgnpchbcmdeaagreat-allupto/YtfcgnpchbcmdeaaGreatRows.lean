/-
  No cell of these rows narrows 'for every input' (looked for: loops, veiled, ifaces, maps, wideKeys, modest, calm, conditions, laid).
  DERIVED. THE GIVEN ROWS OF THIS SEAT. 12 by the template 'for every input the law returns true; each argument reads behind the call as it read before'; 0 by the template 'total and deterministic' (their statements: YtfcgnpchbcmdeaaGreatTotals.lean).
  GIVEN WITH THE SEED: the statements are not yours to turn. If you find one false, say at which input.
  Laid BY PROGRAM, IN A SANDBOX (cutbox-rows.mjs): the forced cells as the released guide's own fill.sh prints them over the translation 074e70e23f9f4980… (all of the seat's roots in one cut). By AI agents, Wed Nov 11 2026. No macro, syntax, notation, axiom, sorry.
-/
import Derived.Test.YtfcgnpchbcmdeaaGreatChecked
import GoSem.Claim
import GoSem.ClaimJoined
import GoSem.ClaimMapViews
import Derived.JoinedTies
import Derived.KernelRfl
namespace Go.Proofs.YtfcgnpchbcmdeaaGreat
/- THE CELL 'sum', in the pinned program and in every row, IS THE sha256 OF THE DUMP (.gsa) THAT YtfcgnpchbcmdeaaGreatProg.lean LOADS. Nothing in Lean hashes anything: it is a label: what it is worth is what the hold of that sum in a sandbox is worth. -/
noncomputable def Tryz.pinned : Pinned := { name := "ytfcgnpchbcmdeaagreat", sum := "074e70e23f9f49809f6335d2655b038c87d9c28b9a656416400f5434ef6d29ba", checked := Tryz.checked }
namespace Rows
def none {H : Type} : Left H := { results := [], args := [] }

/-- 'granarylaw.Checks': WHATEVER THE INPUT: true; the input reads as it did. -/
def checksSpec : ChangeSpec := { name := "checks", fn := fun _ => fun
  | [d] => { results := [.lit (.bool true)], args := [d] }
  | _ => none }
def checksRow : OpenClaim := { program := "ytfcgnpchbcmdeaagreat", sum := "074e70e23f9f49809f6335d2655b038c87d9c28b9a656416400f5434ef6d29ba", func := "granary/granarylaw.Checks", spec := "checks", unfollowed := true, recurses := true, apart := false }
def ChecksSaid : Prop := checksRow.holds Tryz.pinned (OpenSpec.ofChange checksSpec)

/-- ITS FALSE NEIGHBOUR: 'it returns false'. Refute it at one input. -/
def checksWrong : ChangeSpec := { name := "checks", fn := fun _ => fun
  | [d] => { results := [.lit (.bool false)], args := [d] }
  | _ => none }
def ChecksWrongFalsely : Prop := checksRow.holds Tryz.pinned (OpenSpec.ofChange checksWrong)

/-- 'granarylaw.Summaries': WHATEVER THE INPUT: true; the input reads as it did. -/
def summariesSpec : ChangeSpec := { name := "summaries", fn := fun _ => fun
  | [d] => { results := [.lit (.bool true)], args := [d] }
  | _ => none }
def summariesRow : OpenClaim := { program := "ytfcgnpchbcmdeaagreat", sum := "074e70e23f9f49809f6335d2655b038c87d9c28b9a656416400f5434ef6d29ba", func := "granary/granarylaw.Summaries", spec := "summaries", unfollowed := true, recurses := true, apart := false }
def SummariesSaid : Prop := summariesRow.holds Tryz.pinned (OpenSpec.ofChange summariesSpec)

/-- ITS FALSE NEIGHBOUR: 'it returns false'. Refute it at one input. -/
def summariesWrong : ChangeSpec := { name := "summaries", fn := fun _ => fun
  | [d] => { results := [.lit (.bool false)], args := [d] }
  | _ => none }
def SummariesWrongFalsely : Prop := summariesRow.holds Tryz.pinned (OpenSpec.ofChange summariesWrong)

/-- 'granarylaw.Reads': WHATEVER THE INPUT: true; the input reads as it did. -/
def readsSpec : ChangeSpec := { name := "reads", fn := fun _ => fun
  | [d] => { results := [.lit (.bool true)], args := [d] }
  | _ => none }
def readsRow : OpenClaim := { program := "ytfcgnpchbcmdeaagreat", sum := "074e70e23f9f49809f6335d2655b038c87d9c28b9a656416400f5434ef6d29ba", func := "granary/granarylaw.Reads", spec := "reads", unfollowed := true, recurses := true, apart := false }
def ReadsSaid : Prop := readsRow.holds Tryz.pinned (OpenSpec.ofChange readsSpec)

/-- ITS FALSE NEIGHBOUR: 'it returns false'. Refute it at one input. -/
def readsWrong : ChangeSpec := { name := "reads", fn := fun _ => fun
  | [d] => { results := [.lit (.bool false)], args := [d] }
  | _ => none }
def ReadsWrongFalsely : Prop := readsRow.holds Tryz.pinned (OpenSpec.ofChange readsWrong)

/-- 'granarykeep.True': WHATEVER THE INPUT: true; the input reads as it did. -/
def trueSpec : ChangeSpec := { name := "true", fn := fun _ => fun
  | [d1, d2, d3, d4] => { results := [.lit (.bool true)], args := [d1, d2, d3, d4] }
  | _ => none }
def trueRow : OpenClaim := { program := "ytfcgnpchbcmdeaagreat", sum := "074e70e23f9f49809f6335d2655b038c87d9c28b9a656416400f5434ef6d29ba", func := "granary/granarykeep.True", spec := "true", unfollowed := true, recurses := true, apart := false }
def TrueSaid : Prop := trueRow.holds Tryz.pinned (OpenSpec.ofChange trueSpec)

/-- ITS FALSE NEIGHBOUR: 'it returns false'. Refute it at one input. -/
def trueWrong : ChangeSpec := { name := "true", fn := fun _ => fun
  | [d1, d2, d3, d4] => { results := [.lit (.bool false)], args := [d1, d2, d3, d4] }
  | _ => none }
def TrueWrongFalsely : Prop := trueRow.holds Tryz.pinned (OpenSpec.ofChange trueWrong)

/-- 'granarykeep.Fitted': WHATEVER THE INPUT: true; the input reads as it did. -/
def fittedSpec : ChangeSpec := { name := "fitted", fn := fun _ => fun
  | [d1, d2, d3] => { results := [.lit (.bool true)], args := [d1, d2, d3] }
  | _ => none }
def fittedRow : OpenClaim := { program := "ytfcgnpchbcmdeaagreat", sum := "074e70e23f9f49809f6335d2655b038c87d9c28b9a656416400f5434ef6d29ba", func := "granary/granarykeep.Fitted", spec := "fitted", unfollowed := true, recurses := true, apart := false }
def FittedSaid : Prop := fittedRow.holds Tryz.pinned (OpenSpec.ofChange fittedSpec)

/-- ITS FALSE NEIGHBOUR: 'it returns false'. Refute it at one input. -/
def fittedWrong : ChangeSpec := { name := "fitted", fn := fun _ => fun
  | [d1, d2, d3] => { results := [.lit (.bool false)], args := [d1, d2, d3] }
  | _ => none }
def FittedWrongFalsely : Prop := fittedRow.holds Tryz.pinned (OpenSpec.ofChange fittedWrong)

/-- 'granarykeep.Pieced': WHATEVER THE INPUT: true; the input reads as it did. -/
def piecedSpec : ChangeSpec := { name := "pieced", fn := fun _ => fun
  | [d1, d2, d3, d4, d5] => { results := [.lit (.bool true)], args := [d1, d2, d3, d4, d5] }
  | _ => none }
def piecedRow : OpenClaim := { program := "ytfcgnpchbcmdeaagreat", sum := "074e70e23f9f49809f6335d2655b038c87d9c28b9a656416400f5434ef6d29ba", func := "granary/granarykeep.Pieced", spec := "pieced", unfollowed := true, recurses := true, apart := false }
def PiecedSaid : Prop := piecedRow.holds Tryz.pinned (OpenSpec.ofChange piecedSpec)

/-- ITS FALSE NEIGHBOUR: 'it returns false'. Refute it at one input. -/
def piecedWrong : ChangeSpec := { name := "pieced", fn := fun _ => fun
  | [d1, d2, d3, d4, d5] => { results := [.lit (.bool false)], args := [d1, d2, d3, d4, d5] }
  | _ => none }
def PiecedWrongFalsely : Prop := piecedRow.holds Tryz.pinned (OpenSpec.ofChange piecedWrong)

/-- 'granarylaw.Opens': WHATEVER THE INPUT: true; the input reads as it did. -/
def opensSpec : ChangeSpec := { name := "opens", fn := fun _ => fun
  | [d] => { results := [.lit (.bool true)], args := [d] }
  | _ => none }
def opensRow : OpenClaim := { program := "ytfcgnpchbcmdeaagreat", sum := "074e70e23f9f49809f6335d2655b038c87d9c28b9a656416400f5434ef6d29ba", func := "granary/granarylaw.Opens", spec := "opens", unfollowed := true, recurses := true, apart := false }
def OpensSaid : Prop := opensRow.holds Tryz.pinned (OpenSpec.ofChange opensSpec)

/-- ITS FALSE NEIGHBOUR: 'it returns false'. Refute it at one input. -/
def opensWrong : ChangeSpec := { name := "opens", fn := fun _ => fun
  | [d] => { results := [.lit (.bool false)], args := [d] }
  | _ => none }
def OpensWrongFalsely : Prop := opensRow.holds Tryz.pinned (OpenSpec.ofChange opensWrong)

/-- 'granarylaw.Stores': WHATEVER THE INPUT: true; the input reads as it did. -/
def storesSpec : ChangeSpec := { name := "stores", fn := fun _ => fun
  | [d] => { results := [.lit (.bool true)], args := [d] }
  | _ => none }
def storesRow : OpenClaim := { program := "ytfcgnpchbcmdeaagreat", sum := "074e70e23f9f49809f6335d2655b038c87d9c28b9a656416400f5434ef6d29ba", func := "granary/granarylaw.Stores", spec := "stores", unfollowed := true, recurses := true, apart := false }
def StoresSaid : Prop := storesRow.holds Tryz.pinned (OpenSpec.ofChange storesSpec)

/-- ITS FALSE NEIGHBOUR: 'it returns false'. Refute it at one input. -/
def storesWrong : ChangeSpec := { name := "stores", fn := fun _ => fun
  | [d] => { results := [.lit (.bool false)], args := [d] }
  | _ => none }
def StoresWrongFalsely : Prop := storesRow.holds Tryz.pinned (OpenSpec.ofChange storesWrong)

/-- 'granarykeep.Again': WHATEVER THE INPUT: true; the input reads as it did. -/
def againSpec : ChangeSpec := { name := "again", fn := fun _ => fun
  | [d1, d2] => { results := [.lit (.bool true)], args := [d1, d2] }
  | _ => none }
def againRow : OpenClaim := { program := "ytfcgnpchbcmdeaagreat", sum := "074e70e23f9f49809f6335d2655b038c87d9c28b9a656416400f5434ef6d29ba", func := "granary/granarykeep.Again", spec := "again", unfollowed := true, recurses := true, apart := false }
def AgainSaid : Prop := againRow.holds Tryz.pinned (OpenSpec.ofChange againSpec)

/-- ITS FALSE NEIGHBOUR: 'it returns false'. Refute it at one input. -/
def againWrong : ChangeSpec := { name := "again", fn := fun _ => fun
  | [d1, d2] => { results := [.lit (.bool false)], args := [d1, d2] }
  | _ => none }
def AgainWrongFalsely : Prop := againRow.holds Tryz.pinned (OpenSpec.ofChange againWrong)

/-- 'granarykeep.Turned': WHATEVER THE INPUT: true; the input reads as it did. -/
def turnedSpec : ChangeSpec := { name := "turned", fn := fun _ => fun
  | [d1, d2, d3, d4, d5] => { results := [.lit (.bool true)], args := [d1, d2, d3, d4, d5] }
  | _ => none }
def turnedRow : OpenClaim := { program := "ytfcgnpchbcmdeaagreat", sum := "074e70e23f9f49809f6335d2655b038c87d9c28b9a656416400f5434ef6d29ba", func := "granary/granarykeep.Turned", spec := "turned", unfollowed := true, recurses := true, apart := false }
def TurnedSaid : Prop := turnedRow.holds Tryz.pinned (OpenSpec.ofChange turnedSpec)

/-- ITS FALSE NEIGHBOUR: 'it returns false'. Refute it at one input. -/
def turnedWrong : ChangeSpec := { name := "turned", fn := fun _ => fun
  | [d1, d2, d3, d4, d5] => { results := [.lit (.bool false)], args := [d1, d2, d3, d4, d5] }
  | _ => none }
def TurnedWrongFalsely : Prop := turnedRow.holds Tryz.pinned (OpenSpec.ofChange turnedWrong)

/-- 'granarykeep.Lasting': WHATEVER THE INPUT: true; the input reads as it did. -/
def lastingSpec : ChangeSpec := { name := "lasting", fn := fun _ => fun
  | [d1, d2, d3, d4, d5] => { results := [.lit (.bool true)], args := [d1, d2, d3, d4, d5] }
  | _ => none }
def lastingRow : OpenClaim := { program := "ytfcgnpchbcmdeaagreat", sum := "074e70e23f9f49809f6335d2655b038c87d9c28b9a656416400f5434ef6d29ba", func := "granary/granarykeep.Lasting", spec := "lasting", unfollowed := true, recurses := true, apart := false }
def LastingSaid : Prop := lastingRow.holds Tryz.pinned (OpenSpec.ofChange lastingSpec)

/-- ITS FALSE NEIGHBOUR: 'it returns false'. Refute it at one input. -/
def lastingWrong : ChangeSpec := { name := "lasting", fn := fun _ => fun
  | [d1, d2, d3, d4, d5] => { results := [.lit (.bool false)], args := [d1, d2, d3, d4, d5] }
  | _ => none }
def LastingWrongFalsely : Prop := lastingRow.holds Tryz.pinned (OpenSpec.ofChange lastingWrong)

/-- 'granarylaw.All': WHATEVER THE INPUT: true; the input reads as it did. -/
def allSpec : ChangeSpec := { name := "all", fn := fun _ => fun
  | [d] => { results := [.lit (.bool true)], args := [d] }
  | _ => none }
def allRow : OpenClaim := { program := "ytfcgnpchbcmdeaagreat", sum := "074e70e23f9f49809f6335d2655b038c87d9c28b9a656416400f5434ef6d29ba", func := "granary/granarylaw.All", spec := "all", unfollowed := true, recurses := true, apart := false }
def AllSaid : Prop := allRow.holds Tryz.pinned (OpenSpec.ofChange allSpec)

/-- ITS FALSE NEIGHBOUR: 'it returns false'. Refute it at one input. -/
def allWrong : ChangeSpec := { name := "all", fn := fun _ => fun
  | [d] => { results := [.lit (.bool false)], args := [d] }
  | _ => none }
def AllWrongFalsely : Prop := allRow.holds Tryz.pinned (OpenSpec.ofChange allWrong)

/- THE SECOND FORM. 'bulk': how many values and letters a reading holds, each counted each time it is reached (what is shared counts as often as it is met; a slice's spare places count too). A statement '..UptoSaid' is the law's where the arguments, and the package variables that the reading takes, are together of bulk at most 1048576: NARROWER than '..Said'. Prove '..Said' where nothing that the law and all that it calls make is longer than what came in: it says more and counts as full. Else prove '..UptoSaid'. A law counts once. -/
mutual
def uptoBulk {H : Type} : DataW H → Nat
  | .lit (.string bytes) => bytes.length + 1
  | .lit _ => 1
  | .nil => 1
  | .ptr d => uptoBulk d + 1
  | .slice elems spare => uptoBulkAll elems + uptoBulkAll spare + 1
  | .agg parts => uptoBulkAll parts + 1
  | .iface _ d => uptoBulk d + 1
  | .map entries => uptoBulkEntries entries + 1
  | .held _ => 1
def uptoBulkAll {H : Type} : List (DataW H) → Nat
  | [] => 0
  | d :: r => uptoBulk d + uptoBulkAll r
def uptoBulkEntries {H : Type} : List (Lit × DataW H) → Nat
  | [] => 0
  | x :: r => uptoBulkEntry x + uptoBulkEntries r
def uptoBulkEntry {H : Type} : Lit × DataW H → Nat
  | (.string bytes, d) => bytes.length + uptoBulk d + 1
  | (_, d) => uptoBulk d + 1
 end
def uptoSmall : (H : Type) → List (DataW H) → Bool := fun _ ds => decide (uptoBulkAll ds ≤ 1048576)
def OpenSpec.upto (s : _root_.Go.ChangeSpec) : _root_.Go.OpenSpec := { _root_.Go.OpenSpec.ofChange s with cond := some uptoSmall }

/-- 'granarylaw.Checks', WHERE WHAT IT READS IS OF BULK AT MOST 1048576: true; the input reads as it did. -/
def checksUptoRow : OpenClaim := { program := "ytfcgnpchbcmdeaagreat", sum := "074e70e23f9f49809f6335d2655b038c87d9c28b9a656416400f5434ef6d29ba", func := "granary/granarylaw.Checks", spec := "checks", unfollowed := true, recurses := true, apart := false, narrowed := true }
def ChecksUptoSaid : Prop := checksUptoRow.holds Tryz.pinned (OpenSpec.upto checksSpec)

/-- 'granarylaw.Summaries', WHERE WHAT IT READS IS OF BULK AT MOST 1048576: true; the input reads as it did. -/
def summariesUptoRow : OpenClaim := { program := "ytfcgnpchbcmdeaagreat", sum := "074e70e23f9f49809f6335d2655b038c87d9c28b9a656416400f5434ef6d29ba", func := "granary/granarylaw.Summaries", spec := "summaries", unfollowed := true, recurses := true, apart := false, narrowed := true }
def SummariesUptoSaid : Prop := summariesUptoRow.holds Tryz.pinned (OpenSpec.upto summariesSpec)

/-- 'granarylaw.Reads', WHERE WHAT IT READS IS OF BULK AT MOST 1048576: true; the input reads as it did. -/
def readsUptoRow : OpenClaim := { program := "ytfcgnpchbcmdeaagreat", sum := "074e70e23f9f49809f6335d2655b038c87d9c28b9a656416400f5434ef6d29ba", func := "granary/granarylaw.Reads", spec := "reads", unfollowed := true, recurses := true, apart := false, narrowed := true }
def ReadsUptoSaid : Prop := readsUptoRow.holds Tryz.pinned (OpenSpec.upto readsSpec)

/-- 'granarykeep.True', WHERE WHAT IT READS IS OF BULK AT MOST 1048576: true; the input reads as it did. -/
def trueUptoRow : OpenClaim := { program := "ytfcgnpchbcmdeaagreat", sum := "074e70e23f9f49809f6335d2655b038c87d9c28b9a656416400f5434ef6d29ba", func := "granary/granarykeep.True", spec := "true", unfollowed := true, recurses := true, apart := false, narrowed := true }
def TrueUptoSaid : Prop := trueUptoRow.holds Tryz.pinned (OpenSpec.upto trueSpec)

/-- 'granarykeep.Fitted', WHERE WHAT IT READS IS OF BULK AT MOST 1048576: true; the input reads as it did. -/
def fittedUptoRow : OpenClaim := { program := "ytfcgnpchbcmdeaagreat", sum := "074e70e23f9f49809f6335d2655b038c87d9c28b9a656416400f5434ef6d29ba", func := "granary/granarykeep.Fitted", spec := "fitted", unfollowed := true, recurses := true, apart := false, narrowed := true }
def FittedUptoSaid : Prop := fittedUptoRow.holds Tryz.pinned (OpenSpec.upto fittedSpec)

/-- 'granarykeep.Pieced', WHERE WHAT IT READS IS OF BULK AT MOST 1048576: true; the input reads as it did. -/
def piecedUptoRow : OpenClaim := { program := "ytfcgnpchbcmdeaagreat", sum := "074e70e23f9f49809f6335d2655b038c87d9c28b9a656416400f5434ef6d29ba", func := "granary/granarykeep.Pieced", spec := "pieced", unfollowed := true, recurses := true, apart := false, narrowed := true }
def PiecedUptoSaid : Prop := piecedUptoRow.holds Tryz.pinned (OpenSpec.upto piecedSpec)

/-- 'granarylaw.Opens', WHERE WHAT IT READS IS OF BULK AT MOST 1048576: true; the input reads as it did. -/
def opensUptoRow : OpenClaim := { program := "ytfcgnpchbcmdeaagreat", sum := "074e70e23f9f49809f6335d2655b038c87d9c28b9a656416400f5434ef6d29ba", func := "granary/granarylaw.Opens", spec := "opens", unfollowed := true, recurses := true, apart := false, narrowed := true }
def OpensUptoSaid : Prop := opensUptoRow.holds Tryz.pinned (OpenSpec.upto opensSpec)

/-- 'granarylaw.Stores', WHERE WHAT IT READS IS OF BULK AT MOST 1048576: true; the input reads as it did. -/
def storesUptoRow : OpenClaim := { program := "ytfcgnpchbcmdeaagreat", sum := "074e70e23f9f49809f6335d2655b038c87d9c28b9a656416400f5434ef6d29ba", func := "granary/granarylaw.Stores", spec := "stores", unfollowed := true, recurses := true, apart := false, narrowed := true }
def StoresUptoSaid : Prop := storesUptoRow.holds Tryz.pinned (OpenSpec.upto storesSpec)

/-- 'granarykeep.Again', WHERE WHAT IT READS IS OF BULK AT MOST 1048576: true; the input reads as it did. -/
def againUptoRow : OpenClaim := { program := "ytfcgnpchbcmdeaagreat", sum := "074e70e23f9f49809f6335d2655b038c87d9c28b9a656416400f5434ef6d29ba", func := "granary/granarykeep.Again", spec := "again", unfollowed := true, recurses := true, apart := false, narrowed := true }
def AgainUptoSaid : Prop := againUptoRow.holds Tryz.pinned (OpenSpec.upto againSpec)

/-- 'granarykeep.Turned', WHERE WHAT IT READS IS OF BULK AT MOST 1048576: true; the input reads as it did. -/
def turnedUptoRow : OpenClaim := { program := "ytfcgnpchbcmdeaagreat", sum := "074e70e23f9f49809f6335d2655b038c87d9c28b9a656416400f5434ef6d29ba", func := "granary/granarykeep.Turned", spec := "turned", unfollowed := true, recurses := true, apart := false, narrowed := true }
def TurnedUptoSaid : Prop := turnedUptoRow.holds Tryz.pinned (OpenSpec.upto turnedSpec)

/-- 'granarykeep.Lasting', WHERE WHAT IT READS IS OF BULK AT MOST 1048576: true; the input reads as it did. -/
def lastingUptoRow : OpenClaim := { program := "ytfcgnpchbcmdeaagreat", sum := "074e70e23f9f49809f6335d2655b038c87d9c28b9a656416400f5434ef6d29ba", func := "granary/granarykeep.Lasting", spec := "lasting", unfollowed := true, recurses := true, apart := false, narrowed := true }
def LastingUptoSaid : Prop := lastingUptoRow.holds Tryz.pinned (OpenSpec.upto lastingSpec)

/-- 'granarylaw.All', WHERE WHAT IT READS IS OF BULK AT MOST 1048576: true; the input reads as it did. -/
def allUptoRow : OpenClaim := { program := "ytfcgnpchbcmdeaagreat", sum := "074e70e23f9f49809f6335d2655b038c87d9c28b9a656416400f5434ef6d29ba", func := "granary/granarylaw.All", spec := "all", unfollowed := true, recurses := true, apart := false, narrowed := true }
def AllUptoSaid : Prop := allUptoRow.holds Tryz.pinned (OpenSpec.upto allSpec)

end Rows
end Go.Proofs.YtfcgnpchbcmdeaaGreat
