/-
  No cell of these rows narrows 'for every input' (looked for: loops, veiled, ifaces, maps, wideKeys, modest, calm, conditions, laid).
  DERIVED. THE GIVEN ROWS OF THIS SEAT. 3 by the template 'for every input the law returns true; each argument reads behind the call as it read before'; 0 by the template 'total and deterministic' (their statements: YtcjobmbbikfnaadTotals.lean).
  GIVEN WITH THE SEED: the statements are not yours to turn. If you find one false, say at which input.
  Laid BY PROGRAM, IN A SANDBOX (cutbox-rows.mjs): the forced cells as the released guide's own fill.sh prints them over the translation 9d64ef0890a865ed… (all of the seat's roots in one cut). By AI agents, Wed Nov 11 2026. No macro, syntax, notation, axiom, sorry.
-/
import Derived.Test.YtcjobmbbikfnaadChecked
import GoSem.Claim
import GoSem.ClaimJoined
import GoSem.ClaimMapViews
import Derived.JoinedTies
import Derived.KernelRfl
namespace Go.Proofs.Ytcjobmbbikfnaad
/- THE CELL 'sum', in the pinned program and in every row, IS THE sha256 OF THE DUMP (.gsa) THAT YtcjobmbbikfnaadProg.lean LOADS. Nothing in Lean hashes anything: it is a label: what it is worth is what the hold of that sum in a sandbox is worth. -/
noncomputable def Try.pinned : Pinned := { name := "ytcjobmbbikfnaad", sum := "9d64ef0890a865ede29c9abb3f55f891dbbd2f8c2a6bf7917b22902686ed0979", checked := Try.checked }
namespace Rows
def none {H : Type} : Left H := { results := [], args := [] }

/-- 'lalaw6.CertStale': WHATEVER THE INPUT: true; the input reads as it did. -/
def certStaleSpec : ChangeSpec := { name := "certStale", fn := fun _ => fun
  | [d1, d2, d3, d4] => { results := [.lit (.bool true)], args := [d1, d2, d3, d4] }
  | _ => none }
def certStaleRow : OpenClaim := { program := "ytcjobmbbikfnaad", sum := "9d64ef0890a865ede29c9abb3f55f891dbbd2f8c2a6bf7917b22902686ed0979", func := "longabsence/lalaw6.CertStale", spec := "certStale", inPlace := ["slices.overlaps[longabsence/api.Entry]", "slices.overlaps[longabsence/api.Node]"], unfollowed := true, recurses := true, apart := false }
def CertStaleSaid : Prop := certStaleRow.holds Try.pinned (OpenSpec.ofChange certStaleSpec)

/-- ITS FALSE NEIGHBOUR: 'it returns false'. Refute it at one input. -/
def certStaleWrong : ChangeSpec := { name := "certStale", fn := fun _ => fun
  | [d1, d2, d3, d4] => { results := [.lit (.bool false)], args := [d1, d2, d3, d4] }
  | _ => none }
def CertStaleWrongFalsely : Prop := certStaleRow.holds Try.pinned (OpenSpec.ofChange certStaleWrong)

/-- 'lalaw7.ServerReplay': WHATEVER THE INPUT: true; the input reads as it did. -/
def serverReplaySpec : ChangeSpec := { name := "serverReplay", fn := fun _ => fun
  | [d1, d2] => { results := [.lit (.bool true)], args := [d1, d2] }
  | _ => none }
def serverReplayRow : OpenClaim := { program := "ytcjobmbbikfnaad", sum := "9d64ef0890a865ede29c9abb3f55f891dbbd2f8c2a6bf7917b22902686ed0979", func := "longabsence/lalaw7.ServerReplay", spec := "serverReplay", inPlace := ["slices.overlaps[longabsence/api.Entry]", "slices.overlaps[longabsence/api.Node]"], unfollowed := true, recurses := true, apart := false }
def ServerReplaySaid : Prop := serverReplayRow.holds Try.pinned (OpenSpec.ofChange serverReplaySpec)

/-- ITS FALSE NEIGHBOUR: 'it returns false'. Refute it at one input. -/
def serverReplayWrong : ChangeSpec := { name := "serverReplay", fn := fun _ => fun
  | [d1, d2] => { results := [.lit (.bool false)], args := [d1, d2] }
  | _ => none }
def ServerReplayWrongFalsely : Prop := serverReplayRow.holds Try.pinned (OpenSpec.ofChange serverReplayWrong)

/-- 'lalaw7.ServerWhole': WHATEVER THE INPUT: true; the input reads as it did. -/
def serverWholeSpec : ChangeSpec := { name := "serverWhole", fn := fun _ => fun
  | [d1, d2] => { results := [.lit (.bool true)], args := [d1, d2] }
  | _ => none }
def serverWholeRow : OpenClaim := { program := "ytcjobmbbikfnaad", sum := "9d64ef0890a865ede29c9abb3f55f891dbbd2f8c2a6bf7917b22902686ed0979", func := "longabsence/lalaw7.ServerWhole", spec := "serverWhole", inPlace := ["slices.overlaps[longabsence/api.Entry]", "slices.overlaps[longabsence/api.Node]"], unfollowed := true, recurses := true, apart := false }
def ServerWholeSaid : Prop := serverWholeRow.holds Try.pinned (OpenSpec.ofChange serverWholeSpec)

/-- ITS FALSE NEIGHBOUR: 'it returns false'. Refute it at one input. -/
def serverWholeWrong : ChangeSpec := { name := "serverWhole", fn := fun _ => fun
  | [d1, d2] => { results := [.lit (.bool false)], args := [d1, d2] }
  | _ => none }
def ServerWholeWrongFalsely : Prop := serverWholeRow.holds Try.pinned (OpenSpec.ofChange serverWholeWrong)

/- THE SECOND FORM. 'bulk': how many values and letters a reading holds, each counted each time it is reached (what is shared counts as often as it is met; a slice's spare places count too). A statement '..UptoSaid' is the law's where the arguments, and the package variables that the reading takes, are together of bulk at most 1048576: NARROWER than '..Said'. Prove '..Said' where nothing that the law and all that it calls make is longer than what came in: it says more and counts as full. Else prove '..UptoSaid'. A law counts once. -/
mutual
def uptoBulk {H : Type} : DataW H → Nat
  | .lit (.string bytes) => bytes.length + 1
  | .lit _ => 1
  | .nil => 1
  | .ptr d => uptoBulk d + 1
  | .slice elems spare => uptoBulkAll elems + uptoBulkAll spare + 1
  | .agg parts => uptoBulkAll parts + 1
  | .iface _ d => uptoBulk d + 1
  | .map entries => uptoBulkEntries entries + 1
  | .held _ => 1
def uptoBulkAll {H : Type} : List (DataW H) → Nat
  | [] => 0
  | d :: r => uptoBulk d + uptoBulkAll r
def uptoBulkEntries {H : Type} : List (Lit × DataW H) → Nat
  | [] => 0
  | x :: r => uptoBulkEntry x + uptoBulkEntries r
def uptoBulkEntry {H : Type} : Lit × DataW H → Nat
  | (.string bytes, d) => bytes.length + uptoBulk d + 1
  | (_, d) => uptoBulk d + 1
 end
def uptoSmall : (H : Type) → List (DataW H) → Bool := fun _ ds => decide (uptoBulkAll ds ≤ 1048576)
def OpenSpec.upto (s : _root_.Go.ChangeSpec) : _root_.Go.OpenSpec := { _root_.Go.OpenSpec.ofChange s with cond := some uptoSmall }

/-- 'lalaw6.CertStale', WHERE WHAT IT READS IS OF BULK AT MOST 1048576: true; the input reads as it did. -/
def certStaleUptoRow : OpenClaim := { program := "ytcjobmbbikfnaad", sum := "9d64ef0890a865ede29c9abb3f55f891dbbd2f8c2a6bf7917b22902686ed0979", func := "longabsence/lalaw6.CertStale", spec := "certStale", inPlace := ["slices.overlaps[longabsence/api.Entry]", "slices.overlaps[longabsence/api.Node]"], unfollowed := true, recurses := true, apart := false, narrowed := true }
def CertStaleUptoSaid : Prop := certStaleUptoRow.holds Try.pinned (OpenSpec.upto certStaleSpec)

/-- 'lalaw7.ServerReplay', WHERE WHAT IT READS IS OF BULK AT MOST 1048576: true; the input reads as it did. -/
def serverReplayUptoRow : OpenClaim := { program := "ytcjobmbbikfnaad", sum := "9d64ef0890a865ede29c9abb3f55f891dbbd2f8c2a6bf7917b22902686ed0979", func := "longabsence/lalaw7.ServerReplay", spec := "serverReplay", inPlace := ["slices.overlaps[longabsence/api.Entry]", "slices.overlaps[longabsence/api.Node]"], unfollowed := true, recurses := true, apart := false, narrowed := true }
def ServerReplayUptoSaid : Prop := serverReplayUptoRow.holds Try.pinned (OpenSpec.upto serverReplaySpec)

/-- 'lalaw7.ServerWhole', WHERE WHAT IT READS IS OF BULK AT MOST 1048576: true; the input reads as it did. -/
def serverWholeUptoRow : OpenClaim := { program := "ytcjobmbbikfnaad", sum := "9d64ef0890a865ede29c9abb3f55f891dbbd2f8c2a6bf7917b22902686ed0979", func := "longabsence/lalaw7.ServerWhole", spec := "serverWhole", inPlace := ["slices.overlaps[longabsence/api.Entry]", "slices.overlaps[longabsence/api.Node]"], unfollowed := true, recurses := true, apart := false, narrowed := true }
def ServerWholeUptoSaid : Prop := serverWholeUptoRow.holds Try.pinned (OpenSpec.upto serverWholeSpec)

end Rows
end Go.Proofs.Ytcjobmbbikfnaad
