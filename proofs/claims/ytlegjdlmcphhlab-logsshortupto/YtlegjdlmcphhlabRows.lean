/-
  No cell of these rows narrows 'for every input' (looked for: loops, veiled, ifaces, maps, wideKeys, modest, calm, conditions, laid).
  DERIVED. THE GIVEN ROWS OF THIS SEAT. 6 by the template 'for every input the law returns true; each argument reads behind the call as it read before'; 0 by the template 'total and deterministic' (their statements: YtlegjdlmcphhlabTotals.lean).
  GIVEN WITH THE SEED: the statements are not yours to turn. If you find one false, say at which input.
  Laid BY PROGRAM, IN A SANDBOX (cutbox-rows.mjs): the forced cells as the released guide's own fill.sh prints them over the translation 358a259d1fb3567b… (all of the seat's roots in one cut). By AI agents, Wed Nov 11 2026. No macro, syntax, notation, axiom, sorry.
-/
import Derived.Test.YtlegjdlmcphhlabChecked
import GoSem.Claim
import GoSem.ClaimJoined
import GoSem.ClaimMapViews
import Derived.JoinedTies
import Derived.KernelRfl
namespace Go.Proofs.Ytlegjdlmcphhlab
/- THE CELL 'sum', in the pinned program and in every row, IS THE sha256 OF THE DUMP (.gsa) THAT YtlegjdlmcphhlabProg.lean LOADS. Nothing in Lean hashes anything: it is a label: what it is worth is what the hold of that sum in a sandbox is worth. -/
noncomputable def Try.pinned : Pinned := { name := "ytlegjdlmcphhlab", sum := "358a259d1fb3567bb598d01676b33bf8cf6d33974d2509f88e6550a286fcf1b7", checked := Try.checked }
namespace Rows
def none {H : Type} : Left H := { results := [], args := [] }

/-- 'lalaw3.ActsBack': WHATEVER THE INPUT: true; the input reads as it did. -/
def actsBackSpec : ChangeSpec := { name := "actsBack", fn := fun _ => fun
  | [d1, d2, d3, d4, d5] => { results := [.lit (.bool true)], args := [d1, d2, d3, d4, d5] }
  | _ => none }
def actsBackRow : OpenClaim := { program := "ytlegjdlmcphhlab", sum := "358a259d1fb3567bb598d01676b33bf8cf6d33974d2509f88e6550a286fcf1b7", func := "longabsence/lalaw3.ActsBack", spec := "actsBack", inPlace := ["slices.overlaps[longabsence/api.Entry]", "slices.overlaps[longabsence/api.Node]"], unfollowed := true, recurses := true, apart := false }
def ActsBackSaid : Prop := actsBackRow.holds Try.pinned (OpenSpec.ofChange actsBackSpec)

/-- ITS FALSE NEIGHBOUR: 'it returns false'. Refute it at one input. -/
def actsBackWrong : ChangeSpec := { name := "actsBack", fn := fun _ => fun
  | [d1, d2, d3, d4, d5] => { results := [.lit (.bool false)], args := [d1, d2, d3, d4, d5] }
  | _ => none }
def ActsBackWrongFalsely : Prop := actsBackRow.holds Try.pinned (OpenSpec.ofChange actsBackWrong)

/-- 'lalaw3.ActsMoved': WHATEVER THE INPUT: true; the input reads as it did. -/
def actsMovedSpec : ChangeSpec := { name := "actsMoved", fn := fun _ => fun
  | [d1, d2] => { results := [.lit (.bool true)], args := [d1, d2] }
  | _ => none }
def actsMovedRow : OpenClaim := { program := "ytlegjdlmcphhlab", sum := "358a259d1fb3567bb598d01676b33bf8cf6d33974d2509f88e6550a286fcf1b7", func := "longabsence/lalaw3.ActsMoved", spec := "actsMoved", inPlace := ["slices.overlaps[longabsence/api.Entry]", "slices.overlaps[longabsence/api.Node]"], unfollowed := true, recurses := true, apart := false }
def ActsMovedSaid : Prop := actsMovedRow.holds Try.pinned (OpenSpec.ofChange actsMovedSpec)

/-- ITS FALSE NEIGHBOUR: 'it returns false'. Refute it at one input. -/
def actsMovedWrong : ChangeSpec := { name := "actsMoved", fn := fun _ => fun
  | [d1, d2] => { results := [.lit (.bool false)], args := [d1, d2] }
  | _ => none }
def ActsMovedWrongFalsely : Prop := actsMovedRow.holds Try.pinned (OpenSpec.ofChange actsMovedWrong)

/-- 'lalaw3.ActsVersion': WHATEVER THE INPUT: true; the input reads as it did. -/
def actsVersionSpec : ChangeSpec := { name := "actsVersion", fn := fun _ => fun
  | [d1, d2] => { results := [.lit (.bool true)], args := [d1, d2] }
  | _ => none }
def actsVersionRow : OpenClaim := { program := "ytlegjdlmcphhlab", sum := "358a259d1fb3567bb598d01676b33bf8cf6d33974d2509f88e6550a286fcf1b7", func := "longabsence/lalaw3.ActsVersion", spec := "actsVersion", inPlace := ["slices.overlaps[longabsence/api.Entry]", "slices.overlaps[longabsence/api.Node]"], unfollowed := true, recurses := true, apart := false }
def ActsVersionSaid : Prop := actsVersionRow.holds Try.pinned (OpenSpec.ofChange actsVersionSpec)

/-- ITS FALSE NEIGHBOUR: 'it returns false'. Refute it at one input. -/
def actsVersionWrong : ChangeSpec := { name := "actsVersion", fn := fun _ => fun
  | [d1, d2] => { results := [.lit (.bool false)], args := [d1, d2] }
  | _ => none }
def ActsVersionWrongFalsely : Prop := actsVersionRow.holds Try.pinned (OpenSpec.ofChange actsVersionWrong)

/-- 'lalaw4.LogsTells': WHATEVER THE INPUT: true; the input reads as it did. -/
def logsTellsSpec : ChangeSpec := { name := "logsTells", fn := fun _ => fun
  | [d1, d2, d3, d4] => { results := [.lit (.bool true)], args := [d1, d2, d3, d4] }
  | _ => none }
def logsTellsRow : OpenClaim := { program := "ytlegjdlmcphhlab", sum := "358a259d1fb3567bb598d01676b33bf8cf6d33974d2509f88e6550a286fcf1b7", func := "longabsence/lalaw4.LogsTells", spec := "logsTells", unfollowed := true, recurses := true, apart := false }
def LogsTellsSaid : Prop := logsTellsRow.holds Try.pinned (OpenSpec.ofChange logsTellsSpec)

/-- ITS FALSE NEIGHBOUR: 'it returns false'. Refute it at one input. -/
def logsTellsWrong : ChangeSpec := { name := "logsTells", fn := fun _ => fun
  | [d1, d2, d3, d4] => { results := [.lit (.bool false)], args := [d1, d2, d3, d4] }
  | _ => none }
def LogsTellsWrongFalsely : Prop := logsTellsRow.holds Try.pinned (OpenSpec.ofChange logsTellsWrong)

/-- 'lalaw4.LogsShort': WHATEVER THE INPUT: true; the input reads as it did. -/
def logsShortSpec : ChangeSpec := { name := "logsShort", fn := fun _ => fun
  | [d1, d2] => { results := [.lit (.bool true)], args := [d1, d2] }
  | _ => none }
def logsShortRow : OpenClaim := { program := "ytlegjdlmcphhlab", sum := "358a259d1fb3567bb598d01676b33bf8cf6d33974d2509f88e6550a286fcf1b7", func := "longabsence/lalaw4.LogsShort", spec := "logsShort", unfollowed := true, recurses := true, apart := false }
def LogsShortSaid : Prop := logsShortRow.holds Try.pinned (OpenSpec.ofChange logsShortSpec)

/-- ITS FALSE NEIGHBOUR: 'it returns false'. Refute it at one input. -/
def logsShortWrong : ChangeSpec := { name := "logsShort", fn := fun _ => fun
  | [d1, d2] => { results := [.lit (.bool false)], args := [d1, d2] }
  | _ => none }
def LogsShortWrongFalsely : Prop := logsShortRow.holds Try.pinned (OpenSpec.ofChange logsShortWrong)

/-- 'lalaw4.LogsOrder': WHATEVER THE INPUT: true; the input reads as it did. -/
def logsOrderSpec : ChangeSpec := { name := "logsOrder", fn := fun _ => fun
  | [d1, d2] => { results := [.lit (.bool true)], args := [d1, d2] }
  | _ => none }
def logsOrderRow : OpenClaim := { program := "ytlegjdlmcphhlab", sum := "358a259d1fb3567bb598d01676b33bf8cf6d33974d2509f88e6550a286fcf1b7", func := "longabsence/lalaw4.LogsOrder", spec := "logsOrder", unfollowed := true, recurses := true, apart := false }
def LogsOrderSaid : Prop := logsOrderRow.holds Try.pinned (OpenSpec.ofChange logsOrderSpec)

/-- ITS FALSE NEIGHBOUR: 'it returns false'. Refute it at one input. -/
def logsOrderWrong : ChangeSpec := { name := "logsOrder", fn := fun _ => fun
  | [d1, d2] => { results := [.lit (.bool false)], args := [d1, d2] }
  | _ => none }
def LogsOrderWrongFalsely : Prop := logsOrderRow.holds Try.pinned (OpenSpec.ofChange logsOrderWrong)

/- THE SECOND FORM. 'bulk': how many values and letters a reading holds, each counted each time it is reached (what is shared counts as often as it is met; a slice's spare places count too). A statement '..UptoSaid' is the law's where the arguments, and the package variables that the reading takes, are together of bulk at most 1048576: NARROWER than '..Said'. Prove '..Said' where nothing that the law and all that it calls make is longer than what came in: it says more and counts as full. Else prove '..UptoSaid'. A law counts once. -/
mutual
def uptoBulk {H : Type} : DataW H → Nat
  | .lit (.string bytes) => bytes.length + 1
  | .lit _ => 1
  | .nil => 1
  | .ptr d => uptoBulk d + 1
  | .slice elems spare => uptoBulkAll elems + uptoBulkAll spare + 1
  | .agg parts => uptoBulkAll parts + 1
  | .iface _ d => uptoBulk d + 1
  | .map entries => uptoBulkEntries entries + 1
  | .held _ => 1
def uptoBulkAll {H : Type} : List (DataW H) → Nat
  | [] => 0
  | d :: r => uptoBulk d + uptoBulkAll r
def uptoBulkEntries {H : Type} : List (Lit × DataW H) → Nat
  | [] => 0
  | x :: r => uptoBulkEntry x + uptoBulkEntries r
def uptoBulkEntry {H : Type} : Lit × DataW H → Nat
  | (.string bytes, d) => bytes.length + uptoBulk d + 1
  | (_, d) => uptoBulk d + 1
 end
def uptoSmall : (H : Type) → List (DataW H) → Bool := fun _ ds => decide (uptoBulkAll ds ≤ 1048576)
def OpenSpec.upto (s : _root_.Go.ChangeSpec) : _root_.Go.OpenSpec := { _root_.Go.OpenSpec.ofChange s with cond := some uptoSmall }

/-- 'lalaw3.ActsBack', WHERE WHAT IT READS IS OF BULK AT MOST 1048576: true; the input reads as it did. -/
def actsBackUptoRow : OpenClaim := { program := "ytlegjdlmcphhlab", sum := "358a259d1fb3567bb598d01676b33bf8cf6d33974d2509f88e6550a286fcf1b7", func := "longabsence/lalaw3.ActsBack", spec := "actsBack", inPlace := ["slices.overlaps[longabsence/api.Entry]", "slices.overlaps[longabsence/api.Node]"], unfollowed := true, recurses := true, apart := false, narrowed := true }
def ActsBackUptoSaid : Prop := actsBackUptoRow.holds Try.pinned (OpenSpec.upto actsBackSpec)

/-- 'lalaw3.ActsMoved', WHERE WHAT IT READS IS OF BULK AT MOST 1048576: true; the input reads as it did. -/
def actsMovedUptoRow : OpenClaim := { program := "ytlegjdlmcphhlab", sum := "358a259d1fb3567bb598d01676b33bf8cf6d33974d2509f88e6550a286fcf1b7", func := "longabsence/lalaw3.ActsMoved", spec := "actsMoved", inPlace := ["slices.overlaps[longabsence/api.Entry]", "slices.overlaps[longabsence/api.Node]"], unfollowed := true, recurses := true, apart := false, narrowed := true }
def ActsMovedUptoSaid : Prop := actsMovedUptoRow.holds Try.pinned (OpenSpec.upto actsMovedSpec)

/-- 'lalaw3.ActsVersion', WHERE WHAT IT READS IS OF BULK AT MOST 1048576: true; the input reads as it did. -/
def actsVersionUptoRow : OpenClaim := { program := "ytlegjdlmcphhlab", sum := "358a259d1fb3567bb598d01676b33bf8cf6d33974d2509f88e6550a286fcf1b7", func := "longabsence/lalaw3.ActsVersion", spec := "actsVersion", inPlace := ["slices.overlaps[longabsence/api.Entry]", "slices.overlaps[longabsence/api.Node]"], unfollowed := true, recurses := true, apart := false, narrowed := true }
def ActsVersionUptoSaid : Prop := actsVersionUptoRow.holds Try.pinned (OpenSpec.upto actsVersionSpec)

/-- 'lalaw4.LogsTells', WHERE WHAT IT READS IS OF BULK AT MOST 1048576: true; the input reads as it did. -/
def logsTellsUptoRow : OpenClaim := { program := "ytlegjdlmcphhlab", sum := "358a259d1fb3567bb598d01676b33bf8cf6d33974d2509f88e6550a286fcf1b7", func := "longabsence/lalaw4.LogsTells", spec := "logsTells", unfollowed := true, recurses := true, apart := false, narrowed := true }
def LogsTellsUptoSaid : Prop := logsTellsUptoRow.holds Try.pinned (OpenSpec.upto logsTellsSpec)

/-- 'lalaw4.LogsShort', WHERE WHAT IT READS IS OF BULK AT MOST 1048576: true; the input reads as it did. -/
def logsShortUptoRow : OpenClaim := { program := "ytlegjdlmcphhlab", sum := "358a259d1fb3567bb598d01676b33bf8cf6d33974d2509f88e6550a286fcf1b7", func := "longabsence/lalaw4.LogsShort", spec := "logsShort", unfollowed := true, recurses := true, apart := false, narrowed := true }
def LogsShortUptoSaid : Prop := logsShortUptoRow.holds Try.pinned (OpenSpec.upto logsShortSpec)

/-- 'lalaw4.LogsOrder', WHERE WHAT IT READS IS OF BULK AT MOST 1048576: true; the input reads as it did. -/
def logsOrderUptoRow : OpenClaim := { program := "ytlegjdlmcphhlab", sum := "358a259d1fb3567bb598d01676b33bf8cf6d33974d2509f88e6550a286fcf1b7", func := "longabsence/lalaw4.LogsOrder", spec := "logsOrder", unfollowed := true, recurses := true, apart := false, narrowed := true }
def LogsOrderUptoSaid : Prop := logsOrderUptoRow.holds Try.pinned (OpenSpec.upto logsOrderSpec)

end Rows
end Go.Proofs.Ytlegjdlmcphhlab
