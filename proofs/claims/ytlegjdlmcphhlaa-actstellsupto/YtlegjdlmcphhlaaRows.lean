/-
  No cell of these rows narrows 'for every input' (looked for: loops, veiled, ifaces, maps, wideKeys, modest, calm, conditions, laid).
  DERIVED. THE GIVEN ROWS OF THIS SEAT. 4 by the template 'for every input the law returns true; each argument reads behind the call as it read before'; 0 by the template 'total and deterministic' (their statements: YtlegjdlmcphhlaaTotals.lean).
  GIVEN WITH THE SEED: the statements are not yours to turn. If you find one false, say at which input.
  Laid BY PROGRAM, IN A SANDBOX (cutbox-rows.mjs): the forced cells as the released guide's own fill.sh prints them over the translation b91c00d8746a74fd… (all of the seat's roots in one cut). By AI agents, Wed Nov 11 2026. No macro, syntax, notation, axiom, sorry.
-/
import Derived.Test.YtlegjdlmcphhlaaChecked
import GoSem.Claim
import GoSem.ClaimJoined
import GoSem.ClaimMapViews
import Derived.JoinedTies
import Derived.KernelRfl
namespace Go.Proofs.Ytlegjdlmcphhlaa
/- THE CELL 'sum', in the pinned program and in every row, IS THE sha256 OF THE DUMP (.gsa) THAT YtlegjdlmcphhlaaProg.lean LOADS. Nothing in Lean hashes anything: it is a label: what it is worth is what the hold of that sum in a sandbox is worth. -/
noncomputable def Try.pinned : Pinned := { name := "ytlegjdlmcphhlaa", sum := "b91c00d8746a74fde5ea9cd96ba58d68fee2813bd5bc16b8783a7250df3a40c0", checked := Try.checked }
namespace Rows
def none {H : Type} : Left H := { results := [], args := [] }

/-- 'lalaw2.TreeTells': WHATEVER THE INPUT: true; the input reads as it did. -/
def treeTellsSpec : ChangeSpec := { name := "treeTells", fn := fun _ => fun
  | [d1, d2, d3, d4, d5, d6] => { results := [.lit (.bool true)], args := [d1, d2, d3, d4, d5, d6] }
  | _ => none }
def treeTellsRow : OpenClaim := { program := "ytlegjdlmcphhlaa", sum := "b91c00d8746a74fde5ea9cd96ba58d68fee2813bd5bc16b8783a7250df3a40c0", func := "longabsence/lalaw2.TreeTells", spec := "treeTells", inPlace := ["slices.overlaps[longabsence/api.Node]", "slices.overlaps[longabsence/api.Entry]"], unfollowed := true, recurses := true, apart := false }
def TreeTellsSaid : Prop := treeTellsRow.holds Try.pinned (OpenSpec.ofChange treeTellsSpec)

/-- ITS FALSE NEIGHBOUR: 'it returns false'. Refute it at one input. -/
def treeTellsWrong : ChangeSpec := { name := "treeTells", fn := fun _ => fun
  | [d1, d2, d3, d4, d5, d6] => { results := [.lit (.bool false)], args := [d1, d2, d3, d4, d5, d6] }
  | _ => none }
def TreeTellsWrongFalsely : Prop := treeTellsRow.holds Try.pinned (OpenSpec.ofChange treeTellsWrong)

/-- 'lalaw2.TreePuts': WHATEVER THE INPUT: true; the input reads as it did. -/
def treePutsSpec : ChangeSpec := { name := "treePuts", fn := fun _ => fun
  | [d1, d2, d3] => { results := [.lit (.bool true)], args := [d1, d2, d3] }
  | _ => none }
def treePutsRow : OpenClaim := { program := "ytlegjdlmcphhlaa", sum := "b91c00d8746a74fde5ea9cd96ba58d68fee2813bd5bc16b8783a7250df3a40c0", func := "longabsence/lalaw2.TreePuts", spec := "treePuts", inPlace := ["slices.overlaps[longabsence/api.Node]", "slices.overlaps[longabsence/api.Entry]"], unfollowed := true, recurses := true, apart := false }
def TreePutsSaid : Prop := treePutsRow.holds Try.pinned (OpenSpec.ofChange treePutsSpec)

/-- ITS FALSE NEIGHBOUR: 'it returns false'. Refute it at one input. -/
def treePutsWrong : ChangeSpec := { name := "treePuts", fn := fun _ => fun
  | [d1, d2, d3] => { results := [.lit (.bool false)], args := [d1, d2, d3] }
  | _ => none }
def TreePutsWrongFalsely : Prop := treePutsRow.holds Try.pinned (OpenSpec.ofChange treePutsWrong)

/-- 'lalaw2.TreeEnters': WHATEVER THE INPUT: true; the input reads as it did. -/
def treeEntersSpec : ChangeSpec := { name := "treeEnters", fn := fun _ => fun
  | [d1, d2, d3] => { results := [.lit (.bool true)], args := [d1, d2, d3] }
  | _ => none }
def treeEntersRow : OpenClaim := { program := "ytlegjdlmcphhlaa", sum := "b91c00d8746a74fde5ea9cd96ba58d68fee2813bd5bc16b8783a7250df3a40c0", func := "longabsence/lalaw2.TreeEnters", spec := "treeEnters", inPlace := ["slices.overlaps[longabsence/api.Node]", "slices.overlaps[longabsence/api.Entry]"], unfollowed := true, recurses := true, apart := false }
def TreeEntersSaid : Prop := treeEntersRow.holds Try.pinned (OpenSpec.ofChange treeEntersSpec)

/-- ITS FALSE NEIGHBOUR: 'it returns false'. Refute it at one input. -/
def treeEntersWrong : ChangeSpec := { name := "treeEnters", fn := fun _ => fun
  | [d1, d2, d3] => { results := [.lit (.bool false)], args := [d1, d2, d3] }
  | _ => none }
def TreeEntersWrongFalsely : Prop := treeEntersRow.holds Try.pinned (OpenSpec.ofChange treeEntersWrong)

/-- 'lalaw3.ActsTells': WHATEVER THE INPUT: true; the input reads as it did. -/
def actsTellsSpec : ChangeSpec := { name := "actsTells", fn := fun _ => fun
  | [d1, d2, d3] => { results := [.lit (.bool true)], args := [d1, d2, d3] }
  | _ => none }
def actsTellsRow : OpenClaim := { program := "ytlegjdlmcphhlaa", sum := "b91c00d8746a74fde5ea9cd96ba58d68fee2813bd5bc16b8783a7250df3a40c0", func := "longabsence/lalaw3.ActsTells", spec := "actsTells", inPlace := ["slices.overlaps[longabsence/api.Entry]", "slices.overlaps[longabsence/api.Node]"], unfollowed := true, recurses := true, apart := false }
def ActsTellsSaid : Prop := actsTellsRow.holds Try.pinned (OpenSpec.ofChange actsTellsSpec)

/-- ITS FALSE NEIGHBOUR: 'it returns false'. Refute it at one input. -/
def actsTellsWrong : ChangeSpec := { name := "actsTells", fn := fun _ => fun
  | [d1, d2, d3] => { results := [.lit (.bool false)], args := [d1, d2, d3] }
  | _ => none }
def ActsTellsWrongFalsely : Prop := actsTellsRow.holds Try.pinned (OpenSpec.ofChange actsTellsWrong)

/- THE SECOND FORM. 'bulk': how many values and letters a reading holds, each counted each time it is reached (what is shared counts as often as it is met; a slice's spare places count too). A statement '..UptoSaid' is the law's where the arguments, and the package variables that the reading takes, are together of bulk at most 1048576: NARROWER than '..Said'. Prove '..Said' where nothing that the law and all that it calls make is longer than what came in: it says more and counts as full. Else prove '..UptoSaid'. A law counts once. -/
mutual
def uptoBulk {H : Type} : DataW H → Nat
  | .lit (.string bytes) => bytes.length + 1
  | .lit _ => 1
  | .nil => 1
  | .ptr d => uptoBulk d + 1
  | .slice elems spare => uptoBulkAll elems + uptoBulkAll spare + 1
  | .agg parts => uptoBulkAll parts + 1
  | .iface _ d => uptoBulk d + 1
  | .map entries => uptoBulkEntries entries + 1
  | .held _ => 1
def uptoBulkAll {H : Type} : List (DataW H) → Nat
  | [] => 0
  | d :: r => uptoBulk d + uptoBulkAll r
def uptoBulkEntries {H : Type} : List (Lit × DataW H) → Nat
  | [] => 0
  | x :: r => uptoBulkEntry x + uptoBulkEntries r
def uptoBulkEntry {H : Type} : Lit × DataW H → Nat
  | (.string bytes, d) => bytes.length + uptoBulk d + 1
  | (_, d) => uptoBulk d + 1
 end
def uptoSmall : (H : Type) → List (DataW H) → Bool := fun _ ds => decide (uptoBulkAll ds ≤ 1048576)
def OpenSpec.upto (s : _root_.Go.ChangeSpec) : _root_.Go.OpenSpec := { _root_.Go.OpenSpec.ofChange s with cond := some uptoSmall }

/-- 'lalaw2.TreeTells', WHERE WHAT IT READS IS OF BULK AT MOST 1048576: true; the input reads as it did. -/
def treeTellsUptoRow : OpenClaim := { program := "ytlegjdlmcphhlaa", sum := "b91c00d8746a74fde5ea9cd96ba58d68fee2813bd5bc16b8783a7250df3a40c0", func := "longabsence/lalaw2.TreeTells", spec := "treeTells", inPlace := ["slices.overlaps[longabsence/api.Node]", "slices.overlaps[longabsence/api.Entry]"], unfollowed := true, recurses := true, apart := false, narrowed := true }
def TreeTellsUptoSaid : Prop := treeTellsUptoRow.holds Try.pinned (OpenSpec.upto treeTellsSpec)

/-- 'lalaw2.TreePuts', WHERE WHAT IT READS IS OF BULK AT MOST 1048576: true; the input reads as it did. -/
def treePutsUptoRow : OpenClaim := { program := "ytlegjdlmcphhlaa", sum := "b91c00d8746a74fde5ea9cd96ba58d68fee2813bd5bc16b8783a7250df3a40c0", func := "longabsence/lalaw2.TreePuts", spec := "treePuts", inPlace := ["slices.overlaps[longabsence/api.Node]", "slices.overlaps[longabsence/api.Entry]"], unfollowed := true, recurses := true, apart := false, narrowed := true }
def TreePutsUptoSaid : Prop := treePutsUptoRow.holds Try.pinned (OpenSpec.upto treePutsSpec)

/-- 'lalaw2.TreeEnters', WHERE WHAT IT READS IS OF BULK AT MOST 1048576: true; the input reads as it did. -/
def treeEntersUptoRow : OpenClaim := { program := "ytlegjdlmcphhlaa", sum := "b91c00d8746a74fde5ea9cd96ba58d68fee2813bd5bc16b8783a7250df3a40c0", func := "longabsence/lalaw2.TreeEnters", spec := "treeEnters", inPlace := ["slices.overlaps[longabsence/api.Node]", "slices.overlaps[longabsence/api.Entry]"], unfollowed := true, recurses := true, apart := false, narrowed := true }
def TreeEntersUptoSaid : Prop := treeEntersUptoRow.holds Try.pinned (OpenSpec.upto treeEntersSpec)

/-- 'lalaw3.ActsTells', WHERE WHAT IT READS IS OF BULK AT MOST 1048576: true; the input reads as it did. -/
def actsTellsUptoRow : OpenClaim := { program := "ytlegjdlmcphhlaa", sum := "b91c00d8746a74fde5ea9cd96ba58d68fee2813bd5bc16b8783a7250df3a40c0", func := "longabsence/lalaw3.ActsTells", spec := "actsTells", inPlace := ["slices.overlaps[longabsence/api.Entry]", "slices.overlaps[longabsence/api.Node]"], unfollowed := true, recurses := true, apart := false, narrowed := true }
def ActsTellsUptoSaid : Prop := actsTellsUptoRow.holds Try.pinned (OpenSpec.upto actsTellsSpec)

end Rows
end Go.Proofs.Ytlegjdlmcphhlaa
