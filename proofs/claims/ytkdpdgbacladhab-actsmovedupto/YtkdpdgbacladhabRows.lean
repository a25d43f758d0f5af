/-
  No cell of these rows narrows 'for every input' (looked for: loops, veiled, ifaces, maps, wideKeys, modest, calm, conditions, laid).
  DERIVED. THE GIVEN ROWS OF THIS SEAT. 3 by the template 'for every input the law returns true; each argument reads behind the call as it read before'; 0 by the template 'total and deterministic' (their statements: YtkdpdgbacladhabTotals.lean).
  GIVEN WITH THE SEED: the statements are not yours to turn. If you find one false, say at which input.
  Laid BY PROGRAM, IN A SANDBOX (cutbox-rows.mjs): the forced cells as the released guide's own fill.sh prints them over the translation 21dd541e5ab73664… (all of the seat's roots in one cut). By AI agents, Wed Nov 11 2026. No macro, syntax, notation, axiom, sorry.
-/
import Derived.Test.YtkdpdgbacladhabChecked
import GoSem.Claim
import GoSem.ClaimJoined
import GoSem.ClaimMapViews
import Derived.JoinedTies
import Derived.KernelRfl
namespace Go.Proofs.Ytkdpdgbacladhab
/- THE CELL 'sum', in the pinned program and in every row, IS THE sha256 OF THE DUMP (.gsa) THAT YtkdpdgbacladhabProg.lean LOADS. Nothing in Lean hashes anything: it is a label: what it is worth is what the hold of that sum in a sandbox is worth. -/
noncomputable def Try.pinned : Pinned := { name := "ytkdpdgbacladhab", sum := "21dd541e5ab73664b6e25c1a52c101fdb2acdfe2e141aa9a3c0ed082522777ea", checked := Try.checked }
namespace Rows
def none {H : Type} : Left H := { results := [], args := [] }

/-- 'lalaw3.ActsBack': WHATEVER THE INPUT: true; the input reads as it did. -/
def actsBackSpec : ChangeSpec := { name := "actsBack", fn := fun _ => fun
  | [d1, d2, d3, d4, d5] => { results := [.lit (.bool true)], args := [d1, d2, d3, d4, d5] }
  | _ => none }
def actsBackRow : OpenClaim := { program := "ytkdpdgbacladhab", sum := "21dd541e5ab73664b6e25c1a52c101fdb2acdfe2e141aa9a3c0ed082522777ea", func := "longabsence/lalaw3.ActsBack", spec := "actsBack", inPlace := ["slices.overlaps[longabsence/api.Entry]", "slices.overlaps[longabsence/api.Node]"], unfollowed := true, recurses := true, apart := false }
def ActsBackSaid : Prop := actsBackRow.holds Try.pinned (OpenSpec.ofChange actsBackSpec)

/-- ITS FALSE NEIGHBOUR: 'it returns false'. Refute it at one input. -/
def actsBackWrong : ChangeSpec := { name := "actsBack", fn := fun _ => fun
  | [d1, d2, d3, d4, d5] => { results := [.lit (.bool false)], args := [d1, d2, d3, d4, d5] }
  | _ => none }
def ActsBackWrongFalsely : Prop := actsBackRow.holds Try.pinned (OpenSpec.ofChange actsBackWrong)

/-- 'lalaw3.ActsMoved': WHATEVER THE INPUT: true; the input reads as it did. -/
def actsMovedSpec : ChangeSpec := { name := "actsMoved", fn := fun _ => fun
  | [d1, d2] => { results := [.lit (.bool true)], args := [d1, d2] }
  | _ => none }
def actsMovedRow : OpenClaim := { program := "ytkdpdgbacladhab", sum := "21dd541e5ab73664b6e25c1a52c101fdb2acdfe2e141aa9a3c0ed082522777ea", func := "longabsence/lalaw3.ActsMoved", spec := "actsMoved", inPlace := ["slices.overlaps[longabsence/api.Entry]", "slices.overlaps[longabsence/api.Node]"], unfollowed := true, recurses := true, apart := false }
def ActsMovedSaid : Prop := actsMovedRow.holds Try.pinned (OpenSpec.ofChange actsMovedSpec)

/-- ITS FALSE NEIGHBOUR: 'it returns false'. Refute it at one input. -/
def actsMovedWrong : ChangeSpec := { name := "actsMoved", fn := fun _ => fun
  | [d1, d2] => { results := [.lit (.bool false)], args := [d1, d2] }
  | _ => none }
def ActsMovedWrongFalsely : Prop := actsMovedRow.holds Try.pinned (OpenSpec.ofChange actsMovedWrong)

/-- 'lalaw3.ActsVersion': WHATEVER THE INPUT: true; the input reads as it did. -/
def actsVersionSpec : ChangeSpec := { name := "actsVersion", fn := fun _ => fun
  | [d1, d2] => { results := [.lit (.bool true)], args := [d1, d2] }
  | _ => none }
def actsVersionRow : OpenClaim := { program := "ytkdpdgbacladhab", sum := "21dd541e5ab73664b6e25c1a52c101fdb2acdfe2e141aa9a3c0ed082522777ea", func := "longabsence/lalaw3.ActsVersion", spec := "actsVersion", inPlace := ["slices.overlaps[longabsence/api.Entry]", "slices.overlaps[longabsence/api.Node]"], unfollowed := true, recurses := true, apart := false }
def ActsVersionSaid : Prop := actsVersionRow.holds Try.pinned (OpenSpec.ofChange actsVersionSpec)

/-- ITS FALSE NEIGHBOUR: 'it returns false'. Refute it at one input. -/
def actsVersionWrong : ChangeSpec := { name := "actsVersion", fn := fun _ => fun
  | [d1, d2] => { results := [.lit (.bool false)], args := [d1, d2] }
  | _ => none }
def ActsVersionWrongFalsely : Prop := actsVersionRow.holds Try.pinned (OpenSpec.ofChange actsVersionWrong)

/- THE SECOND FORM. 'bulk': how many values and letters a reading holds, each counted each time it is reached (what is shared counts as often as it is met; a slice's spare places count too). A statement '..UptoSaid' is the law's where the arguments, and the package variables that the reading takes, are together of bulk at most 1048576: NARROWER than '..Said'. Prove '..Said' where nothing that the law and all that it calls make is longer than what came in: it says more and counts as full. Else prove '..UptoSaid'. A law counts once. -/
mutual
def uptoBulk {H : Type} : DataW H → Nat
  | .lit (.string bytes) => bytes.length + 1
  | .lit _ => 1
  | .nil => 1
  | .ptr d => uptoBulk d + 1
  | .slice elems spare => uptoBulkAll elems + uptoBulkAll spare + 1
  | .agg parts => uptoBulkAll parts + 1
  | .iface _ d => uptoBulk d + 1
  | .map entries => uptoBulkEntries entries + 1
  | .held _ => 1
def uptoBulkAll {H : Type} : List (DataW H) → Nat
  | [] => 0
  | d :: r => uptoBulk d + uptoBulkAll r
def uptoBulkEntries {H : Type} : List (Lit × DataW H) → Nat
  | [] => 0
  | x :: r => uptoBulkEntry x + uptoBulkEntries r
def uptoBulkEntry {H : Type} : Lit × DataW H → Nat
  | (.string bytes, d) => bytes.length + uptoBulk d + 1
  | (_, d) => uptoBulk d + 1
 end
def uptoSmall : (H : Type) → List (DataW H) → Bool := fun _ ds => decide (uptoBulkAll ds ≤ 1048576)
def OpenSpec.upto (s : _root_.Go.ChangeSpec) : _root_.Go.OpenSpec := { _root_.Go.OpenSpec.ofChange s with cond := some uptoSmall }

/-- 'lalaw3.ActsBack', WHERE WHAT IT READS IS OF BULK AT MOST 1048576: true; the input reads as it did. -/
def actsBackUptoRow : OpenClaim := { program := "ytkdpdgbacladhab", sum := "21dd541e5ab73664b6e25c1a52c101fdb2acdfe2e141aa9a3c0ed082522777ea", func := "longabsence/lalaw3.ActsBack", spec := "actsBack", inPlace := ["slices.overlaps[longabsence/api.Entry]", "slices.overlaps[longabsence/api.Node]"], unfollowed := true, recurses := true, apart := false, narrowed := true }
def ActsBackUptoSaid : Prop := actsBackUptoRow.holds Try.pinned (OpenSpec.upto actsBackSpec)

/-- 'lalaw3.ActsMoved', WHERE WHAT IT READS IS OF BULK AT MOST 1048576: true; the input reads as it did. -/
def actsMovedUptoRow : OpenClaim := { program := "ytkdpdgbacladhab", sum := "21dd541e5ab73664b6e25c1a52c101fdb2acdfe2e141aa9a3c0ed082522777ea", func := "longabsence/lalaw3.ActsMoved", spec := "actsMoved", inPlace := ["slices.overlaps[longabsence/api.Entry]", "slices.overlaps[longabsence/api.Node]"], unfollowed := true, recurses := true, apart := false, narrowed := true }
def ActsMovedUptoSaid : Prop := actsMovedUptoRow.holds Try.pinned (OpenSpec.upto actsMovedSpec)

/-- 'lalaw3.ActsVersion', WHERE WHAT IT READS IS OF BULK AT MOST 1048576: true; the input reads as it did. -/
def actsVersionUptoRow : OpenClaim := { program := "ytkdpdgbacladhab", sum := "21dd541e5ab73664b6e25c1a52c101fdb2acdfe2e141aa9a3c0ed082522777ea", func := "longabsence/lalaw3.ActsVersion", spec := "actsVersion", inPlace := ["slices.overlaps[longabsence/api.Entry]", "slices.overlaps[longabsence/api.Node]"], unfollowed := true, recurses := true, apart := false, narrowed := true }
def ActsVersionUptoSaid : Prop := actsVersionUptoRow.holds Try.pinned (OpenSpec.upto actsVersionSpec)

end Rows
end Go.Proofs.Ytkdpdgbacladhab
