/-
  No cell of these rows narrows 'for every input' (looked for: loops, veiled, ifaces, maps, wideKeys, modest, calm, conditions, laid).
  DERIVED. THE GIVEN ROWS OF THIS SEAT. 5 by the template 'for every input the law returns true; each argument reads behind the call as it read before'; 0 by the template 'total and deterministic' (their statements: YtjpdoblmdchmkadTotals.lean).
  GIVEN WITH THE SEED: the statements are not yours to turn. If you find one false, say at which input.
  Laid BY PROGRAM, IN A SANDBOX (cutbox-rows.mjs): the forced cells as the released guide's own fill.sh prints them over the translation afc72f2daa7ba1a9… (all of the seat's roots in one cut). By AI agents, Wed Nov 11 2026. No macro, syntax, notation, axiom, sorry.
-/
import Derived.Test.YtjpdoblmdchmkadChecked
import GoSem.Claim
import GoSem.ClaimJoined
import GoSem.ClaimMapViews
import Derived.JoinedTies
import Derived.KernelRfl
namespace Go.Proofs.Ytjpdoblmdchmkad
/- THE CELL 'sum', in the pinned program and in every row, IS THE sha256 OF THE DUMP (.gsa) THAT YtjpdoblmdchmkadProg.lean LOADS. Nothing in Lean hashes anything: it is a label: what it is worth is what the hold of that sum in a sandbox is worth. -/
noncomputable def Try.pinned : Pinned := { name := "ytjpdoblmdchmkad", sum := "afc72f2daa7ba1a913d0e2b241fe055e479b8f88715683accec8c5bd4170bee6", checked := Try.checked }
namespace Rows
def none {H : Type} : Left H := { results := [], args := [] }

/-- 'lalaw6.CertStale': WHATEVER THE INPUT: true; the input reads as it did. -/
def certStaleSpec : ChangeSpec := { name := "certStale", fn := fun _ => fun
  | [d1, d2, d3, d4] => { results := [.lit (.bool true)], args := [d1, d2, d3, d4] }
  | _ => none }
def certStaleRow : OpenClaim := { program := "ytjpdoblmdchmkad", sum := "afc72f2daa7ba1a913d0e2b241fe055e479b8f88715683accec8c5bd4170bee6", func := "longabsence/lalaw6.CertStale", spec := "certStale", inPlace := ["slices.overlaps[longabsence/api.Entry]", "slices.overlaps[longabsence/api.Node]"], unfollowed := true, recurses := true, apart := false }
def CertStaleSaid : Prop := certStaleRow.holds Try.pinned (OpenSpec.ofChange certStaleSpec)

/-- ITS FALSE NEIGHBOUR: 'it returns false'. Refute it at one input. -/
def certStaleWrong : ChangeSpec := { name := "certStale", fn := fun _ => fun
  | [d1, d2, d3, d4] => { results := [.lit (.bool false)], args := [d1, d2, d3, d4] }
  | _ => none }
def CertStaleWrongFalsely : Prop := certStaleRow.holds Try.pinned (OpenSpec.ofChange certStaleWrong)

/-- 'lalaw7.ServerReplay': WHATEVER THE INPUT: true; the input reads as it did. -/
def serverReplaySpec : ChangeSpec := { name := "serverReplay", fn := fun _ => fun
  | [d1, d2] => { results := [.lit (.bool true)], args := [d1, d2] }
  | _ => none }
def serverReplayRow : OpenClaim := { program := "ytjpdoblmdchmkad", sum := "afc72f2daa7ba1a913d0e2b241fe055e479b8f88715683accec8c5bd4170bee6", func := "longabsence/lalaw7.ServerReplay", spec := "serverReplay", inPlace := ["slices.overlaps[longabsence/api.Entry]", "slices.overlaps[longabsence/api.Node]"], unfollowed := true, recurses := true, apart := false }
def ServerReplaySaid : Prop := serverReplayRow.holds Try.pinned (OpenSpec.ofChange serverReplaySpec)

/-- ITS FALSE NEIGHBOUR: 'it returns false'. Refute it at one input. -/
def serverReplayWrong : ChangeSpec := { name := "serverReplay", fn := fun _ => fun
  | [d1, d2] => { results := [.lit (.bool false)], args := [d1, d2] }
  | _ => none }
def ServerReplayWrongFalsely : Prop := serverReplayRow.holds Try.pinned (OpenSpec.ofChange serverReplayWrong)

/-- 'lalaw7.ServerWhole': WHATEVER THE INPUT: true; the input reads as it did. -/
def serverWholeSpec : ChangeSpec := { name := "serverWhole", fn := fun _ => fun
  | [d1, d2] => { results := [.lit (.bool true)], args := [d1, d2] }
  | _ => none }
def serverWholeRow : OpenClaim := { program := "ytjpdoblmdchmkad", sum := "afc72f2daa7ba1a913d0e2b241fe055e479b8f88715683accec8c5bd4170bee6", func := "longabsence/lalaw7.ServerWhole", spec := "serverWhole", inPlace := ["slices.overlaps[longabsence/api.Entry]", "slices.overlaps[longabsence/api.Node]"], unfollowed := true, recurses := true, apart := false }
def ServerWholeSaid : Prop := serverWholeRow.holds Try.pinned (OpenSpec.ofChange serverWholeSpec)

/-- ITS FALSE NEIGHBOUR: 'it returns false'. Refute it at one input. -/
def serverWholeWrong : ChangeSpec := { name := "serverWhole", fn := fun _ => fun
  | [d1, d2] => { results := [.lit (.bool false)], args := [d1, d2] }
  | _ => none }
def ServerWholeWrongFalsely : Prop := serverWholeRow.holds Try.pinned (OpenSpec.ofChange serverWholeWrong)

/-- 'lalaw8.CacheTells': WHATEVER THE INPUT: true; the input reads as it did. -/
def cacheTellsSpec : ChangeSpec := { name := "cacheTells", fn := fun _ => fun
  | [d1, d2, d3, d4, d5, d6] => { results := [.lit (.bool true)], args := [d1, d2, d3, d4, d5, d6] }
  | _ => none }
def cacheTellsRow : OpenClaim := { program := "ytjpdoblmdchmkad", sum := "afc72f2daa7ba1a913d0e2b241fe055e479b8f88715683accec8c5bd4170bee6", func := "longabsence/lalaw8.CacheTells", spec := "cacheTells", unfollowed := true, recurses := true, apart := false }
def CacheTellsSaid : Prop := cacheTellsRow.holds Try.pinned (OpenSpec.ofChange cacheTellsSpec)

/-- ITS FALSE NEIGHBOUR: 'it returns false'. Refute it at one input. -/
def cacheTellsWrong : ChangeSpec := { name := "cacheTells", fn := fun _ => fun
  | [d1, d2, d3, d4, d5, d6] => { results := [.lit (.bool false)], args := [d1, d2, d3, d4, d5, d6] }
  | _ => none }
def CacheTellsWrongFalsely : Prop := cacheTellsRow.holds Try.pinned (OpenSpec.ofChange cacheTellsWrong)

/-- 'lalaw8.CacheKeeps': WHATEVER THE INPUT: true; the input reads as it did. -/
def cacheKeepsSpec : ChangeSpec := { name := "cacheKeeps", fn := fun _ => fun
  | [d1, d2, d3] => { results := [.lit (.bool true)], args := [d1, d2, d3] }
  | _ => none }
def cacheKeepsRow : OpenClaim := { program := "ytjpdoblmdchmkad", sum := "afc72f2daa7ba1a913d0e2b241fe055e479b8f88715683accec8c5bd4170bee6", func := "longabsence/lalaw8.CacheKeeps", spec := "cacheKeeps", unfollowed := true, recurses := true, apart := false }
def CacheKeepsSaid : Prop := cacheKeepsRow.holds Try.pinned (OpenSpec.ofChange cacheKeepsSpec)

/-- ITS FALSE NEIGHBOUR: 'it returns false'. Refute it at one input. -/
def cacheKeepsWrong : ChangeSpec := { name := "cacheKeeps", fn := fun _ => fun
  | [d1, d2, d3] => { results := [.lit (.bool false)], args := [d1, d2, d3] }
  | _ => none }
def CacheKeepsWrongFalsely : Prop := cacheKeepsRow.holds Try.pinned (OpenSpec.ofChange cacheKeepsWrong)

/- THE SECOND FORM. 'bulk': how many values and letters a reading holds, each counted each time it is reached (what is shared counts as often as it is met; a slice's spare places count too). A statement '..UptoSaid' is the law's where the arguments, and the package variables that the reading takes, are together of bulk at most 1048576: NARROWER than '..Said'. Prove '..Said' where nothing that the law and all that it calls make is longer than what came in: it says more and counts as full. Else prove '..UptoSaid'. A law counts once. -/
mutual
def uptoBulk {H : Type} : DataW H → Nat
  | .lit (.string bytes) => bytes.length + 1
  | .lit _ => 1
  | .nil => 1
  | .ptr d => uptoBulk d + 1
  | .slice elems spare => uptoBulkAll elems + uptoBulkAll spare + 1
  | .agg parts => uptoBulkAll parts + 1
  | .iface _ d => uptoBulk d + 1
  | .map entries => uptoBulkEntries entries + 1
  | .held _ => 1
def uptoBulkAll {H : Type} : List (DataW H) → Nat
  | [] => 0
  | d :: r => uptoBulk d + uptoBulkAll r
def uptoBulkEntries {H : Type} : List (Lit × DataW H) → Nat
  | [] => 0
  | x :: r => uptoBulkEntry x + uptoBulkEntries r
def uptoBulkEntry {H : Type} : Lit × DataW H → Nat
  | (.string bytes, d) => bytes.length + uptoBulk d + 1
  | (_, d) => uptoBulk d + 1
 end
def uptoSmall : (H : Type) → List (DataW H) → Bool := fun _ ds => decide (uptoBulkAll ds ≤ 1048576)
def OpenSpec.upto (s : _root_.Go.ChangeSpec) : _root_.Go.OpenSpec := { _root_.Go.OpenSpec.ofChange s with cond := some uptoSmall }

/-- 'lalaw6.CertStale', WHERE WHAT IT READS IS OF BULK AT MOST 1048576: true; the input reads as it did. -/
def certStaleUptoRow : OpenClaim := { program := "ytjpdoblmdchmkad", sum := "afc72f2daa7ba1a913d0e2b241fe055e479b8f88715683accec8c5bd4170bee6", func := "longabsence/lalaw6.CertStale", spec := "certStale", inPlace := ["slices.overlaps[longabsence/api.Entry]", "slices.overlaps[longabsence/api.Node]"], unfollowed := true, recurses := true, apart := false, narrowed := true }
def CertStaleUptoSaid : Prop := certStaleUptoRow.holds Try.pinned (OpenSpec.upto certStaleSpec)

/-- 'lalaw7.ServerReplay', WHERE WHAT IT READS IS OF BULK AT MOST 1048576: true; the input reads as it did. -/
def serverReplayUptoRow : OpenClaim := { program := "ytjpdoblmdchmkad", sum := "afc72f2daa7ba1a913d0e2b241fe055e479b8f88715683accec8c5bd4170bee6", func := "longabsence/lalaw7.ServerReplay", spec := "serverReplay", inPlace := ["slices.overlaps[longabsence/api.Entry]", "slices.overlaps[longabsence/api.Node]"], unfollowed := true, recurses := true, apart := false, narrowed := true }
def ServerReplayUptoSaid : Prop := serverReplayUptoRow.holds Try.pinned (OpenSpec.upto serverReplaySpec)

/-- 'lalaw7.ServerWhole', WHERE WHAT IT READS IS OF BULK AT MOST 1048576: true; the input reads as it did. -/
def serverWholeUptoRow : OpenClaim := { program := "ytjpdoblmdchmkad", sum := "afc72f2daa7ba1a913d0e2b241fe055e479b8f88715683accec8c5bd4170bee6", func := "longabsence/lalaw7.ServerWhole", spec := "serverWhole", inPlace := ["slices.overlaps[longabsence/api.Entry]", "slices.overlaps[longabsence/api.Node]"], unfollowed := true, recurses := true, apart := false, narrowed := true }
def ServerWholeUptoSaid : Prop := serverWholeUptoRow.holds Try.pinned (OpenSpec.upto serverWholeSpec)

/-- 'lalaw8.CacheTells', WHERE WHAT IT READS IS OF BULK AT MOST 1048576: true; the input reads as it did. -/
def cacheTellsUptoRow : OpenClaim := { program := "ytjpdoblmdchmkad", sum := "afc72f2daa7ba1a913d0e2b241fe055e479b8f88715683accec8c5bd4170bee6", func := "longabsence/lalaw8.CacheTells", spec := "cacheTells", unfollowed := true, recurses := true, apart := false, narrowed := true }
def CacheTellsUptoSaid : Prop := cacheTellsUptoRow.holds Try.pinned (OpenSpec.upto cacheTellsSpec)

/-- 'lalaw8.CacheKeeps', WHERE WHAT IT READS IS OF BULK AT MOST 1048576: true; the input reads as it did. -/
def cacheKeepsUptoRow : OpenClaim := { program := "ytjpdoblmdchmkad", sum := "afc72f2daa7ba1a913d0e2b241fe055e479b8f88715683accec8c5bd4170bee6", func := "longabsence/lalaw8.CacheKeeps", spec := "cacheKeeps", unfollowed := true, recurses := true, apart := false, narrowed := true }
def CacheKeepsUptoSaid : Prop := cacheKeepsUptoRow.holds Try.pinned (OpenSpec.upto cacheKeepsSpec)

end Rows
end Go.Proofs.Ytjpdoblmdchmkad
