/-
  DERIVED. GIVEN WITH THE SEED: THE CARDS: each row of YtckfodpkckmkbacDoorRows.lean that lists a variable, with what it lists TIED to the program's text (the seventh form; the later family's looks); each row that meets fmt, with fmt's text TOLD by the authors' own Lean function (tested against real Go, not proved from fmt's source: count such statements apart). THE CARD IS WHAT COUNTS. Prove the row's statement (the work); the ties are given (YtckfodpkckmkbacDoorTie.lean); close each card by the builder's one call (the guide's Derived/Test/ToyasCard.lean, 'card_holds'). Laid BY PROGRAM, IN A SANDBOX (cutbox-door.mjs). By AI agents, Wed Nov 11 2026. No macro, syntax, notation, axiom, sorry.
-/
import Derived.Test.YtckfodpkckmkbacDoorRows
import GoSem.ClaimSeven
namespace Go.Proofs.YtckfodpkckmkbacDoor
namespace Rows

/-- THE TIED CARD OF 'lalaw5.WireTurns'. -/
def wireTurnsCard : Claim7 := { stood := { row := wireTurnsRow, standIns := [], harness := (true, "3270f66e83c05760e75ff9acaff634dace94e925b114ee8236b9574dc6db7f20"), looks := true }, kinds := [], alts := [], laidByText := true, laidKinds := [.data, .data, .data, .data, .sentinel, .sentinel, .pinned], laidTests := true, laidLooks := .later }
def WireTurnsCardSaid : Prop := Claim7.holds Tryd.pinned (.plain (OpenSpec.ofChange wireTurnsSpec)) wireTurnsCard

/-- THE TIED CARD OF 'lalaw5.WireJoined'. -/
def wireJoinedCard : Claim7 := { stood := { row := wireJoinedRow, standIns := [], harness := (true, "3270f66e83c05760e75ff9acaff634dace94e925b114ee8236b9574dc6db7f20"), looks := true }, kinds := [], alts := [], laidByText := true, laidKinds := [.data, .data, .data, .data, .sentinel, .sentinel, .pinned], laidTests := true, laidLooks := .later }
def WireJoinedCardSaid : Prop := Claim7.holds Tryd.pinned (.plain (OpenSpec.ofChange wireJoinedSpec)) wireJoinedCard

/-- THE SECOND FORM's CARD OF 'lalaw5.WireTurns'. -/
def wireTurnsUptoCard : Claim7 := { stood := { row := wireTurnsUptoRow, standIns := [], harness := (true, "3270f66e83c05760e75ff9acaff634dace94e925b114ee8236b9574dc6db7f20"), looks := true }, kinds := [], alts := [], laidByText := true, laidKinds := [.data, .data, .data, .data, .sentinel, .sentinel, .pinned], laidTests := true, laidLooks := .later }
def WireTurnsUptoCardSaid : Prop := Claim7.holds Tryd.pinned (.plain (OpenSpec.upto wireTurnsSpec)) wireTurnsUptoCard

/-- THE SECOND FORM's CARD OF 'lalaw5.WireJoined'. -/
def wireJoinedUptoCard : Claim7 := { stood := { row := wireJoinedUptoRow, standIns := [], harness := (true, "3270f66e83c05760e75ff9acaff634dace94e925b114ee8236b9574dc6db7f20"), looks := true }, kinds := [], alts := [], laidByText := true, laidKinds := [.data, .data, .data, .data, .sentinel, .sentinel, .pinned], laidTests := true, laidLooks := .later }
def WireJoinedUptoCardSaid : Prop := Claim7.holds Tryd.pinned (.plain (OpenSpec.upto wireJoinedSpec)) wireJoinedUptoCard
end Rows
end Go.Proofs.YtckfodpkckmkbacDoor
