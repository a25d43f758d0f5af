/-
  DERIVED. GIVEN WITH THE SEED: THE CARDS: each row of YtgeolmiinbcnfaaDoorRows.lean that lists a variable, with what it lists TIED to the program's text (the seventh form; the later family's looks); each row that meets fmt, with fmt's text TOLD by the authors' own Lean function (tested against real Go, not proved from fmt's source: count such statements apart). THE CARD IS WHAT COUNTS. Prove the row's statement (the work); the ties are given (YtgeolmiinbcnfaaDoorTie.lean); close each card by the builder's one call (the guide's Derived/Test/ToyasCard.lean, 'card_holds'). Laid BY PROGRAM, IN A SANDBOX (cutbox-door.mjs). By AI agents, Wed Nov 11 2026. No macro, syntax, notation, axiom, sorry.
-/
import Derived.Test.YtgeolmiinbcnfaaDoorRows
import GoSem.ClaimSeven
namespace Go.Proofs.YtgeolmiinbcnfaaDoor
namespace Rows

/-- THE TIED CARD OF 'lalaw1.NamesTells'. -/
def namesTellsCard : Claim7 := { stood := { row := namesTellsRow, standIns := [], harness := (true, "1bdd77aaee221cc91709afc7f8a8d580997b04c136fbd7a54b8912a8f247cc95"), looks := false }, kinds := [], alts := [], laidByText := true, laidKinds := [.data, .pinned], laidTests := true, laidLooks := .later }
def NamesTellsCardSaid : Prop := Claim7.holds Tryd.pinned (.plain (OpenSpec.ofChange namesTellsSpec)) namesTellsCard

/-- THE TIED CARD OF 'lalaw1.NamesTurns'. -/
def namesTurnsCard : Claim7 := { stood := { row := namesTurnsRow, standIns := [], harness := (true, "1bdd77aaee221cc91709afc7f8a8d580997b04c136fbd7a54b8912a8f247cc95"), looks := false }, kinds := [], alts := [], laidByText := true, laidKinds := [.data, .pinned], laidTests := true, laidLooks := .later }
def NamesTurnsCardSaid : Prop := Claim7.holds Tryd.pinned (.plain (OpenSpec.ofChange namesTurnsSpec)) namesTurnsCard

/-- THE SECOND FORM's CARD OF 'lalaw1.NamesTells'. -/
def namesTellsUptoCard : Claim7 := { stood := { row := namesTellsUptoRow, standIns := [], harness := (true, "1bdd77aaee221cc91709afc7f8a8d580997b04c136fbd7a54b8912a8f247cc95"), looks := false }, kinds := [], alts := [], laidByText := true, laidKinds := [.data, .pinned], laidTests := true, laidLooks := .later }
def NamesTellsUptoCardSaid : Prop := Claim7.holds Tryd.pinned (.plain (OpenSpec.upto namesTellsSpec)) namesTellsUptoCard

/-- THE SECOND FORM's CARD OF 'lalaw1.NamesTurns'. -/
def namesTurnsUptoCard : Claim7 := { stood := { row := namesTurnsUptoRow, standIns := [], harness := (true, "1bdd77aaee221cc91709afc7f8a8d580997b04c136fbd7a54b8912a8f247cc95"), looks := false }, kinds := [], alts := [], laidByText := true, laidKinds := [.data, .pinned], laidTests := true, laidLooks := .later }
def NamesTurnsUptoCardSaid : Prop := Claim7.holds Tryd.pinned (.plain (OpenSpec.upto namesTurnsSpec)) namesTurnsUptoCard
end Rows
end Go.Proofs.YtgeolmiinbcnfaaDoor
