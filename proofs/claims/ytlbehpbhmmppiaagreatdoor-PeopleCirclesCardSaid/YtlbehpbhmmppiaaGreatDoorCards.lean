/-
  DERIVED. GIVEN WITH THE SEED: THE CARDS: each row of YtlbehpbhmmppiaaGreatDoorRows.lean that lists a variable, with what it lists TIED to the program's text (the seventh form; the later family's looks); each row that meets fmt, with fmt's text TOLD by the authors' own Lean function (tested against real Go, not proved from fmt's source: count such statements apart). THE CARD IS WHAT COUNTS. Prove the row's statement (the work); the ties are given (YtlbehpbhmmppiaaGreatDoorTie.lean); close each card by the builder's one call (the guide's Derived/Test/ToyasCard.lean, 'card_holds'). Laid BY PROGRAM, IN A SANDBOX (cutbox-door.mjs). By AI agents, Wed Nov 11 2026. No macro, syntax, notation, axiom, sorry.
-/
import Derived.Test.YtlbehpbhmmppiaaGreatDoorRows
import GoSem.ClaimSeven
namespace Go.Proofs.YtlbehpbhmmppiaaGreatDoor
namespace Rows

/-- THE TIED CARD OF 'restantelaw03.PeopleLoops'. -/
def peopleLoopsCard : Claim7 := { stood := { row := peopleLoopsRow, standIns := [], harness := (true, "3e5c3cd843ceac4a277dfe3ab7019519df2120f10fada22c9c6bb25575913f0e"), looks := true }, kinds := [], alts := [], laidByText := true, laidKinds := [.data, .data, .data, .sentinel, .sentinel], laidTests := true, laidLooks := .later }
def PeopleLoopsCardSaid : Prop := Claim7.holds Tryz.pinned (.plain (OpenSpec.ofChange peopleLoopsSpec)) peopleLoopsCard

/-- THE TIED CARD OF 'restantelaw03.PeopleCircles'. -/
def peopleCirclesCard : Claim7 := { stood := { row := peopleCirclesRow, standIns := [], harness := (true, "3e5c3cd843ceac4a277dfe3ab7019519df2120f10fada22c9c6bb25575913f0e"), looks := true }, kinds := [], alts := [], laidByText := true, laidKinds := [.data, .data, .data, .sentinel, .sentinel], laidTests := true, laidLooks := .later }
def PeopleCirclesCardSaid : Prop := Claim7.holds Tryz.pinned (.plain (OpenSpec.ofChange peopleCirclesSpec)) peopleCirclesCard

/-- THE SECOND FORM's CARD OF 'restantelaw03.PeopleLoops'. -/
def peopleLoopsUptoCard : Claim7 := { stood := { row := peopleLoopsUptoRow, standIns := [], harness := (true, "3e5c3cd843ceac4a277dfe3ab7019519df2120f10fada22c9c6bb25575913f0e"), looks := true }, kinds := [], alts := [], laidByText := true, laidKinds := [.data, .data, .data, .sentinel, .sentinel], laidTests := true, laidLooks := .later }
def PeopleLoopsUptoCardSaid : Prop := Claim7.holds Tryz.pinned (.plain (OpenSpec.upto peopleLoopsSpec)) peopleLoopsUptoCard

/-- THE SECOND FORM's CARD OF 'restantelaw03.PeopleCircles'. -/
def peopleCirclesUptoCard : Claim7 := { stood := { row := peopleCirclesUptoRow, standIns := [], harness := (true, "3e5c3cd843ceac4a277dfe3ab7019519df2120f10fada22c9c6bb25575913f0e"), looks := true }, kinds := [], alts := [], laidByText := true, laidKinds := [.data, .data, .data, .sentinel, .sentinel], laidTests := true, laidLooks := .later }
def PeopleCirclesUptoCardSaid : Prop := Claim7.holds Tryz.pinned (.plain (OpenSpec.upto peopleCirclesSpec)) peopleCirclesUptoCard
end Rows
end Go.Proofs.YtlbehpbhmmppiaaGreatDoor
