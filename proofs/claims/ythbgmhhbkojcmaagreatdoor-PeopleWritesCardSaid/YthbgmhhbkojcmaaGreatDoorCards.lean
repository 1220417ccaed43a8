/-
  DERIVED. GIVEN WITH THE SEED: THE CARDS: each row of YthbgmhhbkojcmaaGreatDoorRows.lean that lists a variable, with what it lists TIED to the program's text (the seventh form; the later family's looks); each row that meets fmt, with fmt's text TOLD by the authors' own Lean function (tested against real Go, not proved from fmt's source: count such statements apart). THE CARD IS WHAT COUNTS. Prove the row's statement (the work); the ties are given (YthbgmhhbkojcmaaGreatDoorTie.lean); close each card by the builder's one call (the guide's Derived/Test/ToyasCard.lean, 'card_holds'). Laid BY PROGRAM, IN A SANDBOX (cutbox-door.mjs). By AI agents, Wed Nov 11 2026. No macro, syntax, notation, axiom, sorry.
-/
import Derived.Test.YthbgmhhbkojcmaaGreatDoorRows
import GoSem.ClaimSeven
namespace Go.Proofs.YthbgmhhbkojcmaaGreatDoor
namespace Rows

/-- THE TIED CARD OF 'restantelaw03.PeopleWrites'. -/
def peopleWritesCard : Claim7 := { stood := { row := peopleWritesRow, standIns := [], harness := (true, "514723bf337201227ac1e0c639e2e265f0bb627a501d295ec5eb2a37912e69d8"), looks := true }, kinds := [], alts := [], laidByText := true, laidKinds := [.data, .data, .data, .sentinel, .sentinel], laidTests := true, laidLooks := .later }
def PeopleWritesCardSaid : Prop := Claim7.holds Tryz.pinned (.plain (OpenSpec.ofChange peopleWritesSpec)) peopleWritesCard

/-- THE TIED CARD OF 'restantelaw03.PeopleLines'. -/
def peopleLinesCard : Claim7 := { stood := { row := peopleLinesRow, standIns := [], harness := (true, "514723bf337201227ac1e0c639e2e265f0bb627a501d295ec5eb2a37912e69d8"), looks := true }, kinds := [], alts := [], laidByText := true, laidKinds := [.data, .data, .data, .sentinel, .sentinel], laidTests := true, laidLooks := .later }
def PeopleLinesCardSaid : Prop := Claim7.holds Tryz.pinned (.plain (OpenSpec.ofChange peopleLinesSpec)) peopleLinesCard

/-- THE TIED CARD OF 'restantelaw03.PeopleLoops'. -/
def peopleLoopsCard : Claim7 := { stood := { row := peopleLoopsRow, standIns := [], harness := (true, "514723bf337201227ac1e0c639e2e265f0bb627a501d295ec5eb2a37912e69d8"), looks := true }, kinds := [], alts := [], laidByText := true, laidKinds := [.data, .data, .data, .sentinel, .sentinel], laidTests := true, laidLooks := .later }
def PeopleLoopsCardSaid : Prop := Claim7.holds Tryz.pinned (.plain (OpenSpec.ofChange peopleLoopsSpec)) peopleLoopsCard

/-- THE TIED CARD OF 'restantelaw03.PeopleCircles'. -/
def peopleCirclesCard : Claim7 := { stood := { row := peopleCirclesRow, standIns := [], harness := (true, "514723bf337201227ac1e0c639e2e265f0bb627a501d295ec5eb2a37912e69d8"), looks := true }, kinds := [], alts := [], laidByText := true, laidKinds := [.data, .data, .data, .sentinel, .sentinel], laidTests := true, laidLooks := .later }
def PeopleCirclesCardSaid : Prop := Claim7.holds Tryz.pinned (.plain (OpenSpec.ofChange peopleCirclesSpec)) peopleCirclesCard

/-- THE SECOND FORM's CARD OF 'restantelaw03.PeopleWrites'. -/
def peopleWritesUptoCard : Claim7 := { stood := { row := peopleWritesUptoRow, standIns := [], harness := (true, "514723bf337201227ac1e0c639e2e265f0bb627a501d295ec5eb2a37912e69d8"), looks := true }, kinds := [], alts := [], laidByText := true, laidKinds := [.data, .data, .data, .sentinel, .sentinel], laidTests := true, laidLooks := .later }
def PeopleWritesUptoCardSaid : Prop := Claim7.holds Tryz.pinned (.plain (OpenSpec.upto peopleWritesSpec)) peopleWritesUptoCard

/-- THE SECOND FORM's CARD OF 'restantelaw03.PeopleLines'. -/
def peopleLinesUptoCard : Claim7 := { stood := { row := peopleLinesUptoRow, standIns := [], harness := (true, "514723bf337201227ac1e0c639e2e265f0bb627a501d295ec5eb2a37912e69d8"), looks := true }, kinds := [], alts := [], laidByText := true, laidKinds := [.data, .data, .data, .sentinel, .sentinel], laidTests := true, laidLooks := .later }
def PeopleLinesUptoCardSaid : Prop := Claim7.holds Tryz.pinned (.plain (OpenSpec.upto peopleLinesSpec)) peopleLinesUptoCard

/-- THE SECOND FORM's CARD OF 'restantelaw03.PeopleLoops'. -/
def peopleLoopsUptoCard : Claim7 := { stood := { row := peopleLoopsUptoRow, standIns := [], harness := (true, "514723bf337201227ac1e0c639e2e265f0bb627a501d295ec5eb2a37912e69d8"), looks := true }, kinds := [], alts := [], laidByText := true, laidKinds := [.data, .data, .data, .sentinel, .sentinel], laidTests := true, laidLooks := .later }
def PeopleLoopsUptoCardSaid : Prop := Claim7.holds Tryz.pinned (.plain (OpenSpec.upto peopleLoopsSpec)) peopleLoopsUptoCard

/-- THE SECOND FORM's CARD OF 'restantelaw03.PeopleCircles'. -/
def peopleCirclesUptoCard : Claim7 := { stood := { row := peopleCirclesUptoRow, standIns := [], harness := (true, "514723bf337201227ac1e0c639e2e265f0bb627a501d295ec5eb2a37912e69d8"), looks := true }, kinds := [], alts := [], laidByText := true, laidKinds := [.data, .data, .data, .sentinel, .sentinel], laidTests := true, laidLooks := .later }
def PeopleCirclesUptoCardSaid : Prop := Claim7.holds Tryz.pinned (.plain (OpenSpec.upto peopleCirclesSpec)) peopleCirclesUptoCard
end Rows
end Go.Proofs.YthbgmhhbkojcmaaGreatDoor
