/-
  DERIVED. GIVEN WITH THE SEED: THE CARDS: each row of YtddhgengahlnkaaGreatDoorRows.lean that lists a variable, with what it lists TIED to the program's text (the seventh form; the later family's looks); each row that meets fmt, with fmt's text TOLD by the authors' own Lean function (tested against real Go, not proved from fmt's source: count such statements apart). THE CARD IS WHAT COUNTS. Prove the row's statement (the work); the ties are given (YtddhgengahlnkaaGreatDoorTie.lean); close each card by the builder's one call (the guide's Derived/Test/ToyasCard.lean, 'card_holds'). Laid BY PROGRAM, IN A SANDBOX (cutbox-door.mjs). By AI agents, Wed Nov 11 2026. No macro, syntax, notation, axiom, sorry.
-/
import Derived.Test.YtddhgengahlnkaaGreatDoorRows
import GoSem.ClaimSeven
namespace Go.Proofs.YtddhgengahlnkaaGreatDoor
namespace Rows

/-- THE TIED CARD OF 'restantelaw03.PeopleChecks'. -/
def peopleChecksCard : Claim7 := { stood := { row := peopleChecksRow, standIns := [], harness := (true, "f6f84a98341714bf935b52a37811a32d856be2c6980df90144cc026e83f4d266"), looks := true }, kinds := [], alts := [], laidByText := true, laidKinds := [.data, .data, .data, .sentinel, .sentinel], laidTests := true, laidLooks := .later }
def PeopleChecksCardSaid : Prop := Claim7.holds Tryz.pinned (.plain (OpenSpec.ofChange peopleChecksSpec)) peopleChecksCard

/-- THE TIED CARD OF 'restantelaw03.PeopleAppends'. -/
def peopleAppendsCard : Claim7 := { stood := { row := peopleAppendsRow, standIns := [], harness := (true, "f6f84a98341714bf935b52a37811a32d856be2c6980df90144cc026e83f4d266"), looks := true }, kinds := [], alts := [], laidByText := true, laidKinds := [.data, .data, .data, .sentinel, .sentinel], laidTests := true, laidLooks := .later }
def PeopleAppendsCardSaid : Prop := Claim7.holds Tryz.pinned (.plain (OpenSpec.ofChange peopleAppendsSpec)) peopleAppendsCard

/-- THE TIED CARD OF 'restantelaw03.PeopleValid'. -/
def peopleValidCard : Claim7 := { stood := { row := peopleValidRow, standIns := [], harness := (true, "f6f84a98341714bf935b52a37811a32d856be2c6980df90144cc026e83f4d266"), looks := true }, kinds := [], alts := [], laidByText := true, laidKinds := [.data, .data, .data, .sentinel, .sentinel], laidTests := true, laidLooks := .later }
def PeopleValidCardSaid : Prop := Claim7.holds Tryz.pinned (.plain (OpenSpec.ofChange peopleValidSpec)) peopleValidCard

/-- THE TIED CARD OF 'restantelaw03.PeopleKnown'. -/
def peopleKnownCard : Claim7 := { stood := { row := peopleKnownRow, standIns := [], harness := (true, "f6f84a98341714bf935b52a37811a32d856be2c6980df90144cc026e83f4d266"), looks := true }, kinds := [], alts := [], laidByText := true, laidKinds := [.data, .data, .data, .sentinel, .sentinel], laidTests := true, laidLooks := .later }
def PeopleKnownCardSaid : Prop := Claim7.holds Tryz.pinned (.plain (OpenSpec.ofChange peopleKnownSpec)) peopleKnownCard

/-- THE SECOND FORM's CARD OF 'restantelaw03.PeopleChecks'. -/
def peopleChecksUptoCard : Claim7 := { stood := { row := peopleChecksUptoRow, standIns := [], harness := (true, "f6f84a98341714bf935b52a37811a32d856be2c6980df90144cc026e83f4d266"), looks := true }, kinds := [], alts := [], laidByText := true, laidKinds := [.data, .data, .data, .sentinel, .sentinel], laidTests := true, laidLooks := .later }
def PeopleChecksUptoCardSaid : Prop := Claim7.holds Tryz.pinned (.plain (OpenSpec.upto peopleChecksSpec)) peopleChecksUptoCard

/-- THE SECOND FORM's CARD OF 'restantelaw03.PeopleAppends'. -/
def peopleAppendsUptoCard : Claim7 := { stood := { row := peopleAppendsUptoRow, standIns := [], harness := (true, "f6f84a98341714bf935b52a37811a32d856be2c6980df90144cc026e83f4d266"), looks := true }, kinds := [], alts := [], laidByText := true, laidKinds := [.data, .data, .data, .sentinel, .sentinel], laidTests := true, laidLooks := .later }
def PeopleAppendsUptoCardSaid : Prop := Claim7.holds Tryz.pinned (.plain (OpenSpec.upto peopleAppendsSpec)) peopleAppendsUptoCard

/-- THE SECOND FORM's CARD OF 'restantelaw03.PeopleValid'. -/
def peopleValidUptoCard : Claim7 := { stood := { row := peopleValidUptoRow, standIns := [], harness := (true, "f6f84a98341714bf935b52a37811a32d856be2c6980df90144cc026e83f4d266"), looks := true }, kinds := [], alts := [], laidByText := true, laidKinds := [.data, .data, .data, .sentinel, .sentinel], laidTests := true, laidLooks := .later }
def PeopleValidUptoCardSaid : Prop := Claim7.holds Tryz.pinned (.plain (OpenSpec.upto peopleValidSpec)) peopleValidUptoCard

/-- THE SECOND FORM's CARD OF 'restantelaw03.PeopleKnown'. -/
def peopleKnownUptoCard : Claim7 := { stood := { row := peopleKnownUptoRow, standIns := [], harness := (true, "f6f84a98341714bf935b52a37811a32d856be2c6980df90144cc026e83f4d266"), looks := true }, kinds := [], alts := [], laidByText := true, laidKinds := [.data, .data, .data, .sentinel, .sentinel], laidTests := true, laidLooks := .later }
def PeopleKnownUptoCardSaid : Prop := Claim7.holds Tryz.pinned (.plain (OpenSpec.upto peopleKnownSpec)) peopleKnownUptoCard
end Rows
end Go.Proofs.YtddhgengahlnkaaGreatDoor
