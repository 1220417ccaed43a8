/-
  DERIVED. GIVEN WITH THE SEED: THE CARDS: each row of YthgfbaekmhpiaaaGreatDoorRows.lean that lists a variable, with what it lists TIED to the program's text (the seventh form; the later family's looks); each row that meets fmt, with fmt's text TOLD by the authors' own Lean function (tested against real Go, not proved from fmt's source: count such statements apart). THE CARD IS WHAT COUNTS. Prove the row's statement (the work); the ties are given (YthgfbaekmhpiaaaGreatDoorTie.lean); close each card by the builder's one call (the guide's Derived/Test/ToyasCard.lean, 'card_holds'). Laid BY PROGRAM, IN A SANDBOX (cutbox-door.mjs). By AI agents, Wed Nov 11 2026. No macro, syntax, notation, axiom, sorry.
-/
import Derived.Test.YthgfbaekmhpiaaaGreatDoorRows
import GoSem.ClaimSeven
namespace Go.Proofs.YthgfbaekmhpiaaaGreatDoor
namespace Rows

/-- THE TIED CARD OF 'restantelaw07.CustodyNet'. -/
def custodyNetCard : Claim7 := { stood := { row := custodyNetRow, standIns := [], harness := (true, "762f6a77191b2c6fa89c3e162c7fdbbfdf2819c6ed9b835739325da4abe7af90"), looks := true }, kinds := [], alts := [], laidByText := true, laidKinds := [.data, .data, .data, .data, .sentinel, .sentinel, .pinned], laidTests := true, laidLooks := .later }
def CustodyNetCardSaid : Prop := Claim7.holds Tryz.pinned (.plain (OpenSpec.ofChange custodyNetSpec)) custodyNetCard

/-- THE TIED CARD OF 'restantelaw07.CustodyBagText'. -/
def custodyBagTextCard : Claim7 := { stood := { row := custodyBagTextRow, standIns := [], harness := (true, "762f6a77191b2c6fa89c3e162c7fdbbfdf2819c6ed9b835739325da4abe7af90"), looks := true }, kinds := [], alts := [], laidByText := true, laidKinds := [.data, .data, .data, .data, .sentinel, .sentinel, .pinned], laidTests := true, laidLooks := .later }
def CustodyBagTextCardSaid : Prop := Claim7.holds Tryz.pinned (.plain (OpenSpec.ofChange custodyBagTextSpec)) custodyBagTextCard

/-- THE TIED CARD OF 'restantelaw07.CustodyBagBack'. -/
def custodyBagBackCard : Claim7 := { stood := { row := custodyBagBackRow, standIns := [], harness := (true, "762f6a77191b2c6fa89c3e162c7fdbbfdf2819c6ed9b835739325da4abe7af90"), looks := true }, kinds := [], alts := [], laidByText := true, laidKinds := [.data, .data, .data, .data, .sentinel, .sentinel, .pinned], laidTests := true, laidLooks := .later }
def CustodyBagBackCardSaid : Prop := Claim7.holds Tryz.pinned (.plain (OpenSpec.ofChange custodyBagBackSpec)) custodyBagBackCard

/-- THE TIED CARD OF 'restantelaw07.CustodyNil'. -/
def custodyNilCard : Claim7 := { stood := { row := custodyNilRow, standIns := [], harness := (true, "762f6a77191b2c6fa89c3e162c7fdbbfdf2819c6ed9b835739325da4abe7af90"), looks := true }, kinds := [], alts := [], laidByText := true, laidKinds := [.data, .data, .data, .data, .sentinel, .sentinel, .pinned], laidTests := true, laidLooks := .later }
def CustodyNilCardSaid : Prop := Claim7.holds Tryz.pinned (.plain (OpenSpec.ofChange custodyNilSpec)) custodyNilCard

/-- THE SECOND FORM's CARD OF 'restantelaw07.CustodyNet'. -/
def custodyNetUptoCard : Claim7 := { stood := { row := custodyNetUptoRow, standIns := [], harness := (true, "762f6a77191b2c6fa89c3e162c7fdbbfdf2819c6ed9b835739325da4abe7af90"), looks := true }, kinds := [], alts := [], laidByText := true, laidKinds := [.data, .data, .data, .data, .sentinel, .sentinel, .pinned], laidTests := true, laidLooks := .later }
def CustodyNetUptoCardSaid : Prop := Claim7.holds Tryz.pinned (.plain (OpenSpec.upto custodyNetSpec)) custodyNetUptoCard

/-- THE SECOND FORM's CARD OF 'restantelaw07.CustodyBagText'. -/
def custodyBagTextUptoCard : Claim7 := { stood := { row := custodyBagTextUptoRow, standIns := [], harness := (true, "762f6a77191b2c6fa89c3e162c7fdbbfdf2819c6ed9b835739325da4abe7af90"), looks := true }, kinds := [], alts := [], laidByText := true, laidKinds := [.data, .data, .data, .data, .sentinel, .sentinel, .pinned], laidTests := true, laidLooks := .later }
def CustodyBagTextUptoCardSaid : Prop := Claim7.holds Tryz.pinned (.plain (OpenSpec.upto custodyBagTextSpec)) custodyBagTextUptoCard

/-- THE SECOND FORM's CARD OF 'restantelaw07.CustodyBagBack'. -/
def custodyBagBackUptoCard : Claim7 := { stood := { row := custodyBagBackUptoRow, standIns := [], harness := (true, "762f6a77191b2c6fa89c3e162c7fdbbfdf2819c6ed9b835739325da4abe7af90"), looks := true }, kinds := [], alts := [], laidByText := true, laidKinds := [.data, .data, .data, .data, .sentinel, .sentinel, .pinned], laidTests := true, laidLooks := .later }
def CustodyBagBackUptoCardSaid : Prop := Claim7.holds Tryz.pinned (.plain (OpenSpec.upto custodyBagBackSpec)) custodyBagBackUptoCard

/-- THE SECOND FORM's CARD OF 'restantelaw07.CustodyNil'. -/
def custodyNilUptoCard : Claim7 := { stood := { row := custodyNilUptoRow, standIns := [], harness := (true, "762f6a77191b2c6fa89c3e162c7fdbbfdf2819c6ed9b835739325da4abe7af90"), looks := true }, kinds := [], alts := [], laidByText := true, laidKinds := [.data, .data, .data, .data, .sentinel, .sentinel, .pinned], laidTests := true, laidLooks := .later }
def CustodyNilUptoCardSaid : Prop := Claim7.holds Tryz.pinned (.plain (OpenSpec.upto custodyNilSpec)) custodyNilUptoCard
end Rows
end Go.Proofs.YthgfbaekmhpiaaaGreatDoor
