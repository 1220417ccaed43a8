/-
  DERIVED. GIVEN WITH THE SEED: THE CARDS: each row of YtgbnbolhmghhlaaGreatDoorRows.lean that lists a variable, with what it lists TIED to the program's text (the seventh form; the later family's looks); each row that meets fmt, with fmt's text TOLD by the authors' own Lean function (tested against real Go, not proved from fmt's source: count such statements apart). THE CARD IS WHAT COUNTS. Prove the row's statement (the work); the ties are given (YtgbnbolhmghhlaaGreatDoorTie.lean); close each card by the builder's one call (the guide's Derived/Test/ToyasCard.lean, 'card_holds'). Laid BY PROGRAM, IN A SANDBOX (cutbox-door.mjs). By AI agents, Wed Nov 11 2026. No macro, syntax, notation, axiom, sorry.
-/
import Derived.Test.YtgbnbolhmghhlaaGreatDoorRows
import GoSem.ClaimSeven
namespace Go.Proofs.YtgbnbolhmghhlaaGreatDoor
namespace Rows

/-- THE TIED CARD OF 'restantelaw03.PeopleOrders'. -/
def peopleOrdersCard : Claim7 := { stood := { row := peopleOrdersRow, standIns := [], harness := (true, "70b1ab6a2b34b8896b094c3d7ead4d9346eb764848daeeb7b5d90b6463ae68c9"), looks := true }, kinds := [], alts := [], laidByText := true, laidKinds := [.data, .data, .data, .sentinel, .sentinel], laidTests := true, laidLooks := .later }
def PeopleOrdersCardSaid : Prop := Claim7.holds Tryz.pinned (.plain (OpenSpec.ofChange peopleOrdersSpec)) peopleOrdersCard

/-- THE TIED CARD OF 'restantelaw03.PeopleSupersedes'. -/
def peopleSupersedesCard : Claim7 := { stood := { row := peopleSupersedesRow, standIns := [], harness := (true, "70b1ab6a2b34b8896b094c3d7ead4d9346eb764848daeeb7b5d90b6463ae68c9"), looks := true }, kinds := [], alts := [], laidByText := true, laidKinds := [.data, .data, .data, .sentinel, .sentinel], laidTests := true, laidLooks := .later }
def PeopleSupersedesCardSaid : Prop := Claim7.holds Tryz.pinned (.plain (OpenSpec.ofChange peopleSupersedesSpec)) peopleSupersedesCard

/-- THE TIED CARD OF 'restantelaw03.PeopleFollows'. -/
def peopleFollowsCard : Claim7 := { stood := { row := peopleFollowsRow, standIns := [], harness := (true, "70b1ab6a2b34b8896b094c3d7ead4d9346eb764848daeeb7b5d90b6463ae68c9"), looks := true }, kinds := [], alts := [], laidByText := true, laidKinds := [.data, .data, .data, .sentinel, .sentinel], laidTests := true, laidLooks := .later }
def PeopleFollowsCardSaid : Prop := Claim7.holds Tryz.pinned (.plain (OpenSpec.ofChange peopleFollowsSpec)) peopleFollowsCard

/-- THE TIED CARD OF 'restantelaw03.PeopleRoutes'. -/
def peopleRoutesCard : Claim7 := { stood := { row := peopleRoutesRow, standIns := [], harness := (true, "70b1ab6a2b34b8896b094c3d7ead4d9346eb764848daeeb7b5d90b6463ae68c9"), looks := true }, kinds := [], alts := [], laidByText := true, laidKinds := [.data, .data, .data, .sentinel, .sentinel], laidTests := true, laidLooks := .later }
def PeopleRoutesCardSaid : Prop := Claim7.holds Tryz.pinned (.plain (OpenSpec.ofChange peopleRoutesSpec)) peopleRoutesCard

/-- THE TIED CARD OF 'restantelaw03.PeopleEnds'. -/
def peopleEndsCard : Claim7 := { stood := { row := peopleEndsRow, standIns := [], harness := (true, "70b1ab6a2b34b8896b094c3d7ead4d9346eb764848daeeb7b5d90b6463ae68c9"), looks := true }, kinds := [], alts := [], laidByText := true, laidKinds := [.data, .data, .data, .sentinel, .sentinel], laidTests := true, laidLooks := .later }
def PeopleEndsCardSaid : Prop := Claim7.holds Tryz.pinned (.plain (OpenSpec.ofChange peopleEndsSpec)) peopleEndsCard

/-- THE TIED CARD OF 'restantelaw03.PeopleHouses'. -/
def peopleHousesCard : Claim7 := { stood := { row := peopleHousesRow, standIns := [], harness := (true, "70b1ab6a2b34b8896b094c3d7ead4d9346eb764848daeeb7b5d90b6463ae68c9"), looks := true }, kinds := [], alts := [], laidByText := true, laidKinds := [.data, .data, .data, .sentinel, .sentinel], laidTests := true, laidLooks := .later }
def PeopleHousesCardSaid : Prop := Claim7.holds Tryz.pinned (.plain (OpenSpec.ofChange peopleHousesSpec)) peopleHousesCard

/-- THE SECOND FORM's CARD OF 'restantelaw03.PeopleOrders'. -/
def peopleOrdersUptoCard : Claim7 := { stood := { row := peopleOrdersUptoRow, standIns := [], harness := (true, "70b1ab6a2b34b8896b094c3d7ead4d9346eb764848daeeb7b5d90b6463ae68c9"), looks := true }, kinds := [], alts := [], laidByText := true, laidKinds := [.data, .data, .data, .sentinel, .sentinel], laidTests := true, laidLooks := .later }
def PeopleOrdersUptoCardSaid : Prop := Claim7.holds Tryz.pinned (.plain (OpenSpec.upto peopleOrdersSpec)) peopleOrdersUptoCard

/-- THE SECOND FORM's CARD OF 'restantelaw03.PeopleSupersedes'. -/
def peopleSupersedesUptoCard : Claim7 := { stood := { row := peopleSupersedesUptoRow, standIns := [], harness := (true, "70b1ab6a2b34b8896b094c3d7ead4d9346eb764848daeeb7b5d90b6463ae68c9"), looks := true }, kinds := [], alts := [], laidByText := true, laidKinds := [.data, .data, .data, .sentinel, .sentinel], laidTests := true, laidLooks := .later }
def PeopleSupersedesUptoCardSaid : Prop := Claim7.holds Tryz.pinned (.plain (OpenSpec.upto peopleSupersedesSpec)) peopleSupersedesUptoCard

/-- THE SECOND FORM's CARD OF 'restantelaw03.PeopleFollows'. -/
def peopleFollowsUptoCard : Claim7 := { stood := { row := peopleFollowsUptoRow, standIns := [], harness := (true, "70b1ab6a2b34b8896b094c3d7ead4d9346eb764848daeeb7b5d90b6463ae68c9"), looks := true }, kinds := [], alts := [], laidByText := true, laidKinds := [.data, .data, .data, .sentinel, .sentinel], laidTests := true, laidLooks := .later }
def PeopleFollowsUptoCardSaid : Prop := Claim7.holds Tryz.pinned (.plain (OpenSpec.upto peopleFollowsSpec)) peopleFollowsUptoCard

/-- THE SECOND FORM's CARD OF 'restantelaw03.PeopleRoutes'. -/
def peopleRoutesUptoCard : Claim7 := { stood := { row := peopleRoutesUptoRow, standIns := [], harness := (true, "70b1ab6a2b34b8896b094c3d7ead4d9346eb764848daeeb7b5d90b6463ae68c9"), looks := true }, kinds := [], alts := [], laidByText := true, laidKinds := [.data, .data, .data, .sentinel, .sentinel], laidTests := true, laidLooks := .later }
def PeopleRoutesUptoCardSaid : Prop := Claim7.holds Tryz.pinned (.plain (OpenSpec.upto peopleRoutesSpec)) peopleRoutesUptoCard

/-- THE SECOND FORM's CARD OF 'restantelaw03.PeopleEnds'. -/
def peopleEndsUptoCard : Claim7 := { stood := { row := peopleEndsUptoRow, standIns := [], harness := (true, "70b1ab6a2b34b8896b094c3d7ead4d9346eb764848daeeb7b5d90b6463ae68c9"), looks := true }, kinds := [], alts := [], laidByText := true, laidKinds := [.data, .data, .data, .sentinel, .sentinel], laidTests := true, laidLooks := .later }
def PeopleEndsUptoCardSaid : Prop := Claim7.holds Tryz.pinned (.plain (OpenSpec.upto peopleEndsSpec)) peopleEndsUptoCard

/-- THE SECOND FORM's CARD OF 'restantelaw03.PeopleHouses'. -/
def peopleHousesUptoCard : Claim7 := { stood := { row := peopleHousesUptoRow, standIns := [], harness := (true, "70b1ab6a2b34b8896b094c3d7ead4d9346eb764848daeeb7b5d90b6463ae68c9"), looks := true }, kinds := [], alts := [], laidByText := true, laidKinds := [.data, .data, .data, .sentinel, .sentinel], laidTests := true, laidLooks := .later }
def PeopleHousesUptoCardSaid : Prop := Claim7.holds Tryz.pinned (.plain (OpenSpec.upto peopleHousesSpec)) peopleHousesUptoCard
end Rows
end Go.Proofs.YtgbnbolhmghhlaaGreatDoor
