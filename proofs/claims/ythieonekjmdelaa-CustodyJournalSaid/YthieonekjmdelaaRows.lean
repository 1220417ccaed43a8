/-
  No cell of these rows narrows 'for every input' (looked for: loops, veiled, ifaces, maps, wideKeys, modest, calm, conditions, laid).
  DERIVED. THE GIVEN ROWS OF THIS SEAT. 3 by the template 'for every input the law returns true; each argument reads behind the call as it read before'; 0 by the template 'total and deterministic' (their statements: YthieonekjmdelaaTotals.lean).
  GIVEN WITH THE SEED: the statements are not yours to turn. If you find one false, say at which input.
  Laid BY PROGRAM, IN A SANDBOX (cutbox-rows.mjs): the forced cells as the released guide's own fill.sh prints them over the translation 0eb29ec8416b2530… (all of the seat's roots in one cut). By AI agents, Wed Nov 11 2026. No macro, syntax, notation, axiom, sorry.
-/
import Derived.Test.YthieonekjmdelaaChecked
import GoSem.Claim
import GoSem.ClaimJoined
import GoSem.ClaimMapViews
import Derived.JoinedTies
import Derived.KernelRfl
namespace Go.Proofs.Ythieonekjmdelaa
/- THE CELL 'sum', in the pinned program and in every row, IS THE sha256 OF THE DUMP (.gsa) THAT YthieonekjmdelaaProg.lean LOADS. Nothing in Lean hashes anything: it is a label: what it is worth is what the hold of that sum in a sandbox is worth. -/
noncomputable def Try.pinned : Pinned := { name := "ythieonekjmdelaa", sum := "0eb29ec8416b25304374245567ebf6428b9d64bb31f454e481e8dc4874685984", checked := Try.checked }
namespace Rows
def none {H : Type} : Left H := { results := [], args := [] }

/-- 'restantelaw07.CustodyJournal': WHATEVER THE INPUT: true; the input reads as it did. -/
def custodyJournalSpec : ChangeSpec := { name := "custodyJournal", fn := fun _ => fun
  | [d1, d2] => { results := [.lit (.bool true)], args := [d1, d2] }
  | _ => none }
def custodyJournalRow : OpenClaim := { program := "ythieonekjmdelaa", sum := "0eb29ec8416b25304374245567ebf6428b9d64bb31f454e481e8dc4874685984", func := "restante/restantelaw07.CustodyJournal", spec := "custodyJournal", unfollowed := true, recurses := true, apart := false }
def CustodyJournalSaid : Prop := custodyJournalRow.holds Try.pinned (OpenSpec.ofChange custodyJournalSpec)

/-- ITS FALSE NEIGHBOUR: 'it returns false'. Refute it at one input. -/
def custodyJournalWrong : ChangeSpec := { name := "custodyJournal", fn := fun _ => fun
  | [d1, d2] => { results := [.lit (.bool false)], args := [d1, d2] }
  | _ => none }
def CustodyJournalWrongFalsely : Prop := custodyJournalRow.holds Try.pinned (OpenSpec.ofChange custodyJournalWrong)

/-- 'restantelaw07.CustodyPrefix': WHATEVER THE INPUT: true; the input reads as it did. -/
def custodyPrefixSpec : ChangeSpec := { name := "custodyPrefix", fn := fun _ => fun
  | [d1, d2, d3, d4, d5] => { results := [.lit (.bool true)], args := [d1, d2, d3, d4, d5] }
  | _ => none }
def custodyPrefixRow : OpenClaim := { program := "ythieonekjmdelaa", sum := "0eb29ec8416b25304374245567ebf6428b9d64bb31f454e481e8dc4874685984", func := "restante/restantelaw07.CustodyPrefix", spec := "custodyPrefix", unfollowed := true, recurses := true, apart := false }
def CustodyPrefixSaid : Prop := custodyPrefixRow.holds Try.pinned (OpenSpec.ofChange custodyPrefixSpec)

/-- ITS FALSE NEIGHBOUR: 'it returns false'. Refute it at one input. -/
def custodyPrefixWrong : ChangeSpec := { name := "custodyPrefix", fn := fun _ => fun
  | [d1, d2, d3, d4, d5] => { results := [.lit (.bool false)], args := [d1, d2, d3, d4, d5] }
  | _ => none }
def CustodyPrefixWrongFalsely : Prop := custodyPrefixRow.holds Try.pinned (OpenSpec.ofChange custodyPrefixWrong)

/-- 'restantelaw07.CustodyRoom': WHATEVER THE INPUT: true; the input reads as it did. -/
def custodyRoomSpec : ChangeSpec := { name := "custodyRoom", fn := fun _ => fun
  | [d1, d2] => { results := [.lit (.bool true)], args := [d1, d2] }
  | _ => none }
def custodyRoomRow : OpenClaim := { program := "ythieonekjmdelaa", sum := "0eb29ec8416b25304374245567ebf6428b9d64bb31f454e481e8dc4874685984", func := "restante/restantelaw07.CustodyRoom", spec := "custodyRoom", unfollowed := true, recurses := true, apart := false }
def CustodyRoomSaid : Prop := custodyRoomRow.holds Try.pinned (OpenSpec.ofChange custodyRoomSpec)

/-- ITS FALSE NEIGHBOUR: 'it returns false'. Refute it at one input. -/
def custodyRoomWrong : ChangeSpec := { name := "custodyRoom", fn := fun _ => fun
  | [d1, d2] => { results := [.lit (.bool false)], args := [d1, d2] }
  | _ => none }
def CustodyRoomWrongFalsely : Prop := custodyRoomRow.holds Try.pinned (OpenSpec.ofChange custodyRoomWrong)

/- THE SECOND FORM. 'bulk': how many values and letters a reading holds, each counted each time it is reached (what is shared counts as often as it is met; a slice's spare places count too). A statement '..UptoSaid' is the law's where the arguments, and the package variables that the reading takes, are together of bulk at most 1048576: NARROWER than '..Said'. Prove '..Said' where nothing that the law and all that it calls make is longer than what came in: it says more and counts as full. Else prove '..UptoSaid'. A law counts once. -/
mutual
def uptoBulk {H : Type} : DataW H → Nat
  | .lit (.string bytes) => bytes.length + 1
  | .lit _ => 1
  | .nil => 1
  | .ptr d => uptoBulk d + 1
  | .slice elems spare => uptoBulkAll elems + uptoBulkAll spare + 1
  | .agg parts => uptoBulkAll parts + 1
  | .iface _ d => uptoBulk d + 1
  | .map entries => uptoBulkEntries entries + 1
  | .held _ => 1
def uptoBulkAll {H : Type} : List (DataW H) → Nat
  | [] => 0
  | d :: r => uptoBulk d + uptoBulkAll r
def uptoBulkEntries {H : Type} : List (Lit × DataW H) → Nat
  | [] => 0
  | x :: r => uptoBulkEntry x + uptoBulkEntries r
def uptoBulkEntry {H : Type} : Lit × DataW H → Nat
  | (.string bytes, d) => bytes.length + uptoBulk d + 1
  | (_, d) => uptoBulk d + 1
 end
def uptoSmall : (H : Type) → List (DataW H) → Bool := fun _ ds => decide (uptoBulkAll ds ≤ 1048576)
def OpenSpec.upto (s : _root_.Go.ChangeSpec) : _root_.Go.OpenSpec := { _root_.Go.OpenSpec.ofChange s with cond := some uptoSmall }

/-- 'restantelaw07.CustodyJournal', WHERE WHAT IT READS IS OF BULK AT MOST 1048576: true; the input reads as it did. -/
def custodyJournalUptoRow : OpenClaim := { program := "ythieonekjmdelaa", sum := "0eb29ec8416b25304374245567ebf6428b9d64bb31f454e481e8dc4874685984", func := "restante/restantelaw07.CustodyJournal", spec := "custodyJournal", unfollowed := true, recurses := true, apart := false, narrowed := true }
def CustodyJournalUptoSaid : Prop := custodyJournalUptoRow.holds Try.pinned (OpenSpec.upto custodyJournalSpec)

/-- 'restantelaw07.CustodyPrefix', WHERE WHAT IT READS IS OF BULK AT MOST 1048576: true; the input reads as it did. -/
def custodyPrefixUptoRow : OpenClaim := { program := "ythieonekjmdelaa", sum := "0eb29ec8416b25304374245567ebf6428b9d64bb31f454e481e8dc4874685984", func := "restante/restantelaw07.CustodyPrefix", spec := "custodyPrefix", unfollowed := true, recurses := true, apart := false, narrowed := true }
def CustodyPrefixUptoSaid : Prop := custodyPrefixUptoRow.holds Try.pinned (OpenSpec.upto custodyPrefixSpec)

/-- 'restantelaw07.CustodyRoom', WHERE WHAT IT READS IS OF BULK AT MOST 1048576: true; the input reads as it did. -/
def custodyRoomUptoRow : OpenClaim := { program := "ythieonekjmdelaa", sum := "0eb29ec8416b25304374245567ebf6428b9d64bb31f454e481e8dc4874685984", func := "restante/restantelaw07.CustodyRoom", spec := "custodyRoom", unfollowed := true, recurses := true, apart := false, narrowed := true }
def CustodyRoomUptoSaid : Prop := custodyRoomUptoRow.holds Try.pinned (OpenSpec.upto custodyRoomSpec)

end Rows
end Go.Proofs.Ythieonekjmdelaa
