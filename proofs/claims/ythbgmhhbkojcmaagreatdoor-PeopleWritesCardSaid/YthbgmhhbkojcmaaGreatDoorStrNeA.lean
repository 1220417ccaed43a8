/- Texts that differ compare so. No conditions. -/
import Derived.Test.YthbgmhhbkojcmaaGreatDoorWordsA
namespace Go.Proofs.YthbgmhhbkojcmaaGreatDoor
open Go.RowKit

theorem strEq_false {a b : ByteArray} (h : a ≠ b) : (a.toList == b.toList) = false := by
  rw [beq_eq_false_iff_ne]
  intro e
  rw [ByteArray.toList_eq, ByteArray.toList_eq] at e
  apply h
  obtain ⟨a⟩ := a
  obtain ⟨b⟩ := b
  simpa using e
end Go.Proofs.YthbgmhhbkojcmaaGreatDoor
