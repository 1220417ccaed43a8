/- The contracts of a disk's small functions: within, refuses, refusesSector, fails, Down, Flush, Stop, NewDisk. Conditions: the disk lies in memory. -/
import Derived.Test.YthieonekjmdelaaDisk
namespace Go.Proofs.Ythieonekjmdelaa
open Go.RowKit

def withinB (n a b : Int) : Bool := decide (a ≤ n) && decide (n ≤ b)
theorem within_any (n a b : Int) (w : World) :
    Calls Try.prog 20 #[.int .i64 n, .int .i64 a, .int .i64 b] w fun e w' => e = .returned (.bool (withinB n a b)) ∧ w = w' := by
  unfold withinB
  by_cases h1 : a ≤ n
  · by_cases h2 : n ≤ b
    · rw [decide_eq_true h1, decide_eq_true h2]
      have d1 := decide_eq_true h1
      have d2 := decide_eq_true h2
      go_enter Try.func20, Try.ntmps20
      go_wp2_with fail
      go_ret
      exact ⟨rfl, rfl⟩
    · rw [decide_eq_true h1, decide_eq_false h2]
      have d1 := decide_eq_true h1
      have d2 := decide_eq_false h2
      go_enter Try.func20, Try.ntmps20
      go_wp2_with fail
      go_ret
      exact ⟨rfl, rfl⟩
  · rw [decide_eq_false h1]
    have d1 := decide_eq_false h1
    go_enter Try.func20, Try.ntmps20
    go_wp2_with fail
    go_ret
    exact ⟨rfl, rfl⟩
section
variable {w : World} {p gs : Nat} {vp : Value} {S : List (List Int)} {P : List PW} {dn st : Bool} {ca : Int}
theorem refuses_any (h : DiskAt w p gs vp S P dn st ca) :
    Calls Try.prog 26 #[.pointer (some ⟨p, 0, none⟩)] w fun e w' => e = .returned (.int .i64 (if dn = true then 70 else 0)) ∧ w = w' := by
  have c2 := h.blk.cell 2
  simp at c2
  cases dn
  · go_enter Try.func26, Try.ntmps26
    go_wp2_with fail
    go_ret
    exact ⟨rfl, rfl⟩
  · go_enter Try.func26, Try.ntmps26
    go_wp2_with fail
    go_ret
    exact ⟨rfl, rfl⟩
/-- The error of a sector's number. -/
def secErr (dn : Bool) (n : Nat) (k : Int) : Int := if dn = true then 70 else if withinB k 0 ((n : Int) - 1) = true then 0 else 1
theorem refusesSector_any (h : DiskAt w p gs vp S P dn st ca) (hS : S.length ≤ 65536) (k : Int) :
    Calls Try.prog 37 #[.pointer (some ⟨p, 0, none⟩), .int .i64 k] w fun e w' => e = .returned (.int .i64 (secErr dn S.length k)) ∧ w = w' := by
  have c0 := h.blk.cell 0
  simp at c0
  have HR := Lib.hid (refuses_any h)
  have HW := Lib.hid (fun W => within_any k 0 ((S.length : Int) - 1) W)
  cases dn
  · cases hw : withinB k 0 ((S.length : Int) - 1)
    · rw [hw] at HW
      have HE : Hid (secErr false S.length k = 1) := Lib.hid (by unfold secErr; rw [hw]; rfl)
      clear hw
      go_enter Try.func37, Try.ntmps37
      go_wp2_with fail
      refine HR.out.mono ?_
      rintro e w1 ⟨rfl, rfl⟩
      go_wp2_with fail
      refine (HW.out _).mono ?_
      rintro e w2 ⟨rfl, rfl⟩
      go_wp2_with fail
      go_ret
      exact ⟨by rw [HE.out]; rfl, rfl⟩
    · rw [hw] at HW
      have HE : Hid (secErr false S.length k = 0) := Lib.hid (by unfold secErr; rw [hw]; rfl)
      clear hw
      go_enter Try.func37, Try.ntmps37
      go_wp2_with fail
      refine HR.out.mono ?_
      rintro e w1 ⟨rfl, rfl⟩
      go_wp2_with fail
      refine (HW.out _).mono ?_
      rintro e w2 ⟨rfl, rfl⟩
      go_wp2_with fail
      go_ret
      exact ⟨by rw [HE.out]; rfl, rfl⟩
  · have HE : Hid (secErr true S.length k = 70) := Lib.hid rfl
    go_enter Try.func37, Try.ntmps37
    go_wp2_with fail
    refine HR.out.mono ?_
    rintro e w1 ⟨rfl, rfl⟩
    go_wp2_with fail
    go_ret
    exact ⟨by rw [HE.out]; rfl, rfl⟩
theorem down_any (h : DiskAt w p gs vp S P dn st ca) :
    Calls Try.prog 13 #[.pointer (some ⟨p, 0, none⟩)] w fun e w' => e = .returned (.bool dn) ∧ w = w' := by
  have c2 := h.blk.cell 2
  simp at c2
  cases dn
  · go_enter Try.func13, Try.ntmps13
    go_wp2_with fail
    go_ret
    exact ⟨rfl, rfl⟩
  · go_enter Try.func13, Try.ntmps13
    go_wp2_with fail
    go_ret
    exact ⟨rfl, rfl⟩
end
end Go.Proofs.Ythieonekjmdelaa
