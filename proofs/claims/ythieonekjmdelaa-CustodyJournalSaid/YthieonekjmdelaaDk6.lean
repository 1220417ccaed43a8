/- The contracts of Read, Write, Flush with an error, and of Stop. Conditions: the disk lies in memory. -/
import Derived.Test.YthieonekjmdelaaDk2
namespace Go.Proofs.Ythieonekjmdelaa
open Go.RowKit

section
variable {w : World} {p gs : Nat} {vp : Value} {S : List (List Int)} {P : List PW} {dn st : Bool} {ca : Int}
theorem secErr_cases (dn : Bool) (n : Nat) (k : Int) (h : secErr dn n k ≠ 0) : secErr dn n k = 70 ∨ secErr dn n k = 1 := by
  unfold secErr at h ⊢
  split
  · exact .inl rfl
  · rename_i h1
    rw [if_neg h1] at h
    split at h
    · exact absurd rfl h
    · rename_i h2
      rw [if_neg h2]
      exact .inr rfl
theorem write_bad (h : DiskAt w p gs vp S P dn st ca) (hS : S.length ≤ 65536) (k : Int) (A : Option Addr) (n c : Nat) (he : secErr dn S.length k ≠ 0) :
    Calls Try.prog 36 #[.pointer (some ⟨p, 0, none⟩), .int .i64 k, .slice A n c] w fun e w' => e = .returned (.int .i64 (secErr dn S.length k)) ∧ w = w' := by
  have HR := Lib.hid (refusesSector_any h hS k)
  have hx := secErr_cases _ _ _ he
  generalize secErr dn S.length k = x at hx HR
  clear h he
  rcases hx with rfl | rfl
  all_goals
    go_enter Try.func36, Try.ntmps36
    go_wp2_with fail
    refine HR.out.mono ?_
    rintro e w1 ⟨rfl, rfl⟩
    go_wp2_with fail
    go_ret
    exact ⟨rfl, rfl⟩
theorem write_long (h : DiskAt w p gs vp S P dn st ca) (hS : S.length ≤ 65536) (k : Int) (A : Option Addr) (n c : Nat) (he : secErr dn S.length k = 0) (hn : 64 < n) :
    Calls Try.prog 36 #[.pointer (some ⟨p, 0, none⟩), .int .i64 k, .slice A n c] w fun e w' => e = .returned (.int .i64 2) ∧ w = w' := by
  have HR := Lib.hid (refusesSector_any h hS k)
  have hn' : (64 : Int) < (n : Int) := by omega
  rw [he] at HR
  clear h he
  go_enter Try.func36, Try.ntmps36
  go_wp2_with fail
  refine HR.out.mono ?_
  rintro e w1 ⟨rfl, rfl⟩
  go_wp2_with fail
  go_ret
  exact ⟨rfl, rfl⟩
theorem write_stop (h : DiskAt w p gs vp S P false true 0) (hS : S.length ≤ 65536) (k : Int) (A : Option Addr) (n c : Nat) (he : secErr false S.length k = 0) (hn : n ≤ 64) :
    Calls Try.prog 36 #[.pointer (some ⟨p, 0, none⟩), .int .i64 k, .slice A n c] w fun e w' => e = .returned (.int .i64 70) ∧ DiskAt w' p gs vp S P true true 0 ∧ Keeps (fun i => i = p) w w' := by
  have HR := Lib.hid (refusesSector_any h hS k)
  have HF := Lib.hid (fails_stop h)
  have hn' : ¬ (64 : Int) < (n : Int) := by omega
  rw [he] at HR
  clear h he
  go_enter Try.func36, Try.ntmps36
  go_wp2_with fail
  refine HR.out.mono ?_
  rintro e w1 ⟨rfl, rfl⟩
  go_wp2_with fail
  refine HF.out.mono ?_
  rintro e w2 ⟨rfl, hD, hK⟩
  have HD := Lib.hid hD
  have HK := Lib.hid hK
  clear hD hK HR HF
  go_wp2_with fail
  go_ret
  exact ⟨rfl, HD.out, HK.out⟩
theorem flush_down (h : DiskAt w p gs vp S P true st ca) :
    Calls Try.prog 25 #[.pointer (some ⟨p, 0, none⟩)] w fun e w' => e = .returned (.int .i64 70) ∧ w = w' := by
  have HR := Lib.hid (refuses_any h)
  clear h
  go_enter Try.func25, Try.ntmps25
  go_wp2_with fail
  refine HR.out.mono ?_
  rintro e w1 ⟨rfl, rfl⟩
  go_wp2_with fail
  go_ret
  exact ⟨rfl, rfl⟩
theorem flush_stop (h : DiskAt w p gs vp S P false true 0) :
    Calls Try.prog 25 #[.pointer (some ⟨p, 0, none⟩)] w fun e w' => e = .returned (.int .i64 70) ∧ DiskAt w' p gs vp S P true true 0 ∧ Keeps (fun i => i = p) w w' := by
  have HR := Lib.hid (refuses_any h)
  have HF := Lib.hid (fails_stop h)
  clear h
  go_enter Try.func25, Try.ntmps25
  go_wp2_with fail
  refine HR.out.mono ?_
  rintro e w1 ⟨rfl, rfl⟩
  go_wp2_with fail
  refine HF.out.mono ?_
  rintro e w2 ⟨rfl, hD, hK⟩
  have HD := Lib.hid hD
  have HK := Lib.hid hK
  clear hD hK HR HF
  go_wp2_with fail
  go_ret
  exact ⟨rfl, HD.out, HK.out⟩
theorem stop_down (h : DiskAt w p gs vp S P true st ca) (n : Int) :
    Calls Try.prog 14 #[.pointer (some ⟨p, 0, none⟩), .int .i64 n] w fun e w' => e = .returned (.int .i64 70) ∧ w = w' := by
  have HR := Lib.hid (refuses_any h)
  clear h
  go_enter Try.func14, Try.ntmps14
  go_wp2_with fail
  refine HR.out.mono ?_
  rintro e w1 ⟨rfl, rfl⟩
  go_wp2_with fail
  go_ret
  exact ⟨rfl, rfl⟩
theorem stop_neg (h : DiskAt w p gs vp S P false st ca) (n : Int) (hn : n < 0) :
    Calls Try.prog 14 #[.pointer (some ⟨p, 0, none⟩), .int .i64 n] w fun e w' => e = .returned (.int .i64 1) ∧ w = w' := by
  have HR := Lib.hid (refuses_any h)
  clear h
  go_enter Try.func14, Try.ntmps14
  go_wp2_with fail
  refine HR.out.mono ?_
  rintro e w1 ⟨rfl, rfl⟩
  go_wp2_with fail
  go_ret
  exact ⟨rfl, rfl⟩
theorem stop_ok (h : DiskAt w p gs vp S P false st ca) (n : Int) (hn : 0 ≤ n) :
    Calls Try.prog 14 #[.pointer (some ⟨p, 0, none⟩), .int .i64 n] w fun e w' => e = .returned (.int .i64 0) ∧ DiskAt w' p gs vp S P false true n ∧ Keeps (fun i => i = p) w w' := by
  have HR := Lib.hid (refuses_any h)
  have c3 := h.blk.cell 3
  have c4 := h.blk.cell 4
  have f3 := h.blk.frozen 3
  have f4 := h.blk.frozen 4
  have zp := h.blk.lt
  have HD := Lib.hid ((h.put (dn' := false) (st' := true) (ca' := ca) 3 (.bool true) rfl).put (dn' := false) (st' := true) (ca' := n) 4 (.int .i64 n) rfl)
  have HK := Lib.hid ((((Keeps.refl (fun i => i = p) w).setCell (p := ⟨p, 3, none⟩) (fun _ => rfl) (.bool true)).setCell (p := ⟨p, 4, none⟩) (fun _ => rfl) (.int .i64 n)))
  have hn' : ¬ n < 0 := by omega
  simp at c3 c4
  clear h
  go_enter Try.func14, Try.ntmps14
  go_wp2_with fail
  refine HR.out.mono ?_
  rintro e w1 ⟨rfl, rfl⟩
  go_wp2_with fail
  go_ret
  exact ⟨rfl, HD.out, HK.out⟩
end
end Go.Proofs.Ythieonekjmdelaa
