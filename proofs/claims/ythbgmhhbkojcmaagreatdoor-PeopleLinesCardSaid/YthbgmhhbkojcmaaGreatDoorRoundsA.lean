/- PeopleLines returns true for every entry and every line, and leaves its arguments as they were; the package variables that it names start as the program's text lays them (the card ties them). -/
import Derived.Test.YthbgmhhbkojcmaaGreatDoorAliveA
import Derived.Test.YthbgmhhbkojcmaaGreatDoorRefLineA
import Derived.Test.YthbgmhhbkojcmaaGreatDoorLaidOfA
namespace Go.Proofs.YthbgmhhbkojcmaaGreatDoor
open Go.RowKit Go.Shelf

theorem ck_kindEnt0 : ckE (kindEnt 0) ≠ 0 := by decide +kernel
theorem lit_size {x : Ent} (h : ckE x = 0) : (lineB x).size ≤ 281474976710656 := by
  have := line_len h
  omega
/-- A line that Read reads is not longer than its own. -/
theorem read_name {s : ByteArray} {x : Ent} (h : readE s = some x) : x.name.size ≤ maxLen := by
  have h1 := (readE_of h).1
  by_cases hk : x.kind = 1
  · have := (whole_of_ck h1).2 hk
    unfold isN at this
    simp only [Bool.and_eq_true, decide_eq_true_eq] at this
    have h2 : x.name.data.toList.length = x.name.size := by simp
    unfold maxLen
    omega
  · have hw : onlyW x = x := by
      have h5 := (whole_of_ck h1).1
      unfold okE at h5
      simp only [Bool.and_eq_true, decide_eq_true_eq] at h5
      exact h5.2
    have hkk := kinds_of_ck h1
    have : x.name = ⟨#[]⟩ := by
      rw [← hw]
      unfold onlyW onlyOr
      rcases hkk with hk' | hk' | hk' | hk' | hk' | hk' | hk'
      · exact absurd hk' hk
      all_goals simp [hk']
    rw [this]
    unfold maxLen
    decide

set_option maxRecDepth 100000 in
set_option maxHeartbeats 16000000 in
theorem rounds_walk (x : Ent) (hn : x.name.size ≤ maxLen) (s : ByteArray) (hs : s.size ≤ 281474976710656) (w : World) (hE : ErrsAt w) (hT : PowAt w) (hm : MaxAt w) :
    Calls Tryz.prog 4 #[entVal x, .string s] w fun e w' => e = .returned (.bool true) ∧ Below w.heap.size w w' := by
  obtain ⟨S1, n1, K1, hS1⟩ : ∃ S1 n1, (∀ W, Below w.heap.size w W → Calls Tryz.prog 7 #[entVal x] W fun e w' => e = .returned (.tuple #[.string S1, .int .i64 n1]) ∧ Below W.heap.size W w') ∧ (n1 = 0 ∧ S1 = lineB x ∧ ckE x = 0 ∨ n1 ≠ 0 ∧ S1 = ⟨#[]⟩) := by
    refine ⟨_, _, fun W hW => write_all x hn W (hT.below hW), ?_⟩
    by_cases h : ckE x = 0
    · exact .inl ⟨h, by rw [if_pos h], h⟩
    · exact .inr ⟨h, by rw [if_neg h]⟩
  obtain ⟨y1, f1, K2, hy1⟩ : ∃ y1 f1, (∀ W, Below w.heap.size w W → Calls Tryz.prog 9 #[.string S1] W fun e w' => e = .returned (.tuple #[entVal y1, .int .i64 f1]) ∧ Below W.heap.size W w') ∧ (n1 = 0 → f1 = 0 ∧ y1 = x) := by
    have hz : S1.size ≤ 281474976710656 := by
      rcases hS1 with ⟨_, rfl, h⟩ | ⟨_, rfl⟩
      · exact lit_size h
      · exact Nat.zero_le _
    have hr : n1 = 0 → readE S1 = some x := fun h0 => by
      rcases hS1 with ⟨_, rfl, h⟩ | ⟨h, _⟩
      · exact read_back h
      · exact absurd h0 h
    cases h : readE S1 with
    | none =>
      refine ⟨kindEnt 0, 4, fun W hW => ?_, fun h0 => ?_⟩
      · have := read_all S1 hz W (hE.below hW) (hT.below hW)
        rwa [h] at this
      · rw [hr h0] at h
        cases h
    | some z =>
      refine ⟨z, 0, fun W hW => ?_, fun h0 => ⟨rfl, ?_⟩⟩
      · have := read_all S1 hz W (hE.below hW) (hT.below hW)
        rwa [h] at this
      · rw [hr h0] at h
        exact (Option.some.inj h).symm
  obtain ⟨z, g1, K3, hz1⟩ : ∃ z g1, (∀ W, Below w.heap.size w W → Calls Tryz.prog 9 #[.string s] W fun e w' => e = .returned (.tuple #[entVal z, .int .i64 g1]) ∧ Below W.heap.size W w') ∧ (g1 = 4 ∧ z = kindEnt 0 ∨ g1 = 0 ∧ readE s = some z) := by
    cases h : readE s with
    | none =>
      refine ⟨kindEnt 0, 4, fun W hW => ?_, .inl ⟨rfl, rfl⟩⟩
      have := read_all s hs W (hE.below hW) (hT.below hW)
      rwa [h] at this
    | some z =>
      refine ⟨z, 0, fun W hW => ?_, .inr ⟨rfl, rfl⟩⟩
      have := read_all s hs W (hE.below hW) (hT.below hW)
      rwa [h] at this
  obtain ⟨S4, n4, K4, hS4⟩ : ∃ S4 n4, (∀ W, Below w.heap.size w W → Calls Tryz.prog 7 #[entVal z] W fun e w' => e = .returned (.tuple #[.string S4, .int .i64 n4]) ∧ Below W.heap.size W w') ∧ (g1 = 0 → n4 = 0 ∧ S4 = s) := by
    have hzn : z.name.size ≤ maxLen := by
      rcases hz1 with ⟨_, rfl⟩ | ⟨_, h⟩
      · show 0 ≤ _
        exact Nat.zero_le _
      · exact read_name h
    refine ⟨_, _, fun W hW => write_all z hzn W (hT.below hW), fun h0 => ?_⟩
    rcases hz1 with ⟨rfl, _⟩ | ⟨_, h⟩
    · cases h0
    · obtain ⟨h1, h2⟩ := readE_of h
      exact ⟨h1, by rw [if_pos h1]; exact h2⟩
  have H5 : Hid (∀ W, Below w.heap.size w W → _) := Lib.hid fun W (hW : Below w.heap.size w W) => alive_any W (hm.below hm.lt hW)
  clear hE hT hm hn hs
  have hX0 := EntAt.new w x
  have hB0 : Below w.heap.size w (w.alloc (.cells (entCells x).toArray 23)) := (Below.refl _ _).alloc (Nat.le_refl _) _
  replace hS1 : n1 = 0 ∨ n1 ≠ 0 ∧ S1 = ⟨#[]⟩ := hS1.elim (fun h => .inl h.1) .inr
  replace hz1 : g1 = 4 ∧ z = kindEnt 0 ∨ g1 = 0 := hz1.elim .inl (fun h => .inr h.1)
  rcases hS1 with h0 | h0 <;> rcases hz1 with hz | hz
  · obtain ⟨rfl, rfl⟩ := hy1 h0
    subst h0
    have hne := neEnt y1 y1
    have hng := fun a b => noGuardEnt .neq a b y1 y1
    simp only [decide_true, Bool.not_true] at hne
    obtain ⟨rfl, rfl⟩ := hz
    have hq := eqEnt (kindEnt 0) (kindEnt 0)
    have hqg := fun a b => noGuardEnt .eql a b (kindEnt 0) (kindEnt 0)
    simp only [decide_true] at hq
    clear hS4
    unfold entVal at K1 K2 K3 K4 hne hng hq hqg ⊢
    simp only [entCells, kindEnt] at K3 K4 hq hqg
    replace K1 := Lib.hid K1
    replace K2 := Lib.hid K2
    replace K3 := Lib.hid K3
    replace K4 := Lib.hid K4
    go_enter Tryz.func4, Tryz.ntmps4
    go_wp2_with fail
    simp only [entCells] at hX0 hB0
    generalize w.alloc (.cells _ 23) = W0 at hX0 hB0 ⊢
    obtain ⟨k0, k1, k2, k3, k4, k5, k6, k7, k8, k9, hz⟩ := EntAt.cells (x := y1) hX0
    go_wp2_with fail
    refine (K1.out _ hB0).mono ?_
    rintro e w1 ⟨rfl, hb1⟩
    have hX1 := Blk.below hX0 hb1 hz
    have hB1 := hB0.trans (hb1.mono hB0.size)
    clear k0 k1 k2 k3 k4 k5 k6 k7 k8 k9 hz hX0 hB0 hb1 K1
    go_wp2_with fail
    refine (K2.out _ hB1).mono ?_
    rintro e w2 ⟨rfl, hb2⟩
    have hX2 := Blk.below hX1 hb2 (Blk.lt hX1)
    have hB2 := hB1.trans (hb2.mono hB1.size)
    have hB3 := hB2.alloc hB2.size (.cells (entCells y1).toArray 23)
    obtain ⟨k0, k1, k2, k3, k4, k5, k6, k7, k8, k9, hz⟩ := EntAt.cells (x := y1) hX2
    clear hX1 hB1 hb2 K2 hB2
    simp only [entCells] at hB3
    go_wp2_with fail
    clear k0 k1 k2 k3 k4 k5 k6 k7 k8 k9 hz hX2
    generalize w2.alloc (.cells _ 23) = W3 at hB3 ⊢
    refine (K3.out _ hB3).mono ?_
    rintro e w4 ⟨rfl, hb4⟩
    have hB4 := hB3.trans (hb4.mono hB3.size)
    have hB5 := hB4.alloc hB4.size (.cells #[.int .i64 0, .int .u8 0, .int .i64 0, .int .i64 0, .int .i64 0, .int .i64 0, .int .i64 0, .int .i64 0, .int .i64 0, .string ⟨#[]⟩] 23)
    have hZ5 := Blk.new w4 23 #[.int .i64 0, .int .u8 0, .int .i64 0, .int .i64 0, .int .i64 0, .int .i64 0, .int .i64 0, .int .i64 0, .int .i64 0, .string ⟨#[]⟩]
    clear hb4 hB3 K3 hB4
    go_wp2_with fail
    generalize w4.alloc (.cells _ 23) = W5 at hB5 hZ5 ⊢
    refine (K4.out _ hB5).mono ?_
    rintro e w6 ⟨rfl, hb6⟩
    have hZ6 := Blk.below hZ5 hb6 (Blk.lt hZ5)
    have hB6 := hB5.trans (hb6.mono hB5.size)
    clear hZ5 hB5 hb6 K4
    go_wp2_with fail
    refine (H5.out _ hB6).mono ?_
    rintro e w7 ⟨rfl, hb7⟩
    have hZ7 := Blk.below hZ6 hb7 (Blk.lt hZ6)
    have hB7 := hB6.trans (hb7.mono hB6.size)
    clear hZ6 hB6 hb7 H5
    have k0 := hZ7.cell 0
    have k1 := hZ7.cell 1
    have k2 := hZ7.cell 2
    have k3 := hZ7.cell 3
    have k4 := hZ7.cell 4
    have k5 := hZ7.cell 5
    have k6 := hZ7.cell 6
    have k7 := hZ7.cell 7
    have k8 := hZ7.cell 8
    have k9 := hZ7.cell 9
    simp at k0 k1 k2 k3 k4 k5 k6 k7 k8 k9
    go_wp2_with fail
    go_ret
    exact ⟨by first | rfl | simp, hB7⟩
  · obtain ⟨rfl, rfl⟩ := hy1 h0
    subst h0
    have hne := neEnt y1 y1
    have hng := fun a b => noGuardEnt .neq a b y1 y1
    simp only [decide_true, Bool.not_true] at hne
    subst hz
    obtain ⟨rfl, rfl⟩ := hS4 rfl
    clear hS4
    unfold entVal at K1 K2 K3 K4 hne hng ⊢
    replace K1 := Lib.hid K1
    replace K2 := Lib.hid K2
    replace K3 := Lib.hid K3
    replace K4 := Lib.hid K4
    go_enter Tryz.func4, Tryz.ntmps4
    go_wp2_with fail
    simp only [entCells] at hX0 hB0
    generalize w.alloc (.cells _ 23) = W0 at hX0 hB0 ⊢
    obtain ⟨k0, k1, k2, k3, k4, k5, k6, k7, k8, k9, hz⟩ := EntAt.cells (x := y1) hX0
    go_wp2_with fail
    refine (K1.out _ hB0).mono ?_
    rintro e w1 ⟨rfl, hb1⟩
    have hX1 := Blk.below hX0 hb1 hz
    have hB1 := hB0.trans (hb1.mono hB0.size)
    clear k0 k1 k2 k3 k4 k5 k6 k7 k8 k9 hz hX0 hB0 hb1 K1
    go_wp2_with fail
    refine (K2.out _ hB1).mono ?_
    rintro e w2 ⟨rfl, hb2⟩
    have hX2 := Blk.below hX1 hb2 (Blk.lt hX1)
    have hB2 := hB1.trans (hb2.mono hB1.size)
    have hB3 := hB2.alloc hB2.size (.cells (entCells y1).toArray 23)
    obtain ⟨k0, k1, k2, k3, k4, k5, k6, k7, k8, k9, hz⟩ := EntAt.cells (x := y1) hX2
    clear hX1 hB1 hb2 K2 hB2
    simp only [entCells] at hB3
    go_wp2_with fail
    clear k0 k1 k2 k3 k4 k5 k6 k7 k8 k9 hz hX2
    generalize w2.alloc (.cells _ 23) = W3 at hB3 ⊢
    refine (K3.out _ hB3).mono ?_
    rintro e w4 ⟨rfl, hb4⟩
    have hB4 := hB3.trans (hb4.mono hB3.size)
    have hB5 := hB4.alloc hB4.size (.cells (entCells (z)).toArray 23)
    have hZ5 := EntAt.new w4 (z)
    clear hb4 hB3 K3 hB4
    simp only [entCells] at hB5 hZ5
    go_wp2_with fail
    generalize w4.alloc (.cells _ 23) = W5 at hB5 hZ5 ⊢
    refine (K4.out _ hB5).mono ?_
    rintro e w6 ⟨rfl, hb6⟩
    have hZ6 := Blk.below hZ5 hb6 (Blk.lt hZ5)
    have hB6 := hB5.trans (hb6.mono hB5.size)
    clear hZ5 hB5 hb6 K4
    go_wp2_with fail
    refine (H5.out _ hB6).mono ?_
    rintro e w7 ⟨rfl, hb7⟩
    have hZ7 := Blk.below hZ6 hb7 (Blk.lt hZ6)
    have hB7 := hB6.trans (hb7.mono hB6.size)
    clear hZ6 hB6 hb7 H5
    obtain ⟨k0, k1, k2, k3, k4, k5, k6, k7, k8, k9, hz⟩ := EntAt.cells (x := z) hZ7
    go_wp2_with fail
    go_ret
    exact ⟨by first | rfl | simp, hB7⟩
  · obtain ⟨h0, rfl⟩ := h0
    have h0' : (n1 == 0) = false := by simpa using h0
    have h0n : (n1 != 0) = true := by simpa using h0
    clear h0 hy1
    obtain ⟨rfl, rfl⟩ := hz
    have hq := eqEnt (kindEnt 0) (kindEnt 0)
    have hqg := fun a b => noGuardEnt .eql a b (kindEnt 0) (kindEnt 0)
    simp only [decide_true] at hq
    clear hS4
    unfold entVal at K1 K2 K3 K4 hq hqg ⊢
    simp only [entCells, kindEnt] at K3 K4 hq hqg
    replace K1 := Lib.hid K1
    replace K2 := Lib.hid K2
    replace K3 := Lib.hid K3
    replace K4 := Lib.hid K4
    go_enter Tryz.func4, Tryz.ntmps4
    go_wp2_with fail
    simp only [entCells] at hX0 hB0
    generalize w.alloc (.cells _ 23) = W0 at hX0 hB0 ⊢
    obtain ⟨k0, k1, k2, k3, k4, k5, k6, k7, k8, k9, hz⟩ := EntAt.cells (x := x) hX0
    go_wp2_with fail
    refine (K1.out _ hB0).mono ?_
    rintro e w1 ⟨rfl, hb1⟩
    have hX1 := Blk.below hX0 hb1 hz
    have hB1 := hB0.trans (hb1.mono hB0.size)
    clear k0 k1 k2 k3 k4 k5 k6 k7 k8 k9 hz hX0 hB0 hb1 K1
    go_wp2_with fail
    refine (K2.out _ hB1).mono ?_
    rintro e w2 ⟨rfl, hb2⟩
    have hX2 := Blk.below hX1 hb2 (Blk.lt hX1)
    have hB2 := hB1.trans (hb2.mono hB1.size)
    have hB3 := hB2.alloc hB2.size (.cells (entCells y1).toArray 23)
    obtain ⟨k0, k1, k2, k3, k4, k5, k6, k7, k8, k9, hz⟩ := EntAt.cells (x := x) hX2
    clear hX1 hB1 hb2 K2 hB2
    simp only [entCells] at hB3
    go_wp2_with fail
    clear k0 k1 k2 k3 k4 k5 k6 k7 k8 k9 hz hX2
    generalize w2.alloc (.cells _ 23) = W3 at hB3 ⊢
    refine (K3.out _ hB3).mono ?_
    rintro e w4 ⟨rfl, hb4⟩
    have hB4 := hB3.trans (hb4.mono hB3.size)
    have hB5 := hB4.alloc hB4.size (.cells #[.int .i64 0, .int .u8 0, .int .i64 0, .int .i64 0, .int .i64 0, .int .i64 0, .int .i64 0, .int .i64 0, .int .i64 0, .string ⟨#[]⟩] 23)
    have hZ5 := Blk.new w4 23 #[.int .i64 0, .int .u8 0, .int .i64 0, .int .i64 0, .int .i64 0, .int .i64 0, .int .i64 0, .int .i64 0, .int .i64 0, .string ⟨#[]⟩]
    clear hb4 hB3 K3 hB4
    go_wp2_with fail
    generalize w4.alloc (.cells _ 23) = W5 at hB5 hZ5 ⊢
    refine (K4.out _ hB5).mono ?_
    rintro e w6 ⟨rfl, hb6⟩
    have hZ6 := Blk.below hZ5 hb6 (Blk.lt hZ5)
    have hB6 := hB5.trans (hb6.mono hB5.size)
    clear hZ5 hB5 hb6 K4
    go_wp2_with fail
    refine (H5.out _ hB6).mono ?_
    rintro e w7 ⟨rfl, hb7⟩
    have hZ7 := Blk.below hZ6 hb7 (Blk.lt hZ6)
    have hB7 := hB6.trans (hb7.mono hB6.size)
    clear hZ6 hB6 hb7 H5
    have k0 := hZ7.cell 0
    have k1 := hZ7.cell 1
    have k2 := hZ7.cell 2
    have k3 := hZ7.cell 3
    have k4 := hZ7.cell 4
    have k5 := hZ7.cell 5
    have k6 := hZ7.cell 6
    have k7 := hZ7.cell 7
    have k8 := hZ7.cell 8
    have k9 := hZ7.cell 9
    simp at k0 k1 k2 k3 k4 k5 k6 k7 k8 k9
    go_wp2_with fail
    go_ret
    exact ⟨by first | rfl | simp, hB7⟩
  · obtain ⟨h0, rfl⟩ := h0
    have h0' : (n1 == 0) = false := by simpa using h0
    have h0n : (n1 != 0) = true := by simpa using h0
    clear h0 hy1
    subst hz
    obtain ⟨rfl, rfl⟩ := hS4 rfl
    clear hS4
    unfold entVal at K1 K2 K3 K4 ⊢
    replace K1 := Lib.hid K1
    replace K2 := Lib.hid K2
    replace K3 := Lib.hid K3
    replace K4 := Lib.hid K4
    go_enter Tryz.func4, Tryz.ntmps4
    go_wp2_with fail
    simp only [entCells] at hX0 hB0
    generalize w.alloc (.cells _ 23) = W0 at hX0 hB0 ⊢
    obtain ⟨k0, k1, k2, k3, k4, k5, k6, k7, k8, k9, hz⟩ := EntAt.cells (x := x) hX0
    go_wp2_with fail
    refine (K1.out _ hB0).mono ?_
    rintro e w1 ⟨rfl, hb1⟩
    have hX1 := Blk.below hX0 hb1 hz
    have hB1 := hB0.trans (hb1.mono hB0.size)
    clear k0 k1 k2 k3 k4 k5 k6 k7 k8 k9 hz hX0 hB0 hb1 K1
    go_wp2_with fail
    refine (K2.out _ hB1).mono ?_
    rintro e w2 ⟨rfl, hb2⟩
    have hX2 := Blk.below hX1 hb2 (Blk.lt hX1)
    have hB2 := hB1.trans (hb2.mono hB1.size)
    have hB3 := hB2.alloc hB2.size (.cells (entCells y1).toArray 23)
    obtain ⟨k0, k1, k2, k3, k4, k5, k6, k7, k8, k9, hz⟩ := EntAt.cells (x := x) hX2
    clear hX1 hB1 hb2 K2 hB2
    simp only [entCells] at hB3
    go_wp2_with fail
    clear k0 k1 k2 k3 k4 k5 k6 k7 k8 k9 hz hX2
    generalize w2.alloc (.cells _ 23) = W3 at hB3 ⊢
    refine (K3.out _ hB3).mono ?_
    rintro e w4 ⟨rfl, hb4⟩
    have hB4 := hB3.trans (hb4.mono hB3.size)
    have hB5 := hB4.alloc hB4.size (.cells (entCells (z)).toArray 23)
    have hZ5 := EntAt.new w4 (z)
    clear hb4 hB3 K3 hB4
    simp only [entCells] at hB5 hZ5
    go_wp2_with fail
    generalize w4.alloc (.cells _ 23) = W5 at hB5 hZ5 ⊢
    refine (K4.out _ hB5).mono ?_
    rintro e w6 ⟨rfl, hb6⟩
    have hZ6 := Blk.below hZ5 hb6 (Blk.lt hZ5)
    have hB6 := hB5.trans (hb6.mono hB5.size)
    clear hZ5 hB5 hb6 K4
    go_wp2_with fail
    refine (H5.out _ hB6).mono ?_
    rintro e w7 ⟨rfl, hb7⟩
    have hZ7 := Blk.below hZ6 hb7 (Blk.lt hZ6)
    have hB7 := hB6.trans (hb7.mono hB6.size)
    clear hZ6 hB6 hb7 H5
    obtain ⟨k0, k1, k2, k3, k4, k5, k6, k7, k8, k9, hz⟩ := EntAt.cells (x := z) hZ7
    go_wp2_with fail
    go_ret
    exact ⟨by first | rfl | simp, hB7⟩
end Go.Proofs.YthbgmhhbkojcmaaGreatDoor
namespace Go.Proofs.YthbgmhhbkojcmaaGreatDoor
open Go.ChangeShapes Go.WideShapes Go.ChangeAt Go.RowKit

set_option maxRecDepth 100000 in
theorem rounds_contract (H : Type) (enc : TypeId × Value → H) (W : World) (base : Nat) (args : Array Value) (ds gs : List (DataW H)) (before : List MemPlace)
    (hval : ∀ (j : Nat) t v, Tryz.f4.params[j]? = some t → args[j]? = some v → Value.okWide Tryz.prog W .any base t v)
    (hW : DataW.Whole enc Tryz.prog Tryz.f4.params.toList Rows.peopleLinesSpec.vars false W args.toList ds gs before)
    (hz : ∀ bs, ds[1]? = some (.lit (.string bs)) → bs.length ≤ reachBytes) (hlaid : laidMetH Tryz.prog Rows.peopleLinesRow.laid W) (hsh : W.ShapedOpen Tryz.prog) :
    Calls Tryz.prog 4 args W fun e W' => ∃ v, e = .returned v ∧ Rows.peopleLinesSpec.post enc Tryz.prog Tryz.f4 false true false false W args v W' := by
  have hW' := hW
  obtain ⟨p, q, hA, hV, rfl, hfz, hnd⟩ := hW
  have hA0 : DataW.TrodAll enc Tryz.prog W 0 (fun _ => true) true [23, 9] args.toList ds p := hA
  obtain ⟨v0, vs0, d0, ds0, p0, q0, hargs, rfl, rfl, h0, r0⟩ := trodAll_cons hA0
  obtain ⟨v1, vs1, d1, ds1, p1, q1, rfl, rfl, rfl, h1, r1⟩ := trodAll_cons r0
  obtain ⟨rfl, rfl, rfl⟩ := trodAll_nil r1
  obtain rfl : args = #[v0, v1] := by cases args; simp_all
  obtain ⟨rfl, rfl⟩ := trodVars_none hV
  obtain ⟨x, rfl, hgx⟩ := ent_of_ok (hval 0 23 v0 rfl rfl) h0
  obtain ⟨nm, rfl, rfl, rfl, hnm⟩ := Go.ChangeMaps.open_string Tryz.underlying9 (hval 1 9 v1 rfl rfl) h1
  have hs := hz nm.data.toList rfl
  have hs' : nm.size ≤ 281474976710656 := by
    have : nm.data.toList.length = nm.size := by simp
    have h2 : reachBytes = 140737488351232 := rfl
    omega
  obtain ⟨hT, hE⟩ := lines_laid hlaid
  have hw := rounds_walk x hgx.1 nm hs' W hE hT (laysCut.s1_3 W hsh)
  refine hw.mono fun e W' ⟨he, hb⟩ => ?_
  subst he
  exact law_post rfl (fun t ht => by
    have ht' : t ∈ [(23 : TypeId), 9] := ht
    simp at ht'
    rcases ht' with rfl | rfl
    · exact ent_readable
    · exact string_readable) rfl hW' rfl hb

theorem rounds_laid_met (os : Os) : laidMetH Tryz.prog Rows.peopleLinesRow.laid ((doorW os).forCall (fun _ _ => 0) ⟨#[], #[.agg #[.int .i64 0, .int .u8 0, .int .i64 0, .int .i64 0, .int .i64 0, .int .i64 0, .int .i64 0, .int .i64 0, .int .i64 0, .string ⟨#[]⟩], .string ⟨#[]⟩], []⟩).memory :=
  laidMetH_of_parts3 (fuel := 8) (laidMet_of_run' 8 (by kernel_rfl) (by kernel_rfl)) (by kernel_rfl) (by kernel_rfl)
theorem rounds_reads (os : Os) {H : Type} (enc : TypeId × Value → H) : ∃ places, DataW.whole enc Tryz.prog ((doorW os).forCall (fun _ _ => 0) ⟨#[], #[.agg #[.int .i64 0, .int .u8 0, .int .i64 0, .int .i64 0, .int .i64 0, .int .i64 0, .int .i64 0, .int .i64 0, .int .i64 0, .string ⟨#[]⟩], .string ⟨#[]⟩], []⟩).memory Tryz.f4.params.toList Rows.peopleLinesSpec.vars false #[Value.agg #[.int .i64 0, .int .u8 0, .int .i64 0, .int .i64 0, .int .i64 0, .int .i64 0, .int .i64 0, .int .i64 0, .int .i64 0, .string ⟨#[]⟩], Value.string ⟨#[]⟩].toList 8 = some ([.agg [.lit (.int .i64 0), .lit (.int .u8 0), .lit (.int .i64 0), .lit (.int .i64 0), .lit (.int .i64 0), .lit (.int .i64 0), .lit (.int .i64 0), .lit (.int .i64 0), .lit (.int .i64 0), .lit (.string [])], .lit (.string [])], [], places) :=
  ⟨[], by kernel_rfl⟩

set_option maxRecDepth 100000 in
theorem rounds_lifted (os : Os) (started : os.Started) (H : Type) (enc : TypeId × Value → H) (F : Stop.Interp) :
    ReturnsInHanded {} Tryz.checked os 4 .any ((OpenSpec.ofChange Rows.peopleLinesSpec).preRow enc Tryz.prog Tryz.f4 Rows.peopleLinesRow.domain false Rows.peopleLinesRow.laid) (((OpenSpec.ofChange Rows.peopleLinesSpec).at F).post enc Tryz.prog Tryz.f4 false true false false) := by
  obtain ⟨places, hx⟩ := rounds_reads os enc
  refine returnsInHanded_of_row (C := Tryz.checked) (s := OpenSpec.ofChange Rows.peopleLinesSpec) ownKnobA started (by kernel_rfl) Tryz.func4
    (witness_row_at (enc := enc) (C := Tryz.checked) false (doorW os) #[.agg #[.int .i64 0, .int .u8 0, .int .i64 0, .int .i64 0, .int .i64 0, .int .i64 0, .int .i64 0, .int .i64 0, .int .i64 0, .string ⟨#[]⟩], .string ⟨#[]⟩] rfl (by kernel_rfl) (by kernel_rfl) (by kernel_rfl)
      (OpenSpec.preRow_of_cond 8 hx (by kernel_rfl) (fun k hk => by cases hk) (by kernel_rfl) (rounds_laid_met os))) ?_
  intro W base args ds gs before hval hW _ _ hz hlaid hsh _
  refine rounds_contract H enc W base args ds gs before hval hW (fun bs h => ?_) hlaid hsh
  exact sized_string (j := 1) (t := 9) hz rfl ((List.getElem?_append_left (List.getElem?_eq_some_iff.1 h).1).trans h)

theorem rounds_said : Rows.PeopleLinesSaid :=
  OpenClaim.holds_of_cond 4 Tryz.f4 rfl rfl rfl rfl rfl rfl rfl ⟨rfl, rfl, rfl, rfl, rfl⟩ rfl rfl rfl rfl rfl (by kernel_rfl) Tryz.func4 (by kernel_rfl)
    (of_decide_eq_true (by kernel_rfl)) (by unfold Func.isWrapper; first | (rw [if_pos (by decide +kernel)]; kernel_rfl) | (rw [if_neg (by decide +kernel)]; exact ⟨rfl, rfl⟩))
    (fun os started H enc _ F => by rw [OpenClaim.pre_eq_preRow]; exact rounds_lifted os started H enc F)

theorem rounds_plain (f : FuncId) (fn : Func) (hf : Tryz.pinned.checked.prog.funcNamed "restante/restantelaw03.PeopleLines" = some f) (hfn : Tryz.pinned.checked.prog.funcs[f]? = some fn) :
    true = Tryz.pinned.checked.prog.looks [] ∧ ∀ (j : Nat) t, fn.params[j]? = some t → Tryz.pinned.checked.prog.wantsStandIn t = false := by
  obtain rfl : f = 4 := Option.some.inj ((show Tryz.prog.funcNamed "restante/restantelaw03.PeopleLines" = some 4 by kernel_rfl).symm.trans hf) |>.symm
  obtain rfl : fn = Tryz.f4 := (Option.some.inj (Tryz.func4.symm.trans hfn)).symm
  refine ⟨by kernel_rfl, fun j t ht => ?_⟩
  rw [Tryz.params4] at ht
  have ht' := Array.mem_of_getElem? ht
  simp at ht'
  rcases ht' with rfl | rfl
  · exact (show Tryz.prog.wantsStandIn 23 = false by kernel_rfl)
  · exact (show Tryz.prog.wantsStandIn 9 = false by kernel_rfl)

theorem peopleLines_card : Rows.PeopleLinesCardSaid :=
  Claim7.holds_tied_plain_at .later [] _ _ _ _ rounds_said (fun _ h => by cases h) (by kernel_rfl) (fun _ h => by cases h) peopleLines_row_tie rfl ⟨rfl, rfl⟩ (by kernel_rfl) rfl rounds_plain (by kernel_rfl)
#print axioms peopleLines_card
end Go.Proofs.YthbgmhhbkojcmaaGreatDoor
