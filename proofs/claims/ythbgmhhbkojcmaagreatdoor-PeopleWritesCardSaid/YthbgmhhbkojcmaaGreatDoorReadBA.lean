/- The contract of Read on any line. Conditions: a length; the library's table of powers of ten and its two errors lie as the program's text lays them. The contract of Read on a line that no entry is written for. Conditions: a length; the library's table of powers of ten and its two errors lie as the program's text lays them. The contract of Read on any line. Conditions: a length; the library's table of powers of ten and its two errors lie as the program's text lays them. -/
import Derived.Test.YthbgmhhbkojcmaaGreatDoorReadA
import Derived.Test.YthbgmhhbkojcmaaGreatDoorReadPA
import Derived.Test.YthbgmhhbkojcmaaGreatDoorWritePA
import Derived.Test.YthbgmhhbkojcmaaGreatDoorStrNeA
namespace Go.Proofs.YthbgmhhbkojcmaaGreatDoor
open Go.RowKit Go.Shelf

/-- The entry that a line says, if its kind is this. -/
def saysE (s : ByteArray) (k : Nat) : Ent := { entOf (cutZ (cutZ s)) k with day := numB (cutA s) }
/-- The entry that a line is written for. -/
def readE (s : ByteArray) : Option Ent := match kindOfW (cutA (cutZ s)) with
  | none => none
  | some k => if ckE (saysE s k) = 0 ∧ lineB (saysE s k) = s then some (saysE s k) else none

set_option maxRecDepth 100000 in
set_option maxHeartbeats 4000000 in
theorem read_ok (s : ByteArray) (hs : s.size ≤ 281474976710656) (kd : Nat) (hkw : kindOfW (cutA (cutZ s)) = some kd) (x : Ent) (hx : saysE s kd = x) (hck : ckE x = 0) (hln : lineB x = s) (w : World) (hE : ErrsAt w) (hT : PowAt w) :
    Calls Tryz.prog 9 #[.string s] w fun e w' => e = .returned (.tuple #[entVal x, .int .i64 0]) ∧ Below w.heap.size w w' := by
  obtain ⟨hk7, hword⟩ := kindOfW_some hkw
  have hx0 : entOf (cutZ (cutZ s)) kd = { x with day := 0 } := by rw [← hx]; rfl
  have hday : numB (cutA s) = x.day := by rw [← hx]; rfl
  have hz1 := (cut_le s).1
  have hz2 := (cut_le s).2
  have hz3 := (cut_le (cutZ s)).1
  have hz4 := (cut_le (cutZ s)).2
  have hname : x.name.size ≤ maxLen := by
    have h1 : x.name = textAt (cutZ (cutZ s)) (offs kd).length := by rw [← hx]; rfl
    rw [h1]
    have := text_le (cutZ (cutZ s)) (offs kd).length
    unfold maxLen
    omega
  have HC1 : Hid (∀ W, Below w.heap.size w W → _) := Lib.hid fun W (_ : Below w.heap.size w W) => cut_all s (by unfold maxLen; omega) W
  have HC2 : Hid (∀ W, Below w.heap.size w W → _) := Lib.hid fun W (_ : Below w.heap.size w W) => cut_all (cutZ s) (by unfold maxLen; omega) W
  have HWD := Lib.hid hword
  have HKK := Lib.hid hk7
  have HEE := Lib.hid hE
  have HX0 := Lib.hid hx0
  have hkz : (cutA (cutZ s)).size ≤ maxLen := by unfold maxLen; omega
  have HNU : Hid (∀ W, Below w.heap.size w W → Calls Tryz.prog 27 #[.string (cutA s)] W fun e w' => e = .returned (.int .i64 x.day) ∧ Below W.heap.size W w') := Lib.hid fun W hW => by
    have h := number_all (cutA s) (by omega) W (hE.below hW)
    rwa [hday] at h
  have HWR : Hid (∀ W, Below w.heap.size w W → Calls Tryz.prog 7 #[entVal x] W fun e w' => e = .returned (.tuple #[.string s, .int .i64 0]) ∧ Below W.heap.size W w') := Lib.hid fun W hW => by
    have h := write_all x hname W (hT.below hW)
    rwa [if_pos hck, hck, hln] at h
  have HR0 : Hid (∀ W g, Below w.heap.size w W → Blk W g 5 #[.int .u8 (kd : Nat)] → Calls Tryz.prog 62 #[.string (cutZ (cutZ s)), .pointer (some ⟨g, 0, none⟩)] W fun e w' => e = .returned (entVal { x with day := 0 }) ∧ Below W.heap.size W w') := Lib.hid fun W g hW hb => by
    have h := reader_ent (cutZ (cutZ s)) g kd (by omega) (by omega) W (hE.below hW) hb
    rwa [hx0] at h
  clear hkw hx hE hT hk7 hword hx0 hday hz1 hz2 hz3 hz4 hname hs HEE HX0 hck hln
  go_enter Tryz.func9, Tryz.ntmps9
  go_wp2_with fail
  have hB0 : Below w.heap.size w (w.alloc (.cells (entCells (kindEnt 0)).toArray 23)) := (Below.refl _ _).alloc (Nat.le_refl _) _
  have hR0 : Blk (w.alloc (.cells (entCells (kindEnt 0)).toArray 23)) w.heap.size 23 (entCells (kindEnt 0)).toArray := Blk.new w _ _
  simp only [entCells, kindEnt] at hB0 hR0
  generalize w.alloc (.cells _ 23) = W0 at hB0 hR0 ⊢
  refine (HC1.out W0 hB0).mono ?_
  rintro e w1 ⟨rfl, n1, rfl⟩
  have hB1 := below_drN hB0 n1
  have hR1 := hR0.drewN n1
  clear hB0 hR0
  go_wp2_with fail
  refine (HC2.out _ hB1).mono ?_
  rintro e w1 ⟨rfl, n2, rfl⟩
  have hB2 := below_drN hB1 n2
  have hR2 := hR1.drewN n2
  clear hB1 hR1
  generalize (W0.drewN n1).drewN n2 = W1 at hB2 hR2 ⊢
  go_wp2_with fail
  refine (readers_any W1).mono ?_
  rintro e w2 ⟨b, bx, rfl, hS, hBx, hb2⟩
  have hB3 := hB2.trans (hb2.mono hB2.size)
  have hR3 := hR2.below hb2 hR2.lt
  have hg3 := hBx kd (by have := HKK.out; omega) (by have := HKK.out; omega)
  have hlk := hS.look hkz (v := readerV (bx kd)) (by rw [HWD.out]; exact readersTo_at bx kd HKK.out)
  unfold readerV at hlk
  clear hS hBx hB2 hR2 hb2
  have hnn := fnNotNil (bx kd) w2
  have HRD := Lib.hid (HR0.out w2 (bx kd) hB3 hg3)
  clear HR0
  unfold entVal at HRD HWR
  dsimp only at HRD
  go_wp2_with (at_lookup; refine wpList_look _ rfl _ _ _ _ rfl hlk ?_)
  refine HRD.out.mono ?_
  rintro e w3 ⟨rfl, hb3⟩
  have hB4 := hB3.trans (hb3.mono hB3.size)
  have hR4 := hR3.below hb3 hR3.lt
  clear hlk hnn hg3 hB3 hR3 hb3
  go_wp2_with fail
  have hX4 := Blk.new w3 23 (entCells { x with day := 0 }).toArray
  have hB5 := hB4.alloc hB4.size (.cells (entCells { x with day := 0 }).toArray 23)
  have hR5 := hR4.alloc (.cells (entCells { x with day := 0 }).toArray 23)
  have hzz : w.heap.size < w3.heap.size := hR4.lt
  simp only [entCells] at hX4 hB5 hR5
  generalize w3.alloc (.cells _ 23) = W5 at hX4 hB5 hR5 ⊢
  refine (HNU.out W5 hB5).mono ?_
  rintro e w6 ⟨rfl, hb6⟩
  have hB6 := hB5.trans (hb6.mono hB5.size)
  have hR6 := hR5.below hb6 hR5.lt
  have hX6 := hX4.below hb6 hX4.lt
  clear hX4 hB5 hR5 hB4 hR4 hb6
  have c0 := hX6.cell 0
  have f0 := hX6.frozen 0
  have z0 := hX6.lt
  have hx7 := hX6.set 0 (.int .i64 x.day)
  simp only [List.setIfInBounds_toArray, List.set_cons_zero] at hx7
  have hc7 := fun i => hx7.cell i
  have x0 := hc7 0
  have x1 := hc7 1
  have x2 := hc7 2
  have x3 := hc7 3
  have x4 := hc7 4
  have x5 := hc7 5
  have x6 := hc7 6
  have x7 := hc7 7
  have x8 := hc7 8
  have x9 := hc7 9
  clear hc7
  simp at c0 x0 x1 x2 x3 x4 x5 x6 x7 x8 x9
  go_wp2_with fail
  have hB7 := hB6.setCell (p := ⟨w3.heap.size, 0, none⟩) (Nat.le_of_lt hzz) (.int .i64 x.day)
  have hR7 := hR6.far (p := ⟨w3.heap.size, 0, none⟩) (Nat.ne_of_lt hzz) (.int .i64 x.day)
  clear c0 f0 z0 x0 x1 x2 x3 x4 x5 x6 x7 x8 x9 hB6 hR6 hX6
  generalize w6.setCell ⟨w3.heap.size, 0, none⟩ (.int .i64 x.day) = W7 at hB7 hR7 hx7 ⊢
  refine (HWR.out W7 hB7).mono ?_
  rintro e w8 ⟨rfl, hb8⟩
  have hB8 := hB7.trans (hb8.mono hB7.size)
  have hR8 := hR7.below hb8 hR7.lt
  have hX8 := hx7.below hb8 hx7.lt
  clear hB7 hR7 hx7 hb8
  have hc8 := fun i => hX8.cell i
  have x0 := hc8 0
  have x1 := hc8 1
  have x2 := hc8 2
  have x3 := hc8 3
  have x4 := hc8 4
  have x5 := hc8 5
  have x6 := hc8 6
  have x7 := hc8 7
  have x8 := hc8 8
  have x9 := hc8 9
  have hr8 := fun i => hR8.cell i
  have r0 := hr8 0
  have r1 := hr8 1
  have r2 := hr8 2
  have r3 := hr8 3
  have r4 := hr8 4
  have r5 := hr8 5
  have r6 := hr8 6
  have r7 := hr8 7
  have r8 := hr8 8
  have r9 := hr8 9
  have g0 := hR8.frozen 0
  have g1 := hR8.frozen 1
  have g2 := hR8.frozen 2
  have g3 := hR8.frozen 3
  have g4 := hR8.frozen 4
  have g5 := hR8.frozen 5
  have g6 := hR8.frozen 6
  have g7 := hR8.frozen 7
  have g8 := hR8.frozen 8
  have g9 := hR8.frozen 9
  have hzr := hR8.lt
  have hzx := hX8.lt
  clear hc8 hr8
  simp at x0 x1 x2 x3 x4 x5 x6 x7 x8 x9 r0 r1 r2 r3 r4 r5 r6 r7 r8 r9
  go_wp2
  refine bodyPost_ret (v := .tuple #[entVal x, .int .i64 0]) ?_ rfl ⟨rfl, ?_⟩
  · simp [results, Tryz.results9, go_sem, entVal, *]
  · repeat (refine Below.setCell ?_ (by simp; try omega) _)
    exact hB8
end Go.Proofs.YthbgmhhbkojcmaaGreatDoor
namespace Go.Proofs.YthbgmhhbkojcmaaGreatDoor
open Go.RowKit Go.Shelf

set_option maxRecDepth 100000 in
set_option maxHeartbeats 4000000 in
theorem read_bad (s : ByteArray) (hs : s.size ≤ 281474976710656) (kd : Nat) (hkw : kindOfW (cutA (cutZ s)) = some kd) (x : Ent) (hx : saysE s kd = x) (aw : ByteArray) (an : Int) (haw : (if ckE x = 0 then lineB x else ⟨#[]⟩) = aw) (han : ckE x = an) (hbad : an ≠ 0 ∨ aw ≠ s) (w : World) (hE : ErrsAt w) (hT : PowAt w) :
    Calls Tryz.prog 9 #[.string s] w fun e w' => e = .returned (.tuple #[entVal (kindEnt 0), .int .i64 4]) ∧ Below w.heap.size w w' := by
  obtain ⟨hk7, hword⟩ := kindOfW_some hkw
  have hx0 : entOf (cutZ (cutZ s)) kd = { x with day := 0 } := by rw [← hx]; rfl
  have hday : numB (cutA s) = x.day := by rw [← hx]; rfl
  have hz1 := (cut_le s).1
  have hz2 := (cut_le s).2
  have hz3 := (cut_le (cutZ s)).1
  have hz4 := (cut_le (cutZ s)).2
  have hname : x.name.size ≤ maxLen := by
    have h1 : x.name = textAt (cutZ (cutZ s)) (offs kd).length := by rw [← hx]; rfl
    rw [h1]
    have := text_le (cutZ (cutZ s)) (offs kd).length
    unfold maxLen
    omega
  have HC1 : Hid (∀ W, Below w.heap.size w W → _) := Lib.hid fun W (_ : Below w.heap.size w W) => cut_all s (by unfold maxLen; omega) W
  have HC2 : Hid (∀ W, Below w.heap.size w W → _) := Lib.hid fun W (_ : Below w.heap.size w W) => cut_all (cutZ s) (by unfold maxLen; omega) W
  have HWD := Lib.hid hword
  have HKK := Lib.hid hk7
  have HEE := Lib.hid hE
  have HX0 := Lib.hid hx0
  have hkz : (cutA (cutZ s)).size ≤ maxLen := by unfold maxLen; omega
  have HNU : Hid (∀ W, Below w.heap.size w W → Calls Tryz.prog 27 #[.string (cutA s)] W fun e w' => e = .returned (.int .i64 x.day) ∧ Below W.heap.size W w') := Lib.hid fun W hW => by
    have h := number_all (cutA s) (by omega) W (hE.below hW)
    rwa [hday] at h
  have HWR : Hid (∀ W, Below w.heap.size w W → Calls Tryz.prog 7 #[entVal x] W fun e w' => e = .returned (.tuple #[.string aw, .int .i64 an]) ∧ Below W.heap.size W w') := Lib.hid fun W hW => by
    have h := write_all x hname W (hT.below hW)
    rwa [haw, han] at h
  have HR0 : Hid (∀ W g, Below w.heap.size w W → Blk W g 5 #[.int .u8 (kd : Nat)] → Calls Tryz.prog 62 #[.string (cutZ (cutZ s)), .pointer (some ⟨g, 0, none⟩)] W fun e w' => e = .returned (entVal { x with day := 0 }) ∧ Below W.heap.size W w') := Lib.hid fun W g hW hb => by
    have h := reader_ent (cutZ (cutZ s)) g kd (by omega) (by omega) W (hE.below hW) hb
    rwa [hx0] at h
  clear hkw hx hE hT hk7 hword hx0 hday hz1 hz2 hz3 hz4 hname hs HEE HX0 haw han
  go_enter Tryz.func9, Tryz.ntmps9
  go_wp2_with fail
  have hB0 : Below w.heap.size w (w.alloc (.cells (entCells (kindEnt 0)).toArray 23)) := (Below.refl _ _).alloc (Nat.le_refl _) _
  have hR0 : Blk (w.alloc (.cells (entCells (kindEnt 0)).toArray 23)) w.heap.size 23 (entCells (kindEnt 0)).toArray := Blk.new w _ _
  simp only [entCells, kindEnt] at hB0 hR0
  generalize w.alloc (.cells _ 23) = W0 at hB0 hR0 ⊢
  refine (HC1.out W0 hB0).mono ?_
  rintro e w1 ⟨rfl, n1, rfl⟩
  have hB1 := below_drN hB0 n1
  have hR1 := hR0.drewN n1
  clear hB0 hR0
  go_wp2_with fail
  refine (HC2.out _ hB1).mono ?_
  rintro e w1 ⟨rfl, n2, rfl⟩
  have hB2 := below_drN hB1 n2
  have hR2 := hR1.drewN n2
  clear hB1 hR1
  generalize (W0.drewN n1).drewN n2 = W1 at hB2 hR2 ⊢
  go_wp2_with fail
  refine (readers_any W1).mono ?_
  rintro e w2 ⟨b, bx, rfl, hS, hBx, hb2⟩
  have hB3 := hB2.trans (hb2.mono hB2.size)
  have hR3 := hR2.below hb2 hR2.lt
  have hg3 := hBx kd (by have := HKK.out; omega) (by have := HKK.out; omega)
  have hlk := hS.look hkz (v := readerV (bx kd)) (by rw [HWD.out]; exact readersTo_at bx kd HKK.out)
  unfold readerV at hlk
  clear hS hBx hB2 hR2 hb2
  have hnn := fnNotNil (bx kd) w2
  have HRD := Lib.hid (HR0.out w2 (bx kd) hB3 hg3)
  clear HR0
  unfold entVal at HRD HWR
  dsimp only at HRD
  go_wp2_with (at_lookup; refine wpList_look _ rfl _ _ _ _ rfl hlk ?_)
  refine HRD.out.mono ?_
  rintro e w3 ⟨rfl, hb3⟩
  have hB4 := hB3.trans (hb3.mono hB3.size)
  have hR4 := hR3.below hb3 hR3.lt
  clear hlk hnn hg3 hB3 hR3 hb3
  go_wp2_with fail
  have hX4 := Blk.new w3 23 (entCells { x with day := 0 }).toArray
  have hB5 := hB4.alloc hB4.size (.cells (entCells { x with day := 0 }).toArray 23)
  have hR5 := hR4.alloc (.cells (entCells { x with day := 0 }).toArray 23)
  have hzz : w.heap.size < w3.heap.size := hR4.lt
  simp only [entCells] at hX4 hB5 hR5
  generalize w3.alloc (.cells _ 23) = W5 at hX4 hB5 hR5 ⊢
  refine (HNU.out W5 hB5).mono ?_
  rintro e w6 ⟨rfl, hb6⟩
  have hB6 := hB5.trans (hb6.mono hB5.size)
  have hR6 := hR5.below hb6 hR5.lt
  have hX6 := hX4.below hb6 hX4.lt
  clear hX4 hB5 hR5 hB4 hR4 hb6
  have c0 := hX6.cell 0
  have f0 := hX6.frozen 0
  have z0 := hX6.lt
  have hx7 := hX6.set 0 (.int .i64 x.day)
  simp only [List.setIfInBounds_toArray, List.set_cons_zero] at hx7
  have hc7 := fun i => hx7.cell i
  have x0 := hc7 0
  have x1 := hc7 1
  have x2 := hc7 2
  have x3 := hc7 3
  have x4 := hc7 4
  have x5 := hc7 5
  have x6 := hc7 6
  have x7 := hc7 7
  have x8 := hc7 8
  have x9 := hc7 9
  clear hc7
  simp at c0 x0 x1 x2 x3 x4 x5 x6 x7 x8 x9
  go_wp2_with fail
  have hB7 := hB6.setCell (p := ⟨w3.heap.size, 0, none⟩) (Nat.le_of_lt hzz) (.int .i64 x.day)
  have hR7 := hR6.far (p := ⟨w3.heap.size, 0, none⟩) (Nat.ne_of_lt hzz) (.int .i64 x.day)
  clear c0 f0 z0 x0 x1 x2 x3 x4 x5 x6 x7 x8 x9 hB6 hR6 hX6
  generalize w6.setCell ⟨w3.heap.size, 0, none⟩ (.int .i64 x.day) = W7 at hB7 hR7 hx7 ⊢
  refine (HWR.out W7 hB7).mono ?_
  rintro e w8 ⟨rfl, hb8⟩
  have hB8 := hB7.trans (hb8.mono hB7.size)
  have hR8 := hR7.below hb8 hR7.lt
  have hX8 := hx7.below hb8 hx7.lt
  clear hB7 hR7 hx7 hb8
  have hc8 := fun i => hX8.cell i
  have x0 := hc8 0
  have x1 := hc8 1
  have x2 := hc8 2
  have x3 := hc8 3
  have x4 := hc8 4
  have x5 := hc8 5
  have x6 := hc8 6
  have x7 := hc8 7
  have x8 := hc8 8
  have x9 := hc8 9
  have hr8 := fun i => hR8.cell i
  have r0 := hr8 0
  have r1 := hr8 1
  have r2 := hr8 2
  have r3 := hr8 3
  have r4 := hr8 4
  have r5 := hr8 5
  have r6 := hr8 6
  have r7 := hr8 7
  have r8 := hr8 8
  have r9 := hr8 9
  have g0 := hR8.frozen 0
  have g1 := hR8.frozen 1
  have g2 := hR8.frozen 2
  have g3 := hR8.frozen 3
  have g4 := hR8.frozen 4
  have g5 := hR8.frozen 5
  have g6 := hR8.frozen 6
  have g7 := hR8.frozen 7
  have g8 := hR8.frozen 8
  have g9 := hR8.frozen 9
  have hzr := hR8.lt
  have hzx := hX8.lt
  clear hc8 hr8
  simp at x0 x1 x2 x3 x4 x5 x6 x7 x8 x9 r0 r1 r2 r3 r4 r5 r6 r7 r8 r9
  have hBf := Lib.hid hB8
  clear hB8
  by_cases h1 : an = 0
  · have hne := strEq_false (hbad.resolve_left (fun h => h h1))
    subst h1
    clear hbad
    go_wp2
    refine bodyPost_ret (v := .tuple #[entVal (kindEnt 0), .int .i64 4]) ?_ rfl ⟨rfl, ?_⟩
    · simp [results, Tryz.results9, go_sem, entVal, kindEnt, *]
    · repeat (refine Below.setCell ?_ (by simp; try omega) _)
      exact hBf.out
  · clear hbad
    go_wp2
    refine bodyPost_ret (v := .tuple #[entVal (kindEnt 0), .int .i64 4]) ?_ rfl ⟨rfl, ?_⟩
    · simp [results, Tryz.results9, go_sem, entVal, kindEnt, *]
    · repeat (refine Below.setCell ?_ (by simp; try omega) _)
      exact hBf.out
end Go.Proofs.YthbgmhhbkojcmaaGreatDoor
namespace Go.Proofs.YthbgmhhbkojcmaaGreatDoor
open Go.RowKit Go.Shelf

set_option maxRecDepth 100000 in
set_option maxHeartbeats 4000000 in
theorem read_no (s : ByteArray) (hs : s.size ≤ maxLen) (hkw : kindOfW (cutA (cutZ s)) = none) (w : World) :
    Calls Tryz.prog 9 #[.string s] w fun e w' => e = .returned (.tuple #[entVal (kindEnt 0), .int .i64 4]) ∧ Below w.heap.size w w' := by
  have hz1 := (cut_le s).1
  have hz2 := (cut_le s).2
  have hz3 := (cut_le (cutZ s)).1
  have HC1 : Hid (∀ W, Below w.heap.size w W → _) := Lib.hid fun W (_ : Below w.heap.size w W) => cut_all s hs W
  have HC2 : Hid (∀ W, Below w.heap.size w W → _) := Lib.hid fun W (_ : Below w.heap.size w W) => cut_all (cutZ s) (by omega) W
  have hkz : (cutA (cutZ s)).size ≤ maxLen := by omega
  have HKW := Lib.hid hkw
  clear hkw hz1 hz2 hz3 hs
  go_enter Tryz.func9, Tryz.ntmps9
  go_wp2_with fail
  have hB0 : Below w.heap.size w (w.alloc (.cells (entCells (kindEnt 0)).toArray 23)) := (Below.refl _ _).alloc (Nat.le_refl _) _
  have hR0 : Blk (w.alloc (.cells (entCells (kindEnt 0)).toArray 23)) w.heap.size 23 (entCells (kindEnt 0)).toArray := Blk.new w _ _
  simp only [entCells, kindEnt] at hB0 hR0
  generalize w.alloc (.cells _ 23) = W0 at hB0 hR0 ⊢
  refine (HC1.out W0 hB0).mono ?_
  rintro e w1 ⟨rfl, n1, rfl⟩
  have hB1 := below_drN hB0 n1
  have hR1 := hR0.drewN n1
  clear hB0 hR0
  go_wp2_with fail
  refine (HC2.out _ hB1).mono ?_
  rintro e w1 ⟨rfl, n2, rfl⟩
  have hB2 := below_drN hB1 n2
  have hR2 := hR1.drewN n2
  clear hB1 hR1
  generalize (W0.drewN n1).drewN n2 = W1 at hB2 hR2 ⊢
  go_wp2_with fail
  refine (readers_any W1).mono ?_
  rintro e w2 ⟨b, bx, rfl, hS, hBx, hb2⟩
  have hB3 := hB2.trans (hb2.mono hB2.size)
  have hR3 := hR2.below hb2 hR2.lt
  have hlk := hS.miss hkz (readersTo_none bx HKW.out)
  have hnn : ∀ W : World, (binOp .eql 59 .nilFunc .nilFunc).run Tryz.prog W = .ok (.bool true) W := fun W => by kernel_rfl
  have hr8 := fun i => hR3.cell i
  have r0 := hr8 0
  have r1 := hr8 1
  have r2 := hr8 2
  have r3 := hr8 3
  have r4 := hr8 4
  have r5 := hr8 5
  have r6 := hr8 6
  have r7 := hr8 7
  have r8 := hr8 8
  have r9 := hr8 9
  have g0 := hR3.frozen 0
  have g1 := hR3.frozen 1
  have g2 := hR3.frozen 2
  have g3 := hR3.frozen 3
  have g4 := hR3.frozen 4
  have g5 := hR3.frozen 5
  have g6 := hR3.frozen 6
  have g7 := hR3.frozen 7
  have g8 := hR3.frozen 8
  have g9 := hR3.frozen 9
  have hzr := hR3.lt
  simp at r0 r1 r2 r3 r4 r5 r6 r7 r8 r9
  have hBf := Lib.hid hB3
  clear hS hBx hB2 hR2 hb2 hr8 hB3 hR3
  go_wp2_with (at_lookup; refine wpList_look _ rfl _ _ _ _ rfl hlk ?_)
  refine bodyPost_ret (v := .tuple #[entVal (kindEnt 0), .int .i64 4]) ?_ rfl ⟨rfl, ?_⟩
  · simp [results, Tryz.results9, go_sem, entVal, kindEnt, *]
  · repeat (refine Below.setCell ?_ (by simp; try omega) _)
    exact hBf.out

/-- Read of any line. -/
theorem read_all (s : ByteArray) (hs : s.size ≤ 281474976710656) (w : World) (hE : ErrsAt w) (hT : PowAt w) :
    Calls Tryz.prog 9 #[.string s] w fun e w' => e = .returned (match readE s with | some x => .tuple #[entVal x, .int .i64 0] | none => .tuple #[entVal (kindEnt 0), .int .i64 4]) ∧ Below w.heap.size w w' := by
  unfold readE
  cases hkw : kindOfW (cutA (cutZ s)) with
  | none => exact read_no s (by unfold maxLen; omega) hkw w
  | some k =>
    dsimp only
    by_cases h : ckE (saysE s k) = 0 ∧ lineB (saysE s k) = s
    · rw [if_pos h]
      exact read_ok s hs k hkw _ rfl h.1 h.2 w hE hT
    · rw [if_neg h]
      refine read_bad s hs k hkw _ rfl _ _ rfl rfl ?_ w hE hT
      by_cases h1 : ckE (saysE s k) = 0
      · refine .inr ?_
        rw [if_pos h1]
        exact fun h2 => h ⟨h1, h2⟩
      · exact .inl h1
end Go.Proofs.YthbgmhhbkojcmaaGreatDoor
