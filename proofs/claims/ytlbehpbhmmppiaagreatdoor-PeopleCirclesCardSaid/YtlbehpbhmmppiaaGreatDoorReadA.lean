/- The contract of Read on a line that is written for an entry whose numbers are less than 100. Conditions: what the words of the line say; lengths; internal/bytealg.MaxLen is an int. -/
import Derived.Test.YtlbehpbhmmppiaaGreatDoorReaderA
import Derived.Test.YtlbehpbhmmppiaaGreatDoorWriteA
namespace Go.Proofs.YtlbehpbhmmppiaaGreatDoor
open Go.RowKit Go.Shelf

theorem readersTo_at (bx : Nat → Nat) (j : Nat) (h : j = 1 ∨ j = 2 ∨ j = 3 ∨ j = 4 ∨ j = 5 ∨ j = 6 ∨ j = 7) : readersTo bx 7 (.string (wordB j).data.toList) = some (readerV (bx j)) := by
  rcases h with rfl | rfl | rfl | rfl | rfl | rfl | rfl
  all_goals
    simp only [readersTo]
    repeat (first | rw [if_pos (by decide)] | rw [if_neg (by decide)])
theorem below_drN {n : Nat} {A B : World} (h : Below n A B) (k : Nat) : Below n A (B.drewN k) := ⟨h.os, h.tape, h.output, h.size, h.block⟩

theorem fnNotNil (g : Nat) (w : World) : (binOp .eql 104 (.func (.func 79) #[] #[.pointer (some ⟨g, 0, none⟩)]) .nilFunc).run Tryz.prog w = .ok (.bool false) w := by kernel_rfl
/-- A line, its kind, its numbers, the entry that it is written for. -/
structure LineOf (s : ByteArray) (kd : Nat) (ps : List (Nat × Int)) (x : Ent) : Prop where
  kind : kd = 1 ∨ kd = 2 ∨ kd = 3 ∨ kd = 4 ∨ kd = 5 ∨ kd = 6 ∨ kd = 7
  size : s.size < 4294967281
  size1 : (cutZ s).size < 4294967281
  daySize : (cutA s).size ≤ 9223372036854775806
  dayOk : Lib.atoiAll (cutA s).data.toList = .ok x.day
  word : cutA (cutZ s) = wordB kd
  offs : ps.map (·.1) = offs kd
  words : WordsAre (cutZ (cutZ s)) ps
  cells : (laidIn (entCells (kindEnt kd)).toArray ps).setIfInBounds 9 (.string (textAt (cutZ (cutZ s)) ps.length)) = (entCells { x with day := 0 }).toArray
  kd : x.kind = kd
  check : ckE x = 0
  day : 0 ≤ x.day ∧ x.day < 100
  fields : ∀ o ∈ Go.Proofs.YtlbehpbhmmppiaaGreatDoor.offs x.kind, 0 ≤ fieldOf x o ∧ fieldOf x o < 100
  name : x.name.size ≤ maxLen
  long : (lineB x).size ≤ 140737488355328
  line : lineB x = s

set_option maxRecDepth 100000 in
set_option maxHeartbeats 4000000 in
theorem read_any (s : ByteArray) (kd : Nat) (ps : List (Nat × Int)) (x : Ent) (h : LineOf s kd ps x) (w : World) (hm : MaxAt w) :
    Calls Tryz.prog 30 #[.string s] w fun e w' => e = .returned (.tuple #[entVal x, .int .i64 0]) ∧ Below w.heap.size w w' := by
  have HL := Lib.hid h
  have HM := Lib.hid hm
  have hmz := hm.lt
  clear hm
  have HC1 : Hid (∀ W, Below w.heap.size w W → _) := Lib.hid fun W (hW : Below w.heap.size w W) => cut_any s W (HM.out.below hmz hW) h.size
  have HC2 : Hid (∀ W, Below w.heap.size w W → _) := Lib.hid fun W (hW : Below w.heap.size w W) => cut_any (cutZ s) W (HM.out.below hmz hW) h.size1
  clear h
  go_enter Tryz.func30, Tryz.ntmps30
  go_wp2_with fail
  have hB0 : Below w.heap.size w (w.alloc (.cells (entCells (kindEnt 0)).toArray 41)) := (Below.refl _ _).alloc (Nat.le_refl _) _
  have hR0 : Blk (w.alloc (.cells (entCells (kindEnt 0)).toArray 41)) w.heap.size 41 (entCells (kindEnt 0)).toArray := Blk.new w _ _
  simp only [entCells, kindEnt] at hB0 hR0
  generalize w.alloc (.cells _ 41) = W0 at hB0 hR0 ⊢
  refine (HC1.out W0 hB0).mono ?_
  rintro e w1 ⟨rfl, n1, rfl⟩
  have hB1 := below_drN hB0 n1
  have hR1 := hR0.drewN n1
  clear hB0 hR0
  go_wp2_with fail
  refine (HC2.out _ hB1).mono ?_
  rintro e w1 ⟨rfl, n2, rfl⟩
  have hB2 := below_drN hB1 n2
  have hR2 := hR1.drewN n2
  clear hB1 hR1
  generalize (W0.drewN n1).drewN n2 = W1 at hB2 hR2 ⊢
  go_wp2_with fail
  refine (readers_any W1).mono ?_
  rintro e w2 ⟨b, bx, rfl, hS, hBx, hb2⟩
  have hB3 := hB2.trans (hb2.mono hB2.size)
  have hR3 := hR2.below hb2 hR2.lt
  have hg3 := hBx kd (by have := HL.out.kind; omega) (by have := HL.out.kind; omega)
  have hkz : (cutA (cutZ s)).size ≤ maxLen := by rw [HL.out.word]; have := HL.out.kind; rcases this with h | h | h | h | h | h | h <;> rw [h] <;> decide
  have hlk := hS.look hkz (v := readerV (bx kd)) (by rw [HL.out.word]; exact readersTo_at bx kd HL.out.kind)
  unfold readerV at hlk
  clear hS hBx hB2 hR2 hb2
  have hnn := fnNotNil (bx kd) w2
  have HRD := Lib.hid (reader_any (cutZ (cutZ s)) (bx kd) kd ps HL.out.offs HL.out.words { x with day := 0 } HL.out.cells w2 (HM.out.below hmz hB3) hg3)
  have HNU := Lib.hid (number_any (cutA s) HL.out.daySize x.day HL.out.dayOk)
  have HWR := Lib.hid (write_small x (by have := HL.out.kind; have := HL.out.kd; omega) HL.out.check HL.out.day HL.out.fields HL.out.name HL.out.long)
  unfold entVal at HRD HWR
  dsimp only at HRD
  go_wp2_with (at_lookup; refine wpList_look _ rfl _ _ _ _ rfl hlk ?_)
  refine HRD.out.mono ?_
  rintro e w3 ⟨rfl, hb3⟩
  have hB4 := hB3.trans (hb3.mono hB3.size)
  have hR4 := hR3.below hb3 hR3.lt
  clear hlk hnn hg3 hB3 hR3 hb3
  go_wp2_with fail
  have hX4 := Blk.new w3 41 (entCells { x with day := 0 }).toArray
  have hB5 := hB4.alloc hB4.size (.cells (entCells { x with day := 0 }).toArray 41)
  have hR5 := hR4.alloc (.cells (entCells { x with day := 0 }).toArray 41)
  have hzz : w.heap.size < w3.heap.size := hR4.lt
  simp only [entCells] at hX4 hB5 hR5
  generalize w3.alloc (.cells _ 41) = W5 at hX4 hB5 hR5 ⊢
  refine (HNU.out W5).mono ?_
  rintro e w6 ⟨rfl, hb6⟩
  have hB6 := hB5.trans (hb6.mono hB5.size)
  have hR6 := hR5.below hb6 hR5.lt
  have hX6 := hX4.below hb6 hX4.lt
  clear hX4 hB5 hR5 hB4 hR4 hb6
  have c0 := hX6.cell 0
  have f0 := hX6.frozen 0
  have z0 := hX6.lt
  have hx7 := hX6.set 0 (.int .i64 x.day)
  simp only [List.setIfInBounds_toArray, List.set_cons_zero] at hx7
  have hc7 := fun i => hx7.cell i
  have x0 := hc7 0
  have x1 := hc7 1
  have x2 := hc7 2
  have x3 := hc7 3
  have x4 := hc7 4
  have x5 := hc7 5
  have x6 := hc7 6
  have x7 := hc7 7
  have x8 := hc7 8
  have x9 := hc7 9
  clear hc7
  simp at c0 x0 x1 x2 x3 x4 x5 x6 x7 x8 x9
  go_wp2_with fail
  have hB7 := hB6.setCell (p := ⟨w3.heap.size, 0, none⟩) (Nat.le_of_lt hzz) (.int .i64 x.day)
  have hR7 := hR6.far (p := ⟨w3.heap.size, 0, none⟩) (Nat.ne_of_lt hzz) (.int .i64 x.day)
  clear c0 f0 z0 x0 x1 x2 x3 x4 x5 x6 x7 x8 x9 hB6 hR6 hX6
  generalize w6.setCell ⟨w3.heap.size, 0, none⟩ (.int .i64 x.day) = W7 at hB7 hR7 hx7 ⊢
  refine (HWR.out W7).mono ?_
  rintro e w8 ⟨rfl, hb8⟩
  rw [HL.out.line]
  have hB8 := hB7.trans (hb8.mono hB7.size)
  have hR8 := hR7.below hb8 hR7.lt
  have hX8 := hx7.below hb8 hx7.lt
  clear hB7 hR7 hx7 hb8
  have hc8 := fun i => hX8.cell i
  have x0 := hc8 0
  have x1 := hc8 1
  have x2 := hc8 2
  have x3 := hc8 3
  have x4 := hc8 4
  have x5 := hc8 5
  have x6 := hc8 6
  have x7 := hc8 7
  have x8 := hc8 8
  have x9 := hc8 9
  have hr8 := fun i => hR8.cell i
  have r0 := hr8 0
  have r1 := hr8 1
  have r2 := hr8 2
  have r3 := hr8 3
  have r4 := hr8 4
  have r5 := hr8 5
  have r6 := hr8 6
  have r7 := hr8 7
  have r8 := hr8 8
  have r9 := hr8 9
  have g0 := hR8.frozen 0
  have g1 := hR8.frozen 1
  have g2 := hR8.frozen 2
  have g3 := hR8.frozen 3
  have g4 := hR8.frozen 4
  have g5 := hR8.frozen 5
  have g6 := hR8.frozen 6
  have g7 := hR8.frozen 7
  have g8 := hR8.frozen 8
  have g9 := hR8.frozen 9
  have hzr := hR8.lt
  have hzx := hX8.lt
  clear hc8 hr8
  simp at x0 x1 x2 x3 x4 x5 x6 x7 x8 x9 r0 r1 r2 r3 r4 r5 r6 r7 r8 r9
  go_wp2
  refine bodyPost_ret (v := .tuple #[entVal x, .int .i64 0]) ?_ rfl ⟨rfl, ?_⟩
  · simp [results, Tryz.results30, go_sem, entVal, *]
  · repeat (refine Below.setCell ?_ (by simp; try omega) _)
    exact hB8
end Go.Proofs.YtlbehpbhmmppiaaGreatDoor
