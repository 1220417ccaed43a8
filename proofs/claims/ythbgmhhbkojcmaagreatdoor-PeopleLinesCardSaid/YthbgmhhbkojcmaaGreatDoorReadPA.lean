/- The contract of what readers returns for a kind, at any text: the entry of the numbers that the words say. Conditions: lengths; the library's two errors are error values. The entry that a text says for a kind. Conditions: a length; the library's two errors are error values. -/
import Derived.Test.YthbgmhhbkojcmaaGreatDoorReaderA
import Derived.Test.YthbgmhhbkojcmaaGreatDoorNumbA
import Derived.Test.YthbgmhhbkojcmaaGreatDoorLoopA
namespace Go.Proofs.YthbgmhhbkojcmaaGreatDoor
open Go.RowKit Go.Shelf

/-- What the words of a text say, number by number. -/
def NumsAre (t : ByteArray) (ps : List (Nat × Int)) : Prop :=
  (∀ k o v, ps[k]? = some (o, v) → (cutA (textAt t k)).size ≤ 281474976710656 ∧ numB (cutA (textAt t k)) = v) ∧ ∀ k, k ≤ ps.length → (textAt t k).size ≤ 281474976710656
/-- The numbers of a text that goes behind k words. -/
def numsOf (t : ByteArray) : List Nat → Nat → List (Nat × Int)
  | [], _ => []
  | o :: os, k => (o, numB (cutA (textAt t k))) :: numsOf t os (k + 1)
theorem numsOf_fst (t : ByteArray) : ∀ (os : List Nat) (k : Nat), (numsOf t os k).map (·.1) = os
  | [], _ => rfl
  | o :: os, k => by simp [numsOf, numsOf_fst t os (k + 1)]
theorem numsOf_at (t : ByteArray) : ∀ (os : List Nat) (k j o : Nat) (v : Int), (numsOf t os k)[j]? = some (o, v) → numB (cutA (textAt t (k + j))) = v
  | [], _, j, o, v, h => by simp [numsOf] at h
  | a :: os, k, 0, o, v, h => by
    simp [numsOf] at h
    exact h.2
  | a :: os, k, j + 1, o, v, h => by
    simp only [numsOf, List.getElem?_cons_succ] at h
    have := numsOf_at t os (k + 1) j o v h
    rwa [show k + 1 + j = k + (j + 1) by omega] at this
theorem cut_le (s : ByteArray) : (cutA s).size ≤ s.size ∧ (cutZ s).size ≤ s.size := by
  unfold cutA cutZ
  rcases Lib.indexB_cases s ⟨#[32]⟩ with hix | ⟨i, hix, hroom⟩
  · obtain ⟨e1, e2, _⟩ := Lib.cutB_miss s ⟨#[32]⟩ hix
    dsimp only at e1 e2
    rw [e1, e2]
    exact ⟨Nat.le_refl _, Nat.zero_le _⟩
  · obtain ⟨e1, e2, _⟩ := Lib.cutB_hit s ⟨#[32]⟩ i hix
    dsimp only at e1 e2
    rw [e1, e2, ByteArray.size_extract, ByteArray.size_extract]
    omega
theorem text_le (t : ByteArray) : ∀ k, (textAt t k).size ≤ t.size
  | 0 => Nat.le_refl _
  | k + 1 => Nat.le_trans (cut_le _).2 (text_le t k)
theorem nums_are (t : ByteArray) (os : List Nat) (ht : t.size ≤ 281474976710656) : NumsAre t (numsOf t os 0) :=
  ⟨fun k o v h => ⟨Nat.le_trans (cut_le _).1 (Nat.le_trans (text_le t k) ht), by have := numsOf_at t os 0 k o v h; rwa [Nat.zero_add] at this⟩, fun k _ => Nat.le_trans (text_le t k) ht⟩

set_option maxRecDepth 100000 in
set_option maxHeartbeats 4000000 in
theorem reader_all (t : ByteArray) (gk : Nat) (kd : Int) (ps : List (Nat × Int)) (hps : ps.map (·.1) = offs kd) (hW : NumsAre t ps) (y : Ent)
    (hy : (laidIn (entCells (kindEnt kd)).toArray ps).setIfInBounds 9 (.string (textAt t ps.length)) = (entCells y).toArray) (w : World) (hE : ErrsAt w) (hk : Blk w gk 5 #[.int .u8 kd]) :
    Calls Tryz.prog 62 #[.string t, .pointer (some ⟨gk, 0, none⟩)] w fun e w' => e = .returned (entVal y) ∧ Below w.heap.size w w' := by
  have k0 := hk.cell 0
  have hkz := hk.lt
  simp at k0
  go_enter Tryz.func62, Tryz.ntmps62
  go_wp2_with fail
  have hX0 : Blk ((w.alloc (.cells (entCells (kindEnt 0)).toArray 23)).alloc (.cells (entCells (kindEnt kd)).toArray 23)) w.heap.size 23 (entCells (kindEnt 0)).toArray := (Blk.new w _ _).alloc _
  have hY0 : EntAt ((w.alloc (.cells (entCells (kindEnt 0)).toArray 23)).alloc (.cells (entCells (kindEnt kd)).toArray 23)) (w.heap.size + 1) (kindEnt kd) := by
    have := Blk.new (w.alloc (.cells (entCells (kindEnt 0)).toArray 23)) 23 (entCells (kindEnt kd)).toArray
    simpa [EntAt] using this
  have hB0 : Below w.heap.size w ((w.alloc (.cells (entCells (kindEnt 0)).toArray 23)).alloc (.cells (entCells (kindEnt kd)).toArray 23)) := ((Below.refl _ _).alloc (Nat.le_refl _) _).alloc (by simp) _
  have hz0 : ((w.alloc (.cells (entCells (kindEnt 0)).toArray 23)).alloc (.cells (entCells (kindEnt kd)).toArray 23)).heap.size = w.heap.size + 2 := by simp
  simp only [entCells, kindEnt] at hX0 hY0 hB0 hz0
  generalize (w.alloc (.cells _ 23)).alloc (.cells _ 23) = W0 at hX0 hY0 hB0 hz0 ⊢
  refine (numbersOf_any _ _ _ hY0).mono ?_
  rintro e w1 ⟨A, rfl, hb1, hL1⟩
  have hX1 := hX0.below hb1 hX0.lt
  have hY1 := Blk.below hY0 hb1 hY0.lt
  have hB1 := hB0.trans (hb1.mono hB0.size)
  rw [hz0] at hL1
  have hlen : (offs kd).length ≤ 7 := offs_len _
  have hpl : ps.length = (offs kd).length := by rw [← hps, List.length_map]
  have HP := Lib.hid hps
  have HE := Lib.hid hE
  clear hE
  have HW := Lib.hid hW
  have HY := Lib.hid hy
  have hoff : ∀ o, o ∈ offs kd → 2 ≤ o ∧ o ≤ 8 := offs_lt kd
  have HO := Lib.hid hoff
  clear hX0 hY0 hB0 hb1 hz0 hps hW hy hoff
  dsimp only at hL1 ⊢
  go_wp2_with fail
  go_loopw [0, 14] (fun tt i wr => ∃ k : Nat, k ≤ ps.length ∧ i = .int .i64 k ∧ tt = .string (textAt t k) ∧ Below w.heap.size w wr ∧ Blk wr w.heap.size 23 (entCells (kindEnt 0)).toArray ∧ Blk wr (w.heap.size + 1) 23 (laidIn (entCells (kindEnt kd)).toArray (ps.take k)) ∧ LiesFrom wr (w.heap.size + 2) A (ptrs (w.heap.size + 1) (offs kd))) (fun _ i _ => ps.length - (intOf i).toNat)
  case atStart => exact ⟨0, Nat.zero_le _, rfl, rfl, hB1, hX1, hY1, hL1⟩
  case round =>
    clear hX1 hY1 hB1 hL1 hk k0
    obtain ⟨k, hk, rfl, rfl, hB, hX, hY, hA⟩ := hrel
    by_cases hlt : k < ps.length
    · obtain ⟨⟨o, v⟩, hO⟩ : ∃ p, ps[k]? = some p := ⟨_, List.getElem?_eq_getElem hlt⟩
      have hOo : (offs kd)[k]? = some o := by rw [← HP.out, List.getElem?_map, hO]; rfl
      have ho2 := HO.out o (List.mem_of_getElem? hOo)
      have ho : o < 10 := by omega
      have hSN : Hid (ps.take (k + 1) = ps.take k ++ [(o, v)]) := Lib.hid (by rw [List.take_add_one, hO]; rfl)
      have p1 : (ptrs (w.heap.size + 1) (offs kd))[k]? = some (.pointer (some ⟨w.heap.size + 1, o, none⟩)) := by simp [ptrs, hOo]
      obtain ⟨hw1, hw2⟩ := HW.out.1 k o v hO
      have hw3 := HW.out.2 k hk
      have HC := Lib.hid (cut_all (textAt t k) (by unfold maxLen; omega) wr)
      have HN : Hid (∀ W, Below w.heap.size w W → Calls Tryz.prog 27 #[.string (cutA (textAt t k))] W fun e w' => e = .returned (.int .i64 v) ∧ Below W.heap.size W w') := Lib.hid fun W hW => by
        have h := number_all (cutA (textAt t k)) hw1 W (HE.out.below hW)
        rwa [hw2] at h
      clear hO hOo hw1 hw2
      have hA' := hA
      rcases hA' with h0 | ⟨b, rfl, hb1, hb3, hc⟩
      · rw [h0] at p1; cases p1
      have q1 := hc k _ p1
      clear hc p1
      go_wp2_with fail
      refine HC.out.mono ?_
      rintro e w2 ⟨rfl, n, rfl⟩
      go_wp2_with fail
      refine (HN.out _ (below_dr hB n)).mono ?_
      rintro e w3 ⟨rfl, hb3⟩
      have hKB : Keeps (fun i => i = w.heap.size + 1) wr w3 := ((Keeps.refl _ wr).drewN n).trans (Keeps.of_new (S := fun i => i = w.heap.size + 1) hb3) (fun _ _ h => h)
      have hB3 : Below w.heap.size w w3 := hB.trans (hKB.below (B := w.heap.size) (fun _ h1 h2 => by omega) hB.size)
      have hX3 := Blk.below (hX.drewN n) hb3 (by have := hX.lt; simpa using this)
      have hY3 := Blk.below (hY.drewN n) hb3 (by have := hY.lt; simpa using this)
      have hA3 := (show LiesFrom (wr.drewN n) (w.heap.size + 2) (some ⟨b, 0, none⟩) (ptrs (w.heap.size + 1) (offs kd)) from hA).keep (Keeps.of_new (S := fun _ => False) hb3) (fun _ _ h => h)
      clear hX hY hA q1 hKB
      have hy := hY3.cell o
      have hyf := hY3.frozen o
      have hyz := hY3.lt
      obtain ⟨u, hys⟩ : ∃ u, (laidIn (entCells (kindEnt kd)).toArray (ps.take k))[o]? = some u := ⟨_, Array.getElem?_eq_getElem (by rw [laidIn_size]; exact ho)⟩
      rw [hys] at hy
      go_wp2
      go_roundw
      case rel =>
        refine ⟨k + 1, by omega, by go_num, rfl, hB3.setCell (p := ⟨w.heap.size + 1, o, none⟩) (by simp) _, hX3.far (p := ⟨w.heap.size + 1, o, none⟩) (by simp) _, ?_, hA3.keep ((Keeps.refl (fun i => i = w.heap.size + 1) w3).setCell (p := ⟨w.heap.size + 1, o, none⟩) (fun _ => rfl) _) (by intro i h1 h2; omega)⟩
        rw [hSN.out, laidIn_snoc]
        exact hY3.set o _
      case measure => simp [intOf]; omega
    · have HT : k = ps.length := by omega
      subst HT
      rw [List.take_of_length_le (Nat.le_refl _)] at hY
      have hc : ∀ i, i ≠ 9 → (laidIn (entCells (kindEnt kd)).toArray ps)[i]? = (entCells y).toArray[i]? := fun i h => by
        rw [← HY.out, Array.getElem?_setIfInBounds_ne (by omega)]
      have hn : y.name = textAt t ps.length := by
        have h9 : ((laidIn (entCells (kindEnt kd)).toArray ps).setIfInBounds 9 (.string (textAt t ps.length)))[9]? = (entCells y).toArray[9]? := by rw [HY.out]
        rw [Array.getElem?_setIfInBounds_self, if_pos (by rw [laidIn_size]; exact (show 9 < 10 by decide))] at h9
        simpa [entCells] using h9.symm
      have y0 := (hY.cell 0).trans (hc 0 (by decide))
      have y1 := (hY.cell 1).trans (hc 1 (by decide))
      have y2 := (hY.cell 2).trans (hc 2 (by decide))
      have y3 := (hY.cell 3).trans (hc 3 (by decide))
      have y4 := (hY.cell 4).trans (hc 4 (by decide))
      have y5 := (hY.cell 5).trans (hc 5 (by decide))
      have y6 := (hY.cell 6).trans (hc 6 (by decide))
      have y7 := (hY.cell 7).trans (hc 7 (by decide))
      have y8 := (hY.cell 8).trans (hc 8 (by decide))
      have f9 := hY.frozen 9
      have y9 : ∃ u, wr.cell? ⟨w.heap.size + 1, 9, none⟩ = some u := ⟨_, (hY.cell 9).trans (Array.getElem?_eq_getElem (by rw [laidIn_size]; exact (show 9 < 10 by decide)))⟩
      obtain ⟨u9, y9⟩ := y9
      have r0 := hX.cell 0
      have r1 := hX.cell 1
      have r2 := hX.cell 2
      have r3 := hX.cell 3
      have r4 := hX.cell 4
      have r5 := hX.cell 5
      have r6 := hX.cell 6
      have r7 := hX.cell 7
      have r8 := hX.cell 8
      have r9 := hX.cell 9
      have g0 := hX.frozen 0
      have g1 := hX.frozen 1
      have g2 := hX.frozen 2
      have g3 := hX.frozen 3
      have g4 := hX.frozen 4
      have g5 := hX.frozen 5
      have g6 := hX.frozen 6
      have g7 := hX.frozen 7
      have g8 := hX.frozen 8
      have g9 := hX.frozen 9
      have hzy := hY.lt
      have hzx := hX.lt
      simp [entCells, kindEnt] at y0 y1 y2 y3 y4 y5 y6 y7 y8 r0 r1 r2 r3 r4 r5 r6 r7 r8 r9
      have HN := Lib.hid hn
      clear hc hn
      go_wp2
      refine bodyPost_ret (v := entVal y) ?_ rfl ⟨rfl, ?_⟩
      · simp [results, Tryz.results62, go_sem, entVal, HN.out, *]
      · repeat (refine Below.setCell ?_ (by simp; try omega) _)
        exact hB
end Go.Proofs.YthbgmhhbkojcmaaGreatDoor
namespace Go.Proofs.YthbgmhhbkojcmaaGreatDoor
open Go.RowKit Go.Shelf

def numAt (ps : List (Nat × Int)) (o : Nat) : Int := match ps.find? (fun p => p.1 == o) with | some p => p.2 | none => 0
/-- The entry that the text behind a kind's word says, without its day. -/
def entOf (t : ByteArray) (kd : Int) : Ent :=
  ⟨0, kd, numAt (numsOf t (offs kd) 0) 2, numAt (numsOf t (offs kd) 0) 3, numAt (numsOf t (offs kd) 0) 4, numAt (numsOf t (offs kd) 0) 5, numAt (numsOf t (offs kd) 0) 6, numAt (numsOf t (offs kd) 0) 7, numAt (numsOf t (offs kd) 0) 8, textAt t (offs kd).length⟩
theorem entOf_cells (t : ByteArray) (kd : Int) (hk : kd = 1 ∨ kd = 2 ∨ kd = 3 ∨ kd = 4 ∨ kd = 5 ∨ kd = 6 ∨ kd = 7) :
    (laidIn (entCells (kindEnt kd)).toArray (numsOf t (offs kd) 0)).setIfInBounds 9 (.string (textAt t (numsOf t (offs kd) 0).length)) = (entCells (entOf t kd)).toArray := by
  have hl : (numsOf t (offs kd) 0).length = (offs kd).length := by have := congrArg List.length (numsOf_fst t (offs kd) 0); simpa using this
  rw [hl]
  unfold entOf
  rcases hk with rfl | rfl | rfl | rfl | rfl | rfl | rfl
  all_goals simp [laidIn, numsOf, offs, entCells, kindEnt, numAt]
theorem reader_ent (t : ByteArray) (gk : Nat) (kd : Int) (hk : kd = 1 ∨ kd = 2 ∨ kd = 3 ∨ kd = 4 ∨ kd = 5 ∨ kd = 6 ∨ kd = 7) (ht : t.size ≤ 281474976710656) (w : World) (hE : ErrsAt w) (hb : Blk w gk 5 #[.int .u8 kd]) :
    Calls Tryz.prog 62 #[.string t, .pointer (some ⟨gk, 0, none⟩)] w fun e w' => e = .returned (entVal (entOf t kd)) ∧ Below w.heap.size w w' :=
  reader_all t gk kd _ (numsOf_fst t (offs kd) 0) (nums_are t _ ht) (entOf t kd) (entOf_cells t kd hk) w hE hb

theorem SetF.miss {w : World} {b n : Nat} {f : Lit → Option Value} (h : SetF w b n f) {s : ByteArray} (hs : s.size ≤ maxLen) (hv : f (.string s.data.toList) = none) :
    (Instr.lookup 60 (.map (some b)) (.string s) false).run Tryz.prog w = .ok .nilFunc w := by
  obtain ⟨D, h, hm, hp⟩ := h
  obtain ⟨u, ps, hrun, hu⟩ := h.lookup lawString mapFnRow (zeroFn w) (show heldR .nilFunc = some (.held .nilFunc, []) from rfl) (keyString hs)
  rw [hp, hv] at hu
  simp [heldR] at hu
  rw [hrun, hu.1]
/-- The kind that a word names. -/
def kindOfW (v : ByteArray) : Option Nat := [1, 2, 3, 4, 5, 6, 7].find? fun k => decide (v = wordB (k : Nat))
theorem kindOfW_some {v : ByteArray} {k : Nat} (h : kindOfW v = some k) : (k = 1 ∨ k = 2 ∨ k = 3 ∨ k = 4 ∨ k = 5 ∨ k = 6 ∨ k = 7) ∧ v = wordB k := by
  unfold kindOfW at h
  have h1 := List.find?_some h
  have h2 := List.mem_of_find?_eq_some h
  simp at h1 h2
  exact ⟨h2, h1⟩
theorem readersTo_none {v : ByteArray} (bx : Nat → Nat) (h : kindOfW v = none) : readersTo bx 7 (.string v.data.toList) = none := by
  have h1 : ∀ k : Nat, k = 1 ∨ k = 2 ∨ k = 3 ∨ k = 4 ∨ k = 5 ∨ k = 6 ∨ k = 7 → v ≠ wordB k := fun k hk e => by
    unfold kindOfW at h
    have h2 := List.find?_eq_none.1 h k (by simp; omega)
    simp [e] at h2
  suffices hh : ∀ j : Nat, j ≤ 7 → readersTo bx j (.string v.data.toList) = none from hh 7 (Nat.le_refl _)
  intro j
  induction j with
  | zero => intro _; rfl
  | succ j ih =>
    intro hj
    unfold readersTo
    rw [if_neg]
    · exact ih (by omega)
    · intro hc
      have h3 := isLit_eq.1 hc
      simp only [Lit.string.injEq] at h3
      exact h1 (j + 1) (by omega) (ByteArray.ext (Array.toList_inj.1 (by simpa using h3)))
end Go.Proofs.YthbgmhhbkojcmaaGreatDoor
