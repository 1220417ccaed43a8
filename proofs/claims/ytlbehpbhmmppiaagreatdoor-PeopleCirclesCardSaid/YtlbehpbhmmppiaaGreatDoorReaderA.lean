/- The contract of what readers returns for a kind: the entry of the text behind the word. Conditions: the words of the text say numbers; lengths; internal/bytealg.MaxLen is an int. The contract of readers: for the word of each kind, what makes an entry of the text behind it. No conditions. -/
import Derived.Test.YtlbehpbhmmppiaaGreatDoorOnlyA
import Derived.Test.YtlbehpbhmmppiaaGreatDoorLaysA
import Derived.Laws.ResultCell
import Derived.Test.YtlbehpbhmmppiaaGreatDoorCheckA
import Derived.Sort.KeysCollected
import Derived.RangeFuncNested
namespace Go.Proofs.YtlbehpbhmmppiaaGreatDoor
open Go.RowKit Go.Shelf

theorem MaxAt.below {w w' : World} {B : Nat} (h : MaxAt w) (hlow : laysCut_ren.g 1 < B) (hb : Below B w w') : MaxAt w' := by
  obtain ⟨m, hm⟩ := h
  exact ⟨m, (hb.cell (p := ⟨laysCut_ren.g 1, 0, none⟩) hlow).trans hm⟩
theorem MaxAt.lt {w : World} (h : MaxAt w) : laysCut_ren.g 1 < w.heap.size := by
  obtain ⟨m, hm⟩ := h
  unfold World.cell? at hm
  cases hh : w.heap[laysCut_ren.g 1]? with
  | none => simp [hh] at hm
  | some o => exact (Array.getElem?_eq_some_iff.1 hh).1

/-- The text behind k words. -/
def textAt (t : ByteArray) : Nat → ByteArray
  | 0 => t
  | k + 1 => cutZ (textAt t k)
/-- Cells in which numbers are laid. -/
def laidIn (c : Array Value) (ps : List (Nat × Int)) : Array Value := ps.foldl (fun c p => c.setIfInBounds p.1 (.int .i64 p.2)) c
theorem laidIn_snoc (c : Array Value) (ps : List (Nat × Int)) (p : Nat × Int) : laidIn c (ps ++ [p]) = (laidIn c ps).setIfInBounds p.1 (.int .i64 p.2) := by
  simp [laidIn, List.foldl_append]
theorem laidIn_size (c : Array Value) (ps : List (Nat × Int)) : (laidIn c ps).size = c.size := by
  induction ps generalizing c with
  | nil => rfl
  | cons p ps ih => simp only [laidIn, List.foldl_cons] at ih ⊢; rw [ih]; simp
def kindEnt (k : Int) : Ent := ⟨0, k, 0, 0, 0, 0, 0, 0, 0, ⟨#[]⟩⟩
/-- The words of a text are these numbers. -/
def WordsAre (t : ByteArray) (ps : List (Nat × Int)) : Prop :=
  (∀ k o v, ps[k]? = some (o, v) → (cutA (textAt t k)).size ≤ 9223372036854775806 ∧ Lib.atoiAll (cutA (textAt t k)).data.toList = .ok v) ∧ ∀ k, k ≤ ps.length → (textAt t k).size < 4294967281

def aggD : TypeDesc → Bool
  | .struct _ => true
  | _ => false
theorem results_ent {fn : Func} {p : Tmp} (h : fn.results = #[.cell p 41]) {tmps : Array Value} {w : World} {g : Nat} {cs : Array Value}
    (hg : Blk w g 41 cs) (hz : cs.size = 10) (hp : tmps.getD p undef = .pointer (some ⟨g, 0, none⟩)) : (results fn tmps).run Tryz.prog w = .ok (.agg cs) w := by
  have hu : (Tryz.prog.underlying 41).map aggD = some true := by kernel_rfl
  have hi : (Tryz.prog.info? 41).map (·.size) = some 10 := by kernel_rfl
  cases hu' : Tryz.prog.underlying 41 with
  | none => rw [hu'] at hu; cases hu
  | some d =>
    rw [hu'] at hu
    have hd : aggD d = true := by simpa using hu
    exact results_cell_row h tmps w g _ cs (0, 0) d hp hg hu' (by cases d <;> first | rfl | cases hd) (by rw [hz]; exact hi)

set_option maxRecDepth 100000 in
set_option maxHeartbeats 4000000 in
theorem reader_any (t : ByteArray) (gk : Nat) (kd : Int) (ps : List (Nat × Int)) (hps : ps.map (·.1) = offs kd) (hW : WordsAre t ps) (y : Ent)
    (hy : (laidIn (entCells (kindEnt kd)).toArray ps).setIfInBounds 9 (.string (textAt t ps.length)) = (entCells y).toArray) (w : World) (hm : MaxAt w) (hk : Blk w gk 5 #[.int .u8 kd]) :
    Calls Tryz.prog 79 #[.string t, .pointer (some ⟨gk, 0, none⟩)] w fun e w' => e = .returned (entVal y) ∧ Below w.heap.size w w' := by
  have hmz := hm.lt
  have k0 := hk.cell 0
  have hkz := hk.lt
  simp at k0
  go_enter Tryz.func79, Tryz.ntmps79
  go_wp2_with fail
  have hX0 : Blk ((w.alloc (.cells (entCells (kindEnt 0)).toArray 41)).alloc (.cells (entCells (kindEnt kd)).toArray 41)) w.heap.size 41 (entCells (kindEnt 0)).toArray := (Blk.new w _ _).alloc _
  have hY0 : EntAt ((w.alloc (.cells (entCells (kindEnt 0)).toArray 41)).alloc (.cells (entCells (kindEnt kd)).toArray 41)) (w.heap.size + 1) (kindEnt kd) := by
    have := Blk.new (w.alloc (.cells (entCells (kindEnt 0)).toArray 41)) 41 (entCells (kindEnt kd)).toArray
    simpa [EntAt] using this
  have hB0 : Below w.heap.size w ((w.alloc (.cells (entCells (kindEnt 0)).toArray 41)).alloc (.cells (entCells (kindEnt kd)).toArray 41)) := ((Below.refl _ _).alloc (Nat.le_refl _) _).alloc (by simp) _
  have hz0 : ((w.alloc (.cells (entCells (kindEnt 0)).toArray 41)).alloc (.cells (entCells (kindEnt kd)).toArray 41)).heap.size = w.heap.size + 2 := by simp
  simp only [entCells, kindEnt] at hX0 hY0 hB0 hz0
  generalize (w.alloc (.cells _ 41)).alloc (.cells _ 41) = W0 at hX0 hY0 hB0 hz0 ⊢
  refine (numbersOf_any _ _ _ hY0).mono ?_
  rintro e w1 ⟨A, rfl, hb1, hL1⟩
  have hX1 := hX0.below hb1 hX0.lt
  have hY1 := Blk.below hY0 hb1 hY0.lt
  have hB1 := hB0.trans (hb1.mono hB0.size)
  rw [hz0] at hL1
  have hlen : (offs kd).length ≤ 7 := offs_len _
  have hpl : ps.length = (offs kd).length := by rw [← hps, List.length_map]
  have HP := Lib.hid hps
  have HM := Lib.hid hm
  have HW := Lib.hid hW
  have HY := Lib.hid hy
  have hoff : ∀ o, o ∈ offs kd → 2 ≤ o ∧ o ≤ 8 := offs_lt kd
  have HO := Lib.hid hoff
  clear hX0 hY0 hB0 hb1 hz0 hps hW hy hoff
  dsimp only at hL1 ⊢
  go_wp2_with fail
  go_loopw [0, 14] (fun tt i wr => ∃ k : Nat, k ≤ ps.length ∧ i = .int .i64 k ∧ tt = .string (textAt t k) ∧ Below w.heap.size w wr ∧ Blk wr w.heap.size 41 (entCells (kindEnt 0)).toArray ∧ Blk wr (w.heap.size + 1) 41 (laidIn (entCells (kindEnt kd)).toArray (ps.take k)) ∧ LiesFrom wr (w.heap.size + 2) A (ptrs (w.heap.size + 1) (offs kd))) (fun _ i _ => ps.length - (intOf i).toNat)
  case atStart => exact ⟨0, Nat.zero_le _, rfl, rfl, hB1, hX1, hY1, hL1⟩
  case round =>
    clear hX1 hY1 hB1 hL1 hm hk k0
    obtain ⟨k, hk, rfl, rfl, hB, hX, hY, hA⟩ := hrel
    by_cases hlt : k < ps.length
    · obtain ⟨⟨o, v⟩, hO⟩ : ∃ p, ps[k]? = some p := ⟨_, List.getElem?_eq_getElem hlt⟩
      have hOo : (offs kd)[k]? = some o := by rw [← HP.out, List.getElem?_map, hO]; rfl
      have ho2 := HO.out o (List.mem_of_getElem? hOo)
      have ho : o < 10 := by omega
      have hSN : Hid (ps.take (k + 1) = ps.take k ++ [(o, v)]) := Lib.hid (by rw [List.take_add_one, hO]; rfl)
      have p1 : (ptrs (w.heap.size + 1) (offs kd))[k]? = some (.pointer (some ⟨w.heap.size + 1, o, none⟩)) := by simp [ptrs, hOo]
      obtain ⟨hw1, hw2⟩ := HW.out.1 k o v hO
      have hw3 := HW.out.2 k hk
      have HC := Lib.hid (cut_any (textAt t k) wr (HM.out.below HM.out.lt hB) hw3)
      have HN := Lib.hid (number_any (cutA (textAt t k)) hw1 v hw2)
      clear hO hOo hw1 hw2
      have hA' := hA
      rcases hA' with h0 | ⟨b, rfl, hb1, hb3, hc⟩
      · rw [h0] at p1; cases p1
      have q1 := hc k _ p1
      clear hc p1
      go_wp2_with fail
      refine HC.out.mono ?_
      rintro e w2 ⟨rfl, n, rfl⟩
      go_wp2_with fail
      refine (HN.out _).mono ?_
      rintro e w3 ⟨rfl, hb3⟩
      have hKB : Keeps (fun i => i = w.heap.size + 1) wr w3 := ((Keeps.refl _ wr).drewN n).trans (Keeps.of_new (S := fun i => i = w.heap.size + 1) hb3) (fun _ _ h => h)
      have hB3 : Below w.heap.size w w3 := hB.trans (hKB.below (B := w.heap.size) (fun _ h1 h2 => by omega) hB.size)
      have hX3 := Blk.below (hX.drewN n) hb3 (by have := hX.lt; simpa using this)
      have hY3 := Blk.below (hY.drewN n) hb3 (by have := hY.lt; simpa using this)
      have hA3 := (show LiesFrom (wr.drewN n) (w.heap.size + 2) (some ⟨b, 0, none⟩) (ptrs (w.heap.size + 1) (offs kd)) from hA).keep (Keeps.of_new (S := fun _ => False) hb3) (fun _ _ h => h)
      clear hX hY hA q1 hKB
      have hy := hY3.cell o
      have hyf := hY3.frozen o
      have hyz := hY3.lt
      obtain ⟨u, hys⟩ : ∃ u, (laidIn (entCells (kindEnt kd)).toArray (ps.take k))[o]? = some u := ⟨_, Array.getElem?_eq_getElem (by rw [laidIn_size]; exact ho)⟩
      rw [hys] at hy
      go_wp2
      go_roundw
      case rel =>
        refine ⟨k + 1, by omega, by go_num, rfl, hB3.setCell (p := ⟨w.heap.size + 1, o, none⟩) (by simp) _, hX3.far (p := ⟨w.heap.size + 1, o, none⟩) (by simp) _, ?_, hA3.keep ((Keeps.refl (fun i => i = w.heap.size + 1) w3).setCell (p := ⟨w.heap.size + 1, o, none⟩) (fun _ => rfl) _) (by intro i h1 h2; omega)⟩
        rw [hSN.out, laidIn_snoc]
        exact hY3.set o _
      case measure => simp [intOf]; omega
    · have HT : k = ps.length := by omega
      subst HT
      rw [List.take_of_length_le (Nat.le_refl _)] at hY
      have hc : ∀ i, i ≠ 9 → (laidIn (entCells (kindEnt kd)).toArray ps)[i]? = (entCells y).toArray[i]? := fun i h => by
        rw [← HY.out, Array.getElem?_setIfInBounds_ne (by omega)]
      have hn : y.name = textAt t ps.length := by
        have h9 : ((laidIn (entCells (kindEnt kd)).toArray ps).setIfInBounds 9 (.string (textAt t ps.length)))[9]? = (entCells y).toArray[9]? := by rw [HY.out]
        rw [Array.getElem?_setIfInBounds_self, if_pos (by rw [laidIn_size]; exact (show 9 < 10 by decide))] at h9
        simpa [entCells] using h9.symm
      have y0 := (hY.cell 0).trans (hc 0 (by decide))
      have y1 := (hY.cell 1).trans (hc 1 (by decide))
      have y2 := (hY.cell 2).trans (hc 2 (by decide))
      have y3 := (hY.cell 3).trans (hc 3 (by decide))
      have y4 := (hY.cell 4).trans (hc 4 (by decide))
      have y5 := (hY.cell 5).trans (hc 5 (by decide))
      have y6 := (hY.cell 6).trans (hc 6 (by decide))
      have y7 := (hY.cell 7).trans (hc 7 (by decide))
      have y8 := (hY.cell 8).trans (hc 8 (by decide))
      have f9 := hY.frozen 9
      have y9 : ∃ u, wr.cell? ⟨w.heap.size + 1, 9, none⟩ = some u := ⟨_, (hY.cell 9).trans (Array.getElem?_eq_getElem (by rw [laidIn_size]; exact (show 9 < 10 by decide)))⟩
      obtain ⟨u9, y9⟩ := y9
      have r0 := hX.cell 0
      have r1 := hX.cell 1
      have r2 := hX.cell 2
      have r3 := hX.cell 3
      have r4 := hX.cell 4
      have r5 := hX.cell 5
      have r6 := hX.cell 6
      have r7 := hX.cell 7
      have r8 := hX.cell 8
      have r9 := hX.cell 9
      have g0 := hX.frozen 0
      have g1 := hX.frozen 1
      have g2 := hX.frozen 2
      have g3 := hX.frozen 3
      have g4 := hX.frozen 4
      have g5 := hX.frozen 5
      have g6 := hX.frozen 6
      have g7 := hX.frozen 7
      have g8 := hX.frozen 8
      have g9 := hX.frozen 9
      have hzy := hY.lt
      have hzx := hX.lt
      simp [entCells, kindEnt] at y0 y1 y2 y3 y4 y5 y6 y7 y8 r0 r1 r2 r3 r4 r5 r6 r7 r8 r9
      have HN := Lib.hid hn
      clear hc hn
      go_wp2
      refine bodyPost_ret (v := entVal y) ?_ rfl ⟨rfl, ?_⟩
      · simp [results, Tryz.results79, go_sem, entVal, HN.out, *]
      · repeat (refine Below.setCell ?_ (by simp; try omega) _)
        exact hB
end Go.Proofs.YtlbehpbhmmppiaaGreatDoor
namespace Go.Proofs.YtlbehpbhmmppiaaGreatDoor
open Go.RowKit Go.Shelf

theorem wpList_put {P : Program} (w : World) {ops : Array Oper} {rest : List Oper} {o : Oper} {a : Act} {Q : Exit → Act → World → Prop} (hg : o.guard = none) (m x v : Operand) (t : TypeId) (hop : o.op = Op.mapUpdate t m x v) {w' : World}
    (hrun : (Instr.mapUpdate t (a.eval m) (a.eval x) (a.eval v)).run P w = .ok () w') (hK : wpList P ops Q rest (a.put o.dst undef) w') : wpList P ops Q (o :: rest) a w := by
  refine wpList_plain hg fun K' hK' => ?_
  unfold Oper.wp
  simp [execOp, hop, hrun, Result.andThen]
  exact hK' _ _ hK
theorem wpList_look {P : Program} (w : World) {ops : Array Oper} {rest : List Oper} {o : Oper} {a : Act} {Q : Exit → Act → World → Prop} (hg : o.guard = none) (m x : Operand) (t : TypeId) (ok : Bool) (hop : o.op = Op.lookup t m x ok) {v : Value}
    (hrun : (Instr.lookup t (a.eval m) (a.eval x) ok).run P w = .ok v w) (hK : wpList P ops Q rest (a.put o.dst v) w) : wpList P ops Q (o :: rest) a w := by
  refine wpList_plain hg fun K' hK' => ?_
  unfold Oper.wp
  simp [execOp, hop, hrun, Result.andThen]
  exact hK' _ _ hK

theorem stringRowK : Tryz.prog.underlying 9 = some .string := by kernel_rfl
theorem mapFnRow : Tryz.prog.underlying 105 = some (.map 9 104) := by kernel_rfl
theorem zeroFn (w : World) : (zeroValue 104).run Tryz.prog w = .ok .nilFunc w := by kernel_rfl
theorem lawString : Maps.Keyed Tryz.prog 9 := Maps.string_keyed stringRowK
theorem keyString {s : ByteArray} (h : s.size ≤ maxLen) : keyOf Tryz.prog 9 (.string s) = some (.string s.data.toList) := by
  simp [keyOf, mapKey]
  exact h
/-- The literal of a string. -/
def isLit (s : ByteArray) : Lit → Bool
  | .string t => decide (t = s.data.toList)
  | _ => false
theorem isLit_eq {s : ByteArray} {k : Lit} : isLit s k = true ↔ k = .string s.data.toList := by
  cases k <;> simp [isLit]
/-- Elements that are held as they are. -/
def heldR (v : Value) : Option (DataW Value × List MemPlace) := some (.held v, [])
/-- A map from strings to function values. -/
def SetF (w : World) (b n : Nat) (f : Lit → Option Value) : Prop :=
  ∃ D : DataW Value, w.ownsMap Tryz.prog 9 heldR b n D ∧ Maps.IsMap D ∧ ∀ k d, D.atKey k d = match f k with | some v => .held v | none => d
section
variable {w w' : World} {b n : Nat} {f : Lit → Option Value}
theorem SetF.lt (h : SetF w b n f) : b < w.heap.size := by obtain ⟨D, h, _⟩ := h; exact h.lt
theorem SetF.of_block (h : SetF w b n f) (hb : w'.heap[b]? = w.heap[b]?) : SetF w' b n f := by
  obtain ⟨D, ⟨es, ck, h1, h2⟩, h3⟩ := h
  exact ⟨D, ⟨es, ck, hb.trans h1, h2⟩, h3⟩
theorem SetF.congr {g : Lit → Option Value} (h : SetF w b n f) (hq : ∀ k, g k = f k) : SetF w b n g := by
  obtain rfl : g = f := funext hq
  exact h
theorem SetF.alloc (h : SetF w b n f) (o : Obj) : SetF (w.alloc o) b n f := h.of_block (Below.heap_alloc w o b h.lt)
theorem SetF.set (h : SetF w b n f) {a : Addr} (ha : b ≠ a.block) (v : Value) : SetF (w.setCell a v) b n f := h.of_block (Below.heap_setCell w a v b ha)
theorem SetF.below {B : Nat} (h : SetF w b n f) (hb : Below B w w') (hB : b < B) : SetF w' b n f := h.of_block (hb.block b hB)
theorem SetF.new_of {W : World} {b : Nat} (hb : W.heap[b]? = some (.map #[] 0)) : SetF W b 0 (fun _ => none) := by
  have h : W.ownsMap Tryz.prog 9 heldR b 0 (.map [] : DataW Value) := by
    obtain ⟨es, ck, h1, h2⟩ := World.ownsMap_made W Tryz.prog 9 heldR
    rw [World.alloc_heap_new] at h1
    exact ⟨es, ck, hb.trans h1, h2⟩
  exact ⟨.map [], h, Maps.isMap_empty, fun _ _ => rfl⟩
theorem SetF.store (h : SetF w b n f) (hn : n < maxLen) {s : ByteArray} (hs : s.size ≤ maxLen) (v : Value) :
    ∃ w', (Instr.mapUpdate 105 (.map (some b)) (.string s) v).run Tryz.prog w = .ok () w' ∧ SetF w' b (n + 1) (fun k => if isLit s k = true then some v else f k) ∧ Keeps (fun i => i = b) w w' := by
  obtain ⟨D, h, hm, hp⟩ := h
  obtain ⟨w', hrun, h1, h2⟩ := h.update lawString mapFnRow hn (keyString hs) (show heldR v = some (.held v, []) from rfl)
  refine ⟨w', hrun, ⟨_, h1, hm.put _ _, fun k d => ?_⟩, Keeps.of_grown h2 (fun k e _ => by cases e; rfl)⟩
  by_cases hk : k = .string s.data.toList
  · subst hk
    rw [Maps.atKey_put_same hm (lawString.key (keyString hs))]
    simp [isLit_eq]
  · rw [Maps.atKey_put_other hk, hp k]
    simp [isLit_eq, hk]
theorem SetF.look (h : SetF w b n f) {s : ByteArray} (hs : s.size ≤ maxLen) {v : Value} (hv : f (.string s.data.toList) = some v) :
    (Instr.lookup 105 (.map (some b)) (.string s) false).run Tryz.prog w = .ok v w := by
  obtain ⟨D, h, hm, hp⟩ := h
  obtain ⟨u, ps, hrun, hu⟩ := h.lookup lawString mapFnRow (zeroFn w) (show heldR .nilFunc = some (.held .nilFunc, []) from rfl) (keyString hs)
  rw [hp, hv] at hu
  simp [heldR] at hu
  rw [hrun, hu.1]
end

/-- The function value of a kind. -/
def readerV (g : Nat) : Value := .func (.func 79) #[] #[.pointer (some ⟨g, 0, none⟩)]
def readersTo (bx : Nat → Nat) : Nat → Lit → Option Value
  | 0, _ => none
  | k + 1, l => if isLit (wordB ((k : Int) + 1)) l = true then some (readerV (bx (k + 1))) else readersTo bx k l

theorem readersTo_congr {bx bx' : Nat → Nat} (k : Nat) (h : ∀ j, j ≤ k → bx j = bx' j) (l : Lit) : readersTo bx k l = readersTo bx' k l := by
  induction k with
  | zero => rfl
  | succ k ih =>
    unfold readersTo
    rw [h (k + 1) (Nat.le_refl _), ih (fun j hj => h j (by omega))]

set_option maxRecDepth 100000 in
set_option maxHeartbeats 4000000 in
theorem readers_any (w : World) :
    Calls Tryz.prog 51 #[] w fun e w' => ∃ b bx, e = .returned (.map (some b)) ∧ SetF w' b 7 (readersTo bx 7) ∧ (∀ j : Nat, 1 ≤ j → j ≤ 7 → Blk w' (bx j) 5 #[.int .u8 j]) ∧ Below w.heap.size w w' := by
  have hmm := @run_makeMap Tryz.prog
  go_enter Tryz.func51, Tryz.ntmps51
  go_wp2_with fail
  have m0 : SetF ((w.alloc (.map #[] 0)).alloc (.cells #[.int .u8 1] 5)) w.heap.size 0 (fun _ => none) := (SetF.new_of (World.alloc_heap_new w _)).alloc _
  have b0 : Blk ((w.alloc (.map #[] 0)).alloc (.cells #[.int .u8 1] 5)) (w.heap.size + 1) 5 #[.int .u8 1] := by
    have := Blk.new (w.alloc (.map #[] 0)) 5 #[.int .u8 1]
    simpa using this
  have hB0 : Below w.heap.size w ((w.alloc (.map #[] 0)).alloc (.cells #[.int .u8 1] 5)) := ((Below.refl _ _).alloc (Nat.le_refl _) _).alloc (by simp) _
  go_loopw [2] (fun p wr => ∃ (k : Nat) (bx : Nat → Nat), k ≤ 7 ∧ p = .pointer (some ⟨bx (k + 1), 0, none⟩) ∧ SetF wr w.heap.size k (readersTo bx k) ∧ (∀ j : Nat, 1 ≤ j → j ≤ k + 1 → w.heap.size < bx j ∧ Blk wr (bx j) 5 #[.int .u8 j]) ∧ (∀ i j : Nat, 1 ≤ i → i < j → j ≤ k + 1 → bx i ≠ bx j) ∧ Below w.heap.size w wr) (fun p wr => 8 - (intOf ((wr.cell? (match p with | .pointer (some a) => a | _ => default)).getD undef)).toNat)
  case atStart =>
    refine ⟨0, fun _ => w.heap.size + 1, by omega, rfl, m0.congr (fun _ => rfl), ?_, ?_, hB0⟩
    · intro j h1 h2
      obtain rfl : j = 1 := by omega
      exact ⟨Nat.lt_succ_self _, b0⟩
    · intro i j h1 h2 h3
      omega
  case round =>
    clear m0 b0 hB0
    obtain ⟨k, bx, hk, rfl, hS, hBx, hne, hB⟩ := hrel
    obtain ⟨hb1, hb2⟩ := hBx (k + 1) (by omega) (Nat.le_refl _)
    have hc := hb2.cell 0
    have hcf := hb2.frozen 0
    have hz := hb2.lt
    simp at hc
    have HB := Lib.hid hBx
    have HN := Lib.hid hne
    clear hBx hne
    by_cases h7 : k = 7
    · subst h7
      go_wp2_with fail
      go_ret
      exact ⟨_, bx, rfl, hS, fun j h1 h2 => (HB.out j h1 (by omega)).2, hB⟩
    · have HW := Lib.hid (wordOf_any ((k : Int) + 1) (by omega))
      have hws : (wordB ((k : Int) + 1)).size ≤ maxLen := by
        have : k = 0 ∨ k = 1 ∨ k = 2 ∨ k = 3 ∨ k = 4 ∨ k = 5 ∨ k = 6 := by omega
        rcases this with rfl | rfl | rfl | rfl | rfl | rfl | rfl <;> decide
      obtain ⟨w2, hrun, hS2, hk2⟩ := hS.store (by unfold maxLen; omega) hws (readerV (bx (k + 1)))
      unfold readerV at hrun
      have hB2 : Below w.heap.size w w2 := hB.trans (hk2.below (fun i hi e => by omega) hB.size)
      have hx2 := hb2.keep hk2 (by omega)
      have hBx2 : ∀ j : Nat, 1 ≤ j → j ≤ k + 1 → Blk w2 (bx j) 5 #[.int .u8 j] := fun j h1 h2 => (HB.out j h1 h2).2.keep hk2 (by have := (HB.out j h1 h2).1; omega)
      have HB2 := Lib.hid hBx2
      clear hBx2
      have hc2 := hx2.cell 0
      have hcf2 := hx2.frozen 0
      have hz2 := hx2.lt
      simp at hc2
      go_wp2_with fail
      refine (HW.out _).mono ?_
      rintro e w' ⟨rfl, rfl⟩
      go_wp2_with (at_mapUpdate; refine wpList_put _ rfl _ _ _ _ rfl hrun ?_)
      obtain ⟨bx', hbx'⟩ : ∃ bx' : Nat → Nat, bx' = fun j => if j = k + 2 then w2.heap.size else bx j := ⟨_, rfl⟩
      have e1 : bx' (k + 1 + 1) = w2.heap.size := by rw [hbx']; simp
      have e2 : ∀ j, j ≤ k + 1 → bx' j = bx j := fun j hj => by rw [hbx']; exact if_neg (by omega)
      have hlt2 : ∀ j, 1 ≤ j → j ≤ k + 1 → bx j < w2.heap.size := fun j h1 h2 => (HB2.out j h1 h2).lt
      refine ⟨⟨k + 1, bx', by omega, by rw [e1], ?_, ?_, ?_, hB2.alloc hB2.size _⟩, ?_⟩
      · refine (hS2.alloc _).congr (fun l => ?_)
        show (if isLit (wordB ((k : Int) + 1)) l = true then some (readerV (bx' (k + 1))) else readersTo bx' k l) = _
        rw [e2 (k + 1) (Nat.le_refl _), readersTo_congr k (fun j hj => e2 j (by omega)) l]
      · intro j h1 h2
        by_cases hj : j = k + 2
        · subst hj
          rw [e1]
          refine ⟨by have := hS2.lt; omega, ?_⟩
          have e : (((k + 2 : Nat)) : Int) = (k : Int) + 1 + 1 := by omega
          rw [e]
          exact Blk.new w2 _ _
        · rw [e2 j (by omega)]
          exact ⟨(HB.out j h1 (by omega)).1, (HB2.out j h1 (by omega)).alloc _⟩
      · intro i j h1 h2 h3
        rw [e2 i (by omega)]
        by_cases hj : j = k + 2
        · subst hj
          rw [e1]
          have := hlt2 i h1 (by omega)
          omega
        · rw [e2 j (by omega)]
          exact HN.out i j h1 h2 (by omega)
      · have h1 := (Blk.new w2 5 #[.int .u8 ((k : Int) + 1 + 1)]).cell 0
        have h2 := (HB.out (k + 1) (by omega) (Nat.le_refl _)).2.cell 0
        show 8 - (intOf (((w2.alloc (.cells #[.int .u8 ((k : Int) + 1 + 1)] 5)).cell? ⟨w2.heap.size, 0, none⟩).getD undef)).toNat < 8 - (intOf ((wr.cell? ⟨bx (k + 1), 0, none⟩).getD undef)).toNat
        rw [h1, h2]
        simp [intOf]
        omega
end Go.Proofs.YtlbehpbhmmppiaaGreatDoor
