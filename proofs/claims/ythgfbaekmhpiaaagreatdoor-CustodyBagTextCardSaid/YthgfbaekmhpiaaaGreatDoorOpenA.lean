/- How operations and bags that come in read. No conditions. -/
import Derived.Test.YthgfbaekmhpiaaaGreatDoorNilB
import Derived.Test.YthgfbaekmhpiaaaGreatDoorAnyA
import Derived.Lay
import Derived.Test.YthgfbaekmhpiaaaGreatDoorRows
import Derived.Test.YthgfbaekmhpiaaaGreatDoorCards
import Derived.Test.YthgfbaekmhpiaaaGreatDoorTie
import Derived.ProofKit
import Derived.OpenShut
import Derived.Carry
import Derived.ChangeSame
import Derived.Deep.Slices
import Derived.Deep.DeepHandedRow
import Derived.SevenTiedAt
import Derived.LaidMore
import Derived.ChangeAgain
import Derived.ChangeSlices
import Derived.SliceStrings
import Derived.Laws.BytesArg
import Derived.ChangeMaps5
import Derived.ChangeMaps
import Derived.MakeChecks
import Derived.Stop.LaidErr
import Derived.Lib.LaidTab
import Derived.SizedLaws
namespace Go.Proofs.YthgfbaekmhpiaaaGreatDoor
open Go.ChangeShapes Go.WideShapes Go.ChangeAt Go.Deep Go.RowKit

theorem ownKnobA : ownKnob Tryz.prog.godebug = none := by kernel_rfl
theorem boolRowA : Tryz.prog.underlying 4 = some .bool := by kernel_rfl
theorem laidOutA : laidOutB Tryz.prog = true := by kernel_rfl
theorem isInt_wf {n : Int} (h : (Lit.int .i64 n).wf = true) : -9223372036854775808 ≤ n ∧ n ≤ 9223372036854775807 := by
  have h1 : IntKind.i64.min = -9223372036854775808 := rfl
  have h2 : IntKind.i64.max = 9223372036854775807 := rfl
  simp [Lit.wf, h1, h2] at h
  omega

section
variable {H : Type} {enc : TypeId × Value → H}
/-- Arguments read as they read. -/
theorem trodAll_again {W W' : World} (hb : Below W.heap.size W W') : ∀ {ts : List TypeId} {vs : List Value} {ds : List (DataW H)} {ps : List MemPlace}, (∀ t ∈ ts, Tryz.prog.readableRec t = true ∧ t < Tryz.prog.types.size) → (∀ p ∈ ps, p.block < W.heap.size) →
    DataW.TrodAll enc Tryz.prog W 0 (fun _ => true) true ts vs ds ps → DataW.TrodAll enc Tryz.prog W' 0 (fun b => decide (b < W.heap.size)) true ts vs ds ps
  | [], [], [], _, _, _, h => h
  | [], [], _ :: _, _, _, _, h => h.elim
  | [], _ :: _, _, _, _, _, h => h.elim
  | _ :: _, [], _, _, _, _, h => h.elim
  | _ :: _, _ :: _, [], _, _, _, h => h.elim
  | t :: ts, v :: vs, d :: ds, ps, hts, hlt, h => by
    obtain ⟨p, q, h1, h2, rfl⟩ := h
    exact ⟨p, q, Below.trod laidOutA (hts t (List.mem_cons_self ..)).1 (hts t (List.mem_cons_self ..)).2 h1 hb (fun x hx => hlt x (List.mem_append_left _ hx)),
      trodAll_again hb (fun t ht => hts t (List.mem_cons_of_mem _ ht)) (fun x hx => hlt x (List.mem_append_right _ hx)) h2, rfl⟩
/-- A law that returned true, and left all that was there as it was. -/
theorem law_post {f : Func} {s : ChangeSpec} (hr : f.resultTypes = #[4]) (hts : ∀ t ∈ f.params.toList, Tryz.prog.readableRec t = true ∧ t < Tryz.prog.types.size) (hv : s.vars = []) {W W' : World} {args : Array Value} {ds gs : List (DataW H)} {before : List MemPlace}
    (hW : DataW.Whole enc Tryz.prog f.params.toList s.vars false W args.toList ds gs before) (hs : s.fn H (ds ++ gs) = { results := [.lit (.bool true)], args := ds }) (hb : Below W.heap.size W W') :
    ∃ v, Ending.returned (.bool true) = Ending.returned v ∧ s.post enc Tryz.prog f false true false false W args v W' := by
  have hlt : ∀ p ∈ before, p.block < W.heap.size := fun p hp => hW.lt p hp
  have hW' := hW
  obtain ⟨p, q, h1, h2, rfl, h4, h5⟩ := hW
  rw [hv] at h2
  obtain ⟨rfl, rfl⟩ := trodVars_none h2
  refine ⟨_, rfl, ds, [], p ++ [], [], p, [], hW', ?_, ?_, ?_, ?_, fun h => by cases h⟩
  · rw [hs, hr]
    exact trodAll_mk1 (shut_bool boolRowA true)
  · rw [hs]
    exact trodAll_again hb hts (fun x hx => hlt x (by simpa using hx)) h1
  · rw [hs, hv]
    rfl
  · exact World.keptBut_mono (fun _ h => h.elim) (hb.frame (fun _ => False))
end
theorem isU8_wf {n : Int} (h : (Lit.int .u8 n).wf = true) : 0 ≤ n ∧ n ≤ 255 := by
  have h1 : IntKind.u8.min = 0 := rfl
  have h2 : IntKind.u8.max = 255 := rfl
  simp [Lit.wf, h1, h2] at h
  omega
theorem list_of {α : Type} {P : Nat → α → Prop} : ∀ {n : Nat}, (∀ i, i < n → ∃ e, P i e) → ∃ l : List α, l.length = n ∧ ∀ i e, l[i]? = some e → P i e
  | 0, _ => ⟨[], rfl, fun i e h => by simp at h⟩
  | n + 1, h => by
    obtain ⟨l, h1, h2⟩ := list_of (n := n) (fun i hi => h i (by omega))
    obtain ⟨e, he⟩ := h n (by omega)
    refine ⟨l ++ [e], by simp [h1], fun i x hx => ?_⟩
    by_cases hi : i < l.length
    · rw [List.getElem?_append_left hi] at hx
      exact h2 i x hx
    · have hie : i = n := by
        have := (List.getElem?_eq_some_iff.1 hx).1
        simp at this
        omega
      subst hie
      rw [List.getElem?_append_right (by omega), h1] at hx
      simp at hx
      subst hx
      exact he
theorem intRowO : Tryz.prog.underlying 3 = some (.int .i64) := Tryz.underlying3
theorem u8RowO : Tryz.prog.underlying 5 = some (.int .u8) := by kernel_rfl
theorem strRowO : Tryz.prog.underlying 9 = some .string := by kernel_rfl
theorem intsRowO : Tryz.prog.underlying 51 = some (.slice 3) := by kernel_rfl
theorem u8sRowO : Tryz.prog.underlying 54 = some (.slice 5) := by kernel_rfl
theorem cInt : Tryz.prog.cellsOf 3 = 1 := by kernel_rfl
theorem cU8 : Tryz.prog.cellsOf 5 = 1 := by kernel_rfl
theorem cStr : Tryz.prog.cellsOf 9 = 1 := by kernel_rfl
theorem cInts : Tryz.prog.cellsOf 51 = 1 := by kernel_rfl
theorem cU8s : Tryz.prog.cellsOf 54 = 1 := by kernel_rfl
theorem cToks : Tryz.prog.cellsOf 39 = 1 := by kernel_rfl
theorem tokStruct : Tryz.prog.underlying 50 = some (.struct (Tryz.prog.fieldsOf 50)) := by kernel_rfl
theorem tokFields : (Tryz.prog.fieldsOf 50).toList.map (fun f => (f.type, f.offset)) = [((3 : TypeId), 0), (9, 1)] := by kernel_rfl
theorem tokCellsN : Tryz.prog.cellsOf 50 = 2 := by kernel_rfl
theorem tokAt {H : Type} {enc : TypeId × Value → H} {W : World} {base : Nat} {sp : Nat → Bool} {held : Bool} {n : Nat} {cs : List Value} {x : DataW H × List MemPlace} (h : DataW.trod enc Tryz.prog W base sp held n 50 cs = some x) :
    cs.length = 2 ∧ ∃ m, ∀ (i : Nat) (t : TypeId) (o : Nat), [((3 : TypeId), 0), (9, 1)][i]? = some (t, o) → ∃ y, DataW.trod enc Tryz.prog W base sp held m t ((cs.drop o).take (Tryz.prog.cellsOf t)) = some y := by
  obtain ⟨xs, m, rfl, _, hlen, hxl, hf⟩ := DataW.trod_struct tokStruct h
  rw [tokCellsN] at hlen
  have hsz : (Tryz.prog.fieldsOf 50).size = 2 := by rw [← Array.length_toList, ← List.length_map (f := fun f : Field => (f.type, f.offset)), tokFields]; rfl
  refine ⟨hlen, m, ?_⟩
  intro i t o hi
  have hi' := hi
  rw [← tokFields, List.getElem?_map] at hi
  obtain ⟨f, hf1, hf2⟩ := Option.map_eq_some_iff.1 hi
  simp only [Prod.mk.injEq] at hf2
  obtain ⟨rfl, rfl⟩ := hf2
  rw [hf i f (by rw [← Array.getElem?_toList]; exact hf1)]
  have hil : i < xs.length := by rw [hxl, hsz]; exact (List.getElem?_eq_some_iff.1 hi').1
  exact ⟨_, List.getElem?_eq_getElem hil⟩
theorem bagStruct : Tryz.prog.underlying 41 = some (.struct (Tryz.prog.fieldsOf 41)) := by kernel_rfl
theorem bagFields : (Tryz.prog.fieldsOf 41).toList.map (fun f => (f.type, f.offset)) = [((3 : TypeId), 0), (3, 1), (3, 2), (39, 3)] := by kernel_rfl
theorem bagCellsN : Tryz.prog.cellsOf 41 = 4 := by kernel_rfl
theorem bagAt {H : Type} {enc : TypeId × Value → H} {W : World} {base : Nat} {sp : Nat → Bool} {held : Bool} {n : Nat} {cs : List Value} {x : DataW H × List MemPlace} (h : DataW.trod enc Tryz.prog W base sp held n 41 cs = some x) :
    cs.length = 4 ∧ ∃ m, ∀ (i : Nat) (t : TypeId) (o : Nat), [((3 : TypeId), 0), (3, 1), (3, 2), (39, 3)][i]? = some (t, o) → ∃ y, DataW.trod enc Tryz.prog W base sp held m t ((cs.drop o).take (Tryz.prog.cellsOf t)) = some y := by
  obtain ⟨xs, m, rfl, _, hlen, hxl, hf⟩ := DataW.trod_struct bagStruct h
  rw [bagCellsN] at hlen
  have hsz : (Tryz.prog.fieldsOf 41).size = 4 := by rw [← Array.length_toList, ← List.length_map (f := fun f : Field => (f.type, f.offset)), bagFields]; rfl
  refine ⟨hlen, m, ?_⟩
  intro i t o hi
  have hi' := hi
  rw [← bagFields, List.getElem?_map] at hi
  obtain ⟨f, hf1, hf2⟩ := Option.map_eq_some_iff.1 hi
  simp only [Prod.mk.injEq] at hf2
  obtain ⟨rfl, rfl⟩ := hf2
  rw [hf i f (by rw [← Array.getElem?_toList]; exact hf1)]
  have hil : i < xs.length := by rw [hxl, hsz]; exact (List.getElem?_eq_some_iff.1 hi').1
  exact ⟨_, List.getElem?_eq_getElem hil⟩
theorem opxStruct : Tryz.prog.underlying 53 = some (.struct (Tryz.prog.fieldsOf 53)) := by kernel_rfl
theorem opxFields : (Tryz.prog.fieldsOf 53).toList.map (fun f => (f.type, f.offset)) = [((5 : TypeId), 0), (50, 1), (51, 3), (3, 4), (3, 5), (9, 6), (9, 7), (51, 8)] := by kernel_rfl
theorem opxCellsN : Tryz.prog.cellsOf 53 = 9 := by kernel_rfl
theorem opxAt {H : Type} {enc : TypeId × Value → H} {W : World} {base : Nat} {sp : Nat → Bool} {held : Bool} {n : Nat} {cs : List Value} {x : DataW H × List MemPlace} (h : DataW.trod enc Tryz.prog W base sp held n 53 cs = some x) :
    cs.length = 9 ∧ ∃ m, ∀ (i : Nat) (t : TypeId) (o : Nat), [((5 : TypeId), 0), (50, 1), (51, 3), (3, 4), (3, 5), (9, 6), (9, 7), (51, 8)][i]? = some (t, o) → ∃ y, DataW.trod enc Tryz.prog W base sp held m t ((cs.drop o).take (Tryz.prog.cellsOf t)) = some y := by
  obtain ⟨xs, m, rfl, _, hlen, hxl, hf⟩ := DataW.trod_struct opxStruct h
  rw [opxCellsN] at hlen
  have hsz : (Tryz.prog.fieldsOf 53).size = 8 := by rw [← Array.length_toList, ← List.length_map (f := fun f : Field => (f.type, f.offset)), opxFields]; rfl
  refine ⟨hlen, m, ?_⟩
  intro i t o hi
  have hi' := hi
  rw [← opxFields, List.getElem?_map] at hi
  obtain ⟨f, hf1, hf2⟩ := Option.map_eq_some_iff.1 hi
  simp only [Prod.mk.injEq] at hf2
  obtain ⟨rfl, rfl⟩ := hf2
  rw [hf i f (by rw [← Array.getElem?_toList]; exact hf1)]
  have hil : i < xs.length := by rw [hxl, hsz]; exact (List.getElem?_eq_some_iff.1 hi').1
  exact ⟨_, List.getElem?_eq_getElem hil⟩
theorem opdStruct : Tryz.prog.underlying 56 = some (.struct (Tryz.prog.fieldsOf 56)) := by kernel_rfl
theorem opdFields : (Tryz.prog.fieldsOf 56).toList.map (fun f => (f.type, f.offset)) = [((5 : TypeId), 0), (3, 1), (54, 2), (3, 3), (51, 4)] := by kernel_rfl
theorem opdCellsN : Tryz.prog.cellsOf 56 = 5 := by kernel_rfl
theorem opdAt {H : Type} {enc : TypeId × Value → H} {W : World} {base : Nat} {sp : Nat → Bool} {held : Bool} {n : Nat} {cs : List Value} {x : DataW H × List MemPlace} (h : DataW.trod enc Tryz.prog W base sp held n 56 cs = some x) :
    cs.length = 5 ∧ ∃ m, ∀ (i : Nat) (t : TypeId) (o : Nat), [((5 : TypeId), 0), (3, 1), (54, 2), (3, 3), (51, 4)][i]? = some (t, o) → ∃ y, DataW.trod enc Tryz.prog W base sp held m t ((cs.drop o).take (Tryz.prog.cellsOf t)) = some y := by
  obtain ⟨xs, m, rfl, _, hlen, hxl, hf⟩ := DataW.trod_struct opdStruct h
  rw [opdCellsN] at hlen
  have hsz : (Tryz.prog.fieldsOf 56).size = 5 := by rw [← Array.length_toList, ← List.length_map (f := fun f : Field => (f.type, f.offset)), opdFields]; rfl
  refine ⟨hlen, m, ?_⟩
  intro i t o hi
  have hi' := hi
  rw [← opdFields, List.getElem?_map] at hi
  obtain ⟨f, hf1, hf2⟩ := Option.map_eq_some_iff.1 hi
  simp only [Prod.mk.injEq] at hf2
  obtain ⟨rfl, rfl⟩ := hf2
  rw [hf i f (by rw [← Array.getElem?_toList]; exact hf1)]
  have hil : i < xs.length := by rw [hxl, hsz]; exact (List.getElem?_eq_some_iff.1 hi').1
  exact ⟨_, List.getElem?_eq_getElem hil⟩
theorem opnStruct : Tryz.prog.underlying 32 = some (.struct (Tryz.prog.fieldsOf 32)) := by kernel_rfl
theorem opnFields : (Tryz.prog.fieldsOf 32).toList.map (fun f => (f.type, f.offset)) = [((5 : TypeId), 0), (3, 1), (3, 2), (3, 3), (9, 4)] := by kernel_rfl
theorem opnCellsN : Tryz.prog.cellsOf 32 = 5 := by kernel_rfl
theorem opnAt {H : Type} {enc : TypeId × Value → H} {W : World} {base : Nat} {sp : Nat → Bool} {held : Bool} {n : Nat} {cs : List Value} {x : DataW H × List MemPlace} (h : DataW.trod enc Tryz.prog W base sp held n 32 cs = some x) :
    cs.length = 5 ∧ ∃ m, ∀ (i : Nat) (t : TypeId) (o : Nat), [((5 : TypeId), 0), (3, 1), (3, 2), (3, 3), (9, 4)][i]? = some (t, o) → ∃ y, DataW.trod enc Tryz.prog W base sp held m t ((cs.drop o).take (Tryz.prog.cellsOf t)) = some y := by
  obtain ⟨xs, m, rfl, _, hlen, hxl, hf⟩ := DataW.trod_struct opnStruct h
  rw [opnCellsN] at hlen
  have hsz : (Tryz.prog.fieldsOf 32).size = 5 := by rw [← Array.length_toList, ← List.length_map (f := fun f : Field => (f.type, f.offset)), opnFields]; rfl
  refine ⟨hlen, m, ?_⟩
  intro i t o hi
  have hi' := hi
  rw [← opnFields, List.getElem?_map] at hi
  obtain ⟨f, hf1, hf2⟩ := Option.map_eq_some_iff.1 hi
  simp only [Prod.mk.injEq] at hf2
  obtain ⟨rfl, rfl⟩ := hf2
  rw [hf i f (by rw [← Array.getElem?_toList]; exact hf1)]
  have hil : i < xs.length := by rw [hxl, hsz]; exact (List.getElem?_eq_some_iff.1 hi').1
  exact ⟨_, List.getElem?_eq_getElem hil⟩
section
variable {H : Type} {enc : TypeId × Value → H} {W : World}
/-- The form of a slice that comes in. -/
theorem slice_form {t e : TypeId} (hr : Tryz.prog.underlying t = some (.slice e)) {fuel : Nat} {cs : List Value} {x : DataW H × List MemPlace} (hf : DataW.trod enc Tryz.prog W 0 (fun _ => true) true fuel t cs = some x) : ∃ A n c, cs = [.slice A n c] ∧ n ≤ maxLen := by
  rcases open_slice hr hf with ⟨hcs, hx⟩ | ⟨a, len, cap, m, n, D, Pl, hcs, _, hl, hm, hmm, hx, hi⟩
  · exact ⟨none, 0, 0, hcs, Nat.zero_le _⟩
  · exact ⟨some a, len, cap, hcs, by omega⟩
set_option maxRecDepth 100000 in
theorem open_tok {n : Nat} {cs : List Value} {x : DataW H × List MemPlace} (h : DataW.trod enc Tryz.prog W 0 (fun _ => true) true n 50 cs = some x) : ∃ t : Tok, cs = tokCells t ∧ t.body.size ≤ maxLen ∧ (-9223372036854775808 ≤ t.id ∧ t.id ≤ 9223372036854775807) := by
  obtain ⟨hlen, m, hat⟩ := tokAt h
  match cs, hlen with
  | [c0, c1], _ =>
    obtain ⟨_, h0⟩ := hat 0 _ _ rfl
    obtain ⟨_, h1⟩ := hat 1 _ _ rfl
    rw [cInt] at h0
    rw [cStr] at h1
    obtain ⟨n0, e0, _, w0⟩ := DataW.trod_int intRowO h0
    obtain ⟨s1, e1, _, w1⟩ := DataW.trod_string strRowO h1
    simp at e0 e1
    subst e0 e1
    exact ⟨⟨n0, s1⟩, rfl, w1, isInt_wf w0⟩
set_option maxRecDepth 100000 in
theorem open_opx {base : Nat} {v : Value} {d : DataW H} {ps : List MemPlace} (hval : Value.okWide Tryz.prog W .any base 53 v) (h : DataW.Trod enc Tryz.prog W 0 (fun _ => true) true 53 v d ps) :
    ∃ o : OpX, v = opxVal o ∧ (0 ≤ o.kind ∧ o.kind ≤ 255) ∧ o.body.size ≤ maxLen ∧ o.text.size ≤ maxLen ∧ o.note.size ≤ maxLen ∧ o.ni ≤ maxLen ∧ o.nk ≤ maxLen := by
  obtain ⟨cs, rfl, hsz⟩ := okWide_struct opxStruct hval
  obtain ⟨fuel, hf⟩ := h
  rw [show (Value.agg cs).cells.toList = cs.toList from rfl] at hf
  obtain ⟨hlen, m, hat⟩ := opxAt hf
  obtain ⟨l⟩ := cs
  dsimp only at hat hlen
  match l, hlen with
  | [c0, c1, c2, c3, c4, c5, c6, c7, c8], _ =>
    obtain ⟨_, h0⟩ := hat 0 _ _ rfl
    obtain ⟨_, h1⟩ := hat 1 _ _ rfl
    obtain ⟨_, h2⟩ := hat 2 _ _ rfl
    obtain ⟨_, h3⟩ := hat 3 _ _ rfl
    obtain ⟨_, h4⟩ := hat 4 _ _ rfl
    obtain ⟨_, h5⟩ := hat 5 _ _ rfl
    obtain ⟨_, h6⟩ := hat 6 _ _ rfl
    obtain ⟨_, h7⟩ := hat 7 _ _ rfl
    rw [cU8] at h0
    rw [tokCellsN] at h1
    rw [cInts] at h2 h7
    rw [cInt] at h3 h4
    rw [cStr] at h5 h6
    obtain ⟨n0, e0, _, w0⟩ := DataW.trod_int u8RowO h0
    obtain ⟨t1, e1, w1, _⟩ := open_tok h1
    obtain ⟨A2, n2, k2, e2, w2⟩ := slice_form intsRowO h2
    obtain ⟨n3, e3, _, _⟩ := DataW.trod_int intRowO h3
    obtain ⟨n4, e4, _, _⟩ := DataW.trod_int intRowO h4
    obtain ⟨s5, e5, _, w5⟩ := DataW.trod_string strRowO h5
    obtain ⟨s6, e6, _, w6⟩ := DataW.trod_string strRowO h6
    obtain ⟨A7, n7, k7, e7, w7⟩ := slice_form intsRowO h7
    simp [tokCells] at e0 e1 e2 e3 e4 e5 e6 e7
    obtain ⟨e1, e1'⟩ := e1
    subst e0 e1 e1' e2 e3 e4 e5 e6 e7
    exact ⟨⟨n0, t1.id, t1.body, A2, n2, k2, n3, n4, s5, s6, A7, n7, k7⟩, rfl, isU8_wf w0, w1, w5, w6, w2, w7⟩
set_option maxRecDepth 100000 in
theorem open_opd {base : Nat} {v : Value} {d : DataW H} {ps : List MemPlace} (hval : Value.okWide Tryz.prog W .any base 56 v) (h : DataW.Trod enc Tryz.prog W 0 (fun _ => true) true 56 v d ps) :
    ∃ o : OpD, v = opdVal o ∧ o.nd ≤ maxLen ∧ o.nk ≤ maxLen := by
  obtain ⟨cs, rfl, hsz⟩ := okWide_struct opdStruct hval
  obtain ⟨fuel, hf⟩ := h
  rw [show (Value.agg cs).cells.toList = cs.toList from rfl] at hf
  obtain ⟨hlen, m, hat⟩ := opdAt hf
  obtain ⟨l⟩ := cs
  dsimp only at hat hlen
  match l, hlen with
  | [c0, c1, c2, c3, c4], _ =>
    obtain ⟨_, h0⟩ := hat 0 _ _ rfl
    obtain ⟨_, h1⟩ := hat 1 _ _ rfl
    obtain ⟨_, h2⟩ := hat 2 _ _ rfl
    obtain ⟨_, h3⟩ := hat 3 _ _ rfl
    obtain ⟨_, h4⟩ := hat 4 _ _ rfl
    rw [cU8] at h0
    rw [cInt] at h1 h3
    rw [cU8s] at h2
    rw [cInts] at h4
    obtain ⟨n0, e0, _, w0⟩ := DataW.trod_int u8RowO h0
    obtain ⟨n1, e1, _, _⟩ := DataW.trod_int intRowO h1
    obtain ⟨A2, n2, k2, e2, w2⟩ := slice_form u8sRowO h2
    obtain ⟨n3, e3, _, _⟩ := DataW.trod_int intRowO h3
    obtain ⟨A4, n4, k4, e4, w4⟩ := slice_form intsRowO h4
    simp at e0 e1 e2 e3 e4
    subst e0 e1 e2 e3 e4
    exact ⟨⟨n0, n1, A2, n2, k2, n3, A4, n4, k4⟩, rfl, w2, w4⟩
set_option maxRecDepth 100000 in
theorem open_opn {base : Nat} {v : Value} {d : DataW H} {ps : List MemPlace} (hval : Value.okWide Tryz.prog W .any base 32 v) (h : DataW.Trod enc Tryz.prog W 0 (fun _ => true) true 32 v d ps) :
    ∃ o : OpN, v = opnVal o ∧ o.text.size ≤ maxLen := by
  obtain ⟨cs, rfl, hsz⟩ := okWide_struct opnStruct hval
  obtain ⟨fuel, hf⟩ := h
  rw [show (Value.agg cs).cells.toList = cs.toList from rfl] at hf
  obtain ⟨hlen, m, hat⟩ := opnAt hf
  obtain ⟨l⟩ := cs
  dsimp only at hat hlen
  match l, hlen with
  | [c0, c1, c2, c3, c4], _ =>
    obtain ⟨_, h0⟩ := hat 0 _ _ rfl
    obtain ⟨_, h1⟩ := hat 1 _ _ rfl
    obtain ⟨_, h2⟩ := hat 2 _ _ rfl
    obtain ⟨_, h3⟩ := hat 3 _ _ rfl
    obtain ⟨_, h4⟩ := hat 4 _ _ rfl
    rw [cU8] at h0
    rw [cInt] at h1 h2 h3
    rw [cStr] at h4
    obtain ⟨n0, e0, _, w0⟩ := DataW.trod_int u8RowO h0
    obtain ⟨n1, e1, _, _⟩ := DataW.trod_int intRowO h1
    obtain ⟨n2, e2, _, _⟩ := DataW.trod_int intRowO h2
    obtain ⟨n3, e3, _, _⟩ := DataW.trod_int intRowO h3
    obtain ⟨s4, e4, _, w4⟩ := DataW.trod_string strRowO h4
    simp at e0 e1 e2 e3 e4
    subst e0 e1 e2 e3 e4
    exact ⟨⟨n0, n1, n2, n3, s4⟩, rfl, w4⟩
theorem tokCells_lt (t : Tok) (j : Nat) (v : Value) (h : (tokCells t)[j]? = some v) : j < 2 := (List.getElem?_eq_some_iff.1 h).1
theorem flat_tok {L : List Tok} {j : Nat} {v : Value} (h : (L.flatMap tokCells)[j]? = some v) : ∃ k r t, L[k]? = some t ∧ j = k * 2 + r ∧ (tokCells t)[r]? = some v := by
  induction L generalizing j with
  | nil => simp at h
  | cons a L ih =>
    rw [List.flatMap_cons] at h
    by_cases hj : j < 2
    · rw [List.getElem?_append_left (by simpa [tokCells] using hj)] at h
      exact ⟨0, j, a, rfl, by omega, h⟩
    · rw [List.getElem?_append_right (by simp [tokCells]; omega)] at h
      obtain ⟨k, r, t, h1, h2, h3⟩ := ih h
      refine ⟨k + 1, r, t, h1, ?_, h3⟩
      simp [tokCells] at h2
      omega
set_option maxRecDepth 100000 in
theorem open_toks {fuel : Nat} {cs : List Value} {x : DataW H × List MemPlace} (hf : DataW.trod enc Tryz.prog W 0 (fun _ => true) true fuel 39 cs = some x) :
    ∃ v L, cs = [v] ∧ TokAt W v L ∧ L.length ≤ maxLen ∧ ∀ t ∈ L, t.body.size ≤ maxLen ∧ (-9223372036854775808 ≤ t.id ∧ t.id ≤ 9223372036854775807) := by
  rcases open_slice rowTok hf with ⟨hcs, hx⟩ | ⟨a, len, cap, m, n, D, Pl, hcs, _, hl, hm, hmm, hx, hi⟩
  · exact ⟨_, [], hcs, ⟨none, 0, rfl, Nat.le_refl _, .inl rfl⟩, Nat.zero_le _, fun t ht => by cases ht⟩
  · simp only [if_true] at hmm
    subst hmm
    rw [tokCellsN] at hi
    have hE : ∀ i, i < len → ∃ t : Tok, (t.body.size ≤ maxLen ∧ (-9223372036854775808 ≤ t.id ∧ t.id ≤ 9223372036854775807)) ∧ ∀ j u, (tokCells t)[j]? = some u → W.cell? (a.add (i * 2 + j)) = some u := by
      intro i hi'
      obtain ⟨cs', hc, ht⟩ := hi i (by omega)
      obtain ⟨e, rfl, he⟩ := open_tok ht
      obtain ⟨_, _, hat⟩ := World.cells?_some hc
      refine ⟨e, he, fun j u hu => ?_⟩
      rw [← Go.Deep.add_add, hat j (tokCells_lt e j u hu), hu]
    obtain ⟨l, hll, hP⟩ := list_of hE
    refine ⟨_, l, hcs, ⟨some a, m, by rw [hll], by omega, ?_⟩, by omega, fun t ht => ?_⟩
    · cases hl0 : l with
      | nil => exact .inl rfl
      | cons e0 l' =>
        rw [← hl0]
        have h0 := hP 0 e0 (by rw [hl0]; rfl)
        have hc0 := h0.2 0 _ rfl
        have hsp0 : (a.add (0 * 2 + 0)).spot = none := World.cell?_spot hc0
        obtain ⟨b, off, spot⟩ := a
        obtain rfl : spot = none := by simpa [Addr.add] using hsp0
        have hlt : b < W.heap.size := by
          have := hc0
          rw [Addr.add_lit] at this
          exact World.block_lt_of_cell? W _ this
        refine .inr ⟨b, off, rfl, hlt, fun j v hj => ?_⟩
        obtain ⟨k, r, t, hk, rfl, hr⟩ := flat_tok hj
        have := (hP k t hk).2 r v hr
        rw [Addr.add_lit] at this
        exact this
    · obtain ⟨i, hi2⟩ := List.getElem?_of_mem ht
      exact (hP i t hi2).1
set_option maxRecDepth 100000 in
theorem open_bag {base : Nat} {v : Value} {d : DataW H} {ps : List MemPlace} (hval : Value.okWide Tryz.prog W .any base 41 v) (h : DataW.Trod enc Tryz.prog W 0 (fun _ => true) true 41 v d ps) :
    ∃ (b : BagV) (L : List Tok), v = bagVal b ∧ TokAt W b.toks L ∧ L.length ≤ maxLen ∧ ∀ t ∈ L, t.body.size ≤ maxLen ∧ (-9223372036854775808 ≤ t.id ∧ t.id ≤ 9223372036854775807) := by
  obtain ⟨cs, rfl, hsz⟩ := okWide_struct bagStruct hval
  obtain ⟨fuel, hf⟩ := h
  rw [show (Value.agg cs).cells.toList = cs.toList from rfl] at hf
  obtain ⟨hlen, m, hat⟩ := bagAt hf
  obtain ⟨l⟩ := cs
  dsimp only at hat hlen
  match l, hlen with
  | [c0, c1, c2, c3], _ =>
    obtain ⟨_, h0⟩ := hat 0 _ _ rfl
    obtain ⟨_, h1⟩ := hat 1 _ _ rfl
    obtain ⟨_, h2⟩ := hat 2 _ _ rfl
    obtain ⟨_, h3⟩ := hat 3 _ _ rfl
    rw [cInt] at h0 h1 h2
    rw [cToks] at h3
    obtain ⟨n0, e0, _, w0⟩ := DataW.trod_int intRowO h0
    obtain ⟨n1, e1, _, _⟩ := DataW.trod_int intRowO h1
    obtain ⟨n2, e2, _, _⟩ := DataW.trod_int intRowO h2
    obtain ⟨v3, L, e3, w3, w4, w5⟩ := open_toks h3
    simp at e0 e1 e2 e3
    subst e0 e1 e2 e3
    exact ⟨⟨n0, n1, n2, _⟩, L, rfl, w3, w4, w5⟩
end
theorem errName : Tryz.prog.typeName? 3 257 = some "*errors.errorString" := by kernel_rfl
theorem errStar : "*" ++ "errors.errorString" = "*errors.errorString" := by decide
theorem errRow (u : TypeId) (h : Tryz.prog.typeName? 3 u = some "*errors.errorString") : u = 257 :=
  typeName_ptr_named (nm := "errors.errorString") (by rw [errStar]; kernel_rfl) (by kernel_rfl) (by decide) u (by rw [errStar]; exact h)
theorem errIn_of {n : String} {g : Nat} {W : World} {text : List UInt8} {r : List (String × DataW Unit)} (hg : Tryz.prog.globalNamed n = some g) (ht : (Tryz.prog.globals[g]?).map (·.type) = some 163)
    (h : laidMet Tryz.prog ((n, .iface "*errors.errorString" (.ptr (.agg [.lit (.string text)]))) :: r) W) : ErrIn g W := by
  obtain ⟨a, s, hv, _⟩ := laid_sentinel h hg ht Tryz.underlying163 errRow Tryz.underlying257 Tryz.underlying259 rfl rfl Tryz.underlying9 (by kernel_rfl) (by kernel_rfl)
  exact ⟨_, World.var?_cell hg hv 0, .inr ⟨_, _, rfl⟩⟩
theorem cu_laid {W : World} (h : laidMetH Tryz.prog Rows.custodyNilRow.laid W) : PowAt W ∧ ErrsAt W := by
  rw [Go.MakeChecks.laidMetH_plain _ _ _ (by kernel_rfl)] at h
  have h1 : laidMet Tryz.prog [("math/bits.deBruijn32tab", Rows.laid_math_bits_deBruijn32tab), ("math/bits.deBruijn64tab", Rows.laid_math_bits_deBruijn64tab), ("internal/strconv.uint64pow10", Rows.laid_internal_strconv_uint64pow10), ("unicode/utf8.acceptRanges", Rows.laid_unicode_utf8_acceptRanges), ("strconv.ErrRange", Rows.laid_strconv_ErrRange), ("strconv.ErrSyntax", Rows.laid_strconv_ErrSyntax), ("unicode/utf8.first", Rows.laid_unicode_utf8_first)] W := h
  have h2 := h1.tail.tail
  have h3 := h2.tail.tail
  have h4 := h3.tail
  refine ⟨Lib.tabIs_of_head (g := 3) (by kernel_rfl) (by kernel_rfl) Tryz.underlying253 Tryz.underlying214 (by kernel_rfl) (by kernel_rfl) h2, ?_, ?_⟩
  · exact errIn_of (n := "strconv.ErrSyntax") (by kernel_rfl) (by kernel_rfl) h4
  · exact errIn_of (n := "strconv.ErrRange") (by kernel_rfl) (by kernel_rfl) h3
/-- The world of the witness: the listed variables laid. -/
noncomputable def doorW (os : Os) : World := World.laidAll Tryz.prog os Rows.custodyNilRow.laid
/-- A witness whose listed variables are laid by the library's function. -/
theorem witness_zip {H : Type} {enc : TypeId × Value → H} {C : Checked} {os : Os} {f : FuncId} {fn : Func} {s : OpenSpec} {conds : List PathCond} {apart : Bool} {laid : List (String × DataW Unit)} (modest : Bool) (w0 : World) (args : Array Value) (hos : w0.os = os)
    (hv : (w0.forCall (fun _ _ => 0) ⟨#[], args, []⟩).variablesZipB C.prog = true)
    (hr : ((w0.forCall (fun _ _ => 0) ⟨#[], args, []⟩).heap.toList.drop C.prog.globals.size).take ((begin C.prog (fun _ _ => 0) default).world.heap.size - C.prog.globals.size) =
      (begin C.prog (fun _ _ => 0) default).world.heap.toList.drop C.prog.globals.size)
    (hok : Input.okWideB C.prog (w0.forCall (fun _ _ => 0) ⟨#[], args, []⟩) f ⟨#[], args, []⟩ = true)
    (hrow : s.preRow enc C.prog fn conds apart laid (w0.forCall (fun _ _ => 0) ⟨#[], args, []⟩).memory args) :
    ∃ (w : World) (tape : Tape) (i : Input), w.os = os ∧ (w.forCall tape i).Shaped C.prog ∧ i.vars = [] ∧ Input.okWide C.prog (w.forCall tape i) .any w.heap.size f i ∧
      s.preRow enc C.prog fn conds apart laid (w.forCall tape i).memory i.args ∧ ({ modest := modest } : Assume).holds C.prog (lone (Frame.enter C.prog f i.args .normal) [] (w.forCall tape i)) :=
  ⟨w0, fun _ _ => 0, ⟨#[], args, []⟩, hos, World.shaped_of_ZipB hv hr, (Input.okWide_of_okWideB (base := 0) hok).1, (Input.okWide_of_okWideB hok).2, hrow, by
    simp only [Assume.holds]
    exact ⟨by simp, by simp, fun _ => Modest.zero, by simp, by simp⟩⟩
end Go.Proofs.YthgfbaekmhpiaaaGreatDoor
