/- CustodyJournal returns true for every number of sectors and every script of operations, and leaves its arguments as they were. No conditions. -/
import Derived.Test.YthieonekjmdelaaJKit
import Derived.Test.YthieonekjmdelaaJournal
namespace Go.Proofs.Ythieonekjmdelaa
open Go.ChangeShapes Go.WideShapes Go.ChangeAt Go.Deep Go.RowKit

theorem rowJOps : Try.prog.underlying 22 = some (.slice 39) := by kernel_rfl
theorem cellsIntsJ : Try.prog.cellsOf 37 = 1 := by kernel_rfl
theorem cellsJOp : Try.prog.cellsOf 39 = 4 := by kernel_rfl
theorem jopStruct : Try.prog.underlying 39 = some (.struct (Try.prog.fieldsOf 39)) := by kernel_rfl
theorem jopFields : (Try.prog.fieldsOf 39).toList.map (fun f => (f.type, f.offset)) = [((5 : TypeId), 0), (9, 1), (3, 2), (37, 3)] := by kernel_rfl
theorem rowInts : Try.prog.underlying 37 = some (.slice 3) := by kernel_rfl
theorem cellsInt : Try.prog.cellsOf 3 = 1 := by kernel_rfl
theorem numsJ_readable : Try.prog.readableRec 37 = true ∧ (37 : TypeId) < Try.prog.types.size := ⟨by kernel_rfl, of_decide_eq_true (by kernel_rfl)⟩
/-- Numbers that come in. -/
theorem open_numsC {H : Type} {enc : TypeId × Value → H} {W : World} {fuel : Nat} {cs : List Value} {x : DataW H × List MemPlace} (hf : DataW.trod enc Try.prog W 0 (fun _ => true) true fuel 37 cs = some x) :
    ∃ A c, ∃ l : List Int, cs = [.slice A l.length c] ∧ l.length ≤ maxLen ∧ NumsAt W A l ∧ ∀ n ∈ l, -9223372036854775808 ≤ n ∧ n ≤ 9223372036854775807 := by
  rcases open_ints rowInts intRow cellsInt hf with ⟨hcs, hx⟩ | ⟨a, len, cap, zs, hcs, _, hl, hm, hz, hx, hcell, hwz⟩
  · exact ⟨none, 0, [], hcs, Nat.zero_le _, fun h => by simp at h, fun n h => by simp at h⟩
  · simp only [if_true] at hz
    have hll : (zs.take len).length = len := by rw [List.length_take]; omega
    refine ⟨some a, cap, zs.take len, by rw [hll]; exact hcs, by rw [hll]; omega, fun h0 => ?_, fun n hn => isInt_wf (hwz n (List.mem_of_mem_take hn))⟩
    rw [hll] at h0
    obtain ⟨ab, ao, spot⟩ := a
    have hspot : spot = none := by simpa [Addr.add] using World.cell?_spot (hcell 0 (by omega))
    subst hspot
    have hall : ∀ i x, (zs.take len)[i]? = some x → W.cell? ⟨ab, ao + i, none⟩ = some (.int .i64 x) := fun i x hx => by
      have hil := (List.getElem?_eq_some_iff.1 hx).1
      rw [hll] at hil
      have hci := hcell i (by omega)
      rw [Addr.add_lit] at hci
      rw [hci, List.getD_eq_getElem?_getD]
      rw [List.getElem?_take, if_pos hil] at hx
      rw [hx]
      rfl
    refine ⟨ab, ao, rfl, hall, ?_⟩
    have h1 := hcell 0 (by omega)
    rw [Addr.add_lit] at h1
    exact World.block_lt_of_cell? W _ h1
theorem open_numsJ {H : Type} {enc : TypeId × Value → H} {W : World} {base : Nat} {v : Value} {d : DataW H} {ps : List MemPlace} (hval : Value.okWide Try.prog W .any base 37 v) (h : DataW.Trod enc Try.prog W 0 (fun _ => true) true 37 v d ps) :
    ∃ A c, ∃ l : List Int, v = .slice A l.length c ∧ l.length ≤ maxLen ∧ NumsAt W A l ∧ ∀ n ∈ l, -9223372036854775808 ≤ n ∧ n ≤ 9223372036854775807 := by
  obtain ⟨A, len, cap, rfl⟩ := okWide_slice rowInts hval
  obtain ⟨fuel, hf⟩ := h
  obtain ⟨A', c', l, hcs, h1, h2, h3⟩ := open_numsC hf
  simp [Value.cells] at hcs
  obtain ⟨rfl, rfl, rfl⟩ := hcs
  exact ⟨_, _, l, rfl, h1, h2, h3⟩
theorem isU8_wf {n : Int} (h : (Lit.int .u8 n).wf = true) : 0 ≤ n ∧ n ≤ 255 := by
  have h1 : IntKind.u8.min = 0 := rfl
  have h2 : IntKind.u8.max = 255 := rfl
  simp [Lit.wf, h1, h2] at h
  omega
theorem list_of {α : Type} {P : Nat → α → Prop} : ∀ {n : Nat}, (∀ i, i < n → ∃ e, P i e) → ∃ l : List α, l.length = n ∧ ∀ i e, l[i]? = some e → P i e
  | 0, _ => ⟨[], rfl, fun i e h => by simp at h⟩
  | n + 1, h => by
    obtain ⟨l, h1, h2⟩ := list_of (n := n) (fun i hi => h i (by omega))
    obtain ⟨e, he⟩ := h n (by omega)
    refine ⟨l ++ [e], by simp [h1], fun i x hx => ?_⟩
    by_cases hi : i < l.length
    · rw [List.getElem?_append_left hi] at hx
      exact h2 i x hx
    · have hie : i = n := by
        have := (List.getElem?_eq_some_iff.1 hx).1
        simp at this
        omega
      subst hie
      rw [List.getElem?_append_right (by omega), h1] at hx
      simp at hx
      subst hx
      exact he
section
variable {H : Type} {enc : TypeId × Value → H} {W : World}
set_option maxRecDepth 100000 in
theorem open_jop {n : Nat} {cs : List Value} {x : DataW H × List MemPlace} (h : DataW.trod enc Try.prog W 0 (fun _ => true) true n 39 cs = some x) : ∃ o : JOp, cs = jopCells o ∧ o.data.size ≤ maxLen ∧ o.keep.length ≤ maxLen ∧ OkJ W o := by
  obtain ⟨xs, m, rfl, _, hlen, hxl, hf⟩ := DataW.trod_struct jopStruct h
  rw [cellsJOp] at hlen
  have hsz : (Try.prog.fieldsOf 39).size = 4 := by rw [← Array.length_toList, ← List.length_map (f := fun f : Field => (f.type, f.offset)), jopFields]; rfl
  have hat : ∀ (i : Nat) (t : TypeId) (o : Nat), [((5 : TypeId), 0), (9, 1), (3, 2), (37, 3)][i]? = some (t, o) →
      ∃ y, DataW.trod enc Try.prog W 0 (fun _ => true) true m t ((cs.drop o).take (Try.prog.cellsOf t)) = some y := by
    intro i t o hi
    have hi' := hi
    rw [← jopFields, List.getElem?_map] at hi
    obtain ⟨f, hf1, hf2⟩ := Option.map_eq_some_iff.1 hi
    simp only [Prod.mk.injEq] at hf2
    obtain ⟨rfl, rfl⟩ := hf2
    rw [hf i f (by rw [← Array.getElem?_toList]; exact hf1)]
    have hil : i < xs.length := by rw [hxl, hsz]; exact (List.getElem?_eq_some_iff.1 hi').1
    exact ⟨_, List.getElem?_eq_getElem hil⟩
  match cs, hlen with
  | [c0, c1, c2, c3], _ =>
    obtain ⟨_, h0⟩ := hat 0 _ _ rfl
    obtain ⟨_, h1⟩ := hat 1 _ _ rfl
    obtain ⟨_, h2⟩ := hat 2 _ _ rfl
    obtain ⟨_, h3⟩ := hat 3 _ _ rfl
    rw [cellsU8] at h0
    rw [cellsTx] at h1
    rw [cellsInt] at h2
    rw [cellsIntsJ] at h3
    obtain ⟨n0, e0, _, w0⟩ := DataW.trod_int u8IntJ h0
    obtain ⟨s1, e1, _, w1⟩ := DataW.trod_string strDescJ h1
    obtain ⟨n2, e2, _, w2⟩ := DataW.trod_int intRow h2
    obtain ⟨A3, a3, l3, e3, hl3, hb3, hw3⟩ := open_numsC h3
    simp at e0 e1 e2 e3
    subst e0 e1 e2 e3
    exact ⟨⟨n0, s1, n2, A3, a3, l3⟩, rfl, w1, hl3, ⟨isU8_wf w0, isInt_wf w2, hw3, hb3⟩⟩
theorem jopCells_lt (o : JOp) (j : Nat) (v : Value) (h : (jopCells o)[j]? = some v) : j < 4 := (List.getElem?_eq_some_iff.1 h).1
set_option maxRecDepth 100000 in
theorem open_jops {base : Nat} {v : Value} {d : DataW H} {ps : List MemPlace} (hval : Value.okWide Try.prog W .any base 22 v) (h : DataW.Trod enc Try.prog W 0 (fun _ => true) true 22 v d ps) :
    ∃ A c, ∃ l : List JOp, v = .slice A l.length c ∧ l.length ≤ maxLen ∧ OpsJ W A l ∧ ∀ o ∈ l, o.data.size ≤ maxLen ∧ o.keep.length ≤ maxLen ∧ OkJ W o := by
  obtain ⟨A0, n0, c0, rfl⟩ := okWide_slice rowJOps hval
  obtain ⟨fuel, hf⟩ := h
  rcases open_slice rowJOps hf with ⟨hcs, hx⟩ | ⟨a, len, cap, m, n, D, Pl, hcs, _, hl, hm, hmm, hx, hi⟩
  · simp [Value.cells] at hcs
    obtain ⟨rfl, rfl, rfl⟩ := hcs
    exact ⟨none, 0, [], rfl, Nat.zero_le _, fun k x h => by simp at h, by simp⟩
  · simp [Value.cells] at hcs
    obtain ⟨rfl, rfl, rfl⟩ := hcs
    simp only [if_true] at hmm
    subst hmm
    rw [cellsJOp] at hi
    have hE : ∀ i, i < n0 → ∃ o : JOp, (o.data.size ≤ maxLen ∧ o.keep.length ≤ maxLen ∧ OkJ W o) ∧ ∀ j u, (jopCells o)[j]? = some u → W.cell? (a.add (i * 4 + j)) = some u := by
      intro i hi'
      obtain ⟨cs', hc, ht⟩ := hi i (by omega)
      obtain ⟨e, rfl, he⟩ := open_jop ht
      obtain ⟨_, _, hat⟩ := World.cells?_some hc
      refine ⟨e, he, fun j u hu => ?_⟩
      rw [← Go.Deep.add_add, hat j (jopCells_lt e j u hu), hu]
    obtain ⟨l, hll, hP⟩ := list_of hE
    refine ⟨some a, m, l, by rw [hll], by rw [hll]; omega, fun k x hk => ?_, ?_⟩
    · have hl0 : 0 < l.length := by have := (List.getElem?_eq_some_iff.1 hk).1; omega
      have h0 := hP 0 l[0] (List.getElem?_eq_getElem hl0)
      have hc0 := h0.2 0 _ rfl
      have hsp0 : (a.add (0 * 4 + 0)).spot = none := World.cell?_spot hc0
      obtain ⟨b, off, spot⟩ := a
      obtain rfl : spot = none := by simpa [Addr.add] using hsp0
      have hlt : b < W.heap.size := by
        have := hc0
        rw [Addr.add_lit] at this
        exact World.block_lt_of_cell? W _ this
      refine ⟨b, off, rfl, hlt, fun j v hj => ?_⟩
      have := (hP k x hk).2 j v hj
      rw [Addr.add_lit] at this
      rw [Nat.add_assoc]
      exact this
    · intro e he
      obtain ⟨i, hi2⟩ := List.getElem?_of_mem he
      exact (hP i e hi2).1
end
theorem jops_readable : Try.prog.readableRec 22 = true ∧ (22 : TypeId) < Try.prog.types.size := ⟨by kernel_rfl, of_decide_eq_true (by kernel_rfl)⟩
set_option maxRecDepth 100000 in
theorem journal_contract (H : Type) (enc : TypeId × Value → H) (W : World) (base : Nat) (args : Array Value) (ds gs : List (DataW H)) (before : List MemPlace)
    (hval : ∀ (j : Nat) t v, Try.f3.params[j]? = some t → args[j]? = some v → Value.okWide Try.prog W .any base t v)
    (hW : DataW.Whole enc Try.prog Try.f3.params.toList Rows.custodyJournalSpec.vars false W args.toList ds gs before) :
    Calls Try.prog 3 args W fun e W' => ∃ v, e = .returned v ∧ Rows.custodyJournalSpec.post enc Try.prog Try.f3 false true false false W args v W' := by
  have hW' := hW
  obtain ⟨p, q, hA, hV, rfl, hfz, hnd⟩ := hW
  have hA0 : DataW.TrodAll enc Try.prog W 0 (fun _ => true) true [3, 22] args.toList ds p := hA
  obtain ⟨v0, vs0, d0, ds0, p0, q0, hargs, rfl, rfl, h0, r0⟩ := trodAll_cons hA0
  obtain ⟨v1, vs1, d1, ds1, p1, q1, rfl, rfl, rfl, h1, r1⟩ := trodAll_cons r0
  obtain ⟨rfl, rfl, rfl⟩ := trodAll_nil r1
  obtain rfl : args = #[v0, v1] := by cases args; simp_all
  obtain ⟨rfl, rfl⟩ := trodVars_none hV
  obtain ⟨n, rfl, rfl, rfl, hn⟩ := open_int intRow (hval 0 3 v0 rfl rfl) h0
  obtain ⟨A, c, l, rfl, hl, hL, hs⟩ := open_jops (hval 1 22 v1 rfl rfl) h1
  unfold maxLen at hl hs
  refine (journal_any n A c l (by omega) (fun x hx => by have := hs x hx; exact ⟨by omega, by omega⟩) W hL (fun x hx => (hs x hx).2.2)).mono fun e W' ⟨he, hb⟩ => ?_
  subst he
  exact law_post rfl (fun t ht => by
    have ht' : t ∈ [(3 : TypeId), 22] := ht
    simp at ht'
    rcases ht' with rfl | rfl
    · exact int_readable
    · exact jops_readable) rfl hW' rfl hb
set_option maxRecDepth 100000 in
theorem journal_lifted (os : Os) (started : os.Started) (H : Type) (enc : TypeId × Value → H) (F : Stop.Interp) :
    ReturnsInHanded {} Try.checked os 3 .any ((OpenSpec.ofChange Rows.custodyJournalSpec).preRow enc Try.prog Try.f3 Rows.custodyJournalRow.domain false Rows.custodyJournalRow.laid) (((OpenSpec.ofChange Rows.custodyJournalSpec).at F).post enc Try.prog Try.f3 false true false false) := by
  refine returnsInHanded_of_row (C := Try.checked) (s := OpenSpec.ofChange Rows.custodyJournalSpec) ownKnobA started (by kernel_rfl) Try.func3
    (by
      obtain ⟨w, tape, i, k1, k2, k3, k4, k5, k6, _⟩ := OpenSpec.witness_stopped (enc := enc) (C := Try.checked) (os := os) (f := 3) (fn := Try.f3) (s := OpenSpec.ofChange Rows.custodyJournalSpec) (conds := Rows.custodyJournalRow.domain) (apart := false) false ⟨#[], #[.int .i64 0, .slice none 0 0], []⟩ 8 (by kernel_rfl) (by kernel_rfl) (by kernel_rfl) (by kernel_rfl) (by kernel_rfl) rfl F
      exact ⟨w, tape, i, k1, k2, k3, k4, k5, k6⟩) ?_
  intro W base args ds gs before hval hW _ _ _ _ _ _
  exact journal_contract H enc W base args ds gs before hval hW
theorem journal_said : Rows.CustodyJournalSaid :=
  OpenClaim.holds_of_cond 3 Try.f3 rfl rfl rfl rfl rfl rfl rfl ⟨rfl, rfl, rfl, rfl, rfl⟩ rfl rfl rfl rfl rfl (by kernel_rfl) Try.func3 (by kernel_rfl)
    (of_decide_eq_true (by kernel_rfl)) (by unfold Func.isWrapper; first | (rw [if_pos (by decide +kernel)]; kernel_rfl) | (rw [if_neg (by decide +kernel)]; exact ⟨rfl, rfl⟩))
    (fun os started H enc _ F => by rw [OpenClaim.pre_eq_preRow]; exact journal_lifted os started H enc F)
#print axioms journal_said
end Go.Proofs.Ythieonekjmdelaa
