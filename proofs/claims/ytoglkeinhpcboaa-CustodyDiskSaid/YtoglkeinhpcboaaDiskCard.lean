/- CustodyDisk returns true for every number of sectors and every script of operations, and leaves its arguments as they were. No conditions. -/
import Derived.Test.YtoglkeinhpcboaaDkLaw2
import Derived.Test.YtoglkeinhpcboaaTornCard
namespace Go.Proofs.Ytoglkeinhpcboaa
open Go.ChangeShapes Go.WideShapes Go.ChangeAt Go.Deep Go.RowKit

theorem rowInts : Try.prog.underlying 34 = some (.slice 3) := by kernel_rfl
theorem rowOps : Try.prog.underlying 22 = some (.slice 36) := by kernel_rfl
theorem cellsInt : Try.prog.cellsOf 3 = 1 := by kernel_rfl
theorem cellsU8s : Try.prog.cellsOf 33 = 1 := by kernel_rfl
theorem cellsInts : Try.prog.cellsOf 34 = 1 := by kernel_rfl
theorem cellsOp : Try.prog.cellsOf 36 = 5 := by kernel_rfl
theorem opStruct : Try.prog.underlying 36 = some (.struct (Try.prog.fieldsOf 36)) := by kernel_rfl
theorem opFields : (Try.prog.fieldsOf 36).toList.map (fun f => (f.type, f.offset)) = [((5 : TypeId), 0), (3, 1), (33, 2), (3, 3), (34, 4)] := by kernel_rfl
theorem isU8_wf {n : Int} (h : (Lit.int .u8 n).wf = true) : 0 ≤ n ∧ n ≤ 255 := by
  have h1 : IntKind.u8.min = 0 := rfl
  have h2 : IntKind.u8.max = 255 := rfl
  simp [Lit.wf, h1, h2] at h
  omega
theorem list_of {α : Type} {P : Nat → α → Prop} : ∀ {n : Nat}, (∀ i, i < n → ∃ e, P i e) → ∃ l : List α, l.length = n ∧ ∀ i e, l[i]? = some e → P i e
  | 0, _ => ⟨[], rfl, fun i e h => by simp at h⟩
  | n + 1, h => by
    obtain ⟨l, h1, h2⟩ := list_of (n := n) (fun i hi => h i (by omega))
    obtain ⟨e, he⟩ := h n (by omega)
    refine ⟨l ++ [e], by simp [h1], fun i x hx => ?_⟩
    by_cases hi : i < l.length
    · rw [List.getElem?_append_left hi] at hx
      exact h2 i x hx
    · have hie : i = n := by
        have := (List.getElem?_eq_some_iff.1 hx).1
        simp at this
        omega
      subst hie
      rw [List.getElem?_append_right (by omega), h1] at hx
      simp at hx
      subst hx
      exact he
section
variable {H : Type} {enc : TypeId × Value → H} {W : World}
theorem open_u8s {fuel : Nat} {cs : List Value} {x : DataW H × List MemPlace} (hf : DataW.trod enc Try.prog W 0 (fun _ => true) true fuel 33 cs = some x) : ∃ A c l, cs = [.slice A l.length c] ∧ l.length ≤ maxLen ∧ BytesAt W A l := by
  rcases open_ints rowU8 u8Int cellsU8 hf with ⟨hcs, hx⟩ | ⟨a, len, cap, zs, hcs, _, hl, hm, hz, hx, hcell, hwz⟩
  · exact ⟨none, 0, [], hcs, Nat.zero_le _, fun h => by simp at h⟩
  · simp only [if_true] at hz
    have hll : (zs.take len).length = len := by rw [List.length_take]; omega
    refine ⟨some a, cap, zs.take len, by rw [hll]; exact hcs, by rw [hll]; omega, fun h0 => ?_⟩
    rw [hll] at h0
    obtain ⟨ab, ao, spot⟩ := a
    have hspot : spot = none := by simpa [Addr.add] using World.cell?_spot (hcell 0 (by omega))
    subst hspot
    refine ⟨ab, ao, rfl, fun j u hj => ?_⟩
    have hjl := (List.getElem?_eq_some_iff.1 hj).1
    rw [cellsB_len, hll] at hjl
    have hcj := hcell j (by omega)
    rw [Addr.add_lit] at hcj
    rw [hcj]
    unfold cellsB at hj
    rw [List.getElem?_map, List.getElem?_take, if_pos hjl, List.getElem?_eq_getElem (by omega)] at hj
    rw [List.getD_eq_getElem?_getD, List.getElem?_eq_getElem (by omega)]
    exact hj
theorem open_nums {fuel : Nat} {cs : List Value} {x : DataW H × List MemPlace} (hf : DataW.trod enc Try.prog W 0 (fun _ => true) true fuel 34 cs = some x) : ∃ A c l, cs = [.slice A l.length c] ∧ l.length ≤ maxLen ∧ KeepIn W W.heap.size A l ∧ ∀ n ∈ l, -9223372036854775808 ≤ n ∧ n ≤ 9223372036854775807 := by
  rcases open_ints rowInts intRow cellsInt hf with ⟨hcs, hx⟩ | ⟨a, len, cap, zs, hcs, _, hl, hm, hz, hx, hcell, hwz⟩
  · exact ⟨none, 0, [], hcs, Nat.zero_le _, fun h => by simp at h, fun n h => by simp at h⟩
  · simp only [if_true] at hz
    have hll : (zs.take len).length = len := by rw [List.length_take]; omega
    refine ⟨some a, cap, zs.take len, by rw [hll]; exact hcs, by rw [hll]; omega, fun h0 => ?_, fun n hn => isInt_wf (hwz n (List.mem_of_mem_take hn))⟩
    rw [hll] at h0
    obtain ⟨ab, ao, spot⟩ := a
    have hspot : spot = none := by simpa [Addr.add] using World.cell?_spot (hcell 0 (by omega))
    subst hspot
    have hall : ∀ i x, (zs.take len)[i]? = some x → W.cell? ⟨ab, ao + i, none⟩ = some (.int .i64 x) := fun i x hx => by
      have hil := (List.getElem?_eq_some_iff.1 hx).1
      rw [hll] at hil
      have hci := hcell i (by omega)
      rw [Addr.add_lit] at hci
      rw [hci, List.getD_eq_getElem?_getD]
      rw [List.getElem?_take, if_pos hil] at hx
      rw [hx]
      rfl
    refine ⟨ab, ao, rfl, hall, ?_⟩
    have h1 := hcell 0 (by omega)
    rw [Addr.add_lit] at h1
    exact World.block_lt_of_cell? W _ h1
set_option maxRecDepth 100000 in
theorem open_op {n : Nat} {cs : List Value} {x : DataW H × List MemPlace} (h : DataW.trod enc Try.prog W 0 (fun _ => true) true n 36 cs = some x) : ∃ o : DOp, cs = opCells o ∧ o.data.length ≤ maxLen ∧ o.keep.length ≤ maxLen ∧ (smallOp o = true → OpOk W W.heap.size o) := by
  obtain ⟨xs, m, rfl, _, hlen, hxl, hf⟩ := DataW.trod_struct opStruct h
  rw [cellsOp] at hlen
  have hsz : (Try.prog.fieldsOf 36).size = 5 := by rw [← Array.length_toList, ← List.length_map (f := fun f : Field => (f.type, f.offset)), opFields]; rfl
  have hat : ∀ (i : Nat) (t : TypeId) (o : Nat), [((5 : TypeId), 0), (3, 1), (33, 2), (3, 3), (34, 4)][i]? = some (t, o) →
      ∃ y, DataW.trod enc Try.prog W 0 (fun _ => true) true m t ((cs.drop o).take (Try.prog.cellsOf t)) = some y := by
    intro i t o hi
    have hi' := hi
    rw [← opFields, List.getElem?_map] at hi
    obtain ⟨f, hf1, hf2⟩ := Option.map_eq_some_iff.1 hi
    simp only [Prod.mk.injEq] at hf2
    obtain ⟨rfl, rfl⟩ := hf2
    rw [hf i f (by rw [← Array.getElem?_toList]; exact hf1)]
    have hil : i < xs.length := by rw [hxl, hsz]; exact (List.getElem?_eq_some_iff.1 hi').1
    exact ⟨_, List.getElem?_eq_getElem hil⟩
  match cs, hlen with
  | [c0, c1, c2, c3, c4], _ =>
    obtain ⟨_, h0⟩ := hat 0 _ _ rfl
    obtain ⟨_, h1⟩ := hat 1 _ _ rfl
    obtain ⟨_, h2⟩ := hat 2 _ _ rfl
    obtain ⟨_, h3⟩ := hat 3 _ _ rfl
    obtain ⟨_, h4⟩ := hat 4 _ _ rfl
    rw [cellsU8] at h0
    rw [cellsInt] at h1 h3
    rw [cellsU8s] at h2
    rw [cellsInts] at h4
    obtain ⟨n0, e0, _, w0⟩ := DataW.trod_int u8Int h0
    obtain ⟨n1, e1, _, w1⟩ := DataW.trod_int intRow h1
    obtain ⟨A2, a2, l2, e2, hl2, hb2⟩ := open_u8s h2
    obtain ⟨n3, e3, _, w3⟩ := DataW.trod_int intRow h3
    obtain ⟨A4, a4, l4, e4, hl4, hb4, hw4⟩ := open_nums h4
    simp at e0 e1 e2 e3 e4
    subst e0 e1 e2 e3 e4
    refine ⟨⟨n0, n1, A2, a2, l2, n3, A4, a4, l4⟩, rfl, hl2, hl4, fun hs => ?_⟩
    unfold smallOp at hs
    simp only [Bool.and_eq_true, decide_eq_true_eq] at hs
    refine ⟨isU8_wf w0, isInt_wf w3, hs.1, ⟨hb2, fun h0 g o e => ?_⟩, hs.2, hw4, hb4⟩
    obtain ⟨g', o', e', _, hlt⟩ := hb2.lt h0
    have e2 : A2 = some ⟨g, o, none⟩ := e
    rw [e2] at e'
    cases e'
    exact hlt
theorem opCells_lt (o : DOp) (j : Nat) (v : Value) (h : (opCells o)[j]? = some v) : j < 5 := (List.getElem?_eq_some_iff.1 h).1
set_option maxRecDepth 100000 in
theorem open_ops {base : Nat} {v : Value} {d : DataW H} {ps : List MemPlace} (hval : Value.okWide Try.prog W .any base 22 v) (h : DataW.Trod enc Try.prog W 0 (fun _ => true) true 22 v d ps) :
    ∃ A c l, v = .slice A l.length c ∧ l.length ≤ maxLen ∧ OpsLie W A l ∧ ∀ o ∈ l, o.data.length ≤ maxLen ∧ o.keep.length ≤ maxLen ∧ (smallOp o = true → OpOk W W.heap.size o) := by
  obtain ⟨A0, n0, c0, rfl⟩ := okWide_slice rowOps hval
  obtain ⟨fuel, hf⟩ := h
  rcases open_slice rowOps hf with ⟨hcs, hx⟩ | ⟨a, len, cap, m, n, D, Pl, hcs, _, hl, hm, hmm, hx, hi⟩
  · simp [Value.cells] at hcs
    obtain ⟨rfl, rfl, rfl⟩ := hcs
    exact ⟨none, 0, [], rfl, Nat.zero_le _, .inl rfl, by simp⟩
  · simp [Value.cells] at hcs
    obtain ⟨rfl, rfl, rfl⟩ := hcs
    simp only [if_true] at hmm
    subst hmm
    rw [cellsOp] at hi
    have hE : ∀ i, i < n0 → ∃ o : DOp, (o.data.length ≤ maxLen ∧ o.keep.length ≤ maxLen ∧ (smallOp o = true → OpOk W W.heap.size o)) ∧ ∀ j u, (opCells o)[j]? = some u → W.cell? (a.add (i * 5 + j)) = some u := by
      intro i hi'
      obtain ⟨cs', hc, ht⟩ := hi i (by omega)
      obtain ⟨e, rfl, he⟩ := open_op ht
      obtain ⟨_, _, hat⟩ := World.cells?_some hc
      refine ⟨e, he, fun j u hu => ?_⟩
      rw [← Go.Deep.add_add, hat j (opCells_lt e j u hu), hu]
    obtain ⟨l, hll, hP⟩ := list_of hE
    refine ⟨some a, m, l, by rw [hll], by rw [hll]; omega, ?_, ?_⟩
    · cases hl0 : l with
      | nil => exact .inl rfl
      | cons e0 l' =>
        rw [← hl0]
        have h0 := hP 0 e0 (by rw [hl0]; rfl)
        have hc0 := h0.2 0 _ rfl
        have hsp0 : (a.add (0 * 5 + 0)).spot = none := World.cell?_spot hc0
        obtain ⟨b, off, spot⟩ := a
        obtain rfl : spot = none := by simpa [Addr.add] using hsp0
        have hlt : b < W.heap.size := by
          have := hc0
          rw [Addr.add_lit] at this
          exact World.block_lt_of_cell? W _ this
        refine .inr ⟨b, off, rfl, hlt, fun k x hk j v hj => ?_⟩
        have := (hP k x hk).2 j v hj
        rw [Addr.add_lit] at this
        rw [Nat.add_assoc]
        exact this
    · intro e he
      obtain ⟨i, hi2⟩ := List.getElem?_of_mem he
      exact (hP i e hi2).1
end
theorem ops_readable : Try.prog.readableRec 22 = true ∧ (22 : TypeId) < Try.prog.types.size := ⟨by kernel_rfl, of_decide_eq_true (by kernel_rfl)⟩
set_option maxRecDepth 100000 in
theorem disk_contract (H : Type) (enc : TypeId × Value → H) (W : World) (base : Nat) (args : Array Value) (ds gs : List (DataW H)) (before : List MemPlace)
    (hval : ∀ (j : Nat) t v, Try.f3.params[j]? = some t → args[j]? = some v → Value.okWide Try.prog W .any base t v)
    (hW : DataW.Whole enc Try.prog Try.f3.params.toList Rows.custodyDiskSpec.vars false W args.toList ds gs before) :
    Calls Try.prog 3 args W fun e W' => ∃ v, e = .returned v ∧ Rows.custodyDiskSpec.post enc Try.prog Try.f3 false true false false W args v W' := by
  have hW' := hW
  obtain ⟨p, q, hA, hV, rfl, hfz, hnd⟩ := hW
  have hA0 : DataW.TrodAll enc Try.prog W 0 (fun _ => true) true [3, 22] args.toList ds p := hA
  obtain ⟨v0, vs0, d0, ds0, p0, q0, hargs, rfl, rfl, h0, r0⟩ := trodAll_cons hA0
  obtain ⟨v1, vs1, d1, ds1, p1, q1, rfl, rfl, rfl, h1, r1⟩ := trodAll_cons r0
  obtain ⟨rfl, rfl, rfl⟩ := trodAll_nil r1
  obtain rfl : args = #[v0, v1] := by cases args; simp_all
  obtain ⟨rfl, rfl⟩ := trodVars_none hV
  obtain ⟨n, rfl, rfl, rfl, hn⟩ := open_int intRow (hval 0 3 v0 rfl rfl) h0
  obtain ⟨A, c, l, rfl, hl, hL, hop⟩ := open_ops (hval 1 22 v1 rfl rfl) h1
  have hx : ∀ x ∈ l, x.data.length ≤ 9223372036854775807 ∧ x.keep.length ≤ 9223372036854775807 := fun x hx => by
    have := hop x hx
    unfold maxLen at this
    exact ⟨by omega, by omega⟩
  unfold maxLen at hl
  refine (cdisk_any n A c l (by omega) W hL hx (fun x hx => (hop x hx).2.2)).mono fun e W' ⟨he, hb⟩ => ?_
  subst he
  exact law_post rfl (fun t ht => by
    have ht' : t ∈ [(3 : TypeId), 22] := ht
    simp at ht'
    rcases ht' with rfl | rfl
    · exact int_readable
    · exact ops_readable) rfl hW' rfl hb
set_option maxRecDepth 100000 in
theorem disk_lifted (os : Os) (started : os.Started) (H : Type) (enc : TypeId × Value → H) (F : Stop.Interp) :
    ReturnsInHanded {} Try.checked os 3 .any ((OpenSpec.ofChange Rows.custodyDiskSpec).preRow enc Try.prog Try.f3 Rows.custodyDiskRow.domain false Rows.custodyDiskRow.laid) (((OpenSpec.ofChange Rows.custodyDiskSpec).at F).post enc Try.prog Try.f3 false true false false) := by
  refine returnsInHanded_of_row (C := Try.checked) (s := OpenSpec.ofChange Rows.custodyDiskSpec) ownKnobA started (by kernel_rfl) Try.func3
    (by
      obtain ⟨w, tape, i, k1, k2, k3, k4, k5, k6, _⟩ := OpenSpec.witness_stopped (enc := enc) (C := Try.checked) (os := os) (f := 3) (fn := Try.f3) (s := OpenSpec.ofChange Rows.custodyDiskSpec) (conds := Rows.custodyDiskRow.domain) (apart := false) false ⟨#[], #[.int .i64 0, .slice none 0 0], []⟩ 8 (by kernel_rfl) (by kernel_rfl) (by kernel_rfl) (by kernel_rfl) (by kernel_rfl) rfl F
      exact ⟨w, tape, i, k1, k2, k3, k4, k5, k6⟩) ?_
  intro W base args ds gs before hval hW _ _ _ _ _ _
  exact disk_contract H enc W base args ds gs before hval hW
theorem disk_said : Rows.CustodyDiskSaid :=
  OpenClaim.holds_of_cond 3 Try.f3 rfl rfl rfl rfl rfl rfl rfl ⟨rfl, rfl, rfl, rfl, rfl⟩ rfl rfl rfl rfl rfl (by kernel_rfl) Try.func3 (by kernel_rfl)
    (of_decide_eq_true (by kernel_rfl)) (by unfold Func.isWrapper; first | (rw [if_pos (by decide +kernel)]; kernel_rfl) | (rw [if_neg (by decide +kernel)]; exact ⟨rfl, rfl⟩))
    (fun os started H enc _ F => by rw [OpenClaim.pre_eq_preRow]; exact disk_lifted os started H enc F)
#print axioms disk_said
end Go.Proofs.Ytoglkeinhpcboaa
