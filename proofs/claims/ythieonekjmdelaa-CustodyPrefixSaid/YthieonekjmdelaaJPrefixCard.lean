/- CustodyPrefix returns true for all texts, numbers and two crashes, and leaves its arguments as they were. No conditions. -/
import Derived.Test.YthieonekjmdelaaJKit
import Derived.Test.YthieonekjmdelaaJPrefix
namespace Go.Proofs.Ythieonekjmdelaa
open Go.ChangeShapes Go.WideShapes Go.ChangeAt Go.Deep Go.RowKit

theorem rowInts : Try.prog.underlying 37 = some (.slice 3) := by kernel_rfl
theorem cellsInt : Try.prog.cellsOf 3 = 1 := by kernel_rfl
theorem nums_readable : Try.prog.readableRec 37 = true ∧ (37 : TypeId) < Try.prog.types.size := ⟨by kernel_rfl, of_decide_eq_true (by kernel_rfl)⟩
/-- Numbers that come in. -/
theorem open_numsC {H : Type} {enc : TypeId × Value → H} {W : World} {fuel : Nat} {cs : List Value} {x : DataW H × List MemPlace} (hf : DataW.trod enc Try.prog W 0 (fun _ => true) true fuel 37 cs = some x) :
    ∃ A c, ∃ l : List Int, cs = [.slice A l.length c] ∧ l.length ≤ maxLen ∧ NumsAt W A l ∧ ∀ n ∈ l, -9223372036854775808 ≤ n ∧ n ≤ 9223372036854775807 := by
  rcases open_ints rowInts intRow cellsInt hf with ⟨hcs, hx⟩ | ⟨a, len, cap, zs, hcs, _, hl, hm, hz, hx, hcell, hwz⟩
  · exact ⟨none, 0, [], hcs, Nat.zero_le _, fun h => by simp at h, fun n h => by simp at h⟩
  · simp only [if_true] at hz
    have hll : (zs.take len).length = len := by rw [List.length_take]; omega
    refine ⟨some a, cap, zs.take len, by rw [hll]; exact hcs, by rw [hll]; omega, fun h0 => ?_, fun n hn => isInt_wf (hwz n (List.mem_of_mem_take hn))⟩
    rw [hll] at h0
    obtain ⟨ab, ao, spot⟩ := a
    have hspot : spot = none := by simpa [Addr.add] using World.cell?_spot (hcell 0 (by omega))
    subst hspot
    have hall : ∀ i x, (zs.take len)[i]? = some x → W.cell? ⟨ab, ao + i, none⟩ = some (.int .i64 x) := fun i x hx => by
      have hil := (List.getElem?_eq_some_iff.1 hx).1
      rw [hll] at hil
      have hci := hcell i (by omega)
      rw [Addr.add_lit] at hci
      rw [hci, List.getD_eq_getElem?_getD]
      rw [List.getElem?_take, if_pos hil] at hx
      rw [hx]
      rfl
    refine ⟨ab, ao, rfl, hall, ?_⟩
    have h1 := hcell 0 (by omega)
    rw [Addr.add_lit] at h1
    exact World.block_lt_of_cell? W _ h1
theorem open_numsJ {H : Type} {enc : TypeId × Value → H} {W : World} {base : Nat} {v : Value} {d : DataW H} {ps : List MemPlace} (hval : Value.okWide Try.prog W .any base 37 v) (h : DataW.Trod enc Try.prog W 0 (fun _ => true) true 37 v d ps) :
    ∃ A c, ∃ l : List Int, v = .slice A l.length c ∧ l.length ≤ maxLen ∧ NumsAt W A l ∧ ∀ n ∈ l, -9223372036854775808 ≤ n ∧ n ≤ 9223372036854775807 := by
  obtain ⟨A, len, cap, rfl⟩ := okWide_slice rowInts hval
  obtain ⟨fuel, hf⟩ := h
  obtain ⟨A', c', l, hcs, h1, h2, h3⟩ := open_numsC hf
  simp [Value.cells] at hcs
  obtain ⟨rfl, rfl, rfl⟩ := hcs
  exact ⟨_, _, l, rfl, h1, h2, h3⟩
set_option maxRecDepth 100000 in
theorem prefix_contract (H : Type) (enc : TypeId × Value → H) (W : World) (base : Nat) (args : Array Value) (ds gs : List (DataW H)) (before : List MemPlace)
    (hval : ∀ (j : Nat) t v, Try.f4.params[j]? = some t → args[j]? = some v → Value.okWide Try.prog W .any base t v)
    (hW : DataW.Whole enc Try.prog Try.f4.params.toList Rows.custodyPrefixSpec.vars false W args.toList ds gs before) :
    Calls Try.prog 4 args W fun e W' => ∃ v, e = .returned v ∧ Rows.custodyPrefixSpec.post enc Try.prog Try.f4 false true false false W args v W' := by
  have hW' := hW
  obtain ⟨p, q, hA, hV, rfl, hfz, hnd⟩ := hW
  have hA0 : DataW.TrodAll enc Try.prog W 0 (fun _ => true) true [31, 3, 3, 37, 37] args.toList ds p := hA
  obtain ⟨v0, vs0, d0, ds0, p0, q0, hargs, rfl, rfl, h0, r0⟩ := trodAll_cons hA0
  obtain ⟨v1, vs1, d1, ds1, p1, q1, rfl, rfl, rfl, h1, r1⟩ := trodAll_cons r0
  obtain ⟨v2, vs2, d2, ds2, p2, q2, rfl, rfl, rfl, h2, r2⟩ := trodAll_cons r1
  obtain ⟨v3, vs3, d3, ds3, p3, q3, rfl, rfl, rfl, h3, r3⟩ := trodAll_cons r2
  obtain ⟨v4, vs4, d4, ds4, p4, q4, rfl, rfl, rfl, h4, r4⟩ := trodAll_cons r3
  obtain ⟨rfl, rfl, rfl⟩ := trodAll_nil r4
  obtain rfl : args = #[v0, v1, v2, v3, v4] := by cases args; simp_all
  obtain ⟨rfl, rfl⟩ := trodVars_none hV
  obtain ⟨A, c, l, rfl, hlc, hl, hL, hs⟩ := open_texts (hval 0 31 v0 rfl rfl) h0
  obtain ⟨n, rfl, rfl, rfl, hn⟩ := open_int intRow (hval 1 3 v1 rfl rfl) h1
  obtain ⟨m, rfl, rfl, rfl, hm⟩ := open_int intRow (hval 2 3 v2 rfl rfl) h2
  obtain ⟨A3, c3, l3, rfl, hl3, hL3, hi3⟩ := open_numsJ (hval 3 37 v3 rfl rfl) h3
  obtain ⟨A4, c4, l4, rfl, hl4, hL4, hi4⟩ := open_numsJ (hval 4 37 v4 rfl rfl) h4
  unfold maxLen at hl hs hl3 hl4
  refine (prefix_any A c l (by omega) hlc (fun s h => by have := hs s h; omega) n m A3 A4 c3 c4 l3 l4 (by omega) (by omega) hi3 hi4 W hL hL3 hL4).mono fun e W' ⟨he, hb⟩ => ?_
  subst he
  exact law_post rfl (fun t ht => by
    have ht' : t ∈ [(31 : TypeId), 3, 3, 37, 37] := ht
    simp at ht'
    rcases ht' with rfl | rfl | rfl | rfl | rfl <;> first | exact int_readable | exact texts_readable | exact nums_readable) rfl hW' rfl hb
set_option maxRecDepth 100000 in
theorem prefix_lifted (os : Os) (started : os.Started) (H : Type) (enc : TypeId × Value → H) (F : Stop.Interp) :
    ReturnsInHanded {} Try.checked os 4 .any ((OpenSpec.ofChange Rows.custodyPrefixSpec).preRow enc Try.prog Try.f4 Rows.custodyPrefixRow.domain false Rows.custodyPrefixRow.laid) (((OpenSpec.ofChange Rows.custodyPrefixSpec).at F).post enc Try.prog Try.f4 false true false false) := by
  refine returnsInHanded_of_row (C := Try.checked) (s := OpenSpec.ofChange Rows.custodyPrefixSpec) ownKnobA started (by kernel_rfl) Try.func4
    (by
      obtain ⟨w, tape, i, k1, k2, k3, k4, k5, k6, _⟩ := OpenSpec.witness_stopped (enc := enc) (C := Try.checked) (os := os) (f := 4) (fn := Try.f4) (s := OpenSpec.ofChange Rows.custodyPrefixSpec) (conds := Rows.custodyPrefixRow.domain) (apart := false) false ⟨#[], #[.slice none 0 0, .int .i64 0, .int .i64 0, .slice none 0 0, .slice none 0 0], []⟩ 8 (by kernel_rfl) (by kernel_rfl) (by kernel_rfl) (by kernel_rfl) (by kernel_rfl) rfl F
      exact ⟨w, tape, i, k1, k2, k3, k4, k5, k6⟩) ?_
  intro W base args ds gs before hval hW _ _ _ _ _ _
  exact prefix_contract H enc W base args ds gs before hval hW
theorem prefix_said : Rows.CustodyPrefixSaid :=
  OpenClaim.holds_of_cond 4 Try.f4 rfl rfl rfl rfl rfl rfl rfl ⟨rfl, rfl, rfl, rfl, rfl⟩ rfl rfl rfl rfl rfl (by kernel_rfl) Try.func4 (by kernel_rfl)
    (of_decide_eq_true (by kernel_rfl)) (by unfold Func.isWrapper; first | (rw [if_pos (by decide +kernel)]; kernel_rfl) | (rw [if_neg (by decide +kernel)]; exact ⟨rfl, rfl⟩))
    (fun os started H enc _ F => by rw [OpenClaim.pre_eq_preRow]; exact prefix_lifted os started H enc F)
#print axioms prefix_said
end Go.Proofs.Ythieonekjmdelaa
