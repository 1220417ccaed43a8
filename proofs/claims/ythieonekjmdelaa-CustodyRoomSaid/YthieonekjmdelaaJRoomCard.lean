/- CustodyRoom returns true for every number of sectors and all texts, and leaves its arguments as they were. No conditions. -/
import Derived.Test.YthieonekjmdelaaJKit
import Derived.Test.YthieonekjmdelaaJRoom
namespace Go.Proofs.Ythieonekjmdelaa
open Go.ChangeShapes Go.WideShapes Go.ChangeAt Go.Deep Go.RowKit

set_option maxRecDepth 100000 in
theorem room_contract (H : Type) (enc : TypeId × Value → H) (W : World) (base : Nat) (args : Array Value) (ds gs : List (DataW H)) (before : List MemPlace)
    (hval : ∀ (j : Nat) t v, Try.f5.params[j]? = some t → args[j]? = some v → Value.okWide Try.prog W .any base t v)
    (hW : DataW.Whole enc Try.prog Try.f5.params.toList Rows.custodyRoomSpec.vars false W args.toList ds gs before) :
    Calls Try.prog 5 args W fun e W' => ∃ v, e = .returned v ∧ Rows.custodyRoomSpec.post enc Try.prog Try.f5 false true false false W args v W' := by
  have hW' := hW
  obtain ⟨p, q, hA, hV, rfl, hfz, hnd⟩ := hW
  have hA0 : DataW.TrodAll enc Try.prog W 0 (fun _ => true) true [3, 31] args.toList ds p := hA
  obtain ⟨v0, vs0, d0, ds0, p0, q0, hargs, rfl, rfl, h0, r0⟩ := trodAll_cons hA0
  obtain ⟨v1, vs1, d1, ds1, p1, q1, rfl, rfl, rfl, h1, r1⟩ := trodAll_cons r0
  obtain ⟨rfl, rfl, rfl⟩ := trodAll_nil r1
  obtain rfl : args = #[v0, v1] := by cases args; simp_all
  obtain ⟨rfl, rfl⟩ := trodVars_none hV
  obtain ⟨n, rfl, rfl, rfl, hn⟩ := open_int intRow (hval 0 3 v0 rfl rfl) h0
  obtain ⟨A, c, l, rfl, hl, hL, hs⟩ := open_texts (hval 1 31 v1 rfl rfl) h1
  unfold maxLen at hl hs
  refine (room_any n A c l (by omega) (fun s h => by have := hs s h; omega) W hL).mono fun e W' ⟨he, hb⟩ => ?_
  subst he
  exact law_post rfl (fun t ht => by
    have ht' : t ∈ [(3 : TypeId), 31] := ht
    simp at ht'
    rcases ht' with rfl | rfl
    · exact int_readable
    · exact texts_readable) rfl hW' rfl hb
set_option maxRecDepth 100000 in
theorem room_lifted (os : Os) (started : os.Started) (H : Type) (enc : TypeId × Value → H) (F : Stop.Interp) :
    ReturnsInHanded {} Try.checked os 5 .any ((OpenSpec.ofChange Rows.custodyRoomSpec).preRow enc Try.prog Try.f5 Rows.custodyRoomRow.domain false Rows.custodyRoomRow.laid) (((OpenSpec.ofChange Rows.custodyRoomSpec).at F).post enc Try.prog Try.f5 false true false false) := by
  refine returnsInHanded_of_row (C := Try.checked) (s := OpenSpec.ofChange Rows.custodyRoomSpec) ownKnobA started (by kernel_rfl) Try.func5
    (by
      obtain ⟨w, tape, i, k1, k2, k3, k4, k5, k6, _⟩ := OpenSpec.witness_stopped (enc := enc) (C := Try.checked) (os := os) (f := 5) (fn := Try.f5) (s := OpenSpec.ofChange Rows.custodyRoomSpec) (conds := Rows.custodyRoomRow.domain) (apart := false) false ⟨#[], #[.int .i64 0, .slice none 0 0], []⟩ 8 (by kernel_rfl) (by kernel_rfl) (by kernel_rfl) (by kernel_rfl) (by kernel_rfl) rfl F
      exact ⟨w, tape, i, k1, k2, k3, k4, k5, k6⟩) ?_
  intro W base args ds gs before hval hW _ _ _ _ _ _
  exact room_contract H enc W base args ds gs before hval hW
theorem room_said : Rows.CustodyRoomSaid :=
  OpenClaim.holds_of_cond 5 Try.f5 rfl rfl rfl rfl rfl rfl rfl ⟨rfl, rfl, rfl, rfl, rfl⟩ rfl rfl rfl rfl rfl (by kernel_rfl) Try.func5 (by kernel_rfl)
    (of_decide_eq_true (by kernel_rfl)) (by unfold Func.isWrapper; first | (rw [if_pos (by decide +kernel)]; kernel_rfl) | (rw [if_neg (by decide +kernel)]; exact ⟨rfl, rfl⟩))
    (fun os started H enc _ F => by rw [OpenClaim.pre_eq_preRow]; exact room_lifted os started H enc F)
#print axioms room_said
end Go.Proofs.Ythieonekjmdelaa
