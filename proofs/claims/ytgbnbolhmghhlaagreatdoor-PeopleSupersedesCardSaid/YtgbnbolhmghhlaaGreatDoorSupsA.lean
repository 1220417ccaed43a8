/- PeopleSupersedes returns true for every list of entries, every entry and day, and leaves its arguments as they were; the package variables that it names start as the program's text lays them (the card ties them). -/
import Derived.Test.YtgbnbolhmghhlaaGreatDoorSupW
import Derived.Test.YtgbnbolhmghhlaaGreatDoorOpenA
namespace Go.Proofs.YtgbnbolhmghhlaaGreatDoor
open Go.ChangeShapes Go.WideShapes Go.ChangeAt Go.RowKit

set_option maxRecDepth 100000 in
theorem ent_of_ok {H : Type} {enc : TypeId × Value → H} {W : World} {base : Nat} {v : Value} {d : DataW H} {ps : List MemPlace} (hv : Value.okWide Tryz.prog W .any base 28 v) (h : DataW.Trod enc Tryz.prog W 0 (fun _ => true) true 28 v d ps) : ∃ e : Ent, v = entVal e ∧ goEnt e := by
  obtain ⟨cs, rfl, hsz⟩ := okWide_struct entStruct hv
  obtain ⟨fuel, hf⟩ := h
  obtain ⟨e, he, hg⟩ := open_ent hf
  refine ⟨e, ?_, hg⟩
  have h2 : cs.toList = entCells e := by simpa [Value.cells] using he
  obtain ⟨l⟩ := cs
  subst h2
  rfl
set_option maxRecDepth 100000 in
theorem ent_readable : Tryz.prog.readableRec 28 = true ∧ (28 : TypeId) < Tryz.prog.types.size := ⟨by kernel_rfl, of_decide_eq_true (by kernel_rfl)⟩

set_option maxRecDepth 100000 in
theorem sups_contract (H : Type) (enc : TypeId × Value → H) (W : World) (base : Nat) (args : Array Value) (ds gs : List (DataW H)) (before : List MemPlace)
    (hval : ∀ (j : Nat) t v, Tryz.f4.params[j]? = some t → args[j]? = some v → Value.okWide Tryz.prog W .any base t v)
    (hW : DataW.Whole enc Tryz.prog Tryz.f4.params.toList Rows.peopleSupersedesSpec.vars false W args.toList ds gs before)
    (hsh : W.ShapedOpen Tryz.prog) :
    Calls Tryz.prog 4 args W fun e W' => ∃ v, e = .returned v ∧ Rows.peopleSupersedesSpec.post enc Tryz.prog Tryz.f4 false true false false W args v W' := by
  have hW' := hW
  have hlt : ∀ p ∈ before, p.block < W.heap.size := fun p hp => hW.lt p hp
  obtain ⟨p, q, hA, hV, rfl, hfz, hnd⟩ := hW
  have hA0 : DataW.TrodAll enc Tryz.prog W 0 (fun _ => true) true [22, 28, 3] args.toList ds p := hA
  obtain ⟨v0, vs0, d0, ds0, p0, q0, hargs, rfl, rfl, h0, r0⟩ := trodAll_cons hA0
  obtain ⟨v1, vs1, d1, ds1, p1, q1, rfl, rfl, rfl, h1, r1⟩ := trodAll_cons r0
  obtain ⟨v2, vs2, d2, ds2, p2, q2, rfl, rfl, rfl, h2, r2⟩ := trodAll_cons r1
  obtain ⟨rfl, rfl, rfl⟩ := trodAll_nil r2
  obtain rfl : args = #[v0, v1, v2] := by cases args; simp_all
  obtain ⟨rfl, rfl⟩ := trodVars_none hV
  have hsl := slice_of_ok (hval 0 22 v0 rfl rfl)
  obtain ⟨A, c, l, rfl, hlc, hcm, hL, hgo, hd⟩ := open_ents (fun x hx => hlt x (by simp [hx])) h0 hsl
  obtain ⟨x, rfl, hgx⟩ := ent_of_ok (hval 1 28 v1 rfl rfl) h1
  obtain ⟨d, rfl, rfl, rfl, hwd⟩ := open_int Tryz.underlying3 (hval 2 3 v2 rfl rfl) h2
  obtain ⟨m, rfl⟩ := to_oents l hgo
  have hlm : (m.map (·.1)).length = m.length := List.length_map _
  have hw := sups_walk A c m ⟨x, hgx.2.1, hgx.2.2.1, hgx.2.2.2.1⟩ d hgx.2.2.2.2.1 W hL (by rw [← hlm]; exact Nat.le_trans hlc hcm) (fun y hy => (hgo y hy).1) hgx.1 (laysCut.s1_3 W hsh)
  rw [← hlm] at hw
  refine hw.mono fun e W' ⟨he, hb⟩ => ?_
  subst he
  exact law_post rfl (fun t ht => by
    have ht' : t ∈ [(22 : TypeId), 28, 3] := ht
    simp at ht'
    rcases ht' with rfl | rfl | rfl
    · exact ents_readable
    · exact ent_readable
    · exact int_readable) rfl hW' rfl hb

theorem sups_laid_met (os : Os) : laidMetH Tryz.prog Rows.peopleSupersedesRow.laid ((doorW os).forCall (fun _ _ => 0) ⟨#[], #[.slice none 0 0, .agg #[.int .i64 0, .int .u8 0, .int .i64 0, .int .i64 0, .int .i64 0, .int .i64 0, .int .i64 0, .int .i64 0, .int .i64 0, .string ⟨#[]⟩], .int .i64 0], []⟩).memory :=
  laidMetH_of_parts3 (fuel := 8) (laidMet_of_run' 8 (by kernel_rfl) (by kernel_rfl)) (by kernel_rfl) (by kernel_rfl)
theorem sups_reads (os : Os) {H : Type} (enc : TypeId × Value → H) : ∃ places, DataW.whole enc Tryz.prog ((doorW os).forCall (fun _ _ => 0) ⟨#[], #[.slice none 0 0, .agg #[.int .i64 0, .int .u8 0, .int .i64 0, .int .i64 0, .int .i64 0, .int .i64 0, .int .i64 0, .int .i64 0, .int .i64 0, .string ⟨#[]⟩], .int .i64 0], []⟩).memory Tryz.f4.params.toList Rows.peopleSupersedesSpec.vars false #[Value.slice none 0 0, Value.agg #[.int .i64 0, .int .u8 0, .int .i64 0, .int .i64 0, .int .i64 0, .int .i64 0, .int .i64 0, .int .i64 0, .int .i64 0, .string ⟨#[]⟩], Value.int .i64 0].toList 8 = some ([.nil, .agg [.lit (.int .i64 0), .lit (.int .u8 0), .lit (.int .i64 0), .lit (.int .i64 0), .lit (.int .i64 0), .lit (.int .i64 0), .lit (.int .i64 0), .lit (.int .i64 0), .lit (.int .i64 0), .lit (.string [])], .lit (.int .i64 0)], [], places) :=
  ⟨[], by kernel_rfl⟩

set_option maxRecDepth 100000 in
theorem sups_lifted (os : Os) (started : os.Started) (H : Type) (enc : TypeId × Value → H) (F : Stop.Interp) :
    ReturnsInHanded {} Tryz.checked os 4 .any ((OpenSpec.ofChange Rows.peopleSupersedesSpec).preRow enc Tryz.prog Tryz.f4 Rows.peopleSupersedesRow.domain false Rows.peopleSupersedesRow.laid) (((OpenSpec.ofChange Rows.peopleSupersedesSpec).at F).post enc Tryz.prog Tryz.f4 false true false false) := by
  obtain ⟨places, hx⟩ := sups_reads os enc
  refine returnsInHanded_of_row (C := Tryz.checked) (s := OpenSpec.ofChange Rows.peopleSupersedesSpec) ownKnobA started (by kernel_rfl) Tryz.func4
    (witness_row_at (enc := enc) (C := Tryz.checked) false (doorW os) #[.slice none 0 0, .agg #[.int .i64 0, .int .u8 0, .int .i64 0, .int .i64 0, .int .i64 0, .int .i64 0, .int .i64 0, .int .i64 0, .int .i64 0, .string ⟨#[]⟩], .int .i64 0] rfl (by kernel_rfl) (by kernel_rfl) (by kernel_rfl)
      (OpenSpec.preRow_of_cond 8 hx (by kernel_rfl) (fun k hk => by cases hk) (by kernel_rfl) (sups_laid_met os))) ?_
  intro W base args ds gs before hval hW _ _ _ _ hsh _
  exact sups_contract H enc W base args ds gs before hval hW hsh

theorem sups_said : Rows.PeopleSupersedesSaid :=
  OpenClaim.holds_of_cond 4 Tryz.f4 rfl rfl rfl rfl rfl rfl rfl ⟨rfl, rfl, rfl, rfl, rfl⟩ rfl rfl rfl rfl rfl (by kernel_rfl) Tryz.func4 (by kernel_rfl)
    (of_decide_eq_true (by kernel_rfl)) (by unfold Func.isWrapper; first | (rw [if_pos (by decide +kernel)]; kernel_rfl) | (rw [if_neg (by decide +kernel)]; exact ⟨rfl, rfl⟩))
    (fun os started H enc _ F => by rw [OpenClaim.pre_eq_preRow]; exact sups_lifted os started H enc F)

theorem sups_plain (f : FuncId) (fn : Func) (hf : Tryz.pinned.checked.prog.funcNamed "restante/restantelaw03.PeopleSupersedes" = some f) (hfn : Tryz.pinned.checked.prog.funcs[f]? = some fn) :
    true = Tryz.pinned.checked.prog.looks [] ∧ ∀ (j : Nat) t, fn.params[j]? = some t → Tryz.pinned.checked.prog.wantsStandIn t = false := by
  obtain rfl : f = 4 := Option.some.inj ((show Tryz.prog.funcNamed "restante/restantelaw03.PeopleSupersedes" = some 4 by kernel_rfl).symm.trans hf) |>.symm
  obtain rfl : fn = Tryz.f4 := (Option.some.inj (Tryz.func4.symm.trans hfn)).symm
  refine ⟨by kernel_rfl, fun j t ht => ?_⟩
  rw [Tryz.params4] at ht
  have ht' := Array.mem_of_getElem? ht
  simp at ht'
  rcases ht' with rfl | rfl | rfl
  · exact (show Tryz.prog.wantsStandIn 22 = false by kernel_rfl)
  · exact (show Tryz.prog.wantsStandIn 28 = false by kernel_rfl)
  · exact (show Tryz.prog.wantsStandIn 3 = false by kernel_rfl)

theorem peopleSupersedes_card : Rows.PeopleSupersedesCardSaid :=
  Claim7.holds_tied_plain_at .later [] _ _ _ _ sups_said (fun _ h => by cases h) (by kernel_rfl) (fun _ h => by cases h) peopleSupersedes_row_tie rfl ⟨rfl, rfl⟩ (by kernel_rfl) rfl sups_plain (by kernel_rfl)
#print axioms peopleSupersedes_card
end Go.Proofs.YtgbnbolhmghhlaaGreatDoor
