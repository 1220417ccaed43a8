/- PeopleChanges returns true for every list of entries, every person, and leaves its arguments as they were; the package variables that it names start as the program's text lays them (the card ties them). -/
import Derived.Test.YtmfjmoicnddkcaaGreatDoorAliveA
import Derived.Test.YtmfjmoicnddkcaaGreatDoorOpenA
import Derived.Test.YtmfjmoicnddkcaaGreatDoorChangesB
import Derived.ChangeMaps5
namespace Go.Proofs.YtmfjmoicnddkcaaGreatDoor
open Go.ChangeShapes Go.WideShapes Go.ChangeAt Go.RowKit Go.Sort

set_option maxRecDepth 100000 in
set_option maxHeartbeats 8000000 in
theorem changes_walk (A : Option Addr) (c : Nat) (l : List OEnt) (m : List NEnt) (hml : m.map (·.1) = l.map (·.1)) (p : Int) (hp : intB p) (w : World) (hL : EntsLie w w.heap.size A (l.map (·.1))) (hm : MaxAt w) :
    Calls Tryz.prog 6 #[.slice A l.length c, .int .i64 p] w fun e w' => e = .returned (.bool true) ∧ Below w.heap.size w w' := by
  have H0 := Lib.hid fun W => refFew_any A l.length c W
  have H3 : Hid (∀ W, Below w.heap.size w W → _) := Lib.hid fun W (hW : Below w.heap.size w W) => alive_any W (hm.below hm.lt hW)
  by_cases h60 : l.length ≤ 60
  rotate_left
  · have HI : Hid (decide ((l.length : Int) ≤ 60) = false) := Lib.hid (decide_eq_false (by omega))
    clear hL hm hp hml
    go_enter Tryz.func6, Tryz.ntmps6
    go_wp2_with fail
    refine (H0.out _).mono ?_
    rintro e w0 ⟨rfl, rfl⟩
    rw [HI.out]
    go_wp2_with fail
    refine (H3.out _ (Below.refl _ _)).mono ?_
    rintro e w1 ⟨rfl, hb1⟩
    go_wp2_with fail
    go_ret
    exact ⟨rfl, hb1⟩
  · have HI : Hid (decide ((l.length : Int) ≤ 60) = true) := Lib.hid (decide_eq_true (by omega))
    have K : ∀ W, Below w.heap.size w W → Calls Tryz.prog 36 #[.slice A l.length c, .int .i64 p] W fun e w' => ∃ A' c', e = .returned (.slice A' (refChangesL l p).length c') ∧ IntsAt w' A' (refChangesL l p) ∧ Below W.heap.size W w' := fun W hW =>
      pChanges_any A c l m hml h60 p hp W (hL.up hW hW.size)
    have J : ∀ W, Below w.heap.size w W → Calls Tryz.prog 37 #[.slice A l.length c, .int .i64 p] W fun e w' => ∃ A' c', e = .returned (.slice A' (refChangesL l p).length c') ∧ IntsAt w' A' (refChangesL l p) ∧ Below W.heap.size W w' := fun W hW =>
      (refChanges_any A c l h60 p W (hL.up hW hW.size)).mono fun _ _ ⟨v, he, hO, hB⟩ => by
        obtain ⟨A', c', rfl⟩ := hO.shape
        exact ⟨A', c', he, hO.at, hB⟩
    have hRl := refChanges_len l p h60
    generalize refChangesL l p = R at *
    have S2 := Lib.hid fun W A1 c1 A2 c2 h1 h2 => sameInts_eq A1 A2 c1 c2 R (by omega) W h1 h2
    replace K := Lib.hid K
    replace J := Lib.hid J
    clear hL hm hp hml h60 hRl
    go_enter Tryz.func6, Tryz.ntmps6
    go_wp2_with fail
    refine (H0.out _).mono ?_
    rintro e w0 ⟨rfl, rfl⟩
    rw [HI.out]
    clear HI H0
    go_wp2_with fail
    refine (H3.out _ (Below.refl _ _)).mono ?_
    rintro e w1 ⟨rfl, hB1⟩
    go_wp2_with fail
    refine (K.out _ hB1).mono ?_
    rintro e w2 ⟨A2, c2, rfl, hI2, hb2⟩
    have hB2 := hB1.trans (hb2.mono hB1.size)
    clear hb2 hB1
    go_wp2_with fail
    refine (J.out _ hB2).mono ?_
    rintro e w3 ⟨A3, c3, rfl, hI3, hb3⟩
    have hB3 := hB2.trans (hb3.mono hB2.size)
    have hs1 := Lib.hid (S2.out w3 A2 c2 A3 c3 (hI2.below hb3 (Nat.le_refl _)) hI3)
    clear hb3 hB2 hI2 hI3
    go_wp2_with fail
    refine hs1.out.mono ?_
    rintro e w4 ⟨rfl, hb4⟩
    go_wp2_with fail
    go_ret
    exact ⟨by first | rfl | simp, hB3.trans (hb4.mono hB3.size)⟩
end Go.Proofs.YtmfjmoicnddkcaaGreatDoor
namespace Go.Proofs.YtmfjmoicnddkcaaGreatDoor
open Go.ChangeShapes Go.WideShapes Go.ChangeAt Go.RowKit

set_option maxRecDepth 100000 in
theorem changes_contract (H : Type) (enc : TypeId × Value → H) (W : World) (base : Nat) (args : Array Value) (ds gs : List (DataW H)) (before : List MemPlace)
    (hval : ∀ (j : Nat) t v, Tryz.f6.params[j]? = some t → args[j]? = some v → Value.okWide Tryz.prog W .any base t v)
    (hW : DataW.Whole enc Tryz.prog Tryz.f6.params.toList Rows.peopleChangesSpec.vars false W args.toList ds gs before)
    (hsh : W.ShapedOpen Tryz.prog) :
    Calls Tryz.prog 6 args W fun e W' => ∃ v, e = .returned v ∧ Rows.peopleChangesSpec.post enc Tryz.prog Tryz.f6 false true false false W args v W' := by
  have hW' := hW
  have hlt : ∀ p ∈ before, p.block < W.heap.size := fun p hp => hW.lt p hp
  obtain ⟨p, q, hA, hV, rfl, hfz, hnd⟩ := hW
  have hA0 : DataW.TrodAll enc Tryz.prog W 0 (fun _ => true) true [22, 3] args.toList ds p := hA
  obtain ⟨v0, vs0, d0, ds0, p0, q0, hargs, rfl, rfl, h0, r0⟩ := trodAll_cons hA0
  obtain ⟨v1, vs1, d1, ds1, p1, q1, rfl, rfl, rfl, h1, r1⟩ := trodAll_cons r0
  obtain ⟨rfl, rfl, rfl⟩ := trodAll_nil r1
  obtain rfl : args = #[v0, v1] := by cases args; simp_all
  obtain ⟨rfl, rfl⟩ := trodVars_none hV
  have hsl := slice_of_ok (hval 0 22 v0 rfl rfl)
  obtain ⟨A, c, l, rfl, hlc, hcm, hL, hgo, hd⟩ := open_ents (fun x hx => hlt x (by simp [hx])) h0 hsl
  obtain ⟨n, rfl, rfl, rfl, hwn⟩ := open_int Tryz.underlying3 (hval 1 3 v1 rfl rfl) h1
  obtain ⟨m2, hm2⟩ := to_nents l hgo
  obtain ⟨m, rfl⟩ := to_oents l hgo
  have hlm : (m.map (·.1)).length = m.length := List.length_map _
  have hw := changes_walk A c m m2 hm2 n (isInt_wf hwn) W hL (laysCut.s1_3 W hsh)
  rw [← hlm] at hw
  refine hw.mono fun e W' ⟨he, hb⟩ => ?_
  subst he
  exact law_post rfl (fun t ht => by
    have ht' : t ∈ [(22 : TypeId), 3] := ht
    simp at ht'
    rcases ht' with rfl | rfl
    · exact ents_readable
    · exact int_readable) rfl hW' rfl hb

theorem changes_laid_met (os : Os) : laidMetH Tryz.prog Rows.peopleChangesRow.laid ((doorW os).forCall (fun _ _ => 0) ⟨#[], #[.slice none 0 0, .int .i64 0], []⟩).memory :=
  laidMetH_of_parts3 (fuel := 8) (laidMet_of_run' 8 (by kernel_rfl) (by kernel_rfl)) (by kernel_rfl) (by kernel_rfl)
theorem changes_reads (os : Os) {H : Type} (enc : TypeId × Value → H) : ∃ places, DataW.whole enc Tryz.prog ((doorW os).forCall (fun _ _ => 0) ⟨#[], #[.slice none 0 0, .int .i64 0], []⟩).memory Tryz.f6.params.toList Rows.peopleChangesSpec.vars false #[Value.slice none 0 0, Value.int .i64 0].toList 8 = some ([.nil, .lit (.int .i64 0)], [], places) :=
  ⟨[], by kernel_rfl⟩

set_option maxRecDepth 100000 in
theorem changes_lifted (os : Os) (started : os.Started) (H : Type) (enc : TypeId × Value → H) (F : Stop.Interp) :
    ReturnsInHanded {} Tryz.checked os 6 .any ((OpenSpec.ofChange Rows.peopleChangesSpec).preRow enc Tryz.prog Tryz.f6 Rows.peopleChangesRow.domain false Rows.peopleChangesRow.laid) (((OpenSpec.ofChange Rows.peopleChangesSpec).at F).post enc Tryz.prog Tryz.f6 false true false false) := by
  obtain ⟨places, hx⟩ := changes_reads os enc
  refine returnsInHanded_of_row (C := Tryz.checked) (s := OpenSpec.ofChange Rows.peopleChangesSpec) ownKnobA started (by kernel_rfl) Tryz.func6
    (witness_row_at (enc := enc) (C := Tryz.checked) false (doorW os) #[.slice none 0 0, .int .i64 0] rfl (by kernel_rfl) (by kernel_rfl) (by kernel_rfl)
      (OpenSpec.preRow_of_cond 8 hx (by kernel_rfl) (fun k hk => by cases hk) (by kernel_rfl) (changes_laid_met os))) ?_
  intro W base args ds gs before hval hW _ _ _ _ hsh _
  exact changes_contract H enc W base args ds gs before hval hW hsh

theorem changes_said : Rows.PeopleChangesSaid :=
  OpenClaim.holds_of_cond 6 Tryz.f6 rfl rfl rfl rfl rfl rfl rfl ⟨rfl, rfl, rfl, rfl, rfl⟩ rfl rfl rfl rfl rfl (by kernel_rfl) Tryz.func6 (by kernel_rfl)
    (of_decide_eq_true (by kernel_rfl)) (by unfold Func.isWrapper; first | (rw [if_pos (by decide +kernel)]; kernel_rfl) | (rw [if_neg (by decide +kernel)]; exact ⟨rfl, rfl⟩))
    (fun os started H enc _ F => by rw [OpenClaim.pre_eq_preRow]; exact changes_lifted os started H enc F)

theorem changes_plain (f : FuncId) (fn : Func) (hf : Tryz.pinned.checked.prog.funcNamed "restante/restantelaw03.PeopleChanges" = some f) (hfn : Tryz.pinned.checked.prog.funcs[f]? = some fn) :
    true = Tryz.pinned.checked.prog.looks [] ∧ ∀ (j : Nat) t, fn.params[j]? = some t → Tryz.pinned.checked.prog.wantsStandIn t = false := by
  obtain rfl : f = 6 := Option.some.inj ((show Tryz.prog.funcNamed "restante/restantelaw03.PeopleChanges" = some 6 by kernel_rfl).symm.trans hf) |>.symm
  obtain rfl : fn = Tryz.f6 := (Option.some.inj (Tryz.func6.symm.trans hfn)).symm
  refine ⟨by kernel_rfl, fun j t ht => ?_⟩
  rw [Tryz.params6] at ht
  have ht' := Array.mem_of_getElem? ht
  simp at ht'
  rcases ht' with rfl | rfl
  · exact (show Tryz.prog.wantsStandIn 22 = false by kernel_rfl)
  · exact (show Tryz.prog.wantsStandIn 3 = false by kernel_rfl)

theorem peopleChanges_card : Rows.PeopleChangesCardSaid :=
  Claim7.holds_tied_plain_at .later [] _ _ _ _ changes_said (fun _ h => by cases h) (by kernel_rfl) (fun _ h => by cases h) peopleChanges_row_tie rfl ⟨rfl, rfl⟩ (by kernel_rfl) rfl changes_plain (by kernel_rfl)
#print axioms peopleChanges_card
end Go.Proofs.YtmfjmoicnddkcaaGreatDoor
