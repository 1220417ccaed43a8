/- PeopleWrites returns true for every entry and every line, and leaves its arguments as they were; the package variables that it names start as the program's text lays them (the card ties them). -/
import Derived.Test.YthbgmhhbkojcmaaGreatDoorAliveA
import Derived.Test.YthbgmhhbkojcmaaGreatDoorRefReadA
import Derived.Test.YthbgmhhbkojcmaaGreatDoorLaidOfA
namespace Go.Proofs.YthbgmhhbkojcmaaGreatDoor
open Go.RowKit Go.Shelf

set_option maxRecDepth 100000 in
set_option maxHeartbeats 16000000 in
theorem wlaw_walk (x : Ent) (hn : x.name.size ≤ maxLen) (s : ByteArray) (hs : s.size ≤ 281474976710656) (w : World) (hE : ErrsAt w) (hT : PowAt w) (hm : MaxAt w) :
    Calls Tryz.prog 3 #[entVal x, .string s] w fun e w' => e = .returned (.bool true) ∧ Below w.heap.size w w' := by
  have K1 : ∀ W, Below w.heap.size w W → _ := fun W hW => write_all x hn W (PowAt.below hT hW)
  have K2 : ∀ W, Below w.heap.size w W → _ := fun W hW => refWrite_all x hn W (PowAt.below hT hW)
  generalize (if ckE x = 0 then lineB x else ⟨#[]⟩) = S1 at K1 K2
  generalize ckE x = n1 at K1 K2
  obtain ⟨z, g1, K3, K4⟩ : ∃ z g1, (∀ W, Below w.heap.size w W → Calls Tryz.prog 9 #[.string s] W fun e w' => e = .returned (.tuple #[entVal z, .int .i64 g1]) ∧ Below W.heap.size W w') ∧ (∀ W, Below w.heap.size w W → Calls Tryz.prog 10 #[.string s] W fun e w' => e = .returned (.tuple #[entVal z, .int .i64 g1]) ∧ Below W.heap.size W w') := by
    have hs' : s.size ≤ maxLen := by unfold maxLen; omega
    cases h : readE s with
    | none =>
      refine ⟨kindEnt 0, 4, fun W hW => ?_, fun W hW => ?_⟩
      · have := read_all s hs W (hE.below hW) (hT.below hW)
        rwa [h] at this
      · have := refRead_all s hs' W (hT.below hW)
        rwa [h] at this
    | some z =>
      refine ⟨z, 0, fun W hW => ?_, fun W hW => ?_⟩
      · have := read_all s hs W (hE.below hW) (hT.below hW)
        rwa [h] at this
      · have := refRead_all s hs' W (hT.below hW)
        rwa [h] at this
  have H5 : Hid (∀ W, Below w.heap.size w W → _) := Lib.hid fun W (hW : Below w.heap.size w W) => alive_any W (hm.below hm.lt hW)
  clear hE hT hm hn hs
  have hX0 := EntAt.new w x
  have hB0 : Below w.heap.size w (w.alloc (.cells (entCells x).toArray 23)) := (Below.refl _ _).alloc (Nat.le_refl _) _
  have hq := eqEnt z z
  have hqg := fun a b => noGuardEnt .eql a b z z
  simp only [decide_true] at hq
  unfold entVal at K1 K2 K3 K4 hq hqg ⊢
  replace K1 := Lib.hid K1
  replace K2 := Lib.hid K2
  replace K3 := Lib.hid K3
  replace K4 := Lib.hid K4
  go_enter Tryz.func3, Tryz.ntmps3
  go_wp2_with fail
  simp only [entCells] at hX0 hB0
  generalize w.alloc (.cells _ 23) = W0 at hX0 hB0 ⊢
  obtain ⟨k0, k1, k2, k3, k4, k5, k6, k7, k8, k9, hz⟩ := EntAt.cells (x := x) hX0
  go_wp2_with fail
  refine (K1.out _ hB0).mono ?_
  rintro e w1 ⟨rfl, hb1⟩
  have hX1 := Blk.below hX0 hb1 hz
  have hB1 := hB0.trans (hb1.mono hB0.size)
  clear k0 k1 k2 k3 k4 k5 k6 k7 k8 k9 hz hX0 hB0 hb1 K1
  obtain ⟨k0, k1, k2, k3, k4, k5, k6, k7, k8, k9, hz⟩ := EntAt.cells (x := x) hX1
  go_wp2_with fail
  refine (K2.out _ hB1).mono ?_
  rintro e w2 ⟨rfl, hb2⟩
  have hB2 := hB1.trans (hb2.mono hB1.size)
  clear k0 k1 k2 k3 k4 k5 k6 k7 k8 k9 hz hX1 hB1 hb2 K2
  go_wp2_with fail
  refine (K3.out _ hB2).mono ?_
  rintro e w3 ⟨rfl, hb3⟩
  have hB3 := hB2.trans (hb3.mono hB2.size)
  have hB4 := hB3.alloc hB3.size (.cells (entCells z).toArray 23)
  have hY4 := EntAt.new w3 z
  clear hb3 hB2 K3 hB3
  simp only [entCells] at hB4 hY4
  go_wp2_with fail
  have hzY := Blk.lt hY4
  generalize w3.alloc (.cells _ 23) = W4 at hB4 hY4 hzY ⊢
  refine (K4.out _ hB4).mono ?_
  rintro e w5 ⟨rfl, hb5⟩
  have hB5 := hB4.trans (hb5.mono hB4.size)
  have hY5 := Blk.below hY4 hb5 hzY
  have hB6 := hB5.alloc hB5.size (.cells (entCells z).toArray 23)
  have hZ6 := EntAt.new w5 z
  have hY6 := Blk.alloc hY5 (.cells (entCells z).toArray 23)
  clear hb5 hB4 hY4 hzY K4 hB5 hY5
  simp only [entCells] at hB6 hZ6 hY6
  go_wp2_with fail
  generalize w5.alloc (.cells _ 23) = W6 at hB6 hZ6 hY6 ⊢
  refine (H5.out _ hB6).mono ?_
  rintro e w7 ⟨rfl, hb7⟩
  have hZ7 := Blk.below hZ6 hb7 (Blk.lt hZ6)
  have hY7 := Blk.below hY6 hb7 (Blk.lt hY6)
  have hB7 := hB6.trans (hb7.mono hB6.size)
  clear hZ6 hY6 hB6 hb7 H5
  obtain ⟨k0, k1, k2, k3, k4, k5, k6, k7, k8, k9, hz⟩ := EntAt.cells (x := z) hZ7
  obtain ⟨l0, l1, l2, l3, l4, l5, l6, l7, l8, l9, hy⟩ := EntAt.cells (x := z) hY7
  go_wp2_with fail
  go_ret
  exact ⟨by first | rfl | simp, hB7⟩
end Go.Proofs.YthbgmhhbkojcmaaGreatDoor
namespace Go.Proofs.YthbgmhhbkojcmaaGreatDoor
open Go.ChangeShapes Go.WideShapes Go.ChangeAt Go.RowKit

set_option maxRecDepth 100000 in
theorem wlaw_contract (H : Type) (enc : TypeId × Value → H) (W : World) (base : Nat) (args : Array Value) (ds gs : List (DataW H)) (before : List MemPlace)
    (hval : ∀ (j : Nat) t v, Tryz.f3.params[j]? = some t → args[j]? = some v → Value.okWide Tryz.prog W .any base t v)
    (hW : DataW.Whole enc Tryz.prog Tryz.f3.params.toList Rows.peopleWritesSpec.vars false W args.toList ds gs before)
    (hz : ∀ bs, ds[1]? = some (.lit (.string bs)) → bs.length ≤ reachBytes) (hlaid : laidMetH Tryz.prog Rows.peopleWritesRow.laid W) (hsh : W.ShapedOpen Tryz.prog) :
    Calls Tryz.prog 3 args W fun e W' => ∃ v, e = .returned v ∧ Rows.peopleWritesSpec.post enc Tryz.prog Tryz.f3 false true false false W args v W' := by
  have hW' := hW
  obtain ⟨p, q, hA, hV, rfl, hfz, hnd⟩ := hW
  have hA0 : DataW.TrodAll enc Tryz.prog W 0 (fun _ => true) true [23, 9] args.toList ds p := hA
  obtain ⟨v0, vs0, d0, ds0, p0, q0, hargs, rfl, rfl, h0, r0⟩ := trodAll_cons hA0
  obtain ⟨v1, vs1, d1, ds1, p1, q1, rfl, rfl, rfl, h1, r1⟩ := trodAll_cons r0
  obtain ⟨rfl, rfl, rfl⟩ := trodAll_nil r1
  obtain rfl : args = #[v0, v1] := by cases args; simp_all
  obtain ⟨rfl, rfl⟩ := trodVars_none hV
  obtain ⟨x, rfl, hgx⟩ := ent_of_ok (hval 0 23 v0 rfl rfl) h0
  obtain ⟨nm, rfl, rfl, rfl, hnm⟩ := Go.ChangeMaps.open_string Tryz.underlying9 (hval 1 9 v1 rfl rfl) h1
  have hs := hz nm.data.toList rfl
  have hs' : nm.size ≤ 281474976710656 := by
    have : nm.data.toList.length = nm.size := by simp
    have h2 : reachBytes = 140737488351232 := rfl
    omega
  obtain ⟨hT, hE⟩ := lines_laid (by exact hlaid)
  have hw := wlaw_walk x hgx.1 nm hs' W hE hT (laysCut.s1_3 W hsh)
  refine hw.mono fun e W' ⟨he, hb⟩ => ?_
  subst he
  exact law_post rfl (fun t ht => by
    have ht' : t ∈ [(23 : TypeId), 9] := ht
    simp at ht'
    rcases ht' with rfl | rfl
    · exact ent_readable
    · exact string_readable) rfl hW' rfl hb

theorem wlaw_laid_met (os : Os) : laidMetH Tryz.prog Rows.peopleWritesRow.laid ((doorW os).forCall (fun _ _ => 0) ⟨#[], #[.agg #[.int .i64 0, .int .u8 0, .int .i64 0, .int .i64 0, .int .i64 0, .int .i64 0, .int .i64 0, .int .i64 0, .int .i64 0, .string ⟨#[]⟩], .string ⟨#[]⟩], []⟩).memory :=
  laidMetH_of_parts3 (fuel := 8) (laidMet_of_run' 8 (by kernel_rfl) (by kernel_rfl)) (by kernel_rfl) (by kernel_rfl)
theorem wlaw_reads (os : Os) {H : Type} (enc : TypeId × Value → H) : ∃ places, DataW.whole enc Tryz.prog ((doorW os).forCall (fun _ _ => 0) ⟨#[], #[.agg #[.int .i64 0, .int .u8 0, .int .i64 0, .int .i64 0, .int .i64 0, .int .i64 0, .int .i64 0, .int .i64 0, .int .i64 0, .string ⟨#[]⟩], .string ⟨#[]⟩], []⟩).memory Tryz.f3.params.toList Rows.peopleWritesSpec.vars false #[Value.agg #[.int .i64 0, .int .u8 0, .int .i64 0, .int .i64 0, .int .i64 0, .int .i64 0, .int .i64 0, .int .i64 0, .int .i64 0, .string ⟨#[]⟩], Value.string ⟨#[]⟩].toList 8 = some ([.agg [.lit (.int .i64 0), .lit (.int .u8 0), .lit (.int .i64 0), .lit (.int .i64 0), .lit (.int .i64 0), .lit (.int .i64 0), .lit (.int .i64 0), .lit (.int .i64 0), .lit (.int .i64 0), .lit (.string [])], .lit (.string [])], [], places) :=
  ⟨[], by kernel_rfl⟩

set_option maxRecDepth 100000 in
theorem wlaw_lifted (os : Os) (started : os.Started) (H : Type) (enc : TypeId × Value → H) (F : Stop.Interp) :
    ReturnsInHanded {} Tryz.checked os 3 .any ((OpenSpec.ofChange Rows.peopleWritesSpec).preRow enc Tryz.prog Tryz.f3 Rows.peopleWritesRow.domain false Rows.peopleWritesRow.laid) (((OpenSpec.ofChange Rows.peopleWritesSpec).at F).post enc Tryz.prog Tryz.f3 false true false false) := by
  obtain ⟨places, hx⟩ := wlaw_reads os enc
  refine returnsInHanded_of_row (C := Tryz.checked) (s := OpenSpec.ofChange Rows.peopleWritesSpec) ownKnobA started (by kernel_rfl) Tryz.func3
    (witness_row_at (enc := enc) (C := Tryz.checked) false (doorW os) #[.agg #[.int .i64 0, .int .u8 0, .int .i64 0, .int .i64 0, .int .i64 0, .int .i64 0, .int .i64 0, .int .i64 0, .int .i64 0, .string ⟨#[]⟩], .string ⟨#[]⟩] rfl (by kernel_rfl) (by kernel_rfl) (by kernel_rfl)
      (OpenSpec.preRow_of_cond 8 hx (by kernel_rfl) (fun k hk => by cases hk) (by kernel_rfl) (wlaw_laid_met os))) ?_
  intro W base args ds gs before hval hW _ _ hz hlaid hsh _
  refine wlaw_contract H enc W base args ds gs before hval hW (fun bs h => ?_) hlaid hsh
  exact sized_string (j := 1) (t := 9) hz rfl ((List.getElem?_append_left (List.getElem?_eq_some_iff.1 h).1).trans h)

theorem wlaw_said : Rows.PeopleWritesSaid :=
  OpenClaim.holds_of_cond 3 Tryz.f3 rfl rfl rfl rfl rfl rfl rfl ⟨rfl, rfl, rfl, rfl, rfl⟩ rfl rfl rfl rfl rfl (by kernel_rfl) Tryz.func3 (by kernel_rfl)
    (of_decide_eq_true (by kernel_rfl)) (by unfold Func.isWrapper; first | (rw [if_pos (by decide +kernel)]; kernel_rfl) | (rw [if_neg (by decide +kernel)]; exact ⟨rfl, rfl⟩))
    (fun os started H enc _ F => by rw [OpenClaim.pre_eq_preRow]; exact wlaw_lifted os started H enc F)

theorem wlaw_plain (f : FuncId) (fn : Func) (hf : Tryz.pinned.checked.prog.funcNamed "restante/restantelaw03.PeopleWrites" = some f) (hfn : Tryz.pinned.checked.prog.funcs[f]? = some fn) :
    true = Tryz.pinned.checked.prog.looks [] ∧ ∀ (j : Nat) t, fn.params[j]? = some t → Tryz.pinned.checked.prog.wantsStandIn t = false := by
  obtain rfl : f = 3 := Option.some.inj ((show Tryz.prog.funcNamed "restante/restantelaw03.PeopleWrites" = some 3 by kernel_rfl).symm.trans hf) |>.symm
  obtain rfl : fn = Tryz.f3 := (Option.some.inj (Tryz.func3.symm.trans hfn)).symm
  refine ⟨by kernel_rfl, fun j t ht => ?_⟩
  rw [Tryz.params3] at ht
  have ht' := Array.mem_of_getElem? ht
  simp at ht'
  rcases ht' with rfl | rfl
  · exact (show Tryz.prog.wantsStandIn 23 = false by kernel_rfl)
  · exact (show Tryz.prog.wantsStandIn 9 = false by kernel_rfl)

theorem peopleWrites_card : Rows.PeopleWritesCardSaid :=
  Claim7.holds_tied_plain_at .later [] _ _ _ _ wlaw_said (fun _ h => by cases h) (by kernel_rfl) (fun _ h => by cases h) peopleWrites_row_tie rfl ⟨rfl, rfl⟩ (by kernel_rfl) rfl wlaw_plain (by kernel_rfl)
#print axioms peopleWrites_card
end Go.Proofs.YthbgmhhbkojcmaaGreatDoor
