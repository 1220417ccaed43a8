/- PeopleOrders returns true for every list of entries, every pair, sender and day, and leaves its arguments as they were; the package variables that it names start as the program's text lays them (the card ties them). -/
import Derived.Test.YtgbnbolhmghhlaaGreatDoorAliveA
import Derived.Lib.QuietBelow
import Derived.BigQuiet
import Derived.Test.YtgbnbolhmghhlaaGreatDoorOpenA
import Derived.Test.YtgbnbolhmghhlaaGreatDoorRefOA
import Derived.Test.YtgbnbolhmghhlaaGreatDoorRefRA
namespace Go.Proofs.YtgbnbolhmghhlaaGreatDoor
open Go.ChangeShapes Go.WideShapes Go.ChangeAt Go.RowKit Go.Sort

set_option maxRecDepth 100000 in
set_option maxHeartbeats 8000000 in
theorem orders_walk (A : Option Addr) (c : Nat) (l : List OEnt) (cp : Int × Int) (s d : Int) (hp : isInt cp.1) (w : World) (hL : EntsLie w w.heap.size A (l.map (·.1))) (hl : l.length ≤ maxLen) (hm : MaxAt w) :
    Calls Tryz.prog 3 #[.slice A l.length c, candVal cp, .int .i64 s, .int .i64 d] w fun e w' => e = .returned (.bool true) ∧ Below w.heap.size w w' := by
  have hlm : (l.map (·.1)).length = l.length := List.length_map _
  have H0 := Lib.hid fun W => refFew_any A l.length c W
  have H1 : Hid (∀ W, Below w.heap.size w W → _) := Lib.hid fun W (hW : Below w.heap.size w W) => pOrder_any A c l cp d hp W (hL.up hW hW.size) hl
  have H2 : Hid (∀ W, Below w.heap.size w W → _) := Lib.hid fun W (hW : Below w.heap.size w W) => refOrder_any A c (l.map (·.1)) cp d W (hL.up hW hW.size) (by rw [hlm]; exact hl)
  have H3 : Hid (∀ W, Below w.heap.size w W → _) := Lib.hid fun W (hW : Below w.heap.size w W) => alive_any W (hm.below hm.lt hW)
  have H4 : Hid (∀ W, Below w.heap.size w W → _) := Lib.hid fun W (hW : Below w.heap.size w W) => pRefuses_any A c l cp s d hp W (hL.up hW hW.size) hl
  have H5 : Hid (∀ W, Below w.heap.size w W → _) := Lib.hid fun W (hW : Below w.heap.size w W) => refRefuses_any A c (l.map (·.1)) cp s d W (hL.up hW hW.size) (by rw [hlm]; exact hl)
  rw [hlm, orderE_eq] at H2
  rw [hlm, refusE_eq] at H5
  generalize orderOf (deadOf l d) (cancOf l d) l d cp = r at *
  generalize refusesOf (deadOf l d) l d cp s = R at *
  obtain ⟨X, B⟩ := r
  obtain ⟨p, q⟩ := cp
  have HEQ := Lib.hid fun W => eqEnt X X W
  have HNG := Lib.hid fun W a b => noGuardEnt .eql a b X X W
  simp only [decide_true] at HEQ
  unfold candVal at *
  unfold entVal at *
  dsimp only at H1 H2 H4 H5 HEQ HNG ⊢
  clear hp hL hm hlm
  go_enter Tryz.func3, Tryz.ntmps3
  go_wp2_with fail
  refine (H0.out _).mono ?_
  rintro e w0 ⟨rfl, rfl⟩
  have hB0 : Below w.heap.size w (w.alloc (.cells #[.int .i64 p, .int .i64 q] 24)) := below_al (Below.refl _ _) _
  have kC := Blk.new w 24 #[.int .i64 p, .int .i64 q]
  generalize w.alloc (.cells _ 24) = w0 at hB0 kC ⊢
  by_cases h60 : (l.length : Int) ≤ 60
  · rw [decide_eq_true h60]
    clear h60
    have e0 := kC.cell 0
    have e1 := kC.cell 1
    have zC := kC.lt
    simp at e0 e1
    go_wp2_with fail
    refine (H1.out _ hB0).mono ?_
    rintro e w1 ⟨rfl, hb1⟩
    have hB1 := hB0.trans (hb1.mono hB0.size)
    replace kC := Blk.below kC hb1 (Blk.lt kC)
    clear hB0 hb1 e0 e1 zC
    have e0 := Blk.cell kC 0
    have e1 := Blk.cell kC 1
    have zC := Blk.lt kC
    simp at e0 e1
    go_wp2_with fail
    have hBx : Below w.heap.size w (w1.alloc (.cells (entCells X).toArray 28)) := hB1.alloc hB1.size _
    have kX := EntAt.new w1 X
    have kC2 := kC.alloc (.cells (entCells X).toArray 28)
    simp only [entCells] at hBx kX kC2
    generalize hgx : w1.heap.size = gx at *
    generalize w1.alloc (.cells _ 28) = w2 at hBx kX kC2 ⊢
    clear hB1 kC e0 e1 zC
    refine (H2.out _ hBx).mono ?_
    rintro e w3 ⟨rfl, hb3⟩
    have hB3 := hBx.trans (hb3.mono hBx.size)
    replace kX : EntAt w3 gx X := Blk.below kX hb3 (Blk.lt kX)
    replace kC := Blk.below kC2 hb3 (Blk.lt kC2)
    clear hBx hb3 kC2
    have e0 := Blk.cell kC 0
    have e1 := Blk.cell kC 1
    have zC := Blk.lt kC
    have zX := Blk.lt kX
    simp at e0 e1
    go_upto_region 5 with fail
    have hBy : Below w.heap.size w (w3.alloc (.cells (entCells X).toArray 28)) := hB3.alloc hB3.size _
    have kY := EntAt.new w3 X
    have kX2 : EntAt (w3.alloc (.cells (entCells X).toArray 28)) gx X := Blk.alloc kX _
    have kC2 := kC.alloc (.cells (entCells X).toArray 28)
    simp only [entCells] at hBy kY kX2 kC2
    generalize hgy : w3.heap.size = gy at *
    generalize w3.alloc (.cells _ 28) = w4 at hBy kY kX2 kC2 ⊢
    have kX4 : EntAt w4 gx X := kX2
    have kY4 : EntAt w4 gy X := kY
    clear hB3 kC kX e0 e1 zC zX kX2 kY hgx hgy
    have zC := Blk.lt kC2
    have zX := Blk.lt kX4
    have zY := Blk.lt kY4
    have e0 := Blk.cell kC2 0
    have e1 := Blk.cell kC2 1
    simp at e0 e1
    obtain ⟨x0, x1, x2, x3, x4, x5, x6, x7, x8, x9, _⟩ := EntAt.cells kX4
    obtain ⟨y0, y1, y2, y3, y4, y5, y6, y7, y8, y9, _⟩ := EntAt.cells kY4
    have ge0 := fun d' os => cell_regrown e0 d' os
    have ge1 := fun d' os => cell_regrown e1 d' os
    have gx0 := fun d' os => cell_regrown x0 d' os
    have gx1 := fun d' os => cell_regrown x1 d' os
    have gx2 := fun d' os => cell_regrown x2 d' os
    have gx3 := fun d' os => cell_regrown x3 d' os
    have gx4 := fun d' os => cell_regrown x4 d' os
    have gx5 := fun d' os => cell_regrown x5 d' os
    have gx6 := fun d' os => cell_regrown x6 d' os
    have gx7 := fun d' os => cell_regrown x7 d' os
    have gx8 := fun d' os => cell_regrown x8 d' os
    have gx9 := fun d' os => cell_regrown x9 d' os
    have gy0 := fun d' os => cell_regrown y0 d' os
    have gy1 := fun d' os => cell_regrown y1 d' os
    have gy2 := fun d' os => cell_regrown y2 d' os
    have gy3 := fun d' os => cell_regrown y3 d' os
    have gy4 := fun d' os => cell_regrown y4 d' os
    have gy5 := fun d' os => cell_regrown y5 d' os
    have gy6 := fun d' os => cell_regrown y6 d' os
    have gy7 := fun d' os => cell_regrown y7 d' os
    have gy8 := fun d' os => cell_regrown y8 d' os
    have gy9 := fun d' os => cell_regrown y9 d' os
    have hW : ∀ d' os, Below w.heap.size w (grow (redrawn w4 d') os) := fun d' os => hBy.trans ((below_regrown w4 d' os).mono hBy.size)
    have HW := Lib.hid hW
    have heq := HEQ.out
    have hng := HNG.out
    clear H0 H1 H2 HEQ HNG hW kC2 kX4 kY4 e0 e1 x0 x1 x2 x3 x4 x5 x6 x7 x8 x9 y0 y1 y2 y3 y4 y5 y6 y7 y8 y9
    refine wp_region_quiet_below (by kernel_rfl) (by kernel_rfl) ?_
    repeat (go_big_quiet_step (first
      | (go_at_call 10; exact Calls.regrown_of (H3.out _ (HW.out _ _)))
      | (go_at_call 13; exact Calls.regrown_of (H4.out _ (HW.out _ _)))
      | (go_at_call 14; exact Calls.regrown_of (H5.out _ (HW.out _ _)))))
    refine wpQuiet_nil ?_
    intro _ hw'
    obtain ⟨⟨dq, osq⟩, hw''⟩ := hw'
    subst hw''
    go_wp2_with fail
    go_ret
    exact ⟨by first | rfl | (cases R <;> cases B <;> rfl) | simp, HW.out _ _⟩
  · rw [decide_eq_false h60]
    clear h60
    go_wp2_with fail
    refine (H3.out _ hB0).mono ?_
    rintro e w1 ⟨rfl, hb1⟩
    go_wp2_with fail
    go_ret
    exact ⟨rfl, hB0.trans (hb1.mono hB0.size)⟩
end Go.Proofs.YtgbnbolhmghhlaaGreatDoor
namespace Go.Proofs.YtgbnbolhmghhlaaGreatDoor
open Go.ChangeShapes Go.WideShapes Go.ChangeAt Go.RowKit

set_option maxRecDepth 100000 in
theorem orders_contract (H : Type) (enc : TypeId × Value → H) (W : World) (base : Nat) (args : Array Value) (ds gs : List (DataW H)) (before : List MemPlace)
    (hval : ∀ (j : Nat) t v, Tryz.f3.params[j]? = some t → args[j]? = some v → Value.okWide Tryz.prog W .any base t v)
    (hW : DataW.Whole enc Tryz.prog Tryz.f3.params.toList Rows.peopleOrdersSpec.vars false W args.toList ds gs before)
    (hsh : W.ShapedOpen Tryz.prog) :
    Calls Tryz.prog 3 args W fun e W' => ∃ v, e = .returned v ∧ Rows.peopleOrdersSpec.post enc Tryz.prog Tryz.f3 false true false false W args v W' := by
  have hW' := hW
  have hlt : ∀ p ∈ before, p.block < W.heap.size := fun p hp => hW.lt p hp
  obtain ⟨p, q, hA, hV, rfl, hfz, hnd⟩ := hW
  have hA0 : DataW.TrodAll enc Tryz.prog W 0 (fun _ => true) true [22, 24, 3, 3] args.toList ds p := hA
  obtain ⟨v0, vs0, d0, ds0, p0, q0, hargs, rfl, rfl, h0, r0⟩ := trodAll_cons hA0
  obtain ⟨v1, vs1, d1, ds1, p1, q1, rfl, rfl, rfl, h1, r1⟩ := trodAll_cons r0
  obtain ⟨v2, vs2, d2, ds2, p2, q2, rfl, rfl, rfl, h2, r2⟩ := trodAll_cons r1
  obtain ⟨v3, vs3, d3, ds3, p3, q3, rfl, rfl, rfl, h3, r3⟩ := trodAll_cons r2
  obtain ⟨rfl, rfl, rfl⟩ := trodAll_nil r3
  obtain rfl : args = #[v0, v1, v2, v3] := by cases args; simp_all
  obtain ⟨rfl, rfl⟩ := trodVars_none hV
  have hsl := slice_of_ok (hval 0 22 v0 rfl rfl)
  obtain ⟨A, c, l, rfl, hlc, hcm, hL, hgo, hd⟩ := open_ents (fun x hx => hlt x (by simp [hx])) h0 hsl
  obtain ⟨cp, rfl, hcp, _⟩ := cand_of_ok (hval 1 24 v1 rfl rfl) h1
  obtain ⟨s, rfl, rfl, rfl, hws⟩ := open_int Tryz.underlying3 (hval 2 3 v2 rfl rfl) h2
  obtain ⟨d, rfl, rfl, rfl, hwd⟩ := open_int Tryz.underlying3 (hval 3 3 v3 rfl rfl) h3
  obtain ⟨m, rfl⟩ := to_oents l hgo
  have hlm : (m.map (·.1)).length = m.length := List.length_map _
  have hw := orders_walk A c m cp s d hcp W hL (by rw [← hlm]; exact Nat.le_trans hlc hcm) (laysCut.s1_3 W hsh)
  rw [← hlm] at hw
  refine hw.mono fun e W' ⟨he, hb⟩ => ?_
  subst he
  exact law_post rfl (fun t ht => by
    have ht' : t ∈ [(22 : TypeId), 24, 3, 3] := ht
    simp at ht'
    rcases ht' with rfl | rfl | rfl
    · exact ents_readable
    · exact cand_readable
    · exact int_readable) rfl hW' rfl hb

theorem orders_laid_met (os : Os) : laidMetH Tryz.prog Rows.peopleOrdersRow.laid ((doorW os).forCall (fun _ _ => 0) ⟨#[], #[.slice none 0 0, .agg #[.int .i64 0, .int .i64 0], .int .i64 0, .int .i64 0], []⟩).memory :=
  laidMetH_of_parts3 (fuel := 8) (laidMet_of_run' 8 (by kernel_rfl) (by kernel_rfl)) (by kernel_rfl) (by kernel_rfl)
theorem orders_reads (os : Os) {H : Type} (enc : TypeId × Value → H) : ∃ places, DataW.whole enc Tryz.prog ((doorW os).forCall (fun _ _ => 0) ⟨#[], #[.slice none 0 0, .agg #[.int .i64 0, .int .i64 0], .int .i64 0, .int .i64 0], []⟩).memory Tryz.f3.params.toList Rows.peopleOrdersSpec.vars false #[Value.slice none 0 0, Value.agg #[.int .i64 0, .int .i64 0], Value.int .i64 0, Value.int .i64 0].toList 8 = some ([.nil, .agg [.lit (.int .i64 0), .lit (.int .i64 0)], .lit (.int .i64 0), .lit (.int .i64 0)], [], places) :=
  ⟨[], by kernel_rfl⟩

set_option maxRecDepth 100000 in
theorem orders_lifted (os : Os) (started : os.Started) (H : Type) (enc : TypeId × Value → H) (F : Stop.Interp) :
    ReturnsInHanded {} Tryz.checked os 3 .any ((OpenSpec.ofChange Rows.peopleOrdersSpec).preRow enc Tryz.prog Tryz.f3 Rows.peopleOrdersRow.domain false Rows.peopleOrdersRow.laid) (((OpenSpec.ofChange Rows.peopleOrdersSpec).at F).post enc Tryz.prog Tryz.f3 false true false false) := by
  obtain ⟨places, hx⟩ := orders_reads os enc
  refine returnsInHanded_of_row (C := Tryz.checked) (s := OpenSpec.ofChange Rows.peopleOrdersSpec) ownKnobA started (by kernel_rfl) Tryz.func3
    (witness_row_at (enc := enc) (C := Tryz.checked) false (doorW os) #[.slice none 0 0, .agg #[.int .i64 0, .int .i64 0], .int .i64 0, .int .i64 0] rfl (by kernel_rfl) (by kernel_rfl) (by kernel_rfl)
      (OpenSpec.preRow_of_cond 8 hx (by kernel_rfl) (fun k hk => by cases hk) (by kernel_rfl) (orders_laid_met os))) ?_
  intro W base args ds gs before hval hW _ _ _ _ hsh _
  exact orders_contract H enc W base args ds gs before hval hW hsh

theorem orders_said : Rows.PeopleOrdersSaid :=
  OpenClaim.holds_of_cond 3 Tryz.f3 rfl rfl rfl rfl rfl rfl rfl ⟨rfl, rfl, rfl, rfl, rfl⟩ rfl rfl rfl rfl rfl (by kernel_rfl) Tryz.func3 (by kernel_rfl)
    (of_decide_eq_true (by kernel_rfl)) (by unfold Func.isWrapper; first | (rw [if_pos (by decide +kernel)]; kernel_rfl) | (rw [if_neg (by decide +kernel)]; exact ⟨rfl, rfl⟩))
    (fun os started H enc _ F => by rw [OpenClaim.pre_eq_preRow]; exact orders_lifted os started H enc F)

theorem orders_plain (f : FuncId) (fn : Func) (hf : Tryz.pinned.checked.prog.funcNamed "restante/restantelaw03.PeopleOrders" = some f) (hfn : Tryz.pinned.checked.prog.funcs[f]? = some fn) :
    true = Tryz.pinned.checked.prog.looks [] ∧ ∀ (j : Nat) t, fn.params[j]? = some t → Tryz.pinned.checked.prog.wantsStandIn t = false := by
  obtain rfl : f = 3 := Option.some.inj ((show Tryz.prog.funcNamed "restante/restantelaw03.PeopleOrders" = some 3 by kernel_rfl).symm.trans hf) |>.symm
  obtain rfl : fn = Tryz.f3 := (Option.some.inj (Tryz.func3.symm.trans hfn)).symm
  refine ⟨by kernel_rfl, fun j t ht => ?_⟩
  rw [Tryz.params3] at ht
  have ht' := Array.mem_of_getElem? ht
  simp at ht'
  rcases ht' with rfl | rfl | rfl
  · exact (show Tryz.prog.wantsStandIn 22 = false by kernel_rfl)
  · exact (show Tryz.prog.wantsStandIn 24 = false by kernel_rfl)
  · exact (show Tryz.prog.wantsStandIn 3 = false by kernel_rfl)

theorem peopleOrders_card : Rows.PeopleOrdersCardSaid :=
  Claim7.holds_tied_plain_at .later [] _ _ _ _ orders_said (fun _ h => by cases h) (by kernel_rfl) (fun _ h => by cases h) peopleOrders_row_tie rfl ⟨rfl, rfl⟩ (by kernel_rfl) rfl orders_plain (by kernel_rfl)
#print axioms peopleOrders_card
end Go.Proofs.YtgbnbolhmghhlaaGreatDoor
