/- PeopleRoutes returns true for every list of entries, every pair, sender, day and route, and leaves its arguments as they were; the package variables that it names start as the program's text lays them (the card ties them). -/
import Derived.Test.YtgbnbolhmghhlaaGreatDoorAliveA
import Derived.Test.YtgbnbolhmghhlaaGreatDoorCkRouteA
import Derived.Test.YtgbnbolhmghhlaaGreatDoorOpenA
import Derived.Lib.QuietBelow
import Derived.BigQuiet
namespace Go.Proofs.YtgbnbolhmghhlaaGreatDoor
open Go.ChangeShapes Go.WideShapes Go.ChangeAt Go.RowKit Go.Sort

set_option maxRecDepth 100000 in
set_option maxHeartbeats 8000000 in
theorem routes_walk (A : Option Addr) (c : Nat) (l : List OEnt) (cp : Int × Int) (s d : Int) (r : Rt) (Ar : Option Addr) (cr : Nat) (hI : ∀ x ∈ l, intB x.1.place ∧ intB x.1.at') (w : World) (hL : EntsLie w w.heap.size A (l.map (·.1))) (hm : MaxAt w) (hlr : r.hops.length ≤ maxLen) (hr : HopsAt w w.heap.size Ar r.hops) :
    Calls Tryz.prog 6 #[.slice A l.length c, candVal cp, .int .i64 s, .int .i64 d, rtVal r.kind r.fin (.slice Ar r.hops.length cr) r.back] w fun e w' => e = .returned (.bool true) ∧ Below w.heap.size w w' := by
  have H0 := Lib.hid fun W => refFew_any A l.length c W
  have H3 : Hid (∀ W, Below w.heap.size w W → _) := Lib.hid fun W (hW : Below w.heap.size w W) => alive_any W (hm.below hm.lt hW)
  by_cases h60 : l.length ≤ 60
  · have H1 : Hid (∀ W, Below w.heap.size w W → _) := Lib.hid fun W (hW : Below w.heap.size w W) => follows_any A c l d s cp hI h60 W (hL.up hW hW.size)
    have H4 : Hid (∀ (r' : Rt) (A' : Option Addr) (c' : Nat), r'.hops.length ≤ maxLen → ∀ W, Below w.heap.size w W → HopsAt W W.heap.size A' r'.hops → _) := Lib.hid fun (r' : Rt) (A' : Option Addr) (c' : Nat) (h : r'.hops.length ≤ maxLen) W (hW : Below w.heap.size w W) (hh : HopsAt W W.heap.size A' r'.hops) => checkRoute_any A c l d s cp hI h60 r' A' c' h W (hL.up hW hW.size) hh
    have H5 : Hid (∀ (r' : Rt) (A' : Option Addr) (c' : Nat), r'.hops.length ≤ maxLen → ∀ W, Below w.heap.size w W → HopsAt W W.heap.size A' r'.hops → _) := Lib.hid fun (r' : Rt) (A' : Option Addr) (c' : Nat) (h : r'.hops.length ≤ maxLen) W (hW : Below w.heap.size w W) (hh : HopsAt W W.heap.size A' r'.hops) => refCheckRoute_any A c l d s cp h60 r' A' c' h W (hL.up hW hW.size) hh
    have HI : Hid ((l.length : Int) ≤ 60) := Lib.hid (by omega)
    have H60 := Lib.hid h60
    obtain ⟨p, q⟩ := cp
    obtain ⟨k', ⟨g1, g2⟩, hs', b'⟩ := r
    have HLR := Lib.hid hlr
    have HRA := Lib.hid hr
    unfold candVal rtVal at *
    dsimp only at H1 H4 H5 HLR HRA ⊢
    clear hI hL hm h60 hlr hr
    have kC : Blk ((w.alloc (.cells #[.int .i64 p, .int .i64 q] 24)).alloc (.cells #[.int .u8 k', .int .i64 g1, .int .i64 g2, .slice Ar hs'.length cr, .int .i64 b'] 42)) w.heap.size 24 #[.int .i64 p, .int .i64 q] := (Blk.new w _ _).alloc _
    have kR : Blk ((w.alloc (.cells #[.int .i64 p, .int .i64 q] 24)).alloc (.cells #[.int .u8 k', .int .i64 g1, .int .i64 g2, .slice Ar hs'.length cr, .int .i64 b'] 42)) (w.heap.size + 1) 42 #[.int .u8 k', .int .i64 g1, .int .i64 g2, .slice Ar hs'.length cr, .int .i64 b'] := at_new (by simp)
    have hB0 : Below w.heap.size w ((w.alloc (.cells #[.int .i64 p, .int .i64 q] 24)).alloc (.cells #[.int .u8 k', .int .i64 g1, .int .i64 g2, .slice Ar hs'.length cr, .int .i64 b'] 42)) := below_al (below_al (Below.refl _ _) _) _
    go_enter Tryz.func6, Tryz.ntmps6
    go_upto_region 1 with fail
    generalize (w.alloc (.cells _ 24)).alloc (.cells _ 42) = w0 at kC kR hB0 ⊢
    go_wp2_with fail
    refine (H0.out _).mono ?_
    rintro e w1 ⟨rfl, rfl⟩
    rw [decide_eq_true HI.out]
    have e0 := kC.cell 0
    have e1 := kC.cell 1
    have zC := kC.lt
    simp at e0 e1
    go_wp2_with fail
    refine (H1.out _ hB0).mono ?_
    rintro e w1 ⟨hb1, ⟨k, ⟨f1, f2⟩, hops, back⟩, hv, x, rfl, hO, hF, hx⟩
    dsimp only at hO ⊢
    obtain ⟨A2, c2, rfl⟩ := hO.shape
    have hQ := hO.rows.at
    have HLQ : Hid (hops.length ≤ maxLen) := Lib.hid (by have := fol_len hF H60.out; dsimp only at this; unfold maxLen; omega)
    have HRS : Hid (FolRes l d s (p, q) ⟨k, (f1, f2), hops, back⟩ x) := Lib.hid ⟨hF, hx⟩
    have hB1 := hB0.trans (hb1.mono hB0.size)
    replace kR := Blk.below kR hb1 (Blk.lt kR)
    replace kC := Blk.below kC hb1 (Blk.lt kC)
    clear hb1 e0 e1 zC H0 H1 hO hF hx hB0
    have hBx := below_al hB1 (.cells #[.int .u8 k, .int .i64 f1, .int .i64 f2, .slice A2 hops.length c2, .int .i64 back] 42)
    have kQ := Blk.new w1 42 #[.int .u8 k, .int .i64 f1, .int .i64 f2, .slice A2 hops.length c2, .int .i64 back]
    have kR2 := kR.alloc (.cells #[.int .u8 k, .int .i64 f1, .int .i64 f2, .slice A2 hops.length c2, .int .i64 back] 42)
    have kC2 := kC.alloc (.cells #[.int .u8 k, .int .i64 f1, .int .i64 f2, .slice A2 hops.length c2, .int .i64 back] 42)
    have hQ2 := hQ.up ((Below.refl w1.heap.size w1).alloc (Nat.le_refl _) (.cells #[.int .u8 k, .int .i64 f1, .int .i64 f2, .slice A2 hops.length c2, .int .i64 back] 42)) (by simp : w1.heap.size ≤ (w1.alloc (.cells #[.int .u8 k, .int .i64 f1, .int .i64 f2, .slice A2 hops.length c2, .int .i64 back] 42)).heap.size)
    go_upto_region 4 with fail
    generalize hgq : w1.heap.size = gq at *
    generalize w1.alloc (.cells _ 42) = w2 at hBx kQ kR2 kC2 hQ2 ⊢
    clear hQ kR kC hB1 hgq
    have hk4 := H4.out ⟨k, (f1, f2), hops, back⟩ A2 c2 HLQ.out w2 hBx hQ2
    dsimp only at hk4
    have HK4 := Lib.hid hk4
    have q0 := kQ.cell 0
    have q1 := kQ.cell 1
    have q2 := kQ.cell 2
    have q3 := kQ.cell 3
    have q4 := kQ.cell 4
    have e0 := kC2.cell 0
    have e1 := kC2.cell 1
    have zQ := kQ.lt
    have zC := kC2.lt
    simp at q0 q1 q2 q3 q4 e0 e1
    clear hk4 hQ2
    go_wp2_with fail
    refine HK4.out.mono ?_
    rintro e w3 ⟨⟨q', x', rfl, hres⟩, hb3⟩
    obtain ⟨hxx, hqq⟩ := hres.out.same HRS.out
    subst hxx
    subst hqq
    rw [ckR_self]
    have hB3 := hBx.trans (hb3.mono hBx.size)
    replace kR2 := Blk.below kR2 hb3 (Blk.lt kR2)
    replace kC2 := Blk.below kC2 hb3 (Blk.lt kC2)
    clear hb3 hBx HK4 hres kQ q0 q1 q2 q3 q4 e0 e1 zQ zC
    obtain ⟨V, hV⟩ : ∃ V, ckR ⟨k, (f1, f2), hops, back⟩ x' ⟨k', (g1, g2), hs', b'⟩ = V := ⟨_, rfl⟩
    have K4 : Hid (∀ W, Below w.heap.size w W → Calls Tryz.prog 22 #[.slice A l.length c, .agg #[.int .i64 p, .int .i64 q], .int .i64 s, .int .i64 d, .agg #[.int .u8 k', .int .i64 g1, .int .i64 g2, .slice Ar hs'.length cr, .int .i64 b']] W fun e w' => e = .returned (.bool V) ∧ Below W.heap.size W w') := Lib.hid fun W hW => by
      refine (H4.out ⟨k', (g1, g2), hs', b'⟩ Ar cr HLR.out W hW (HRA.out.up hW hW.size)).mono ?_
      rintro e w' ⟨⟨q2, x2, he, h2⟩, hb⟩
      obtain ⟨rfl, rfl⟩ := h2.out.same HRS.out
      exact ⟨he.trans (by rw [hV]), hb⟩
    have K5 : Hid (∀ W, Below w.heap.size w W → Calls Tryz.prog 23 #[.slice A l.length c, .agg #[.int .i64 p, .int .i64 q], .int .i64 s, .int .i64 d, .agg #[.int .u8 k', .int .i64 g1, .int .i64 g2, .slice Ar hs'.length cr, .int .i64 b']] W fun e w' => e = .returned (.bool V) ∧ Below W.heap.size W w') := Lib.hid fun W hW => by
      refine (H5.out ⟨k', (g1, g2), hs', b'⟩ Ar cr HLR.out W hW (HRA.out.up hW hW.size)).mono ?_
      rintro e w' ⟨⟨q2, x2, he, h2⟩, hb⟩
      obtain ⟨rfl, rfl⟩ := h2.out.same HRS.out
      exact ⟨he.trans (by rw [hV]), hb⟩
    have hx01 : x' = 0 ∨ x' = 1 := HRS.out.1.imp (·.1) (·.1)
    clear H4 H5 HLR HRA hV HRS HLQ
    rcases hx01 with rfl | rfl
    all_goals
      go_upto_region 6 with fail
      have e0 := kC2.cell 0
      have e1 := kC2.cell 1
      have r0 := kR2.cell 0
      have r1 := kR2.cell 1
      have r2 := kR2.cell 2
      have r3 := kR2.cell 3
      have r4 := kR2.cell 4
      have zR := kR2.lt
      have zC := kC2.lt
      simp at e0 e1 r0 r1 r2 r3 r4
      have ge0 := fun d' os => cell_regrown e0 d' os
      have ge1 := fun d' os => cell_regrown e1 d' os
      have gr0 := fun d' os => cell_regrown r0 d' os
      have gr1 := fun d' os => cell_regrown r1 d' os
      have gr2 := fun d' os => cell_regrown r2 d' os
      have gr3 := fun d' os => cell_regrown r3 d' os
      have gr4 := fun d' os => cell_regrown r4 d' os
      have hW : ∀ d' os, Below w.heap.size w (grow (redrawn w3 d') os) := fun d' os => hB3.trans ((below_regrown w3 d' os).mono hB3.size)
      have HW := Lib.hid hW
      clear hW e0 e1 r0 r1 r2 r3 r4 kR2 kC2
      refine wp_region_quiet_below (by kernel_rfl) (by kernel_rfl) ?_
      repeat (go_big_quiet_step (first
        | (go_at_call 10; exact Calls.regrown_of (H3.out _ (HW.out _ _)))
        | (go_at_call 22; exact Calls.regrown_of (K4.out _ (HW.out _ _)))
        | (go_at_call 23; exact Calls.regrown_of (K5.out _ (HW.out _ _)))))
      refine wpQuiet_nil ?_
      intro _ hw'
      obtain ⟨⟨dq, osq⟩, hw''⟩ := hw'
      subst hw''
      go_wp2_with fail
      go_ret
      exact ⟨by first | rfl | (cases V <;> rfl) | simp, HW.out _ _⟩
  · have HI : Hid (decide ((l.length : Int) ≤ 60) = false) := Lib.hid (decide_eq_false (by omega))
    clear hI hL hm hlr hr
    obtain ⟨p, q⟩ := cp
    obtain ⟨k', ⟨g1, g2⟩, hs', b'⟩ := r
    unfold candVal rtVal
    dsimp only
    have hB0 : Below w.heap.size w ((w.alloc (.cells #[.int .i64 p, .int .i64 q] 24)).alloc (.cells #[.int .u8 k', .int .i64 g1, .int .i64 g2, .slice Ar hs'.length cr, .int .i64 b'] 42)) := below_al (below_al (Below.refl _ _) _) _
    go_enter Tryz.func6, Tryz.ntmps6
    go_upto_region 1 with fail
    generalize (w.alloc (.cells _ 24)).alloc (.cells _ 42) = w0 at hB0 ⊢
    go_wp2_with fail
    refine (H0.out _).mono ?_
    rintro e w1 ⟨rfl, rfl⟩
    rw [HI.out]
    go_wp2_with fail
    refine (H3.out _ hB0).mono ?_
    rintro e w2 ⟨rfl, hb2⟩
    go_wp2_with fail
    go_ret
    exact ⟨rfl, hB0.trans (hb2.mono hB0.size)⟩
end Go.Proofs.YtgbnbolhmghhlaaGreatDoor
namespace Go.Proofs.YtgbnbolhmghhlaaGreatDoor
open Go.ChangeShapes Go.WideShapes Go.ChangeAt Go.RowKit

set_option maxRecDepth 100000 in
theorem route_of_ok {H : Type} {enc : TypeId × Value → H} {W : World} {base : Nat} {v : Value} {d : DataW H} {ps : List MemPlace} (hv : Value.okWide Tryz.prog W .any base 42 v) (h : DataW.Trod enc Tryz.prog W 0 (fun _ => true) true 42 v d ps) :
    ∃ (r : Rt) (A : Option Addr) (c : Nat), v = rtVal r.kind r.fin (.slice A r.hops.length c) r.back ∧ r.hops.length ≤ maxLen ∧ HopsAt W W.heap.size A r.hops := by
  obtain ⟨cs, rfl, hsz⟩ := okWide_struct routeStruct hv
  obtain ⟨fuel, hf⟩ := h
  obtain ⟨r, A, c, he, h1, h2⟩ := open_route hf
  refine ⟨r, A, c, ?_, h1, h2⟩
  have h3 : cs.toList = [.int .u8 r.kind, .int .i64 r.fin.1, .int .i64 r.fin.2, .slice A r.hops.length c, .int .i64 r.back] := by simpa [Value.cells] using he
  obtain ⟨l⟩ := cs
  subst h3
  rfl
set_option maxRecDepth 100000 in
theorem route_readable : Tryz.prog.readableRec 42 = true ∧ (42 : TypeId) < Tryz.prog.types.size := ⟨by kernel_rfl, of_decide_eq_true (by kernel_rfl)⟩

set_option maxRecDepth 100000 in
theorem routes_contract (H : Type) (enc : TypeId × Value → H) (W : World) (base : Nat) (args : Array Value) (ds gs : List (DataW H)) (before : List MemPlace)
    (hval : ∀ (j : Nat) t v, Tryz.f6.params[j]? = some t → args[j]? = some v → Value.okWide Tryz.prog W .any base t v)
    (hW : DataW.Whole enc Tryz.prog Tryz.f6.params.toList Rows.peopleRoutesSpec.vars false W args.toList ds gs before)
    (hsh : W.ShapedOpen Tryz.prog) :
    Calls Tryz.prog 6 args W fun e W' => ∃ v, e = .returned v ∧ Rows.peopleRoutesSpec.post enc Tryz.prog Tryz.f6 false true false false W args v W' := by
  have hW' := hW
  have hlt : ∀ p ∈ before, p.block < W.heap.size := fun p hp => hW.lt p hp
  obtain ⟨p, q, hA, hV, rfl, hfz, hnd⟩ := hW
  have hA0 : DataW.TrodAll enc Tryz.prog W 0 (fun _ => true) true [22, 24, 3, 3, 42] args.toList ds p := hA
  obtain ⟨v0, vs0, d0, ds0, p0, q0, hargs, rfl, rfl, h0, r0⟩ := trodAll_cons hA0
  obtain ⟨v1, vs1, d1, ds1, p1, q1, rfl, rfl, rfl, h1, r1⟩ := trodAll_cons r0
  obtain ⟨v2, vs2, d2, ds2, p2, q2, rfl, rfl, rfl, h2, r2⟩ := trodAll_cons r1
  obtain ⟨v3, vs3, d3, ds3, p3, q3, rfl, rfl, rfl, h3, r3⟩ := trodAll_cons r2
  obtain ⟨v4, vs4, d4, ds4, p4, q4, rfl, rfl, rfl, h4, r4⟩ := trodAll_cons r3
  obtain ⟨rfl, rfl, rfl⟩ := trodAll_nil r4
  obtain rfl : args = #[v0, v1, v2, v3, v4] := by cases args; simp_all
  obtain ⟨rfl, rfl⟩ := trodVars_none hV
  have hsl := slice_of_ok (hval 0 22 v0 rfl rfl)
  obtain ⟨A, c, l, rfl, hlc, hcm, hL, hgo, hd⟩ := open_ents (fun x hx => hlt x (by simp [hx])) h0 hsl
  obtain ⟨cp, rfl, hcp, _⟩ := cand_of_ok (hval 1 24 v1 rfl rfl) h1
  obtain ⟨s, rfl, rfl, rfl, hws⟩ := open_int Tryz.underlying3 (hval 2 3 v2 rfl rfl) h2
  obtain ⟨d, rfl, rfl, rfl, hwd⟩ := open_int Tryz.underlying3 (hval 3 3 v3 rfl rfl) h3
  obtain ⟨r, Ar, cr, rfl, hlr, hr⟩ := route_of_ok (hval 4 42 v4 rfl rfl) h4
  obtain ⟨m, rfl⟩ := to_oents l hgo
  have hlm : (m.map (·.1)).length = m.length := List.length_map _
  have hw := routes_walk A c m cp s d r Ar cr (fun x hx => ⟨(hgo x.1 (List.mem_map_of_mem hx)).2.2.2.2.1, (hgo x.1 (List.mem_map_of_mem hx)).2.2.2.2.2⟩) W hL (laysCut.s1_3 W hsh) hlr hr
  rw [← hlm] at hw
  refine hw.mono fun e W' ⟨he, hb⟩ => ?_
  subst he
  exact law_post rfl (fun t ht => by
    have ht' : t ∈ [(22 : TypeId), 24, 3, 3, 42] := ht
    simp at ht'
    rcases ht' with rfl | rfl | rfl | rfl
    · exact ents_readable
    · exact cand_readable
    · exact int_readable
    · exact route_readable) rfl hW' rfl hb

theorem routes_laid_met (os : Os) : laidMetH Tryz.prog Rows.peopleRoutesRow.laid ((doorW os).forCall (fun _ _ => 0) ⟨#[], #[.slice none 0 0, .agg #[.int .i64 0, .int .i64 0], .int .i64 0, .int .i64 0, .agg #[.int .u8 0, .int .i64 0, .int .i64 0, .slice none 0 0, .int .i64 0]], []⟩).memory :=
  laidMetH_of_parts3 (fuel := 8) (laidMet_of_run' 8 (by kernel_rfl) (by kernel_rfl)) (by kernel_rfl) (by kernel_rfl)
theorem routes_reads (os : Os) {H : Type} (enc : TypeId × Value → H) : ∃ places, DataW.whole enc Tryz.prog ((doorW os).forCall (fun _ _ => 0) ⟨#[], #[.slice none 0 0, .agg #[.int .i64 0, .int .i64 0], .int .i64 0, .int .i64 0, .agg #[.int .u8 0, .int .i64 0, .int .i64 0, .slice none 0 0, .int .i64 0]], []⟩).memory Tryz.f6.params.toList Rows.peopleRoutesSpec.vars false #[Value.slice none 0 0, Value.agg #[.int .i64 0, .int .i64 0], Value.int .i64 0, Value.int .i64 0, Value.agg #[.int .u8 0, .int .i64 0, .int .i64 0, .slice none 0 0, .int .i64 0]].toList 8 = some ([.nil, .agg [.lit (.int .i64 0), .lit (.int .i64 0)], .lit (.int .i64 0), .lit (.int .i64 0), .agg [.lit (.int .u8 0), .agg [.lit (.int .i64 0), .lit (.int .i64 0)], .nil, .lit (.int .i64 0)]], [], places) :=
  ⟨[], by kernel_rfl⟩

set_option maxRecDepth 100000 in
theorem routes_lifted (os : Os) (started : os.Started) (H : Type) (enc : TypeId × Value → H) (F : Stop.Interp) :
    ReturnsInHanded {} Tryz.checked os 6 .any ((OpenSpec.ofChange Rows.peopleRoutesSpec).preRow enc Tryz.prog Tryz.f6 Rows.peopleRoutesRow.domain false Rows.peopleRoutesRow.laid) (((OpenSpec.ofChange Rows.peopleRoutesSpec).at F).post enc Tryz.prog Tryz.f6 false true false false) := by
  obtain ⟨places, hx⟩ := routes_reads os enc
  refine returnsInHanded_of_row (C := Tryz.checked) (s := OpenSpec.ofChange Rows.peopleRoutesSpec) ownKnobA started (by kernel_rfl) Tryz.func6
    (witness_row_at (enc := enc) (C := Tryz.checked) false (doorW os) #[.slice none 0 0, .agg #[.int .i64 0, .int .i64 0], .int .i64 0, .int .i64 0, .agg #[.int .u8 0, .int .i64 0, .int .i64 0, .slice none 0 0, .int .i64 0]] rfl (by kernel_rfl) (by kernel_rfl) (by kernel_rfl)
      (OpenSpec.preRow_of_cond 8 hx (by kernel_rfl) (fun k hk => by cases hk) (by kernel_rfl) (routes_laid_met os))) ?_
  intro W base args ds gs before hval hW _ _ _ _ hsh _
  exact routes_contract H enc W base args ds gs before hval hW hsh

theorem routes_said : Rows.PeopleRoutesSaid :=
  OpenClaim.holds_of_cond 6 Tryz.f6 rfl rfl rfl rfl rfl rfl rfl ⟨rfl, rfl, rfl, rfl, rfl⟩ rfl rfl rfl rfl rfl (by kernel_rfl) Tryz.func6 (by kernel_rfl)
    (of_decide_eq_true (by kernel_rfl)) (by unfold Func.isWrapper; first | (rw [if_pos (by decide +kernel)]; kernel_rfl) | (rw [if_neg (by decide +kernel)]; exact ⟨rfl, rfl⟩))
    (fun os started H enc _ F => by rw [OpenClaim.pre_eq_preRow]; exact routes_lifted os started H enc F)

theorem routes_plain (f : FuncId) (fn : Func) (hf : Tryz.pinned.checked.prog.funcNamed "restante/restantelaw03.PeopleRoutes" = some f) (hfn : Tryz.pinned.checked.prog.funcs[f]? = some fn) :
    true = Tryz.pinned.checked.prog.looks [] ∧ ∀ (j : Nat) t, fn.params[j]? = some t → Tryz.pinned.checked.prog.wantsStandIn t = false := by
  obtain rfl : f = 6 := Option.some.inj ((show Tryz.prog.funcNamed "restante/restantelaw03.PeopleRoutes" = some 6 by kernel_rfl).symm.trans hf) |>.symm
  obtain rfl : fn = Tryz.f6 := (Option.some.inj (Tryz.func6.symm.trans hfn)).symm
  refine ⟨by kernel_rfl, fun j t ht => ?_⟩
  rw [Tryz.params6] at ht
  have ht' := Array.mem_of_getElem? ht
  simp at ht'
  rcases ht' with rfl | rfl | rfl | rfl
  · exact (show Tryz.prog.wantsStandIn 22 = false by kernel_rfl)
  · exact (show Tryz.prog.wantsStandIn 24 = false by kernel_rfl)
  · exact (show Tryz.prog.wantsStandIn 3 = false by kernel_rfl)
  · exact (show Tryz.prog.wantsStandIn 42 = false by kernel_rfl)

theorem peopleRoutes_card : Rows.PeopleRoutesCardSaid :=
  Claim7.holds_tied_plain_at .later [] _ _ _ _ routes_said (fun _ h => by cases h) (by kernel_rfl) (fun _ h => by cases h) peopleRoutes_row_tie rfl ⟨rfl, rfl⟩ (by kernel_rfl) rfl routes_plain (by kernel_rfl)
#print axioms peopleRoutes_card
end Go.Proofs.YtgbnbolhmghhlaaGreatDoor
