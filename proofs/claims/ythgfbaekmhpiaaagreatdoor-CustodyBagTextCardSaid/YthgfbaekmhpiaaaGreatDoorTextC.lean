/- CustodyBagText returns true for every bag and every text, and leaves its arguments as they were; the package variables that it names start as the program's text lays them (the card ties them). -/
import Derived.Test.YthgfbaekmhpiaaaGreatDoorNumC
import Derived.Test.YthgfbaekmhpiaaaGreatDoorShipA
import Derived.Test.YthgfbaekmhpiaaaGreatDoorOpenA
namespace Go.Proofs.YthgfbaekmhpiaaaGreatDoor
open Go.RowKit Go.Shelf Go.Sort

set_option maxRecDepth 100000 in
set_option maxHeartbeats 16000000 in
theorem text_walk (a : BagV) (La : List Tok) (m : ByteArray) (w : World) (hTa : TokAt w a.toks La) (hla : La.length ≤ 9223372036854775807) (hP : PowAt w) (hE : ErrsAt w) :
    Calls Tryz.prog 4 #[bagVal a, .string m] w fun e w' => e = .returned (.bool true) ∧ Below w.heap.size w w' := by
  have KU := Lib.hid (fun W (hW : Below w.heap.size w W) => huge_any a La W (hTa.below hW) hla)
  have KH := Lib.hid (fun W (hW : Below w.heap.size w W) => shipped_ok W (PowAt.up hP hW))
  have KP := Lib.hid (fun W (hW : Below w.heap.size w W) => putBag_any a La W (hTa.below hW) (hP.up hW) hla)
  have KQ := Lib.hid (fun W (hW : Below w.heap.size w W) => refPut_any a La W (hTa.below hW) (by omega))
  have KG := Lib.hid (fun (hx : m.size ≤ 1000000000) W (hW : Below w.heap.size w W) => getBag_any m W (hP.up hW) (hE.below hW) hx)
  have KR := Lib.hid (fun (hx : m.size ≤ 1000000000) W => refGet_any m W hx)
  obtain ⟨tx, htx⟩ : ∃ tx, tx = putTx a La := ⟨_, rfl⟩
  obtain ⟨te, hte⟩ : ∃ te, te = putE a La := ⟨_, rfl⟩
  rw [← htx, ← hte] at KP KQ
  clear htx hte
  obtain ⟨aS, aD, aQ, aV⟩ := a
  dsimp only at hTa
  obtain ⟨aA, ac, rfl, _, _⟩ := hTa
  simp only [bagVal] at KU KP KQ ⊢
  have HA0 := Blk.new w 41 #[.int .i64 aS, .int .i64 aD, .int .i64 aQ, .slice aA La.length ac]
  have HB0 := Lib.hid ((Below.refl _ w).alloc (Nat.le_refl _) (.cells #[.int .i64 aS, .int .i64 aD, .int .i64 aQ, .slice aA La.length ac] 41))
  clear hP hE hla
  go_enter Tryz.func4, Tryz.ntmps4
  go_upto_region 1 with fail
  generalize w.alloc _ = W1 at HA0 HB0 ⊢
  have HC : Hid (∀ W, Below W1.heap.size W1 W → (W.cell? ⟨w.heap.size, 0, none⟩ = some (.int .i64 aS) ∧ W.cell? ⟨w.heap.size, 1, none⟩ = some (.int .i64 aD) ∧ W.cell? ⟨w.heap.size, 2, none⟩ = some (.int .i64 aQ) ∧ W.cell? ⟨w.heap.size, 3, none⟩ = some (.slice aA La.length ac)) ∧ w.heap.size < W.heap.size) := Lib.hid (fun W hW => by
    have a1 := HA0.below hW HA0.lt
    refine ⟨⟨?_, ?_, ?_, ?_⟩, a1.lt⟩
    all_goals exact a1.cell _)
  clear HA0
  obtain ⟨⟨a0, a1, a2, a3⟩, z1⟩ := HC.out W1 (Below.refl _ _)
  go_wp2_with fail
  refine (KU.out _ HB0.out).mono ?_
  rintro e w2 ⟨rfl, hb⟩
  have HB2 := Lib.hid hb
  clear hb a0 a1 a2 a3 z1
  obtain ⟨⟨a0, a1, a2, a3⟩, z1⟩ := HC.out w2 HB2.out
  rcases hua : hugeB La with _ | _
  rotate_left
  · clear hua
    have HBH := Lib.hid (HB0.out.trans (HB2.out.mono HB0.out.size))
    clear a0 a1 a2 a3 z1
    go_wp2_with fail
    refine (KH.out _ HBH.out).mono ?_
    rintro e wz ⟨rfl, hbz⟩
    have HBZ := Lib.hid (HBH.out.trans (hbz.mono HBH.out.size))
    clear hbz
    go_wp2_with fail
    go_ret
    exact ⟨rfl, HBZ.out⟩
  clear hua
  by_cases hm : (200000 : Int) < (m.size : Int)
  · have HBH := Lib.hid (HB0.out.trans (HB2.out.mono HB0.out.size))
    clear a0 a1 a2 a3 z1
    go_wp2_with fail
    refine (KH.out _ HBH.out).mono ?_
    rintro e wz ⟨rfl, hbz⟩
    have HBZ := Lib.hid (HBH.out.trans (hbz.mono HBH.out.size))
    clear hbz
    go_wp2_with fail
    go_ret
    exact ⟨rfl, HBZ.out⟩
  have HMS : Hid (m.size ≤ 1000000000) := Lib.hid (by omega)
  go_wp2_with fail
  refine (KP.out _ (HB0.out.trans (HB2.out.mono HB0.out.size))).mono ?_
  rintro e w4 ⟨rfl, hb⟩
  have HB4 := Lib.hid (HB2.out.trans (hb.mono HB2.out.size))
  clear hb HB2 a0 a1 a2 a3 z1
  obtain ⟨⟨a0, a1, a2, a3⟩, z1⟩ := HC.out w4 HB4.out
  go_wp2_with fail
  refine (KQ.out _ (HB0.out.trans (HB4.out.mono HB0.out.size))).mono ?_
  rintro e w5 ⟨rfl, hb⟩
  have HB5 := Lib.hid (HB0.out.trans ((HB4.out.trans (hb.mono HB4.out.size)).mono HB0.out.size))
  clear hb HB4 a0 a1 a2 a3 z1 HC
  go_wp2_with fail
  refine (KG.out HMS.out _ HB5.out).mono ?_
  rintro e w6 ⟨⟨s, d, q, V, L, rfl, hT, hg, ht⟩ | ⟨rfl, hno⟩, hb6⟩
  · obtain ⟨VA, Vc, hV, _⟩ := hT.at_
    subst hV
    have HB6 := Lib.hid (HB5.out.trans (hb6.mono HB5.out.size))
    have HB7 := Lib.hid (HB6.out.alloc HB6.out.size (.cells #[.int .i64 s, .int .i64 d, .int .i64 q, .slice VA L.length Vc] 41))
    have HT7 := Lib.hid (hT.at_.below ((Below.refl _ w6).alloc (Nat.le_refl _) (.cells #[.int .i64 s, .int .i64 d, .int .i64 q, .slice VA L.length Vc] 41)))
    have HX7 := Lib.hid (Blk.new w6 41 #[.int .i64 s, .int .i64 d, .int .i64 q, .slice VA L.length Vc])
    have HGX := Lib.hid hg
    have HTX := Lib.hid ht
    clear hT hg ht hb6 HB6
    unfold bagVal
    dsimp only
    go_upto_region 6 with fail
    obtain ⟨X, hX⟩ : ∃ X, X = w6.heap.size := ⟨_, rfl⟩
    rw [← hX] at HX7 ⊢
    clear hX
    generalize w6.alloc _ = w7 at HB7 HT7 HX7 ⊢
    go_wp2_with fail
    refine (KR.out HMS.out w7).mono ?_
    rintro e w8 ⟨⟨s', d', q', V', L', rfl, hT, hg, ht⟩ | ⟨rfl, hno⟩, hb8⟩
    rotate_left
    · exact absurd HTX.out (hno _ _ _ _ HGX.out)
    have hinj := bag_inj hg HGX.out (by
      have h1 := ht.trans HTX.out.symm
      unfold bagText ba at h1
      simpa using h1)
    dsimp only at hinj
    obtain ⟨rfl, rfl, rfl, rfl⟩ := hinj
    obtain ⟨VB, Vd, hV, _⟩ := hT.at_
    subst hV
    have hal := (Below.refl _ w8).alloc (Nat.le_refl _) (.cells #[.int .i64 s', .int .i64 d', .int .i64 q', .slice VB L'.length Vd] 41)
    have HB8 := Lib.hid (HB7.out.trans (hb8.mono HB7.out.size))
    have HB9 := Lib.hid (HB8.out.trans (hal.mono HB8.out.size))
    have HT9 := Lib.hid ((HT7.out.below hb8).below hal)
    have HU9 := Lib.hid (hT.at_.below hal)
    have HX9 := Lib.hid ((HX7.out.below hb8 HX7.out.lt).below hal (HX7.out.below hb8 HX7.out.lt).lt)
    have HY9 := Lib.hid (Blk.new w8 41 #[.int .i64 s', .int .i64 d', .int .i64 q', .slice VB L'.length Vd])
    have hll : L'.length ≤ 9223372036854775807 := by have := (bag_facts HGX.out).2.1.2; omega
    clear hT hg ht hb8 hal HT7 HX7 HB7 HB8
    unfold bagVal
    dsimp only
    go_upto_region 7 with fail
    obtain ⟨Y, hY⟩ : ∃ Y, Y = w8.heap.size := ⟨_, rfl⟩
    rw [← hY] at HY9 ⊢
    clear hY
    generalize w8.alloc _ = w9 at HB9 HT9 HU9 HX9 HY9 ⊢
    go_wp2_with fail
    refine (KH.out _ HB9.out).mono ?_
    rintro e wz ⟨rfl, hbz⟩
    have HBZ := Lib.hid (HB9.out.trans (hbz.mono HB9.out.size))
    have KSM := Lib.hid (sameBag_eq s' d' q' L' _ _ wz (HT9.out.below hbz) (HU9.out.below hbz) hll)
    have hX := HX9.out.below hbz HX9.out.lt
    have hY := HY9.out.below hbz HY9.out.lt
    simp only [bagVal] at KSM
    have x0 := hX.cell 0
    have x1 := hX.cell 1
    have x2 := hX.cell 2
    have x3 := hX.cell 3
    have xz := hX.lt
    have y0 := hY.cell 0
    have y1 := hY.cell 1
    have y2 := hY.cell 2
    have y3 := hY.cell 3
    have yz := hY.lt
    simp at x0 x1 x2 x3 y0 y1 y2 y3
    clear hbz HB9 HT9 HU9 HX9 HY9 hX hY hll
    go_wp2_with fail
    refine KSM.out.mono ?_
    rintro e wf ⟨rfl, hbf⟩
    have HBF := Lib.hid (HBZ.out.trans (hbf.mono HBZ.out.size))
    clear hbf
    go_wp2_with fail
    go_ret
    exact ⟨rfl, HBF.out⟩
  · have HB6 := Lib.hid (HB5.out.trans (hb6.mono HB5.out.size))
    have HB7 := Lib.hid (HB6.out.alloc HB6.out.size (.cells #[.int .i64 0, .int .i64 0, .int .i64 0, .slice none 0 0] 41))
    have HX7 := Lib.hid (Blk.new w6 41 #[.int .i64 0, .int .i64 0, .int .i64 0, .slice none 0 0])
    have HNO := Lib.hid hno
    clear hno hb6 HB6
    unfold bagVal
    dsimp only
    go_upto_region 6 with fail
    obtain ⟨X, hX⟩ : ∃ X, X = w6.heap.size := ⟨_, rfl⟩
    rw [← hX] at HX7 ⊢
    clear hX
    generalize w6.alloc _ = w7 at HB7 HX7 ⊢
    go_wp2_with fail
    refine (KR.out HMS.out w7).mono ?_
    rintro e w8 ⟨⟨s', d', q', V', L', rfl, hT, hg, ht⟩ | ⟨rfl, hno⟩, hb8⟩
    · exact absurd ht (HNO.out _ _ _ _ hg)
    have hal := (Below.refl _ w8).alloc (Nat.le_refl _) (.cells #[.int .i64 0, .int .i64 0, .int .i64 0, .slice none 0 0] 41)
    have HB8 := Lib.hid (HB7.out.trans (hb8.mono HB7.out.size))
    have HB9 := Lib.hid (HB8.out.trans (hal.mono HB8.out.size))
    have HX9 := Lib.hid ((HX7.out.below hb8 HX7.out.lt).below hal (HX7.out.below hb8 HX7.out.lt).lt)
    have HY9 := Lib.hid (Blk.new w8 41 #[.int .i64 0, .int .i64 0, .int .i64 0, .slice none 0 0])
    clear hno hb8 hal HX7 HB7 HB8 HNO
    unfold bagVal
    dsimp only
    go_upto_region 7 with fail
    obtain ⟨Y, hY⟩ : ∃ Y, Y = w8.heap.size := ⟨_, rfl⟩
    rw [← hY] at HY9 ⊢
    clear hY
    generalize w8.alloc _ = w9 at HB9 HX9 HY9 ⊢
    go_wp2_with fail
    refine (KH.out _ HB9.out).mono ?_
    rintro e wz ⟨rfl, hbz⟩
    have HBZ := Lib.hid (HB9.out.trans (hbz.mono HB9.out.size))
    have KSM := Lib.hid (sameBag_eq 0 0 0 [] (.slice none 0 0) (.slice none 0 0) wz (TokOwn.nil wz wz.heap.size).at_ (TokOwn.nil wz wz.heap.size).at_ (by simp))
    have hX := HX9.out.below hbz HX9.out.lt
    have hY := HY9.out.below hbz HY9.out.lt
    simp only [bagVal] at KSM
    have x0 := hX.cell 0
    have x1 := hX.cell 1
    have x2 := hX.cell 2
    have x3 := hX.cell 3
    have xz := hX.lt
    have y0 := hY.cell 0
    have y1 := hY.cell 1
    have y2 := hY.cell 2
    have y3 := hY.cell 3
    have yz := hY.lt
    simp at x0 x1 x2 x3 y0 y1 y2 y3
    clear hbz HB9 HX9 HY9 hX hY
    go_wp2_with fail
    refine KSM.out.mono ?_
    rintro e wf ⟨rfl, hbf⟩
    have HBF := Lib.hid (HBZ.out.trans (hbf.mono HBZ.out.size))
    clear hbf
    go_wp2_with fail
    go_ret
    exact ⟨rfl, HBF.out⟩
end Go.Proofs.YthgfbaekmhpiaaaGreatDoor
namespace Go.Proofs.YthgfbaekmhpiaaaGreatDoor
open Go.ChangeShapes Go.WideShapes Go.ChangeAt Go.RowKit

theorem custodyBagText_rd0 : Tryz.prog.readableRec 41 = true ∧ (41 : TypeId) < Tryz.prog.types.size := ⟨by kernel_rfl, of_decide_eq_true (by kernel_rfl)⟩
theorem custodyBagText_rd1 : Tryz.prog.readableRec 9 = true ∧ (9 : TypeId) < Tryz.prog.types.size := ⟨by kernel_rfl, of_decide_eq_true (by kernel_rfl)⟩
set_option maxRecDepth 100000 in
theorem custodyBagText_contract (H : Type) (enc : TypeId × Value → H) (W : World) (base : Nat) (args : Array Value) (ds gs : List (DataW H)) (before : List MemPlace)
    (hval : ∀ (j : Nat) t v, Tryz.f4.params[j]? = some t → args[j]? = some v → Value.okWide Tryz.prog W .any base t v)
    (hW : DataW.Whole enc Tryz.prog Tryz.f4.params.toList Rows.custodyBagTextSpec.vars false W args.toList ds gs before)
    (hlaid : laidMetH Tryz.prog Rows.custodyBagTextRow.laid W) :
    Calls Tryz.prog 4 args W fun e W' => ∃ v, e = .returned v ∧ Rows.custodyBagTextSpec.post enc Tryz.prog Tryz.f4 false true false false W args v W' := by
  have hW' := hW
  obtain ⟨p, q, hA, hV, rfl, hfz, hnd⟩ := hW
  have hA0 : DataW.TrodAll enc Tryz.prog W 0 (fun _ => true) true [41, 9] args.toList ds p := hA
  obtain ⟨v0, vs0, d0, ds0, p0, q0, hargs, rfl, rfl, h0, r0⟩ := trodAll_cons hA0
  obtain ⟨v1, vs1, d1, ds1, p1, q1, rfl, rfl, rfl, h1, r1⟩ := trodAll_cons r0
  obtain ⟨rfl, rfl, rfl⟩ := trodAll_nil r1
  obtain rfl : args = #[v0, v1] := by cases args; simp_all
  obtain ⟨rfl, rfl⟩ := trodVars_none hV
  obtain ⟨a, La, rfl, hTa, hla, hba⟩ := open_bag (hval 0 41 v0 rfl rfl) h0
  obtain ⟨m, rfl, rfl, rfl, hm⟩ := Go.ChangeMaps.open_string strRowO (hval 1 9 v1 rfl rfl) h1
  obtain ⟨hP, hE⟩ := cu_laid (by exact hlaid)
  have hla2 : La.length ≤ 9223372036854775807 := by unfold maxLen at hla; omega
  refine (text_walk a La m W hTa hla2 hP hE).mono fun e W' ⟨he, hb⟩ => ?_
  subst he
  exact law_post rfl (fun t ht => by
    have ht' : t ∈ [(41 : TypeId), 9] := ht
    simp at ht'
    rcases ht' with rfl | rfl
    · exact custodyBagText_rd0
    · exact custodyBagText_rd1) rfl hW' rfl hb
theorem custodyBagText_laid_met (os : Os) : laidMetH Tryz.prog Rows.custodyBagTextRow.laid ((doorW os).forCall (fun _ _ => 0) ⟨#[], #[.agg #[.int .i64 0, .int .i64 0, .int .i64 0, .slice none 0 0], .string ⟨#[]⟩], []⟩).memory :=
  by rw [Go.MakeChecks.laidMetH_plain _ _ _ (by kernel_rfl)]; exact laidMet_laidAll _ (by kernel_rfl) (by kernel_rfl)
theorem custodyBagText_reads (os : Os) {H : Type} (enc : TypeId × Value → H) : ∃ places, DataW.whole enc Tryz.prog ((doorW os).forCall (fun _ _ => 0) ⟨#[], #[.agg #[.int .i64 0, .int .i64 0, .int .i64 0, .slice none 0 0], .string ⟨#[]⟩], []⟩).memory Tryz.f4.params.toList Rows.custodyBagTextSpec.vars false (#[.agg #[.int .i64 0, .int .i64 0, .int .i64 0, .slice none 0 0], .string ⟨#[]⟩] : Array Value).toList 8 = some ([.agg [.lit (.int .i64 0), .lit (.int .i64 0), .lit (.int .i64 0), .nil], .lit (.string [])], [], places) :=
  ⟨[], by kernel_rfl⟩
set_option maxRecDepth 100000 in
theorem custodyBagText_lifted (os : Os) (started : os.Started) (H : Type) (enc : TypeId × Value → H) (F : Stop.Interp) :
    ReturnsInHanded {} Tryz.checked os 4 .any ((OpenSpec.ofChange Rows.custodyBagTextSpec).preRow enc Tryz.prog Tryz.f4 Rows.custodyBagTextRow.domain false Rows.custodyBagTextRow.laid) (((OpenSpec.ofChange Rows.custodyBagTextSpec).at F).post enc Tryz.prog Tryz.f4 false true false false) := by
  obtain ⟨places, hx⟩ := custodyBagText_reads os enc
  refine returnsInHanded_of_row (C := Tryz.checked) (s := OpenSpec.ofChange Rows.custodyBagTextSpec) ownKnobA started (by kernel_rfl) Tryz.func4
    (witness_zip (enc := enc) (C := Tryz.checked) false (doorW os) #[.agg #[.int .i64 0, .int .i64 0, .int .i64 0, .slice none 0 0], .string ⟨#[]⟩] (World.laidAll_os _ _ _) (by kernel_rfl) (by kernel_rfl) (by kernel_rfl)
      (OpenSpec.preRow_of_cond 8 hx (by kernel_rfl) (fun k hk => by cases hk) (by kernel_rfl) (custodyBagText_laid_met os))) ?_
  intro W base args ds gs before hval hW _ _ _ hlaid hsh _
  exact custodyBagText_contract H enc W base args ds gs before hval hW hlaid
theorem custodyBagText_said : Rows.CustodyBagTextSaid :=
  OpenClaim.holds_of_cond 4 Tryz.f4 rfl rfl rfl rfl rfl rfl rfl ⟨rfl, rfl, rfl, rfl, rfl⟩ rfl rfl rfl rfl rfl (by kernel_rfl) Tryz.func4 (by kernel_rfl)
    (of_decide_eq_true (by kernel_rfl)) (by unfold Func.isWrapper; first | (rw [if_pos (by decide +kernel)]; kernel_rfl) | (rw [if_neg (by decide +kernel)]; exact ⟨rfl, rfl⟩))
    (fun os started H enc _ F => by rw [OpenClaim.pre_eq_preRow]; exact custodyBagText_lifted os started H enc F)
theorem custodyBagText_plain (f : FuncId) (fn : Func) (hf : Tryz.pinned.checked.prog.funcNamed "restante/restantelaw07.CustodyBagText" = some f) (hfn : Tryz.pinned.checked.prog.funcs[f]? = some fn) :
    true = Tryz.pinned.checked.prog.looks [] ∧ ∀ (j : Nat) t, fn.params[j]? = some t → Tryz.pinned.checked.prog.wantsStandIn t = false := by
  obtain rfl : f = 4 := Option.some.inj ((show Tryz.prog.funcNamed "restante/restantelaw07.CustodyBagText" = some 4 by kernel_rfl).symm.trans hf) |>.symm
  obtain rfl : fn = Tryz.f4 := (Option.some.inj (Tryz.func4.symm.trans hfn)).symm
  refine ⟨by kernel_rfl, fun j t ht => ?_⟩
  rw [Tryz.params4] at ht
  have ht' := Array.mem_of_getElem? ht
  simp at ht'
  rcases ht' with rfl | rfl
  · exact (show Tryz.prog.wantsStandIn 41 = false by kernel_rfl)
  · exact (show Tryz.prog.wantsStandIn 9 = false by kernel_rfl)
theorem custodyBagText_card : Rows.CustodyBagTextCardSaid :=
  Claim7.holds_tied_plain_at .later [] _ _ _ _ custodyBagText_said (fun _ h => by cases h) (by kernel_rfl) (fun _ h => by cases h) custodyBagText_row_tie rfl ⟨rfl, rfl⟩ (by kernel_rfl) rfl custodyBagText_plain (by kernel_rfl)
#print axioms custodyBagText_card
end Go.Proofs.YthgfbaekmhpiaaaGreatDoor
