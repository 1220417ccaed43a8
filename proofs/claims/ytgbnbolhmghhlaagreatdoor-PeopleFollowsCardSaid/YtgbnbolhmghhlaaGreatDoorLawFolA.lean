/- PeopleFollows returns true for every list of entries, every pair, sender and day, and leaves its arguments as they were; the package variables that it names start as the program's text lays them (the card ties them). -/
import Derived.Test.YtgbnbolhmghhlaaGreatDoorFolA
import Derived.Test.YtgbnbolhmghhlaaGreatDoorFolC
import Derived.Lib.QuietBelow
import Derived.BigQuiet
import Derived.Test.YtgbnbolhmghhlaaGreatDoorAliveA
import Derived.Test.YtgbnbolhmghhlaaGreatDoorOpenA
import Derived.Test.YtgbnbolhmghhlaaGreatDoorRefFA
namespace Go.Proofs.YtgbnbolhmghhlaaGreatDoor
open Go.RowKit Go.Shelf

theorem fieldsHop : (Tryz.prog.fieldsOf 48).toList.map (fun f => (f.name, f.type, f.offset)) = [("Kind", 5, 0), ("From", 24, 1), ("To", 24, 3), ("Order", 3, 5)] := by kernel_rfl
theorem candEq9 (x1 x2 y1 y2 : Int) (w : World) : (Op.equalIn 9999 24 (.agg #[.int .i64 x1, .int .i64 x2]) (.agg #[.int .i64 y1, .int .i64 y2])).run Tryz.prog w = .ok (decide (x1 = y1 ∧ x2 = y2)) w := by
  rw [run_equalIn_agg (P := Tryz.prog) w 9998 24 _ _ (by kernel_rfl) (by kernel_rfl), eqFields_trip, fieldsCand]
  simp only [eqTrip]
  simp [go_sem, run_equalIn_int (P := Tryz.prog) _ _ _ _ _ _ _ intRow]
  by_cases h : x1 = y1 <;> by_cases h' : x2 = y2 <;> simp [h, h']
/-- A hop as a value. -/
def hopW (h : HopV) : Value := .agg #[.int .u8 h.1, .int .i64 h.2.1.1, .int .i64 h.2.1.2, .int .i64 h.2.2.1.1, .int .i64 h.2.2.1.2, .int .i64 h.2.2.2]
theorem hopEq_run (x y : HopV) (w : World) : (Op.equalIn 10000 48 (hopW x) (hopW y)).run Tryz.prog w = .ok (decide (x = y)) w := by
  obtain ⟨xk, ⟨xp, xq⟩, ⟨xr, xs⟩, xo⟩ := x
  obtain ⟨yk, ⟨yp, yq⟩, ⟨yr, ys⟩, yo⟩ := y
  unfold hopW
  rw [run_equalIn_agg (P := Tryz.prog) w 9999 48 _ _ (by kernel_rfl) (by kernel_rfl), eqFields_trip, fieldsHop]
  simp only [eqTrip]
  simp [go_sem, candEq9, run_equalIn_int (P := Tryz.prog) _ _ _ _ _ _ _ intRow, run_equalIn_int (P := Tryz.prog) _ _ _ _ _ _ _ u8Row]
  by_cases h1 : xk = yk <;> by_cases h2 : xp = yp <;> by_cases h3 : xq = yq <;> by_cases h4 : xr = yr <;> by_cases h5 : xs = ys <;> by_cases h6 : xo = yo <;> simp [h1, h2, h3, h4, h5, h6]
theorem neHop (x y : HopV) (w : World) : (binOp .neq 48 (hopW x) (hopW y)).run Tryz.prog w = .ok (.bool (!decide (x = y))) w := by
  have h := hopEq_run x y w
  unfold hopW at h ⊢
  rw [run_neq_struct, h]; rfl
theorem noGuardHop (op : BinOp) (a b : Operand) (x y : HopV) (w : World) : (eqGuard op 48 a b (hopW x) (hopW y)).run Tryz.prog w = .ok () w :=
  run_eqGuard_agg w op _ a b _ _ (by kernel_rfl)

/-- The hops l lie behind A, from a block's beginning on. -/
def RowsH (w : World) (A : Option Addr) (l : List HopV) : Prop := 0 < l.length → ∃ g, A = some ⟨g, 0, none⟩ ∧ RowH w g l
theorem RowsH.below {w w' : World} {A : Option Addr} {l : List HopV} (h : RowsH w A l) (hb : Below w.heap.size w w') : RowsH w' A l := fun h0 => by
  obtain ⟨g, h1, h2⟩ := h h0
  exact ⟨g, h1, h2.keep (S := fun _ => False) (Keeps.of_new hb) (fun h => h)⟩
theorem OwnH.rows {w : World} {base : Nat} {A : Option Addr} {c : Nat} {l : List HopV} (h : OwnH w base (.slice A l.length c) l) : RowsH w A l := fun h0 => by
  obtain ⟨g, h1, _, h2⟩ := h.row h0
  exact ⟨g, h1, h2⟩

set_option maxRecDepth 100000 in
set_option maxHeartbeats 4000000 in
theorem sameRoute_eq (k b : Int) (f : Int × Int) (hs : List HopV) (A1 A2 : Option Addr) (c1 c2 : Nat) (hlen : hs.length ≤ 1000) (w : World) (h1 : RowsH w A1 hs) (h2 : RowsH w A2 hs) :
    Calls Tryz.prog 21 #[rtVal k f (.slice A1 hs.length c1) b, rtVal k f (.slice A2 hs.length c2) b] w fun e w' => e = .returned (.bool true) ∧ Below w.heap.size w w' := by
  obtain ⟨f1, f2⟩ := f
  unfold rtVal
  dsimp only
  have hne := neCand (f1, f2) (f1, f2)
  have hng := fun a b => noGuardCand .neq a b (f1, f2) (f1, f2)
  unfold candVal at hne hng
  simp only [decide_true, Bool.not_true] at hne
  dsimp only at hng
  have kA : Blk ((w.alloc (.cells #[.int .u8 k, .int .i64 f1, .int .i64 f2, .slice A1 hs.length c1, .int .i64 b] 42)).alloc (.cells #[.int .u8 k, .int .i64 f1, .int .i64 f2, .slice A2 hs.length c2, .int .i64 b] 42)) w.heap.size 42 #[.int .u8 k, .int .i64 f1, .int .i64 f2, .slice A1 hs.length c1, .int .i64 b] := (Blk.new w _ _).alloc _
  have kB : Blk ((w.alloc (.cells #[.int .u8 k, .int .i64 f1, .int .i64 f2, .slice A1 hs.length c1, .int .i64 b] 42)).alloc (.cells #[.int .u8 k, .int .i64 f1, .int .i64 f2, .slice A2 hs.length c2, .int .i64 b] 42)) (w.heap.size + 1) 42 #[.int .u8 k, .int .i64 f1, .int .i64 f2, .slice A2 hs.length c2, .int .i64 b] := at_new (by simp)
  have hB0 : Below w.heap.size w ((w.alloc (.cells #[.int .u8 k, .int .i64 f1, .int .i64 f2, .slice A1 hs.length c1, .int .i64 b] 42)).alloc (.cells #[.int .u8 k, .int .i64 f1, .int .i64 f2, .slice A2 hs.length c2, .int .i64 b] 42)) := below_al (below_al (Below.refl _ _) _) _
  go_enter Tryz.func21, Tryz.ntmps21
  go_upto_region 1 with fail
  generalize (w.alloc (.cells _ 42)).alloc (.cells _ 42) = w0 at kA kB hB0 ⊢
  replace h1 := h1.below hB0
  replace h2 := h2.below hB0
  have a0 := kA.cell 0
  have a1 := kA.cell 1
  have a2 := kA.cell 2
  have a3 := kA.cell 3
  have a4 := kA.cell 4
  have b0 := kB.cell 0
  have b1 := kB.cell 1
  have b2 := kB.cell 2
  have b3 := kB.cell 3
  have b4 := kB.cell 4
  have zA := kA.lt
  have zB := kB.lt
  simp at a0 a1 a2 a3 a4 b0 b1 b2 b3 b4
  have H1 := Lib.hid h1
  have H2 := Lib.hid h2
  clear h1 h2
  go_wp2_with fail
  clear a0 a1 a2 a3 a4 b0 b1 b2 b3 b4 zA zB hne hng
  go_loopw [5] (fun i wq => ∃ j : Nat, j ≤ hs.length ∧ i = .int .i64 j ∧ Keeps (fun _ => False) w0 wq) (fun i _ => hs.length - (intOf i).toNat)
  case atStart => exact ⟨0, Nat.zero_le _, rfl, Keeps.refl _ _⟩
  case round =>
    obtain ⟨j, hj, rfl, hK⟩ := hrel
    have kA2 := kA.keep hK (fun h => h)
    have kB2 := kB.keep hK (fun h => h)
    have a3 := kA2.cell 3
    have b3 := kB2.cell 3
    have zA := kA2.lt
    have zB := kB2.lt
    simp at a3 b3
    by_cases hlt : j < hs.length
    · obtain ⟨⟨zk, ⟨z1, z2⟩, ⟨z3, z4⟩, zo⟩, hz⟩ : ∃ x, hs[j]? = some x := ⟨_, List.getElem?_eq_getElem hlt⟩
      obtain ⟨g1, hg1, hr1⟩ := H1.out (by omega)
      obtain ⟨g2, hg2, hr2⟩ := H2.out (by omega)
      subst hg1 hg2
      replace hr1 := hr1.keep hK (fun h => h)
      replace hr2 := hr2.keep hK (fun h => h)
      have u0 := hr1.2 j _ hz 0 (by omega)
      have u1 := hr1.2 j _ hz 1 (by omega)
      have u2 := hr1.2 j _ hz 2 (by omega)
      have u3 := hr1.2 j _ hz 3 (by omega)
      have u4 := hr1.2 j _ hz 4 (by omega)
      have u5 := hr1.2 j _ hz 5 (by omega)
      have v0 := hr2.2 j _ hz 0 (by omega)
      have v1 := hr2.2 j _ hz 1 (by omega)
      have v2 := hr2.2 j _ hz 2 (by omega)
      have v3 := hr2.2 j _ hz 3 (by omega)
      have v4 := hr2.2 j _ hz 4 (by omega)
      have v5 := hr2.2 j _ hz 5 (by omega)
      have y1 := hr1.1
      have y2 := hr2.1
      simp [hopCells] at u0 u1 u2 u3 u4 u5 v0 v1 v2 v3 v4 v5
      have hne := neHop (zk, (z1, z2), (z3, z4), zo) (zk, (z1, z2), (z3, z4), zo)
      have hng := fun a b => noGuardHop .neq a b (zk, (z1, z2), (z3, z4), zo) (zk, (z1, z2), (z3, z4), zo)
      unfold hopW at hne hng
      simp only [decide_true, Bool.not_true] at hne
      dsimp only at hng
      clear hz hr1 hr2
      go_wp2_with fail
      go_quiet (fail)
      go_wp2_with fail
      go_roundw
      case rel => exact ⟨j + 1, by omega, by go_num, hK.drewN _⟩
      case measure => simp [intOf]; omega
    · obtain rfl : j = hs.length := by omega
      go_wp2_with fail
      go_ret
      exact ⟨rfl, hB0.trans (hK.below (fun _ _ h => h) hB0.size)⟩
end Go.Proofs.YtgbnbolhmghhlaaGreatDoor
namespace Go.Proofs.YtgbnbolhmghhlaaGreatDoor
open Go.ChangeShapes Go.WideShapes Go.ChangeAt Go.RowKit Go.Sort

/-- Two runs of the relation of following, both at the same arguments, give the same route and the same error. -/
theorem fol_same {l : List OEnt} {d s : Int} {cp : Int × Int} {r r' : Rt} {x x' : Int} {P : Prop} (h : (x = 0 ∧ Fol l d s [] cp r) ∨ (x = 1 ∧ r = ⟨0, (0, 0), [], 0⟩)) (h' : (x' = 0 ∧ Fol l d s [] cp r') ∨ (x' = 1 ∧ r' = ⟨0, (0, 0), [], 0⟩)) (hx : x = 0 ↔ P) (hx' : x' = 0 ↔ P) : x = x' ∧ r = r' := by
  rcases h with ⟨rfl, h⟩ | ⟨rfl, h⟩ <;> rcases h' with ⟨rfl, h'⟩ | ⟨rfl, h'⟩
  · exact ⟨rfl, h.unique h'⟩
  · exact absurd (hx'.2 (hx.1 rfl)) (by decide)
  · exact absurd (hx.2 (hx'.1 rfl)) (by decide)
  · exact ⟨rfl, h.trans h'.symm⟩
theorem fol_len {l : List OEnt} {d s : Int} {cp : Int × Int} {r : Rt} {x : Int} (h : (x = 0 ∧ Fol l d s [] cp r) ∨ (x = 1 ∧ r = ⟨0, (0, 0), [], 0⟩)) (h60 : l.length ≤ 60) : r.hops.length ≤ 1000 := by
  rcases h with ⟨_, h⟩ | ⟨_, rfl⟩
  · have := (h.ended (Way.start l d cp)).len
    omega
  · simp

set_option maxRecDepth 100000 in
set_option maxHeartbeats 8000000 in
theorem follows_walk (A : Option Addr) (c : Nat) (l : List OEnt) (cp : Int × Int) (s d : Int) (hI : ∀ x ∈ l, intB x.1.place ∧ intB x.1.at') (w : World) (hL : EntsLie w w.heap.size A (l.map (·.1))) (_ : l.length ≤ maxLen) (hm : MaxAt w) :
    Calls Tryz.prog 5 #[.slice A l.length c, candVal cp, .int .i64 s, .int .i64 d] w fun e w' => e = .returned (.bool true) ∧ Below w.heap.size w w' := by
  have H0 := Lib.hid fun W => refFew_any A l.length c W
  have H3 : Hid (∀ W, Below w.heap.size w W → _) := Lib.hid fun W (hW : Below w.heap.size w W) => alive_any W (hm.below hm.lt hW)
  by_cases h60 : l.length ≤ 60
  · have H1 : Hid (∀ W, Below w.heap.size w W → _) := Lib.hid fun W (hW : Below w.heap.size w W) => follows_any A c l d s cp hI h60 W (hL.up hW hW.size)
    have H2 : Hid (∀ W, Below w.heap.size w W → _) := Lib.hid fun W (hW : Below w.heap.size w W) => refFollow_any A c l d s cp h60 W (hL.up hW hW.size)
    have HI : Hid ((l.length : Int) ≤ 60) := Lib.hid (by omega)
    have H60 := Lib.hid h60
    obtain ⟨p, q⟩ := cp
    unfold candVal rtVal at *
    dsimp only at H1 H2 ⊢
    clear hI hL hm h60
    go_enter Tryz.func5, Tryz.ntmps5
    go_wp2_with fail
    refine (H0.out _).mono ?_
    rintro e w0 ⟨rfl, rfl⟩
    rw [decide_eq_true HI.out]
    have hB0 : Below w.heap.size w (w.alloc (.cells #[.int .i64 p, .int .i64 q] 24)) := below_al (Below.refl _ _) _
    have kC := Blk.new w 24 #[.int .i64 p, .int .i64 q]
    generalize w.alloc (.cells _ 24) = w0 at hB0 kC ⊢
    have e0 := kC.cell 0
    have e1 := kC.cell 1
    have zC := kC.lt
    simp at e0 e1
    go_wp2_with fail
    refine (H1.out _ hB0).mono ?_
    rintro e w1 ⟨hb1, ⟨k, ⟨f1, f2⟩, hops, back⟩, hv, x, rfl, hO, hF, hx⟩
    have hR1 := hO
    dsimp only at hR1 ⊢
    obtain ⟨A2, c2, rfl⟩ := hR1.shape
    replace hR1 := hR1.rows
    have HF := Lib.hid hF
    have HX := Lib.hid hx
    have hB1 := hB0.trans (hb1.mono hB0.size)
    replace kC := Blk.below kC hb1 (Blk.lt kC)
    clear hb1 e0 e1 zC H0 H1 hO hF hx hB0
    have e0 := Blk.cell kC 0
    have e1 := Blk.cell kC 1
    have zC := Blk.lt kC
    simp at e0 e1
    have hBx := below_al hB1 (.cells #[.int .u8 k, .int .i64 f1, .int .i64 f2, .slice A2 hops.length c2, .int .i64 back] 42)
    have kR := Blk.new w1 42 #[.int .u8 k, .int .i64 f1, .int .i64 f2, .slice A2 hops.length c2, .int .i64 back]
    have kC2 := kC.alloc (.cells #[.int .u8 k, .int .i64 f1, .int .i64 f2, .slice A2 hops.length c2, .int .i64 back] 42)
    replace hR1 := hR1.below ((Below.refl w1.heap.size w1).alloc (Nat.le_refl _) (.cells #[.int .u8 k, .int .i64 f1, .int .i64 f2, .slice A2 hops.length c2, .int .i64 back] 42))
    go_upto_region 4 with fail
    generalize hgr : w1.heap.size = gr at *
    generalize w1.alloc (.cells _ 42) = w2 at hBx kR kC2 hR1 ⊢
    clear kC hB1 e0 e1 zC
    have e0 := Blk.cell kC2 0
    have e1 := Blk.cell kC2 1
    have zC := Blk.lt kC2
    simp at e0 e1
    go_wp2_with fail
    refine (H2.out _ hBx).mono ?_
    rintro e w3 ⟨hb3, ⟨k', ⟨f1', f2'⟩, hops', back'⟩, hv', x', rfl, hO', hF', hx'⟩
    have hR2 := hO'
    dsimp only at hR2 ⊢
    obtain ⟨A3, c3, rfl⟩ := hR2.shape
    replace hR2 := hR2.rows
    obtain ⟨hxx, hrr⟩ := fol_same HF.out hF' HX.out hx'
    subst hxx
    cases hrr
    have HLen : Hid (hops.length ≤ 1000) := Lib.hid (fol_len HF.out H60.out)
    have hB3 := hBx.trans (hb3.mono hBx.size)
    replace kC2 := Blk.below kC2 hb3 (Blk.lt kC2)
    replace kR := Blk.below kR hb3 (Blk.lt kR)
    replace hR1 := hR1.below hb3
    clear hb3 e0 e1 zC H2 hO' hF' hx' hBx HF HX H60 hgr
    have hB4 := below_al hB3 (.cells #[.int .u8 k, .int .i64 f1, .int .i64 f2, .slice A3 hops.length c3, .int .i64 back] 42)
    have kS := Blk.new w3 42 #[.int .u8 k, .int .i64 f1, .int .i64 f2, .slice A3 hops.length c3, .int .i64 back]
    have kR2 := kR.alloc (.cells #[.int .u8 k, .int .i64 f1, .int .i64 f2, .slice A3 hops.length c3, .int .i64 back] 42)
    replace hR1 := hR1.below ((Below.refl w3.heap.size w3).alloc (Nat.le_refl _) (.cells #[.int .u8 k, .int .i64 f1, .int .i64 f2, .slice A3 hops.length c3, .int .i64 back] 42))
    replace hR2 := hR2.below ((Below.refl w3.heap.size w3).alloc (Nat.le_refl _) (.cells #[.int .u8 k, .int .i64 f1, .int .i64 f2, .slice A3 hops.length c3, .int .i64 back] 42))
    go_upto_region 5 with fail
    generalize hgs : w3.heap.size = gs at *
    generalize w3.alloc (.cells _ 42) = w4 at hB4 kS kR2 hR1 hR2 ⊢
    clear kC2 kR hB3 hgs
    go_wp2_with fail
    refine (H3.out _ hB4).mono ?_
    rintro e w5 ⟨rfl, hb5⟩
    have hB5 := hB4.trans (hb5.mono hB4.size)
    replace kR2 := Blk.below kR2 hb5 (Blk.lt kR2)
    replace kS := Blk.below kS hb5 (Blk.lt kS)
    replace hR1 := hR1.below hb5
    replace hR2 := hR2.below hb5
    clear hb5 hB4
    have r0 := kR2.cell 0
    have r1 := kR2.cell 1
    have r2 := kR2.cell 2
    have r3 := kR2.cell 3
    have r4 := kR2.cell 4
    have s0 := kS.cell 0
    have s1 := kS.cell 1
    have s2 := kS.cell 2
    have s3 := kS.cell 3
    have s4 := kS.cell 4
    have zR := kR2.lt
    have zS := kS.lt
    simp at r0 r1 r2 r3 r4 s0 s1 s2 s3 s4
    have hS := sameRoute_eq k back (f1, f2) hops A2 A3 c2 c3 HLen.out w5 hR1 hR2
    unfold rtVal at hS
    dsimp only at hS
    have HS := Lib.hid hS
    clear hS hR1 hR2 kS kR2
    go_wp2_with fail
    refine HS.out.mono ?_
    rintro e w6 ⟨rfl, hb6⟩
    go_wp2_with fail
    go_ret
    exact ⟨by first | rfl | simp, hB5.trans (hb6.mono hB5.size)⟩
  · have HI : Hid (decide ((l.length : Int) ≤ 60) = false) := Lib.hid (decide_eq_false (by omega))
    clear hI hL hm
    obtain ⟨p, q⟩ := cp
    unfold candVal
    go_enter Tryz.func5, Tryz.ntmps5
    go_wp2_with fail
    refine (H0.out _).mono ?_
    rintro e w0 ⟨rfl, rfl⟩
    rw [HI.out]
    have hB0 : Below w.heap.size w (w.alloc (.cells #[.int .i64 p, .int .i64 q] 24)) := below_al (Below.refl _ _) _
    generalize w.alloc (.cells _ 24) = w0 at hB0 ⊢
    go_wp2_with fail
    refine (H3.out _ hB0).mono ?_
    rintro e w1 ⟨rfl, hb1⟩
    go_wp2_with fail
    go_ret
    exact ⟨rfl, hB0.trans (hb1.mono hB0.size)⟩
end Go.Proofs.YtgbnbolhmghhlaaGreatDoor
namespace Go.Proofs.YtgbnbolhmghhlaaGreatDoor
open Go.ChangeShapes Go.WideShapes Go.ChangeAt Go.RowKit

set_option maxRecDepth 100000 in
theorem follows_contract (H : Type) (enc : TypeId × Value → H) (W : World) (base : Nat) (args : Array Value) (ds gs : List (DataW H)) (before : List MemPlace)
    (hval : ∀ (j : Nat) t v, Tryz.f5.params[j]? = some t → args[j]? = some v → Value.okWide Tryz.prog W .any base t v)
    (hW : DataW.Whole enc Tryz.prog Tryz.f5.params.toList Rows.peopleFollowsSpec.vars false W args.toList ds gs before)
    (hsh : W.ShapedOpen Tryz.prog) :
    Calls Tryz.prog 5 args W fun e W' => ∃ v, e = .returned v ∧ Rows.peopleFollowsSpec.post enc Tryz.prog Tryz.f5 false true false false W args v W' := by
  have hW' := hW
  have hlt : ∀ p ∈ before, p.block < W.heap.size := fun p hp => hW.lt p hp
  obtain ⟨p, q, hA, hV, rfl, hfz, hnd⟩ := hW
  have hA0 : DataW.TrodAll enc Tryz.prog W 0 (fun _ => true) true [22, 24, 3, 3] args.toList ds p := hA
  obtain ⟨v0, vs0, d0, ds0, p0, q0, hargs, rfl, rfl, h0, r0⟩ := trodAll_cons hA0
  obtain ⟨v1, vs1, d1, ds1, p1, q1, rfl, rfl, rfl, h1, r1⟩ := trodAll_cons r0
  obtain ⟨v2, vs2, d2, ds2, p2, q2, rfl, rfl, rfl, h2, r2⟩ := trodAll_cons r1
  obtain ⟨v3, vs3, d3, ds3, p3, q3, rfl, rfl, rfl, h3, r3⟩ := trodAll_cons r2
  obtain ⟨rfl, rfl, rfl⟩ := trodAll_nil r3
  obtain rfl : args = #[v0, v1, v2, v3] := by cases args; simp_all
  obtain ⟨rfl, rfl⟩ := trodVars_none hV
  have hsl := slice_of_ok (hval 0 22 v0 rfl rfl)
  obtain ⟨A, c, l, rfl, hlc, hcm, hL, hgo, hd⟩ := open_ents (fun x hx => hlt x (by simp [hx])) h0 hsl
  obtain ⟨cp, rfl, hcp, _⟩ := cand_of_ok (hval 1 24 v1 rfl rfl) h1
  obtain ⟨s, rfl, rfl, rfl, hws⟩ := open_int Tryz.underlying3 (hval 2 3 v2 rfl rfl) h2
  obtain ⟨d, rfl, rfl, rfl, hwd⟩ := open_int Tryz.underlying3 (hval 3 3 v3 rfl rfl) h3
  obtain ⟨m, rfl⟩ := to_oents l hgo
  have hlm : (m.map (·.1)).length = m.length := List.length_map _
  have hw := follows_walk A c m cp s d (fun x hx => ⟨(hgo x.1 (List.mem_map_of_mem hx)).2.2.2.2.1, (hgo x.1 (List.mem_map_of_mem hx)).2.2.2.2.2⟩) W hL (by rw [← hlm]; exact Nat.le_trans hlc hcm) (laysCut.s1_3 W hsh)
  rw [← hlm] at hw
  refine hw.mono fun e W' ⟨he, hb⟩ => ?_
  subst he
  exact law_post rfl (fun t ht => by
    have ht' : t ∈ [(22 : TypeId), 24, 3, 3] := ht
    simp at ht'
    rcases ht' with rfl | rfl | rfl
    · exact ents_readable
    · exact cand_readable
    · exact int_readable) rfl hW' rfl hb

theorem follows_laid_met (os : Os) : laidMetH Tryz.prog Rows.peopleFollowsRow.laid ((doorW os).forCall (fun _ _ => 0) ⟨#[], #[.slice none 0 0, .agg #[.int .i64 0, .int .i64 0], .int .i64 0, .int .i64 0], []⟩).memory :=
  laidMetH_of_parts3 (fuel := 8) (laidMet_of_run' 8 (by kernel_rfl) (by kernel_rfl)) (by kernel_rfl) (by kernel_rfl)
theorem follows_reads (os : Os) {H : Type} (enc : TypeId × Value → H) : ∃ places, DataW.whole enc Tryz.prog ((doorW os).forCall (fun _ _ => 0) ⟨#[], #[.slice none 0 0, .agg #[.int .i64 0, .int .i64 0], .int .i64 0, .int .i64 0], []⟩).memory Tryz.f5.params.toList Rows.peopleFollowsSpec.vars false #[Value.slice none 0 0, Value.agg #[.int .i64 0, .int .i64 0], Value.int .i64 0, Value.int .i64 0].toList 8 = some ([.nil, .agg [.lit (.int .i64 0), .lit (.int .i64 0)], .lit (.int .i64 0), .lit (.int .i64 0)], [], places) :=
  ⟨[], by kernel_rfl⟩

set_option maxRecDepth 100000 in
theorem follows_lifted (os : Os) (started : os.Started) (H : Type) (enc : TypeId × Value → H) (F : Stop.Interp) :
    ReturnsInHanded {} Tryz.checked os 5 .any ((OpenSpec.ofChange Rows.peopleFollowsSpec).preRow enc Tryz.prog Tryz.f5 Rows.peopleFollowsRow.domain false Rows.peopleFollowsRow.laid) (((OpenSpec.ofChange Rows.peopleFollowsSpec).at F).post enc Tryz.prog Tryz.f5 false true false false) := by
  obtain ⟨places, hx⟩ := follows_reads os enc
  refine returnsInHanded_of_row (C := Tryz.checked) (s := OpenSpec.ofChange Rows.peopleFollowsSpec) ownKnobA started (by kernel_rfl) Tryz.func5
    (witness_row_at (enc := enc) (C := Tryz.checked) false (doorW os) #[.slice none 0 0, .agg #[.int .i64 0, .int .i64 0], .int .i64 0, .int .i64 0] rfl (by kernel_rfl) (by kernel_rfl) (by kernel_rfl)
      (OpenSpec.preRow_of_cond 8 hx (by kernel_rfl) (fun k hk => by cases hk) (by kernel_rfl) (follows_laid_met os))) ?_
  intro W base args ds gs before hval hW _ _ _ _ hsh _
  exact follows_contract H enc W base args ds gs before hval hW hsh

theorem follows_said : Rows.PeopleFollowsSaid :=
  OpenClaim.holds_of_cond 5 Tryz.f5 rfl rfl rfl rfl rfl rfl rfl ⟨rfl, rfl, rfl, rfl, rfl⟩ rfl rfl rfl rfl rfl (by kernel_rfl) Tryz.func5 (by kernel_rfl)
    (of_decide_eq_true (by kernel_rfl)) (by unfold Func.isWrapper; first | (rw [if_pos (by decide +kernel)]; kernel_rfl) | (rw [if_neg (by decide +kernel)]; exact ⟨rfl, rfl⟩))
    (fun os started H enc _ F => by rw [OpenClaim.pre_eq_preRow]; exact follows_lifted os started H enc F)

theorem follows_plain (f : FuncId) (fn : Func) (hf : Tryz.pinned.checked.prog.funcNamed "restante/restantelaw03.PeopleFollows" = some f) (hfn : Tryz.pinned.checked.prog.funcs[f]? = some fn) :
    true = Tryz.pinned.checked.prog.looks [] ∧ ∀ (j : Nat) t, fn.params[j]? = some t → Tryz.pinned.checked.prog.wantsStandIn t = false := by
  obtain rfl : f = 5 := Option.some.inj ((show Tryz.prog.funcNamed "restante/restantelaw03.PeopleFollows" = some 5 by kernel_rfl).symm.trans hf) |>.symm
  obtain rfl : fn = Tryz.f5 := (Option.some.inj (Tryz.func5.symm.trans hfn)).symm
  refine ⟨by kernel_rfl, fun j t ht => ?_⟩
  rw [Tryz.params5] at ht
  have ht' := Array.mem_of_getElem? ht
  simp at ht'
  rcases ht' with rfl | rfl | rfl
  · exact (show Tryz.prog.wantsStandIn 22 = false by kernel_rfl)
  · exact (show Tryz.prog.wantsStandIn 24 = false by kernel_rfl)
  · exact (show Tryz.prog.wantsStandIn 3 = false by kernel_rfl)

theorem peopleFollows_card : Rows.PeopleFollowsCardSaid :=
  Claim7.holds_tied_plain_at .later [] _ _ _ _ follows_said (fun _ h => by cases h) (by kernel_rfl) (fun _ h => by cases h) peopleFollows_row_tie rfl ⟨rfl, rfl⟩ (by kernel_rfl) rfl follows_plain (by kernel_rfl)
#print axioms peopleFollows_card
end Go.Proofs.YtgbnbolhmghhlaaGreatDoor
