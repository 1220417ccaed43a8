/- The contract of the reference's hop. Conditions: the list lies in memory. -/
import Derived.Test.YtlbehpbhmmppiaaGreatDoorRefHeA
import Derived.Test.YtlbehpbhmmppiaaGreatDoorRefOA
import Derived.Test.YtlbehpbhmmppiaaGreatDoorFolA
namespace Go.Proofs.YtlbehpbhmmppiaaGreatDoor
open Go.RowKit

theorem results_tcr {P : Program} {fn : Func} {p u : Tmp} {ty : TypeId} (h : fn.results = #[.tmp u, .cell p ty]) {tmps : Array Value} {w : World} {g : Nat} {t : TypeId} {cs : Array Value}
    (hg : Blk w g t cs) (hp : tmps.getD p undef = .pointer (some ⟨g, 0, none⟩)) (hu : (P.underlying ty).map isAgg = some true) (hi : (P.info? ty).map (·.size) = some cs.size) :
    (results fn tmps).run P w = .ok (.tuple #[tmps.getD u undef, .agg cs]) w := by
  have e : (results fn tmps).run P w = ((asAddr (tmps.getD p undef)).run P w).andThen fun a w₁ => ((loadVar ty a).run P w₁).andThen fun v w₂ => .ok (.tuple #[tmps.getD u undef, v]) w₂ := by
    simp only [results, h]
    simp [Sem.run_bind, Result.andThen]
  rw [e, hp]
  cases hu' : P.underlying ty with
  | none => rw [hu'] at hu; cases hu
  | some d =>
    rw [hu'] at hu
    have hd : isAgg d = true := by simpa using hu
    simp [asAddr, run_loadVar_row w g t ty cs (0, 0) d hg hu' (by cases d <;> first | rfl | cases hd) hi, Result.andThen]
theorem set6 {w : World} {g : Nat} {t : TypeId} {a0 a1 a2 a3 a4 a5 : Value} (h : Blk w g t #[a0, a1, a2, a3, a4, a5]) (b0 b1 b2 b3 b4 b5 : Value) :
    Blk ((((((w.setCell ⟨g, 0, none⟩ b0).setCell ⟨g, 1, none⟩ b1).setCell ⟨g, 2, none⟩ b2).setCell ⟨g, 3, none⟩ b3).setCell ⟨g, 4, none⟩ b4).setCell ⟨g, 5, none⟩ b5) g t #[b0, b1, b2, b3, b4, b5] := by
  have h := (((((h.set 0 b0).set 1 b1).set 2 b2).set 3 b3).set 4 b4).set 5 b5
  simp only [List.setIfInBounds_toArray, List.set_cons_succ, List.set_cons_zero] at h
  exact h
theorem keep6 (w : World) (g : Nat) (b0 b1 b2 b3 b4 b5 : Value) :
    Keeps (fun i => i = g) w ((((((w.setCell ⟨g, 0, none⟩ b0).setCell ⟨g, 1, none⟩ b1).setCell ⟨g, 2, none⟩ b2).setCell ⟨g, 3, none⟩ b3).setCell ⟨g, 4, none⟩ b4).setCell ⟨g, 5, none⟩ b5) :=
  ((((((Keeps.refl (fun i => i = g) w).setCell (p := ⟨g, 0, none⟩) (fun _ => rfl) b0).setCell (p := ⟨g, 1, none⟩) (fun _ => rfl) b1).setCell (p := ⟨g, 2, none⟩) (fun _ => rfl) b2).setCell (p := ⟨g, 3, none⟩) (fun _ => rfl) b3).setCell (p := ⟨g, 4, none⟩) (fun _ => rfl) b4).setCell (p := ⟨g, 5, none⟩) (fun _ => rfl) b5

def zeroHop : HopV := (0, (0, 0), (0, 0), 0)
def hopE (l : List Ent) (c : Int × Int) (d : Int) : Int × HopV :=
  if deadE l c.1 d = true then
    if (heirE l c.1 d).2 = true then
      if (reachE l (heirE l c.1 d).1 d).2 = true then (1, (2, c, (reachE l (heirE l c.1 d).1 d).1, 0)) else (2, (0, (0, 0), ((heirE l c.1 d).1, 0), 0))
    else (0, zeroHop)
  else if (orderE l c d).2 = true then
    if (targetE l (orderE l c d).1 d).2 = true then (1, (1, c, (targetE l (orderE l c d).1 d).1, (orderE l c d).1.order)) else (2, (0, (0, 0), ((orderE l c d).1.other, 0), 0))
  else (0, zeroHop)
theorem reached_fst {dead : Int → Bool} {l : List OEnt} {d p : Int} (h : (reachedOf dead l d p).2 = false) : (reachedOf dead l d p).1 = (p, 0) := by
  have h2 := (reached_gone h).2.2
  have h1 : (reachedOf dead l d p).1.1 = p := rfl
  exact Prod.ext h1 h2
theorem target_fst {dead : Int → Bool} {l : List OEnt} {d : Int} {x : Ent} (h : (targetOf dead l d x).2 = false) : (targetOf dead l d x).1 = (x.other, 0) := by
  unfold targetOf at h ⊢
  split at h
  · cases h
  · rename_i h1
    rw [if_neg h1]
    exact reached_fst h
theorem hopE_eq (l : List OEnt) (d : Int) (c : Int × Int) : hopE (l.map (·.1)) c d =
    if (hopAt l d c).1.1 = 0 then (0, zeroHop) else if (hopAt l d c).2 = true then (1, hopV l d c) else (2, (0, (0, 0), (hopAt l d c).1.2.1, 0)) := by
  unfold hopE hopV hopAt hopOf
  simp only [deadE_eq, heirE_eq, orderE_eq, reachE_eq, targetE_eq]
  cases hd : deadOf l d c.1
  · simp only [Bool.and_false, Bool.false_eq_true, if_false]
    cases ho : (orderOf (deadOf l d) (cancOf l d) l d c).2
    · simp
    · cases ht : (targetOf (deadOf l d) l d (orderOf (deadOf l d) (cancOf l d) l d c).1).2
      · simp [target_fst ht]
      · simp
  · simp only [Bool.and_true, if_true]
    cases hh : (heirOf l d c.1).2
    · have ho : (orderOf (deadOf l d) (cancOf l d) l d c).2 = false := by unfold orderOf; rw [if_pos hd]
      simp [ho]
    · cases ht : (reachedOf (deadOf l d) l d (heirOf l d c.1).1).2
      · simp [reached_fst ht]
      · simp

set_option maxRecDepth 100000 in
set_option maxHeartbeats 8000000 in
theorem refHop_any (A : Option Addr) (c : Nat) (l : List Ent) (cp : Int × Int) (d : Int) (w : World) (hL : EntsLie w w.heap.size A l) (hl : l.length ≤ maxLen) :
    Calls Tryz.prog 44 #[.slice A l.length c, candVal cp, .int .i64 d] w fun e w' => e = .returned (.tuple #[.int .i64 (hopE l cp d).1, hopVal (hopE l cp d).2.1 (hopE l cp d).2.2.1 (hopE l cp d).2.2.2.1 (hopE l cp d).2.2.2.2]) ∧ Below w.heap.size w w' := by
  have H1 : Hid (∀ W, Below w.heap.size w W → _) := Lib.hid fun W (hW : Below w.heap.size w W) => refDead_any A c l cp.1 d W (hL.up hW hW.size) hl
  have H2 : Hid (∀ W, Below w.heap.size w W → _) := Lib.hid fun W (hW : Below w.heap.size w W) => refHeir_any A c l cp.1 d W (hL.up hW hW.size) hl
  have H3 : Hid (∀ W, Below w.heap.size w W → _) := Lib.hid fun W (hW : Below w.heap.size w W) => refReached_any A c l (heirE l cp.1 d).1 d W (hL.up hW hW.size) hl
  have H4 : Hid (∀ W, Below w.heap.size w W → _) := Lib.hid fun W (hW : Below w.heap.size w W) => refOrder_any A c l cp d W (hL.up hW hW.size) hl
  have H5 : Hid (∀ W, Below w.heap.size w W → _) := Lib.hid fun W (hW : Below w.heap.size w W) => refTarget_any A c l (orderE l cp d).1 d W (hL.up hW hW.size) hl
  unfold hopE
  clear hL hl
  generalize deadE l cp.1 d = dd at *
  generalize heirE l cp.1 d = hv at *
  obtain ⟨hv1, hv2⟩ := hv
  generalize orderE l cp d = ov at *
  obtain ⟨ov1, ov2⟩ := ov
  dsimp only at H1 H2 H3 H4 H5 ⊢
  generalize reachE l hv1 d = rc at *
  obtain ⟨⟨rc1, rc2⟩, rc3⟩ := rc
  generalize targetE l ov1 d = tg at *
  obtain ⟨⟨tg1, tg2⟩, tg3⟩ := tg
  obtain ⟨p, q⟩ := cp
  unfold candVal entVal hopVal zeroHop at *
  dsimp only at H1 H2 H3 H4 H5 ⊢
  go_enter Tryz.func44, Tryz.ntmps44
  have hB0 : Below w.heap.size w ((w.alloc (.cells #[.int .i64 p, .int .i64 q] 33)).alloc (.cells #[.int .u8 0, .int .i64 0, .int .i64 0, .int .i64 0, .int .i64 0, .int .i64 0] 45)) := below_al (below_al (Below.refl _ _) _) _
  have kC : Blk ((w.alloc (.cells #[.int .i64 p, .int .i64 q] 33)).alloc (.cells #[.int .u8 0, .int .i64 0, .int .i64 0, .int .i64 0, .int .i64 0, .int .i64 0] 45)) w.heap.size 33 #[.int .i64 p, .int .i64 q] := (Blk.new w _ _).alloc _
  have kH : Blk ((w.alloc (.cells #[.int .i64 p, .int .i64 q] 33)).alloc (.cells #[.int .u8 0, .int .i64 0, .int .i64 0, .int .i64 0, .int .i64 0, .int .i64 0] 45)) (w.heap.size + 1) 45 #[.int .u8 0, .int .i64 0, .int .i64 0, .int .i64 0, .int .i64 0, .int .i64 0] := at_new (by simp)
  have e0 := kC.cell 0
  simp at e0
  go_wp2_with fail
  generalize (w.alloc (.cells _ 33)).alloc (.cells _ 45) = w0 at hB0 kC kH e0 ⊢
  refine (H1.out _ hB0).mono ?_
  rintro e w1 ⟨rfl, hb1⟩
  have hB1 := hB0.trans (hb1.mono hB0.size)
  replace kC := Blk.below kC hb1 (Blk.lt kC)
  replace kH := Blk.below kH hb1 (Blk.lt kH)
  clear H1 hB0 hb1 e0
  have e0 := kC.cell 0
  have e1 := kC.cell 1
  have zC := kC.lt
  simp at e0 e1
  cases dd
  · go_wp2_with fail
    refine (H4.out _ hB1).mono ?_
    rintro e w2 ⟨rfl, hbn⟩
    have hBw2 := hB1.trans (hbn.mono hB1.size)
    replace kC := Blk.below kC hbn (Blk.lt kC)
    replace kH := Blk.below kH hbn (Blk.lt kH)
    clear hbn H4
    clear e0 e1 zC
    have e0 := kC.cell 0
    have e1 := kC.cell 1
    have zC := kC.lt
    simp at e0 e1
    have hBx := below_al hBw2 (.cells #[.int .i64 ov1.day, .int .u8 ov1.kind, .int .i64 ov1.since, .int .i64 ov1.untl, .int .i64 ov1.person, .int .i64 ov1.place, .int .i64 ov1.other, .int .i64 ov1.at', .int .i64 ov1.order, .string ov1.name] 41)
    have kX : EntAt (w2.alloc (.cells #[.int .i64 ov1.day, .int .u8 ov1.kind, .int .i64 ov1.since, .int .i64 ov1.untl, .int .i64 ov1.person, .int .i64 ov1.place, .int .i64 ov1.other, .int .i64 ov1.at', .int .i64 ov1.order, .string ov1.name] 41)) w2.heap.size ov1 := EntAt.new w2 ov1
    have hzx : w.heap.size + 1 < w2.heap.size := kH.lt
    replace kH := kH.alloc (.cells #[.int .i64 ov1.day, .int .u8 ov1.kind, .int .i64 ov1.since, .int .i64 ov1.untl, .int .i64 ov1.person, .int .i64 ov1.place, .int .i64 ov1.other, .int .i64 ov1.at', .int .i64 ov1.order, .string ov1.name] 41)
    replace kC := kC.alloc (.cells #[.int .i64 ov1.day, .int .u8 ov1.kind, .int .i64 ov1.since, .int .i64 ov1.untl, .int .i64 ov1.person, .int .i64 ov1.place, .int .i64 ov1.other, .int .i64 ov1.at', .int .i64 ov1.order, .string ov1.name] 41)
    clear e0 e1 zC
    cases ov2
    · go_upto_region 12 with fail
      generalize w2.alloc (.cells _ 41) = w3 at hBx kH ⊢
      have h0 := kH.cell 0
      have h1 := kH.cell 1
      have h2 := kH.cell 2
      have h3 := kH.cell 3
      have h4 := kH.cell 4
      have h5 := kH.cell 5
      have f0 := kH.frozen 0
      have f1 := kH.frozen 1
      have f2 := kH.frozen 2
      have f3 := kH.frozen 3
      have f4 := kH.frozen 4
      have f5 := kH.frozen 5
      have zH := kH.lt
      simp at h0 h1 h2 h3 h4 h5
      go_wp2_with fail
      have hBL : Blk ((((((w3.setCell ⟨w.heap.size + 1, 0, none⟩ (.int .u8 0)).setCell ⟨w.heap.size + 1, 1, none⟩ (.int .i64 0)).setCell ⟨w.heap.size + 1, 2, none⟩ (.int .i64 0)).setCell ⟨w.heap.size + 1, 3, none⟩ (.int .i64 0)).setCell ⟨w.heap.size + 1, 4, none⟩ (.int .i64 0)).setCell ⟨w.heap.size + 1, 5, none⟩ (.int .i64 0)) (w.heap.size + 1) 45 #[.int .u8 0, .int .i64 0, .int .i64 0, .int .i64 0, .int .i64 0, .int .i64 0] := set6 kH (.int .u8 0) (.int .i64 0) (.int .i64 0) (.int .i64 0) (.int .i64 0) (.int .i64 0)
      have hKE : Below w.heap.size w ((((((w3.setCell ⟨w.heap.size + 1, 0, none⟩ (.int .u8 0)).setCell ⟨w.heap.size + 1, 1, none⟩ (.int .i64 0)).setCell ⟨w.heap.size + 1, 2, none⟩ (.int .i64 0)).setCell ⟨w.heap.size + 1, 3, none⟩ (.int .i64 0)).setCell ⟨w.heap.size + 1, 4, none⟩ (.int .i64 0)).setCell ⟨w.heap.size + 1, 5, none⟩ (.int .i64 0)) := hBx.trans ((keep6 w3 (w.heap.size + 1) (.int .u8 0) (.int .i64 0) (.int .i64 0) (.int .i64 0) (.int .i64 0) (.int .i64 0)).below (by rintro i h1 h2; omega) hBx.size)
      generalize ((((((w3.setCell ⟨w.heap.size + 1, 0, none⟩ (.int .u8 0)).setCell ⟨w.heap.size + 1, 1, none⟩ (.int .i64 0)).setCell ⟨w.heap.size + 1, 2, none⟩ (.int .i64 0)).setCell ⟨w.heap.size + 1, 3, none⟩ (.int .i64 0)).setCell ⟨w.heap.size + 1, 4, none⟩ (.int .i64 0)).setCell ⟨w.heap.size + 1, 5, none⟩ (.int .i64 0)) = WE at hBL hKE ⊢
      refine bodyPost_ret (results_tcr rfl hBL rfl rowHop sizeHop) rfl ?_
      exact ⟨rfl, hKE⟩
    · go_upto_region 13 with fail
      generalize hgx : w2.heap.size = gx at *
      generalize w2.alloc (.cells _ 41) = w3 at hBx kH kC kX ⊢
      have hgg : gx < w3.heap.size := Blk.lt kX
      obtain ⟨x0, x1, x2, x3, x4, x5, x6, x7, x8, x9, _⟩ := EntAt.cells kX
      go_wp2_with fail
      refine (H5.out _ hBx).mono ?_
      rintro e w4 ⟨rfl, hbn⟩
      have hBw4 := hBx.trans (hbn.mono hBx.size)
      replace kC := Blk.below kC hbn (Blk.lt kC)
      replace kH := Blk.below kH hbn (Blk.lt kH)
      replace kX : EntAt w4 gx ov1 := Blk.below kX hbn (Blk.lt kX)
      clear hbn H5
      clear hBx x0 x1 x2 x3 x4 x5 x6 x7 x8 x9
      have hBx := below_al hBw4 (.cells #[.int .i64 tg1, .int .i64 tg2] 33)
      have kT := Blk.new w4 33 #[.int .i64 tg1, .int .i64 tg2]
      have hzt : w.heap.size + 1 < w4.heap.size := kH.lt
      replace kH := kH.alloc (.cells #[.int .i64 tg1, .int .i64 tg2] 33)
      replace kC := kC.alloc (.cells #[.int .i64 tg1, .int .i64 tg2] 33)
      replace kX : EntAt (w4.alloc (.cells #[.int .i64 tg1, .int .i64 tg2] 33)) gx ov1 := Blk.alloc kX _
      cases tg3
      · go_upto_region 15 with fail
        generalize hgt : w4.heap.size = gt at *
        generalize w4.alloc (.cells _ 33) = w5 at hBx kH kC kX kT ⊢
        have h0 := kH.cell 0
        have h1 := kH.cell 1
        have h2 := kH.cell 2
        have h3 := kH.cell 3
        have h4 := kH.cell 4
        have h5 := kH.cell 5
        have f0 := kH.frozen 0
        have f1 := kH.frozen 1
        have f2 := kH.frozen 2
        have f3 := kH.frozen 3
        have f4 := kH.frozen 4
        have f5 := kH.frozen 5
        have zH := kH.lt
        simp at h0 h1 h2 h3 h4 h5
        have e0 := kC.cell 0
        have e1 := kC.cell 1
        obtain ⟨x0, x1, x2, x3, x4, x5, x6, x7, x8, x9, _⟩ := EntAt.cells kX
        have t0 := kT.cell 0
        have t1 := kT.cell 1
        have zC := kC.lt
        have zT := kT.lt
        have zX := Blk.lt kX
        simp at e0 e1 t0 t1
        go_region
        go_wp2_with fail
        have hBL : Blk ((((((w5.setCell ⟨w.heap.size + 1, 0, none⟩ (.int .u8 0)).setCell ⟨w.heap.size + 1, 1, none⟩ (.int .i64 0)).setCell ⟨w.heap.size + 1, 2, none⟩ (.int .i64 0)).setCell ⟨w.heap.size + 1, 3, none⟩ (.int .i64 ov1.other)).setCell ⟨w.heap.size + 1, 4, none⟩ (.int .i64 0)).setCell ⟨w.heap.size + 1, 5, none⟩ (.int .i64 0)) (w.heap.size + 1) 45 #[.int .u8 0, .int .i64 0, .int .i64 0, .int .i64 ov1.other, .int .i64 0, .int .i64 0] := set6 kH (.int .u8 0) (.int .i64 0) (.int .i64 0) (.int .i64 ov1.other) (.int .i64 0) (.int .i64 0)
        have hKE : Below w.heap.size w ((((((w5.setCell ⟨w.heap.size + 1, 0, none⟩ (.int .u8 0)).setCell ⟨w.heap.size + 1, 1, none⟩ (.int .i64 0)).setCell ⟨w.heap.size + 1, 2, none⟩ (.int .i64 0)).setCell ⟨w.heap.size + 1, 3, none⟩ (.int .i64 ov1.other)).setCell ⟨w.heap.size + 1, 4, none⟩ (.int .i64 0)).setCell ⟨w.heap.size + 1, 5, none⟩ (.int .i64 0)) := hBx.trans ((keep6 w5 (w.heap.size + 1) (.int .u8 0) (.int .i64 0) (.int .i64 0) (.int .i64 ov1.other) (.int .i64 0) (.int .i64 0)).below (by rintro i h1 h2; omega) hBx.size)
        generalize ((((((w5.setCell ⟨w.heap.size + 1, 0, none⟩ (.int .u8 0)).setCell ⟨w.heap.size + 1, 1, none⟩ (.int .i64 0)).setCell ⟨w.heap.size + 1, 2, none⟩ (.int .i64 0)).setCell ⟨w.heap.size + 1, 3, none⟩ (.int .i64 ov1.other)).setCell ⟨w.heap.size + 1, 4, none⟩ (.int .i64 0)).setCell ⟨w.heap.size + 1, 5, none⟩ (.int .i64 0)) = WE at hBL hKE ⊢
        refine bodyPost_ret (results_tcr rfl hBL.drew rfl rowHop sizeHop) rfl ?_
        exact ⟨rfl, hKE.drew⟩
      · go_upto_region 16 with fail
        generalize hgt : w4.heap.size = gt at *
        generalize w4.alloc (.cells _ 33) = w5 at hBx kH kC kX kT ⊢
        have h0 := kH.cell 0
        have h1 := kH.cell 1
        have h2 := kH.cell 2
        have h3 := kH.cell 3
        have h4 := kH.cell 4
        have h5 := kH.cell 5
        have f0 := kH.frozen 0
        have f1 := kH.frozen 1
        have f2 := kH.frozen 2
        have f3 := kH.frozen 3
        have f4 := kH.frozen 4
        have f5 := kH.frozen 5
        have zH := kH.lt
        simp at h0 h1 h2 h3 h4 h5
        have e0 := kC.cell 0
        have e1 := kC.cell 1
        obtain ⟨x0, x1, x2, x3, x4, x5, x6, x7, x8, x9, _⟩ := EntAt.cells kX
        have t0 := kT.cell 0
        have t1 := kT.cell 1
        have zC := kC.lt
        have zT := kT.lt
        have zX := Blk.lt kX
        simp at e0 e1 t0 t1
        go_region
        go_wp2_with fail
        have hBL : Blk ((((((w5.setCell ⟨w.heap.size + 1, 0, none⟩ (.int .u8 1)).setCell ⟨w.heap.size + 1, 1, none⟩ (.int .i64 p)).setCell ⟨w.heap.size + 1, 2, none⟩ (.int .i64 q)).setCell ⟨w.heap.size + 1, 3, none⟩ (.int .i64 tg1)).setCell ⟨w.heap.size + 1, 4, none⟩ (.int .i64 tg2)).setCell ⟨w.heap.size + 1, 5, none⟩ (.int .i64 ov1.order)) (w.heap.size + 1) 45 #[.int .u8 1, .int .i64 p, .int .i64 q, .int .i64 tg1, .int .i64 tg2, .int .i64 ov1.order] := set6 kH (.int .u8 1) (.int .i64 p) (.int .i64 q) (.int .i64 tg1) (.int .i64 tg2) (.int .i64 ov1.order)
        have hKE : Below w.heap.size w ((((((w5.setCell ⟨w.heap.size + 1, 0, none⟩ (.int .u8 1)).setCell ⟨w.heap.size + 1, 1, none⟩ (.int .i64 p)).setCell ⟨w.heap.size + 1, 2, none⟩ (.int .i64 q)).setCell ⟨w.heap.size + 1, 3, none⟩ (.int .i64 tg1)).setCell ⟨w.heap.size + 1, 4, none⟩ (.int .i64 tg2)).setCell ⟨w.heap.size + 1, 5, none⟩ (.int .i64 ov1.order)) := hBx.trans ((keep6 w5 (w.heap.size + 1) (.int .u8 1) (.int .i64 p) (.int .i64 q) (.int .i64 tg1) (.int .i64 tg2) (.int .i64 ov1.order)).below (by rintro i h1 h2; omega) hBx.size)
        generalize ((((((w5.setCell ⟨w.heap.size + 1, 0, none⟩ (.int .u8 1)).setCell ⟨w.heap.size + 1, 1, none⟩ (.int .i64 p)).setCell ⟨w.heap.size + 1, 2, none⟩ (.int .i64 q)).setCell ⟨w.heap.size + 1, 3, none⟩ (.int .i64 tg1)).setCell ⟨w.heap.size + 1, 4, none⟩ (.int .i64 tg2)).setCell ⟨w.heap.size + 1, 5, none⟩ (.int .i64 ov1.order)) = WE at hBL hKE ⊢
        refine bodyPost_ret (results_tcr rfl hBL.drew rfl rowHop sizeHop) rfl ?_
        exact ⟨rfl, hKE.drew⟩
  · go_wp2_with fail
    refine (H2.out _ hB1).mono ?_
    rintro e w2 ⟨rfl, hbn⟩
    have hBw2 := hB1.trans (hbn.mono hB1.size)
    replace kC := Blk.below kC hbn (Blk.lt kC)
    replace kH := Blk.below kH hbn (Blk.lt kH)
    clear hbn H2
    clear e0 e1 zC
    cases hv2
    · have h0 := kH.cell 0
      have h1 := kH.cell 1
      have h2 := kH.cell 2
      have h3 := kH.cell 3
      have h4 := kH.cell 4
      have h5 := kH.cell 5
      have f0 := kH.frozen 0
      have f1 := kH.frozen 1
      have f2 := kH.frozen 2
      have f3 := kH.frozen 3
      have f4 := kH.frozen 4
      have f5 := kH.frozen 5
      have zH := kH.lt
      simp at h0 h1 h2 h3 h4 h5
      go_wp2_with fail
      have hBL : Blk ((((((w2.setCell ⟨w.heap.size + 1, 0, none⟩ (.int .u8 0)).setCell ⟨w.heap.size + 1, 1, none⟩ (.int .i64 0)).setCell ⟨w.heap.size + 1, 2, none⟩ (.int .i64 0)).setCell ⟨w.heap.size + 1, 3, none⟩ (.int .i64 0)).setCell ⟨w.heap.size + 1, 4, none⟩ (.int .i64 0)).setCell ⟨w.heap.size + 1, 5, none⟩ (.int .i64 0)) (w.heap.size + 1) 45 #[.int .u8 0, .int .i64 0, .int .i64 0, .int .i64 0, .int .i64 0, .int .i64 0] := set6 kH (.int .u8 0) (.int .i64 0) (.int .i64 0) (.int .i64 0) (.int .i64 0) (.int .i64 0)
      have hKE : Below w.heap.size w ((((((w2.setCell ⟨w.heap.size + 1, 0, none⟩ (.int .u8 0)).setCell ⟨w.heap.size + 1, 1, none⟩ (.int .i64 0)).setCell ⟨w.heap.size + 1, 2, none⟩ (.int .i64 0)).setCell ⟨w.heap.size + 1, 3, none⟩ (.int .i64 0)).setCell ⟨w.heap.size + 1, 4, none⟩ (.int .i64 0)).setCell ⟨w.heap.size + 1, 5, none⟩ (.int .i64 0)) := hBw2.trans ((keep6 w2 (w.heap.size + 1) (.int .u8 0) (.int .i64 0) (.int .i64 0) (.int .i64 0) (.int .i64 0) (.int .i64 0)).below (by rintro i h1 h2; omega) hBw2.size)
      generalize ((((((w2.setCell ⟨w.heap.size + 1, 0, none⟩ (.int .u8 0)).setCell ⟨w.heap.size + 1, 1, none⟩ (.int .i64 0)).setCell ⟨w.heap.size + 1, 2, none⟩ (.int .i64 0)).setCell ⟨w.heap.size + 1, 3, none⟩ (.int .i64 0)).setCell ⟨w.heap.size + 1, 4, none⟩ (.int .i64 0)).setCell ⟨w.heap.size + 1, 5, none⟩ (.int .i64 0)) = WE at hBL hKE ⊢
      refine bodyPost_ret (results_tcr rfl hBL rfl rowHop sizeHop) rfl ?_
      exact ⟨rfl, hKE⟩
    · go_wp2_with fail
      refine (H3.out _ hBw2).mono ?_
      rintro e w3 ⟨rfl, hbn⟩
      have hBw3 := hBw2.trans (hbn.mono hBw2.size)
      replace kC := Blk.below kC hbn (Blk.lt kC)
      replace kH := Blk.below kH hbn (Blk.lt kH)
      clear hbn H3
      have hBx := below_al hBw3 (.cells #[.int .i64 rc1, .int .i64 rc2] 33)
      have kX := Blk.new w3 33 #[.int .i64 rc1, .int .i64 rc2]
      have hzx : w.heap.size + 1 < w3.heap.size := kH.lt
      replace kH := kH.alloc (.cells #[.int .i64 rc1, .int .i64 rc2] 33)
      replace kC := kC.alloc (.cells #[.int .i64 rc1, .int .i64 rc2] 33)
      cases rc3
      · go_upto_region 8 with fail
        generalize w3.alloc (.cells _ 33) = w4 at hBx kH ⊢
        have h0 := kH.cell 0
        have h1 := kH.cell 1
        have h2 := kH.cell 2
        have h3 := kH.cell 3
        have h4 := kH.cell 4
        have h5 := kH.cell 5
        have f0 := kH.frozen 0
        have f1 := kH.frozen 1
        have f2 := kH.frozen 2
        have f3 := kH.frozen 3
        have f4 := kH.frozen 4
        have f5 := kH.frozen 5
        have zH := kH.lt
        simp at h0 h1 h2 h3 h4 h5
        go_wp2_with fail
        have hBL : Blk ((((((w4.setCell ⟨w.heap.size + 1, 0, none⟩ (.int .u8 0)).setCell ⟨w.heap.size + 1, 1, none⟩ (.int .i64 0)).setCell ⟨w.heap.size + 1, 2, none⟩ (.int .i64 0)).setCell ⟨w.heap.size + 1, 3, none⟩ (.int .i64 hv1)).setCell ⟨w.heap.size + 1, 4, none⟩ (.int .i64 0)).setCell ⟨w.heap.size + 1, 5, none⟩ (.int .i64 0)) (w.heap.size + 1) 45 #[.int .u8 0, .int .i64 0, .int .i64 0, .int .i64 hv1, .int .i64 0, .int .i64 0] := set6 kH (.int .u8 0) (.int .i64 0) (.int .i64 0) (.int .i64 hv1) (.int .i64 0) (.int .i64 0)
        have hKE : Below w.heap.size w ((((((w4.setCell ⟨w.heap.size + 1, 0, none⟩ (.int .u8 0)).setCell ⟨w.heap.size + 1, 1, none⟩ (.int .i64 0)).setCell ⟨w.heap.size + 1, 2, none⟩ (.int .i64 0)).setCell ⟨w.heap.size + 1, 3, none⟩ (.int .i64 hv1)).setCell ⟨w.heap.size + 1, 4, none⟩ (.int .i64 0)).setCell ⟨w.heap.size + 1, 5, none⟩ (.int .i64 0)) := hBx.trans ((keep6 w4 (w.heap.size + 1) (.int .u8 0) (.int .i64 0) (.int .i64 0) (.int .i64 hv1) (.int .i64 0) (.int .i64 0)).below (by rintro i h1 h2; omega) hBx.size)
        generalize ((((((w4.setCell ⟨w.heap.size + 1, 0, none⟩ (.int .u8 0)).setCell ⟨w.heap.size + 1, 1, none⟩ (.int .i64 0)).setCell ⟨w.heap.size + 1, 2, none⟩ (.int .i64 0)).setCell ⟨w.heap.size + 1, 3, none⟩ (.int .i64 hv1)).setCell ⟨w.heap.size + 1, 4, none⟩ (.int .i64 0)).setCell ⟨w.heap.size + 1, 5, none⟩ (.int .i64 0)) = WE at hBL hKE ⊢
        refine bodyPost_ret (results_tcr rfl hBL rfl rowHop sizeHop) rfl ?_
        exact ⟨rfl, hKE⟩
      · go_upto_region 9 with fail
        generalize hgx : w3.heap.size = gx at *
        generalize w3.alloc (.cells _ 33) = w4 at hBx kH kC kX ⊢
        have h0 := kH.cell 0
        have h1 := kH.cell 1
        have h2 := kH.cell 2
        have h3 := kH.cell 3
        have h4 := kH.cell 4
        have h5 := kH.cell 5
        have f0 := kH.frozen 0
        have f1 := kH.frozen 1
        have f2 := kH.frozen 2
        have f3 := kH.frozen 3
        have f4 := kH.frozen 4
        have f5 := kH.frozen 5
        have zH := kH.lt
        simp at h0 h1 h2 h3 h4 h5
        have e0 := kC.cell 0
        have e1 := kC.cell 1
        have x0 := kX.cell 0
        have x1 := kX.cell 1
        have zC := kC.lt
        have zX := kX.lt
        simp at e0 e1 x0 x1
        go_region
        go_wp2_with fail
        have hBL : Blk ((((((w4.setCell ⟨w.heap.size + 1, 0, none⟩ (.int .u8 2)).setCell ⟨w.heap.size + 1, 1, none⟩ (.int .i64 p)).setCell ⟨w.heap.size + 1, 2, none⟩ (.int .i64 q)).setCell ⟨w.heap.size + 1, 3, none⟩ (.int .i64 rc1)).setCell ⟨w.heap.size + 1, 4, none⟩ (.int .i64 rc2)).setCell ⟨w.heap.size + 1, 5, none⟩ (.int .i64 0)) (w.heap.size + 1) 45 #[.int .u8 2, .int .i64 p, .int .i64 q, .int .i64 rc1, .int .i64 rc2, .int .i64 0] := set6 kH (.int .u8 2) (.int .i64 p) (.int .i64 q) (.int .i64 rc1) (.int .i64 rc2) (.int .i64 0)
        have hKE : Below w.heap.size w ((((((w4.setCell ⟨w.heap.size + 1, 0, none⟩ (.int .u8 2)).setCell ⟨w.heap.size + 1, 1, none⟩ (.int .i64 p)).setCell ⟨w.heap.size + 1, 2, none⟩ (.int .i64 q)).setCell ⟨w.heap.size + 1, 3, none⟩ (.int .i64 rc1)).setCell ⟨w.heap.size + 1, 4, none⟩ (.int .i64 rc2)).setCell ⟨w.heap.size + 1, 5, none⟩ (.int .i64 0)) := hBx.trans ((keep6 w4 (w.heap.size + 1) (.int .u8 2) (.int .i64 p) (.int .i64 q) (.int .i64 rc1) (.int .i64 rc2) (.int .i64 0)).below (by rintro i h1 h2; omega) hBx.size)
        generalize ((((((w4.setCell ⟨w.heap.size + 1, 0, none⟩ (.int .u8 2)).setCell ⟨w.heap.size + 1, 1, none⟩ (.int .i64 p)).setCell ⟨w.heap.size + 1, 2, none⟩ (.int .i64 q)).setCell ⟨w.heap.size + 1, 3, none⟩ (.int .i64 rc1)).setCell ⟨w.heap.size + 1, 4, none⟩ (.int .i64 rc2)).setCell ⟨w.heap.size + 1, 5, none⟩ (.int .i64 0)) = WE at hBL hKE ⊢
        refine bodyPost_ret (results_tcr rfl hBL.drew rfl rowHop sizeHop) rfl ?_
        exact ⟨rfl, hKE.drew⟩
end Go.Proofs.YtlbehpbhmmppiaaGreatDoor
