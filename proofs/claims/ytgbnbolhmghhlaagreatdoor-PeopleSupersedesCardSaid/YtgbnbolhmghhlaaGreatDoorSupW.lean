/- PeopleSupersedes returns true for every list of entries, every entry and day, and leaves its arguments as they were; the package variables that it names start as the program's text lays them. -/
import Derived.Test.YtgbnbolhmghhlaaGreatDoorAliveA
import Derived.Test.YtgbnbolhmghhlaaGreatDoorOpenA
import Derived.Test.YtgbnbolhmghhlaaGreatDoorPHouseA
import Derived.Test.YtgbnbolhmghhlaaGreatDoorSupA
namespace Go.Proofs.YtgbnbolhmghhlaaGreatDoor
open Go.ChangeShapes Go.WideShapes Go.ChangeAt Go.RowKit

/-- The cancellation of a redirection. -/
def cancelOf (X : OEnt) : OEnt := ⟨{ zeroEnt with day := X.1.day, kind := 6, order := X.1.order }, by refine ⟨?_, X.2.2.1, ?_⟩ <;> (dsimp only [zeroEnt]; omega)⟩

set_option maxRecDepth 100000 in
set_option maxHeartbeats 16000000 in
theorem sups_walk (A : Option Addr) (c : Nat) (l : List OEnt) (X : OEnt) (d : Int) (hX : intB X.1.place) (w : World) (hL : EntsLie w w.heap.size A (l.map (·.1))) (hl : l.length ≤ maxLen) (hs : ∀ y ∈ l.map (·.1), y.name.size ≤ maxLen) (hx : X.1.name.size ≤ maxLen) (hm : MaxAt w) :
    Calls Tryz.prog 4 #[.slice A l.length c, entVal X.1, .int .i64 d] w fun e w' => e = .returned (.bool true) ∧ Below w.heap.size w w' := by
  have hlm : (l.map (·.1)).length = l.length := List.length_map _
  have H0 := Lib.hid fun W => refFew_any A l.length c W
  have H3 : Hid (∀ W, Below w.heap.size w W → _) := Lib.hid fun W (hW : Below w.heap.size w W) => alive_any W (hm.below hm.lt hW)
  have hB0 : Below w.heap.size w (w.alloc (.cells (entCells X.1).toArray 28)) := below_al (Below.refl _ _) _
  have bX : EntAt (w.alloc (.cells (entCells X.1).toArray 28)) w.heap.size X.1 := EntAt.new w X.1
  by_cases hgo : l.length ≤ 60 ∧ X.1.kind = 5 ∧ X.1.place ≠ 0
  rotate_left
  · simp only [entCells] at hB0 bX
    unfold entVal
    go_enter Tryz.func4, Tryz.ntmps4
    go_wp2_with fail
    generalize w.alloc (.cells _ 28) = w0 at hB0 bX ⊢
    obtain ⟨x0, x1, x2, x3, x4, x5, x6, x7, x8, x9, zX⟩ := bX.cells
    refine (H0.out _).mono ?_
    rintro e w1 ⟨rfl, rfl⟩
    have hcase : ¬ (l.length : Int) ≤ 60 ∨ ((l.length : Int) ≤ 60 ∧ X.1.kind ≠ 5) ∨ ((l.length : Int) ≤ 60 ∧ X.1.kind = 5 ∧ X.1.place = 0) := by
      by_cases h1 : l.length ≤ 60
      · by_cases h2 : X.1.kind = 5
        · refine .inr (.inr ⟨by omega, h2, ?_⟩)
          exact Classical.byContradiction fun h3 => hgo ⟨h1, h2, h3⟩
        · exact .inr (.inl ⟨by omega, h2⟩)
      · exact .inl (by omega)
    clear hgo hL hl hs hx hm hX hlm
    rcases hcase with h1 | ⟨h1, h2⟩ | ⟨h1, h2, h3⟩
    · rw [decide_eq_false h1]
      clear h1
      go_wp2_with fail
      refine (H3.out _ hB0).mono ?_
      rintro e w2 ⟨rfl, hb2⟩
      go_wp2_with fail
      go_ret
      exact ⟨rfl, hB0.trans (hb2.mono hB0.size)⟩
    · rw [decide_eq_true h1]
      clear h1
      have h2' : (X.1.kind != 5) = true := by simpa using h2
      go_wp2_with fail
      refine (H3.out _ hB0).mono ?_
      rintro e w2 ⟨rfl, hb2⟩
      go_wp2_with fail
      go_ret
      exact ⟨rfl, hB0.trans (hb2.mono hB0.size)⟩
    · rw [decide_eq_true h1]
      rw [h2] at x1
      rw [h3] at x5
      clear h1 h2 h3
      go_wp2_with fail
      refine (H3.out _ hB0).mono ?_
      rintro e w2 ⟨rfl, hb2⟩
      go_wp2_with fail
      go_ret
      exact ⟨rfl, hB0.trans (hb2.mono hB0.size)⟩
  · obtain ⟨h60, hk, hp⟩ := hgo
    have H1 : Hid (∀ W, Below w.heap.size w W → _) := Lib.hid fun W (hW : Below w.heap.size w W) => Append_any A c (l.map (·.1)) X.1 W (hL.up hW hW.size) hs hx (by rw [hlm]; omega)
    have H12 : Hid (∀ (cp : Int × Int), intB cp.1 → ∀ W, Below w.heap.size w W → _) := Lib.hid fun (cp : Int × Int) (hcp : intB cp.1) W (hW : Below w.heap.size w W) => pOrder_any A c l cp d hcp W (hL.up hW hW.size) hl
    rw [hlm] at H1
    have HI : Hid ((l.length : Int) ≤ 60) := Lib.hid (by omega)
    have HS : Hid (∀ y ∈ (l ++ [X]).map (·.1), y.name.size ≤ maxLen) := Lib.hid (fun y hy => by
      rw [List.map_append, List.mem_append] at hy
      rcases hy with hy | hy
      · exact hs y hy
      · simp at hy
        subst hy
        exact hx)
    have HP := Lib.hid hX
    have HK := Lib.hid hk
    have HPL := Lib.hid hp
    have H60 := Lib.hid h60
    have hk' : (X.1.kind != 5) = false := by simp [hk]
    have hp' : (X.1.place == 0) = false := by simpa using hp
    simp only [entCells] at hB0 bX
    clear hL hl hs hx hm hX hlm hk hp h60
    unfold entVal at H1 ⊢
    rw [HK.out] at H1
    go_enter Tryz.func4, Tryz.ntmps4
    go_wp2_with fail
    generalize w.alloc (.cells _ 28) = w0 at hB0 bX ⊢
    obtain ⟨x0, x1, x2, x3, x4, x5, x6, x7, x8, x9, zX⟩ := bX.cells
    rw [HK.out] at x1
    refine (H0.out _).mono ?_
    rintro e w1 ⟨rfl, rfl⟩
    rw [decide_eq_true HI.out]
    go_wp2_with fail
    refine (H1.out _ hB0).mono ?_
    rintro e w2 ⟨hb2, h0, h1⟩
    have hB2 := hB0.trans (hb2.mono hB0.size)
    replace bX := EntAt.below bX hb2 (Blk.lt bX)
    clear x0 x1 x2 x3 x4 x5 x6 x7 x8 x9 zX
    clear H0 H1 HI hb2 hB0 hk' hp'
    by_cases hv : appE (l.map (·.1)) X.1 = 0
    rotate_left
    · obtain rfl := h1 hv
      clear h0 h1
      generalize appE (l.map (·.1)) X.1 = ae at *
      have hv' : (ae != 0) = true := by simpa using hv
      go_wp2_with fail
      refine (H3.out _ hB2).mono ?_
      rintro e w3 ⟨rfl, hb3⟩
      go_wp2_with fail
      go_ret
      exact ⟨rfl, hB2.trans (hb3.mono hB2.size)⟩
    · obtain ⟨v, rfl, hO⟩ := h0 hv
      obtain ⟨A2, c2, rfl, hc2, hL2, _⟩ := hO.shape
      have hmm : (l ++ [X]).map (·.1) = l.map (·.1) ++ [X.1] := by simp
      have hl2 : (l.map (·.1) ++ [X.1]).length = l.length + 1 := by simp
      have hl3 : (l ++ [X]).length = l.length + 1 := by simp
      have hlm : l.length + 1 ≤ maxLen := by have := H60.out; unfold maxLen; omega
      have hL3 : EntsLie w2 w2.heap.size A2 ((l ++ [X]).map (·.1)) := by rw [hmm]; exact hL2
      obtain ⟨dO, hdO⟩ : ∃ b, deadOf (l ++ [X]) d X.1.other = b := ⟨_, rfl⟩
      obtain ⟨dP, hdP⟩ : ∃ b, deadOf (l ++ [X]) d X.1.person = b := ⟨_, rfl⟩
      obtain ⟨hv1, hv2, hhm⟩ : ∃ a b, homeOf (deadOf (l ++ [X]) d) (l ++ [X]) d X.1.other = (a, b) := ⟨_, _, rfl⟩
      obtain ⟨Y, YB, hY⟩ : ∃ a b, orderOf (deadOf (l ++ [X]) d) (cancOf (l ++ [X]) d) (l ++ [X]) d (X.1.person, X.1.place) = (a, b) := ⟨_, _, rfl⟩
      obtain ⟨hh, hhh⟩ : ∃ b, hld X.1 d = b := ⟨_, rfl⟩
      have HLast : Hid (∀ T, T = (if X.1.at' = 0 ∧ dO = false then hv1 else X.1.at') → hh = true → dP = false → (X.1.other, T) ≠ (X.1.person, X.1.place) → Y = X.1 ∧ YB = true) := Lib.hid (fun T hT e1 e2 e3 => by
        have h := sup_last hv HK.out HPL.out (hhh.trans e1) (hdP.trans e2) (sup_to HPL.out (by rw [hdO, hhm]; rw [hT] at e3; exact e3))
        rw [hY] at h
        simpa using h)
      have k1 := fun W (hW : Below w2.heap.size w2 W) => pDead_any A2 c2 (l ++ [X]) X.1.other d X.2.2.2 W (hL3.up hW hW.size) (by rw [hl3]; exact hlm)
      have k2 := fun W (hW : Below w2.heap.size w2 W) => pHome_any A2 c2 (l ++ [X]) X.1.other d X.2.2.2 W (hL3.up hW hW.size) (by rw [hl3]; exact hlm)
      have k3 := fun W (hW : Below w2.heap.size w2 W) => pOrder_any A2 c2 (l ++ [X]) (X.1.person, X.1.place) d X.2.1 W (hL3.up hW hW.size) (by rw [hl3]; exact hlm)
      have k4 := fun W => holds_any X.1 d W
      have k5 := fun W (hW : Below w2.heap.size w2 W) => pDead_any A2 c2 (l ++ [X]) X.1.person d X.2.1 W (hL3.up hW hW.size) (by rw [hl3]; exact hlm)
      have k6 := fun W (hW : Below w2.heap.size w2 W) => Append_any A2 c2 ((l ++ [X]).map (·.1)) (cancelOf X).1 W (hL3.up hW hW.size) HS.out (by show (0 : Nat) ≤ maxLen; exact Nat.zero_le _) (by rw [List.length_map, hl3]; have := H60.out; omega)
      rw [List.length_map] at k6
      simp only [hl3, hdO] at k1
      simp only [hl3, hhm] at k2
      simp only [hl3, hY] at k3
      rw [hhh] at k4
      simp only [hl3, hdP] at k5
      rw [hl3] at k6
      unfold candVal entVal at k3
      unfold entVal at k4 k6
      rw [HK.out] at k4
      dsimp only at k3
      dsimp only [cancelOf, zeroEnt] at k6
      have K1 := Lib.hid k1
      have K2 := Lib.hid k2
      have K3 := Lib.hid k3
      have K4 := Lib.hid k4
      have K5 := Lib.hid k5
      have K6 := Lib.hid k6
      have HV := Lib.hid hv
      have HN : Hid (appE ((l ++ [X]).map (·.1)) (cancelOf X).1 = 0) := Lib.hid (sup_next hv HK.out H60.out rfl)
      rw [hl2]
      clear k1 k2 k3 k4 k5 k6 hv h0 h1 hO hc2 hL2 hmm hl2 hl3 hlm hL3 hdO hdP hhm hY hhh
      have bC : Blk ((w2.alloc (.cells #[.int .i64 X.1.person, .int .i64 X.1.place] 24)).alloc (.cells #[.int .i64 X.1.other, .int .i64 X.1.at'] 24)) w2.heap.size 24 #[.int .i64 X.1.person, .int .i64 X.1.place] := (Blk.new w2 _ _).alloc _
      have bT : Blk ((w2.alloc (.cells #[.int .i64 X.1.person, .int .i64 X.1.place] 24)).alloc (.cells #[.int .i64 X.1.other, .int .i64 X.1.at'] 24)) (w2.heap.size + 1) 24 #[.int .i64 X.1.other, .int .i64 X.1.at'] := at_new (by simp)
      have hB3 := below_al (below_al hB2 (.cells #[.int .i64 X.1.person, .int .i64 X.1.place] 24)) (.cells #[.int .i64 X.1.other, .int .i64 X.1.at'] 24)
      have hb3 := below_al (below_al (Below.refl w2.heap.size w2) (.cells #[.int .i64 X.1.person, .int .i64 X.1.place] 24)) (.cells #[.int .i64 X.1.other, .int .i64 X.1.at'] 24)
      have bX2 : EntAt ((w2.alloc (.cells #[.int .i64 X.1.person, .int .i64 X.1.place] 24)).alloc (.cells #[.int .i64 X.1.other, .int .i64 X.1.at'] 24)) w.heap.size X.1 := Blk.alloc (Blk.alloc bX _) _
      obtain ⟨x0, x1, x2, x3, x4, x5, x6, x7, x8, x9, zX⟩ := bX.cells
      rw [HK.out] at x1
      go_upto_region 8 with fail
      clear x0 x1 x2 x3 x4 x5 x6 x7 x8 x9 zX
      clear bX
      have bX := bX2
      have hwX : w.heap.size < w2.heap.size + 1 := by have := hB2.size; omega
      clear bX2 hB2
      generalize (w2.alloc (.cells _ 24)).alloc (.cells _ 24) = w3 at hB3 hb3 bX bC bT ⊢
      obtain ⟨x0, x1, x2, x3, x4, x5, x6, x7, x8, x9, zX⟩ := bX.cells
      rw [HK.out] at x1
      by_cases ha : X.1.at' = 0
      focus
        rw [ha] at x7
        cases dO
        focus
          go_wp2_with fail
          refine (K1.out _ hb3).mono ?_
          rintro e w4 ⟨rfl, hbn⟩
          have hB4 := hB3.trans (hbn.mono hB3.size)
          have hb4 := hb3.trans (hbn.mono hb3.size)
          replace bX := EntAt.below bX hbn (Blk.lt bX)
          replace bC := Blk.below bC hbn (Blk.lt bC)
          replace bT := Blk.below bT hbn (Blk.lt bT)
          clear hbn hB3 hb3
          clear x0 x1 x2 x3 x4 x5 x6 x7 x8 x9 zX
          obtain ⟨x0, x1, x2, x3, x4, x5, x6, x7, x8, x9, zX⟩ := bX.cells
          rw [HK.out] at x1
          go_wp2_with fail
          refine (K2.out _ hb4).mono ?_
          rintro e w5 ⟨rfl, hbn⟩
          have hB5 := hB4.trans (hbn.mono hB4.size)
          have hb5 := hb4.trans (hbn.mono hb4.size)
          replace bX := EntAt.below bX hbn (Blk.lt bX)
          replace bC := Blk.below bC hbn (Blk.lt bC)
          replace bT := Blk.below bT hbn (Blk.lt bT)
          clear hbn hB4 hb4
          clear x0 x1 x2 x3 x4 x5 x6 x7 x8 x9 zX
          have t1 := bT.cell 1
          have f1 := bT.frozen 1
          have zT := bT.lt
          simp at t1
          have hBz : Below w.heap.size w (w5.setCell ⟨w2.heap.size + 1, 1, none⟩ (.int .i64 hv1)) := hB5.setCell (p := ⟨w2.heap.size + 1, 1, none⟩) (show w.heap.size ≤ w2.heap.size + 1 by omega) _
          have hbz : Below w2.heap.size w2 (w5.setCell ⟨w2.heap.size + 1, 1, none⟩ (.int .i64 hv1)) := hb5.setCell (p := ⟨w2.heap.size + 1, 1, none⟩) (show w2.heap.size ≤ w2.heap.size + 1 by omega) _
          have bXz : EntAt (w5.setCell ⟨w2.heap.size + 1, 1, none⟩ (.int .i64 hv1)) w.heap.size X.1 := Blk.far bX (p := ⟨w2.heap.size + 1, 1, none⟩) (by dsimp only; omega) _
          have bCz : Blk (w5.setCell ⟨w2.heap.size + 1, 1, none⟩ (.int .i64 hv1)) w2.heap.size 24 #[.int .i64 X.1.person, .int .i64 X.1.place] := Blk.far bC (p := ⟨w2.heap.size + 1, 1, none⟩) (by dsimp only; omega) _
          have bTz : Blk (w5.setCell ⟨w2.heap.size + 1, 1, none⟩ (.int .i64 hv1)) (w2.heap.size + 1) 24 #[.int .i64 X.1.other, .int .i64 hv1] := by
            have h := bT.set 1 (.int .i64 hv1)
            simpa using h
          go_upto_region 10 with fail
          generalize w5.setCell ⟨w2.heap.size + 1, 1, none⟩ (.int .i64 hv1) = wT at hBz hbz bXz bCz bTz ⊢
          clear hB5 hb5 bX bC bT t1 f1 zT
          have hBT := hBz
          have hbT := hbz
          have bX := bXz
          have bC := bCz
          obtain ⟨T, hTd⟩ : ∃ T, T = hv1 := ⟨_, rfl⟩
          rw [← hTd] at bTz
          have bT := bTz
          clear hBz hbz bXz bCz bTz
          replace HLast := Lib.hid (HLast.out T (by simp [ha, hTd]))
          clear hTd ha K1 K2
        rotate_left
        focus
          go_wp2_with fail
          refine (K1.out _ hb3).mono ?_
          rintro e wT ⟨rfl, hbn⟩
          have hBT := hB3.trans (hbn.mono hB3.size)
          have hbT := hb3.trans (hbn.mono hb3.size)
          replace bX := EntAt.below bX hbn (Blk.lt bX)
          replace bC := Blk.below bC hbn (Blk.lt bC)
          replace bT := Blk.below bT hbn (Blk.lt bT)
          clear hbn hB3 hb3
          clear x0 x1 x2 x3 x4 x5 x6 x7 x8 x9 zX
          go_upto_region 10 with fail
          obtain ⟨T, hTd⟩ : ∃ T, T = X.1.at' := ⟨_, rfl⟩
          rw [← hTd] at bT
          replace HLast := Lib.hid (HLast.out T (by simp [ha, hTd]))
          clear hTd ha K1 K2
      rotate_left 2
      focus
        go_upto_region 10 with fail
        clear x0 x1 x2 x3 x4 x5 x6 x7 x8 x9 zX
        generalize w3 = wT at *
        have hBT := hB3
        have hbT := hb3
        clear hB3 hb3
        obtain ⟨T, hTd⟩ : ∃ T, T = X.1.at' := ⟨_, rfl⟩
        rw [← hTd] at bT
        replace HLast := Lib.hid (HLast.out T (by simp [ha, hTd]))
        clear hTd ha K1 K2
      all_goals
        have c0 := bC.cell 0
        have c1 := bC.cell 1
        have zC := bC.lt
        simp at c0 c1
        go_wp2_with fail
        refine (K3.out _ hbT).mono ?_
        rintro e w6 ⟨rfl, hbn⟩
        have hB6 := hBT.trans (hbn.mono hBT.size)
        have hb6 := hbT.trans (hbn.mono hbT.size)
        replace bX := EntAt.below bX hbn (Blk.lt bX)
        replace bC := Blk.below bC hbn (Blk.lt bC)
        replace bT := Blk.below bT hbn (Blk.lt bT)
        clear hbn hBT hbT

        clear c0 c1 zC K3
        have hB7 := below_al hB6 (.cells #[.int .i64 Y.day, .int .u8 Y.kind, .int .i64 Y.since, .int .i64 Y.untl, .int .i64 Y.person, .int .i64 Y.place, .int .i64 Y.other, .int .i64 Y.at', .int .i64 Y.order, .string Y.name] 28)
        have hb7 := below_al hb6 (.cells #[.int .i64 Y.day, .int .u8 Y.kind, .int .i64 Y.since, .int .i64 Y.untl, .int .i64 Y.person, .int .i64 Y.place, .int .i64 Y.other, .int .i64 Y.at', .int .i64 Y.order, .string Y.name] 28)
        have bY : EntAt (w6.alloc (.cells #[.int .i64 Y.day, .int .u8 Y.kind, .int .i64 Y.since, .int .i64 Y.untl, .int .i64 Y.person, .int .i64 Y.place, .int .i64 Y.other, .int .i64 Y.at', .int .i64 Y.order, .string Y.name] 28)) w6.heap.size Y := EntAt.new w6 Y
        replace bX : EntAt (w6.alloc (.cells #[.int .i64 Y.day, .int .u8 Y.kind, .int .i64 Y.since, .int .i64 Y.untl, .int .i64 Y.person, .int .i64 Y.place, .int .i64 Y.other, .int .i64 Y.at', .int .i64 Y.order, .string Y.name] 28)) w.heap.size X.1 := Blk.alloc bX _
        replace bC := bC.alloc (.cells #[.int .i64 Y.day, .int .u8 Y.kind, .int .i64 Y.since, .int .i64 Y.untl, .int .i64 Y.person, .int .i64 Y.place, .int .i64 Y.other, .int .i64 Y.at', .int .i64 Y.order, .string Y.name] 28)
        replace bT := bT.alloc (.cells #[.int .i64 Y.day, .int .u8 Y.kind, .int .i64 Y.since, .int .i64 Y.untl, .int .i64 Y.person, .int .i64 Y.place, .int .i64 Y.other, .int .i64 Y.at', .int .i64 Y.order, .string Y.name] 28)
        go_upto_region 11 with fail
        generalize hgy : w6.heap.size = gy at *
        generalize w6.alloc (.cells _ 28) = w7 at hB7 hb7 bY bX bC bT ⊢
        clear hB6 hb6 hgy
        obtain ⟨x0, x1, x2, x3, x4, x5, x6, x7, x8, x9, zX⟩ := bX.cells
        rw [HK.out] at x1
        go_wp2_with fail
        refine (K4.out _).mono ?_
        rintro e w8 ⟨rfl, hbn⟩
        replace bY := EntAt.below bY hbn (Blk.lt bY)
        have hB8 := hB7.trans (hbn.mono hB7.size)
        have hb8 := hb7.trans (hbn.mono hb7.size)
        replace bX := EntAt.below bX hbn (Blk.lt bX)
        replace bC := Blk.below bC hbn (Blk.lt bC)
        replace bT := Blk.below bT hbn (Blk.lt bT)
        clear hbn hB7 hb7

        clear x0 x1 x2 x3 x4 x5 x6 x7 x8 x9 zX
        have hfour : hh = false ∨ (hh = true ∧ dP = true) ∨ (hh = true ∧ dP = false ∧ (X.1.other, T) = (X.1.person, X.1.place)) ∨ (hh = true ∧ dP = false ∧ (X.1.other, T) ≠ (X.1.person, X.1.place)) := by
          cases hh
          · exact .inl rfl
          · cases dP
            · by_cases he : (X.1.other, T) = (X.1.person, X.1.place)
              · exact .inr (.inr (.inl ⟨rfl, rfl, he⟩))
              · exact .inr (.inr (.inr ⟨rfl, rfl, he⟩))
            · exact .inr (.inl ⟨rfl, rfl⟩)
        have hne := neCand (X.1.other, T) (X.1.person, X.1.place)
        have hng := fun a b => noGuardCand .neq a b (X.1.other, T) (X.1.person, X.1.place)
        unfold candVal at hne hng
        dsimp only at hne hng
        rcases hfour with rfl | ⟨rfl, rfl⟩ | ⟨rfl, rfl, he⟩ | ⟨rfl, rfl, he⟩
        focus
          clear hne hng bY bT K4 K5
          go_upto_region 13 with fail
          have hB9 := hB8
          have hb9 := hb8
          generalize w8 = w9 at *
        rotate_left
        focus
          obtain ⟨x0, x1, x2, x3, x4, x5, x6, x7, x8, x9, zX⟩ := bX.cells
          rw [HK.out] at x1
          go_wp2_with fail
          refine (K5.out _ hb8).mono ?_
          rintro e w9 ⟨rfl, hbn⟩
          have hB9 := hB8.trans (hbn.mono hB8.size)
          have hb9 := hb8.trans (hbn.mono hb8.size)
          replace bX := EntAt.below bX hbn (Blk.lt bX)
          replace bC := Blk.below bC hbn (Blk.lt bC)
          replace bT := Blk.below bT hbn (Blk.lt bT)
          clear hbn hB8 hb8
          clear x0 x1 x2 x3 x4 x5 x6 x7 x8 x9 zX
          clear hne hng bY bT K4 K5
          go_upto_region 13 with fail
        rotate_left
        focus
          rw [decide_eq_true he] at hne
          obtain ⟨x0, x1, x2, x3, x4, x5, x6, x7, x8, x9, zX⟩ := bX.cells
          rw [HK.out] at x1
          go_wp2_with fail
          refine (K5.out _ hb8).mono ?_
          rintro e w9 ⟨rfl, hbn⟩
          have hB9 := hB8.trans (hbn.mono hB8.size)
          have hb9 := hb8.trans (hbn.mono hb8.size)
          replace bX := EntAt.below bX hbn (Blk.lt bX)
          replace bC := Blk.below bC hbn (Blk.lt bC)
          replace bT := Blk.below bT hbn (Blk.lt bT)
          clear hbn hB8 hb8
          clear x0 x1 x2 x3 x4 x5 x6 x7 x8 x9 zX
          have t0 := bT.cell 0
          have t1 := bT.cell 1
          have zT := bT.lt
          have c0 := bC.cell 0
          have c1 := bC.cell 1
          have zC := bC.lt
          simp at t0 t1 c0 c1
          clear he K4 K5
          go_upto_region 13 with fail
          clear hne hng bY bT t0 t1 zT c0 c1 zC
        rotate_left
        focus
          obtain ⟨rfl, rfl⟩ := HLast.out rfl rfl he
          rw [decide_eq_false he] at hne
          obtain ⟨x0, x1, x2, x3, x4, x5, x6, x7, x8, x9, zX⟩ := bX.cells
          rw [HK.out] at x1
          go_wp2_with fail
          refine (K5.out _ hb8).mono ?_
          rintro e w9 ⟨rfl, hbn⟩
          replace bY := EntAt.below bY hbn (Blk.lt bY)
          have hB9 := hB8.trans (hbn.mono hB8.size)
          have hb9 := hb8.trans (hbn.mono hb8.size)
          replace bX := EntAt.below bX hbn (Blk.lt bX)
          replace bC := Blk.below bC hbn (Blk.lt bC)
          replace bT := Blk.below bT hbn (Blk.lt bT)
          clear hbn hB8 hb8
          clear x0 x1 x2 x3 x4 x5 x6 x7 x8 x9 zX
          obtain ⟨x0, x1, x2, x3, x4, x5, x6, x7, x8, x9, zX⟩ := bX.cells
          rw [HK.out] at x1
          obtain ⟨y0, y1, y2, y3, y4, y5, y6, y7, y8, y9, yz⟩ := bY.cells
          rw [HK.out] at y1
          have hne2 := fun W => neEnt X.1 X.1 W
          have hng2 := fun a b W => noGuardEnt .neq a b X.1 X.1 W
          unfold entVal at hne2 hng2
          rw [HK.out] at hne2 hng2
          simp only [decide_true, Bool.not_true] at hne2
          have t0 := bT.cell 0
          have t1 := bT.cell 1
          have zT := bT.lt
          have c0 := bC.cell 0
          have c1 := bC.cell 1
          have zC := bC.lt
          simp at t0 t1 c0 c1
          clear he K4 K5
          go_upto_region 13 with fail
          clear hne hng hne2 hng2 bY bT t0 t1 zT c0 c1 zC y0 y1 y2 y3 y4 y5 y6 y7 y8 y9 yz
          clear x0 x1 x2 x3 x4 x5 x6 x7 x8 x9 zX
        all_goals
          obtain ⟨x0, x1, x2, x3, x4, x5, x6, x7, x8, x9, zX⟩ := bX.cells
          rw [HK.out] at x1
          have c0 := bC.cell 0
          have c1 := bC.cell 1
          have zC := bC.lt
          simp at c0 c1
          go_wp2_with fail
          refine (K6.out _ hb9).mono ?_
          rintro e w10 ⟨hbn, h0, _⟩
          obtain ⟨v3, rfl, hO3⟩ := h0 HN.out
          obtain ⟨A3, c3, rfl, hc3, hL4, _⟩ := hO3.shape
          have hL5 : EntsLie w10 w10.heap.size A3 ((l ++ [X] ++ [cancelOf X]).map (·.1)) := by rw [List.map_append]; exact hL4
          have K7 : Hid (∀ W, Below w10.heap.size w10 W → _) := Lib.hid fun W (hW : Below w10.heap.size w10 W) => pOrder_any A3 c3 (l ++ [X] ++ [cancelOf X]) (X.1.person, X.1.place) d X.2.1 W (hL5.up hW hW.size) (by simp; have := H60.out; unfold maxLen; omega)
          have hl3 : ((l ++ [X]).map (·.1) ++ [(⟨X.1.day, 6, 0, 0, 0, 0, 0, 0, X.1.order, ⟨#[]⟩⟩ : Ent)]).length = l.length + 2 := by simp
          have hl4 : (l ++ [X] ++ [cancelOf X]).length = l.length + 2 := by simp
          rw [hl4] at K7
          rw [hl3]
          have hB10 := hB9.trans (hbn.mono hB9.size)
          replace bX := EntAt.below bX hbn (Blk.lt bX)
          replace bC := Blk.below bC hbn (Blk.lt bC)
          clear hbn hB9 hb9 K6 h0 hO3 hL4 hL5 hl3 hl4 hc3 c0 c1 zC
          clear x0 x1 x2 x3 x4 x5 x6 x7 x8 x9 zX
          by_cases hneg : d < 0
          · have hneg' : decide (d < 0) = true := decide_eq_true hneg
            go_wp2_with fail
            refine (H3.out _ hB10).mono ?_
            rintro e w11 ⟨rfl, hb11⟩
            go_wp2_with fail
            go_ret
            exact ⟨rfl, hB10.trans (hb11.mono hB10.size)⟩
          · have hneg' : decide (d < 0) = false := decide_eq_false hneg
            have k7 := K7.out
            rw [sup_cancel HV.out HK.out (K := cancelOf X) rfl rfl (by
                show (decide ((0 : Int) ≤ d) && ((0 : Int) == 0 || decide (d < 0))) = true
                rw [decide_eq_true (Int.not_lt.1 hneg)]
                rfl)] at k7
            obtain ⟨Z, ZB, hZ⟩ : ∃ a b, orderOf (deadOf l d) (cancOf l d) l d (X.1.person, X.1.place) = (a, b) := ⟨_, _, rfl⟩
            have k8 := H12.out (X.1.person, X.1.place) X.2.1
            rw [hZ] at k7 k8
            unfold candVal entVal at k7 k8
            dsimp only at k7 k8
            replace k7 := Lib.hid k7
            replace k8 := Lib.hid k8
            clear K7 hZ
            have c0 := bC.cell 0
            have c1 := bC.cell 1
            have zC := bC.lt
            simp at c0 c1
            go_wp2_with fail
            refine (k7.out _ (Below.refl _ _)).mono ?_
            rintro e w11 ⟨rfl, hb11⟩
            have hB11 := hB10.trans (hb11.mono hB10.size)
            replace bC := Blk.below bC hb11 (Blk.lt bC)
            clear hb11 hB10 c0 c1 zC bX k7
            have hB12 := below_al hB11 (.cells #[.int .i64 Z.day, .int .u8 Z.kind, .int .i64 Z.since, .int .i64 Z.untl, .int .i64 Z.person, .int .i64 Z.place, .int .i64 Z.other, .int .i64 Z.at', .int .i64 Z.order, .string Z.name] 28)
            have bZ : EntAt (w11.alloc (.cells #[.int .i64 Z.day, .int .u8 Z.kind, .int .i64 Z.since, .int .i64 Z.untl, .int .i64 Z.person, .int .i64 Z.place, .int .i64 Z.other, .int .i64 Z.at', .int .i64 Z.order, .string Z.name] 28)) w11.heap.size Z := EntAt.new w11 Z
            replace bC := bC.alloc (.cells #[.int .i64 Z.day, .int .u8 Z.kind, .int .i64 Z.since, .int .i64 Z.untl, .int .i64 Z.person, .int .i64 Z.place, .int .i64 Z.other, .int .i64 Z.at', .int .i64 Z.order, .string Z.name] 28)
            go_upto_region 17 with fail
            generalize hgz : w11.heap.size = gz at *
            generalize w11.alloc (.cells _ 28) = w12 at hB12 bZ bC ⊢
            clear hB11 hgz
            have c0 := bC.cell 0
            have c1 := bC.cell 1
            have zC := bC.lt
            simp at c0 c1
            go_wp2_with fail
            refine (k8.out _ hB12).mono ?_
            rintro e w13 ⟨rfl, hb13⟩
            have hB13 := hB12.trans (hb13.mono hB12.size)
            replace bZ := EntAt.below bZ hb13 (Blk.lt bZ)
            clear hb13 hB12 c0 c1 zC bC k8
            have hB14 := below_al hB13 (.cells #[.int .i64 Z.day, .int .u8 Z.kind, .int .i64 Z.since, .int .i64 Z.untl, .int .i64 Z.person, .int .i64 Z.place, .int .i64 Z.other, .int .i64 Z.at', .int .i64 Z.order, .string Z.name] 28)
            have bY : EntAt (w13.alloc (.cells #[.int .i64 Z.day, .int .u8 Z.kind, .int .i64 Z.since, .int .i64 Z.untl, .int .i64 Z.person, .int .i64 Z.place, .int .i64 Z.other, .int .i64 Z.at', .int .i64 Z.order, .string Z.name] 28)) w13.heap.size Z := EntAt.new w13 Z
            replace bZ : EntAt (w13.alloc (.cells #[.int .i64 Z.day, .int .u8 Z.kind, .int .i64 Z.since, .int .i64 Z.untl, .int .i64 Z.person, .int .i64 Z.place, .int .i64 Z.other, .int .i64 Z.at', .int .i64 Z.order, .string Z.name] 28)) gz Z := Blk.alloc bZ (.cells #[.int .i64 Z.day, .int .u8 Z.kind, .int .i64 Z.since, .int .i64 Z.untl, .int .i64 Z.person, .int .i64 Z.place, .int .i64 Z.other, .int .i64 Z.at', .int .i64 Z.order, .string Z.name] 28)
            go_upto_region 18 with fail
            generalize hgy : w13.heap.size = gy at *
            generalize w13.alloc (.cells _ 28) = w14 at hB14 bZ bY ⊢
            clear hB13 hgy
            go_wp2_with fail
            refine (H3.out _ hB14).mono ?_
            rintro e w15 ⟨rfl, hb15⟩
            have hB15 := hB14.trans (hb15.mono hB14.size)
            replace bZ := EntAt.below bZ hb15 (Blk.lt bZ)
            replace bY := EntAt.below bY hb15 (Blk.lt bY)
            obtain ⟨z0, z1, z2, z3, z4, z5, z6, z7, z8, z9, zz⟩ := bZ.cells
            obtain ⟨y0, y1, y2, y3, y4, y5, y6, y7, y8, y9, yz⟩ := bY.cells
            have heq := fun W => eqEnt Z Z W
            have hng := fun a b W => noGuardEnt .eql a b Z Z W
            unfold entVal at heq hng
            simp only [decide_true] at heq
            clear hb15 hB14 bZ bY
            go_wp2_with fail
            go_ret
            exact ⟨by first | rfl | (cases ZB <;> rfl) | simp, hB15⟩
end Go.Proofs.YtgbnbolhmghhlaaGreatDoor
