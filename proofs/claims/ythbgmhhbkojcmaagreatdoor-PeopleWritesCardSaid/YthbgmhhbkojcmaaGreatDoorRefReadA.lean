/- The contract of the reference's Read at any line: the entry that Read reads. Conditions: a length; the library's table of powers of ten lies as the program's text lays it. -/
import Derived.Test.YthbgmhhbkojcmaaGreatDoorRefWritA
import Derived.Test.YthbgmhhbkojcmaaGreatDoorIntA
namespace Go.Proofs.YthbgmhhbkojcmaaGreatDoor
open Go.RowKit Go.Shelf

theorem kindR_cases (s : ByteArray) : kindR s = 0 ∨ kindR s = 1 ∨ kindR s = 2 ∨ kindR s = 3 ∨ kindR s = 4 ∨ kindR s = 5 ∨ kindR s = 6 ∨ kindR s = 7 := by
  unfold kindR
  cases h : kindOfW s with
  | none => exact .inl rfl
  | some k =>
    have := (kindOfW_some h).1
    dsimp only [Option.getD_some]
    omega
theorem refName_size (s : ByteArray) (hs : s.size ≤ maxLen) : (refSays s).name.size ≤ maxLen := by
  have h1 := text_le (cutZ (cutZ s)) 3
  have h2 := (cut_le s).2
  have h3 := (cut_le (cutZ s)).2
  unfold refSays refEntOf
  dsimp only
  split
  · omega
  · show 0 ≤ _
    omega

set_option maxRecDepth 100000 in
set_option maxHeartbeats 16000000 in
theorem refRead_run (s : ByteArray) (hs : s.size ≤ maxLen) (y : Ent) (hy : refSays s = y) (aw : ByteArray) (an : Int) (haw : (if ckE y = 0 then lineB y else ⟨#[]⟩) = aw) (han : ckE y = an) (w : World) (hT : PowAt w) (R : Value) (hRg : an = 0 ∧ aw = s → R = .tuple #[entVal y, .int .i64 0]) (hRb : ¬ (an = 0 ∧ aw = s) → R = .tuple #[entVal (kindEnt 0), .int .i64 4]) :
    Calls Tryz.prog 10 #[.string s] w fun e w' => e = .returned R ∧ Below w.heap.size w w' := by
  have HRG := Lib.hid hRg
  have HRB := Lib.hid hRb
  clear hRg hRb
  have hz1 := (cut_le s).2
  have hz2 := (cut_le (cutZ s)).2
  have HC1 : Hid (∀ W : World, Calls Tryz.prog 28 #[.string s] W fun e w' => e = .returned (.tuple #[.string (cutA s), .string (cutZ s)]) ∧ Below W.heap.size W w') := Lib.hid fun W => refWord_any s hs W
  have HC2 : Hid (∀ W : World, Calls Tryz.prog 28 #[.string (cutZ s)] W fun e w' => e = .returned (.tuple #[.string (cutA (cutZ s)), .string (cutZ (cutZ s))]) ∧ Below W.heap.size W w') := Lib.hid fun W => refWord_any (cutZ s) (by omega) W
  have HKD : Hid (∀ W : World, _) := Lib.hid fun W => kind_any (cutA (cutZ s)) W
  have HDY : Hid (∀ W : World, _) := Lib.hid fun W => refNumber_any (cutA s) W
  have hnm := refName_size s hs
  rw [hy] at hnm
  have HWR : Hid (∀ W, Below w.heap.size w W → Calls Tryz.prog 8 #[entVal y] W fun e w' => e = .returned (.tuple #[.string aw, .int .i64 an]) ∧ Below W.heap.size W w') := Lib.hid fun W hW => by
    have h := refWrite_all y hnm W (hT.below hW)
    rwa [haw, han] at h
  clear haw han hnm hT
  have hkc := kindR_cases (cutA (cutZ s))
  have hts : (cutZ (cutZ s)).size ≤ maxLen := by omega
  clear hz1 hz2 hs
  unfold refSays refEntOf at hy
  generalize kindR (cutA (cutZ s)) = kd at *
  generalize refNumB (cutA s) = d at *
  generalize cutA s = s1 at *
  generalize ht : cutZ (cutZ s) = t at *
  generalize cutA (cutZ s) = s2 at *
  generalize cutZ s = s3 at *
  obtain ⟨g, hg⟩ : ∃ g : Nat → Int, ∀ j, g j = refNumB (cutA (textAt t j)) := ⟨_, fun _ => rfl⟩
  have HCW : Hid (∀ (W : World) (k : Nat), Calls Tryz.prog 28 #[.string (textAt t k)] W fun e w' => e = .returned (.tuple #[.string (cutA (textAt t k)), .string (textAt t (k + 1))]) ∧ Below W.heap.size W w') := Lib.hid fun W k => refWord_any (textAt t k) (by have := text_le t k; omega) W
  have HNB : Hid (∀ (W : World) (k : Nat), Calls Tryz.prog 30 #[.string (cutA (textAt t k))] W fun e w' => e = .returned (.int .i64 (g k)) ∧ W = w') := Lib.hid fun W k => by
    rw [hg]
    exact refNumber_any (cutA (textAt t k)) W
  obtain ⟨c, hc, hcn⟩ : ∃ c : Nat, (c : Int) = countsN kd ∧ c ≤ 7 := by
    refine ⟨(countsN kd).toNat, ?_, ?_⟩ <;> rcases hkc with rfl | rfl | rfl | rfl | rfl | rfl | rfl | rfl <;> decide
  have HCT : Hid (∀ W : World, Calls Tryz.prog 31 #[.int .u8 kd] W fun e w' => e = .returned (.int .i64 c) ∧ W = w') := Lib.hid fun W => by
    rw [hc]
    exact counts_any kd hkc W
  have HY := Lib.hid hy
  have HG := Lib.hid hg
  have HKC := Lib.hid hkc
  have HCC := Lib.hid hc
  clear hy hg hkc hts ht hc
  go_enter Tryz.func10, Tryz.ntmps10
  go_wp2_with fail
  have hB0 : Below w.heap.size w (w.alloc (.cells (entCells (kindEnt 0)).toArray 23)) := (Below.refl _ _).alloc (Nat.le_refl _) _
  have hR0 : Blk (w.alloc (.cells (entCells (kindEnt 0)).toArray 23)) w.heap.size 23 (entCells (kindEnt 0)).toArray := Blk.new w _ _
  simp only [entCells, kindEnt] at hB0 hR0
  generalize w.alloc (.cells _ 23) = W0 at hB0 hR0 ⊢
  refine (HC1.out W0).mono ?_
  rintro e w1 ⟨rfl, hb1⟩
  have hB1 := hB0.trans (hb1.mono hB0.size)
  have hR1 := hR0.below hb1 hR0.lt
  clear hB0 hR0 hb1
  go_wp2_with fail
  refine (HC2.out _).mono ?_
  rintro e w2 ⟨rfl, hb2⟩
  have hB2 := hB1.trans (hb2.mono hB1.size)
  have hR2 := hR1.below hb2 hR1.lt
  clear hB1 hR1 hb2
  go_wp2_with fail
  refine (HKD.out _).mono ?_
  rintro e w3 ⟨rfl, rfl⟩
  go_wp2_with fail
  have hX3 := Blk.new w2 23 (entCells (kindEnt kd)).toArray
  have hB3 := hB2.alloc hB2.size (.cells (entCells (kindEnt kd)).toArray 23)
  have hR3 := hR2.alloc (.cells (entCells (kindEnt kd)).toArray 23)
  have hzz : w.heap.size < w2.heap.size := hR2.lt
  simp only [entCells, kindEnt] at hX3 hB3 hR3
  generalize w2.alloc (.cells _ 23) = W3 at hX3 hB3 hR3 ⊢
  generalize w2.heap.size = gx at *
  clear hB2 hR2
  refine (HDY.out _).mono ?_
  rintro e w3 ⟨rfl, rfl⟩
  have x0 := hX3.cell 0
  have f0 := hX3.frozen 0
  have z0 := hX3.lt
  simp at x0
  go_wp2_with fail
  have hX4 := hX3.set 0 (.int .i64 d)
  have hB4 := hB3.setCell (p := ⟨gx, 0, none⟩) (Nat.le_of_lt hzz) (.int .i64 d)
  have hR4 := hR3.far (p := ⟨gx, 0, none⟩) (Nat.ne_of_lt hzz) (.int .i64 d)
  simp only [List.setIfInBounds_toArray, List.set_cons_zero] at hX4
  clear x0 f0 z0 hX3 hB3 hR3
  generalize W3.setCell ⟨gx, 0, none⟩ _ = W4 at hX4 hB4 hR4 ⊢
  go_loopw [10, 11, 12] (fun n l i wr => ∃ k : Nat, k ≤ c ∧ i = .int .i64 k ∧ l = .string (textAt t k) ∧ OwnI wr (gx + 1) n ((List.range k).map g) ∧ Below w.heap.size w wr ∧ Blk wr w.heap.size 23 #[.int .i64 0, .int .u8 0, .int .i64 0, .int .i64 0, .int .i64 0, .int .i64 0, .int .i64 0, .int .i64 0, .int .i64 0, .string ⟨#[]⟩] ∧ Blk wr gx 23 #[.int .i64 d, .int .u8 kd, .int .i64 0, .int .i64 0, .int .i64 0, .int .i64 0, .int .i64 0, .int .i64 0, .int .i64 0, .string ⟨#[]⟩]) (fun _ _ i _ => c - (intOf i).toNat)
  case atStart => exact ⟨0, Nat.zero_le _, rfl, rfl, OwnI.nil _ _, hB4, hR4, hX4⟩
  case round =>
    clear hX4 hB4 hR4
    obtain ⟨k, hk, rfl, rfl, hO, hB, hR, hX⟩ := hrel
    have hzx := hX.lt
    have hzr := hR.lt
    by_cases hlt : k < c
    · go_wp2_with fail
      refine (HCT.out _).mono ?_
      rintro e w5 ⟨rfl, rfl⟩
      go_wp2_with fail
      refine (HCW.out _ k).mono ?_
      rintro e w6 ⟨rfl, hb6⟩
      have hO6 := hO.below hb6
      have hB6 := hB.trans (hb6.mono hB.size)
      have hR6 := hR.below hb6 hzr
      have hX6 := hX.below hb6 hzx
      have hz6 := hX6.lt
      go_wp2_with fail
      refine (HNB.out _ k).mono ?_
      rintro e w7 ⟨rfl, rfl⟩
      obtain ⟨v2, w7, hrun, hO7, hk7⟩ := append_int hO6 (g k) (by omega) (by simp; omega) 66
      have hown := hO6.own_lt
      have hB7 : Below w.heap.size w w7 := hB6.trans (hk7.below (fun i h1 h2 => by have := hown i h2; omega) hB6.size)
      have hR7 := hR6.keep hk7 (fun h => by have := hown _ h; omega)
      have hX7 := hX6.keep hk7 (fun h => by have := hown _ h; omega)
      have HO7 : Hid (OwnI w7 (gx + 1) v2 ((List.range (k + 1)).map g)) := Lib.hid (by rw [List.range_succ, List.map_append]; exact hO7)
      clear hO hB hR hX hO6 hB6 hR6 hX6 hO7 hk7 hown hb6
      go_wp2_with (first | (at_builtin; refine Lib.wpList_append_run _ rfl _ _ _ _ rfl _ _ rfl rfl _ _ hrun ?_))
      go_roundw
      case rel => exact ⟨k + 1, by omega, by go_num, rfl, HO7.out, hB7, hR7, hX7⟩
      case measure => simp [intOf]; omega
    · have HT : k = c := by omega
      subst HT
      have hln : ((List.range k).map g).length = k := by simp
      obtain ⟨A', c', hsh⟩ := hO.shape
      rw [hln] at hsh
      have hown := hO.own_lt
      subst hsh
      have hI : IntsAt wr A' ((List.range k).map g) := by
        have hO' := hO
        rw [← hln] at hO'
        simp only [List.length_map, List.length_range] at hO'
        exact OwnI.at (c := c') (by rw [hln]; exact hO)
      go_wp2_with fail
      refine (HCT.out _).mono ?_
      rintro e w5 ⟨rfl, rfl⟩
      have x0 := hX.cell 0
      have x1 := hX.cell 1
      have x2 := hX.cell 2
      have x3 := hX.cell 3
      have x4 := hX.cell 4
      have x5 := hX.cell 5
      have x6 := hX.cell 6
      have x7 := hX.cell 7
      have x8 := hX.cell 8
      have x9 := hX.cell 9
      have f2 := hX.frozen 2
      have f3 := hX.frozen 3
      have f4 := hX.frozen 4
      have f5 := hX.frozen 5
      have f6 := hX.frozen 6
      have f7 := hX.frozen 7
      have f8 := hX.frozen 8
      have f9 := hX.frozen 9
      simp at x0 x1 x2 x3 x4 x5 x6 x7 x8 x9
      have hkc := HKC.out
      have hcc := HCC.out
      have hy := HY.out
      have hg := HG.out
      rcases hkc with rfl | rfl | rfl | rfl | rfl | rfl | rfl | rfl
      · obtain rfl : k = 4 := by
          have : (k : Int) = 4 := hcc
          omega
        have hyk : y = ⟨d, 0, 0, 0, 0, 0, 0, 0, 0, ⟨#[]⟩⟩ := by
          rw [← hy]
          simp [offs, refNumsOf, numAt, hg]
        subst hyk
        unfold entVal at HWR
        simp only [entCells] at HWR
        clear hy hg hcc hI hown hO HKC HCC HY HG HCT HCW HNB
        go_wp2_with fail
        have hXE := hX
        have hRE := hR
        have hBE := hB
        try simp only [List.setIfInBounds_toArray, List.set_cons_succ, List.set_cons_zero] at hXE
        clear x0 x1 x2 x3 x4 x5 x6 x7 x8 x9 f2 f3 f4 f5 f6 f7 f8 f9 hX hR hB
        generalize wr = WE at hXE hRE hBE ⊢
        refine (HWR.out WE hBE).mono ?_
        rintro e w8 ⟨rfl, hb8⟩
        have hB8 := hBE.trans (hb8.mono hBE.size)
        have hR8 := hRE.below hb8 hRE.lt
        have hX8 := hXE.below hb8 hXE.lt
        clear hXE hRE hBE hb8 HWR
        have x0 := hX8.cell 0
        have x1 := hX8.cell 1
        have x2 := hX8.cell 2
        have x3 := hX8.cell 3
        have x4 := hX8.cell 4
        have x5 := hX8.cell 5
        have x6 := hX8.cell 6
        have x7 := hX8.cell 7
        have x8 := hX8.cell 8
        have x9 := hX8.cell 9
        have r0 := hR8.cell 0
        have r1 := hR8.cell 1
        have r2 := hR8.cell 2
        have r3 := hR8.cell 3
        have r4 := hR8.cell 4
        have r5 := hR8.cell 5
        have r6 := hR8.cell 6
        have r7 := hR8.cell 7
        have r8 := hR8.cell 8
        have r9 := hR8.cell 9
        have g0 := hR8.frozen 0
        have g1 := hR8.frozen 1
        have g2 := hR8.frozen 2
        have g3 := hR8.frozen 3
        have g4 := hR8.frozen 4
        have g5 := hR8.frozen 5
        have g6 := hR8.frozen 6
        have g7 := hR8.frozen 7
        have g8 := hR8.frozen 8
        have g9 := hR8.frozen 9
        have hzr8 := hR8.lt
        have hzx8 := hX8.lt
        simp at x0 x1 x2 x3 x4 x5 x6 x7 x8 x9 r0 r1 r2 r3 r4 r5 r6 r7 r8 r9
        have hBf := Lib.hid hB8
        clear hR8 hX8 hB8
        by_cases hgood : an = 0 ∧ aw = s
        · have HR := Lib.hid (HRG.out hgood)
          clear HRG HRB
          obtain ⟨rfl, rfl⟩ := hgood
          go_wp2
          refine bodyPost_ret (v := .tuple #[entVal ⟨d, 0, 0, 0, 0, 0, 0, 0, 0, ⟨#[]⟩⟩, .int .i64 0]) ?_ rfl ⟨by rw [HR.out], ?_⟩
          · simp [results, Tryz.results10, go_sem, entVal, *]
          · repeat (refine Below.setCell ?_ (by simp; try omega) _)
            exact hBf.out
        · have HR := Lib.hid (HRB.out hgood)
          clear HRG HRB
          by_cases han : an = 0
          · subst han
            have hsn := strEq_false (fun h => hgood ⟨rfl, h⟩)
            clear hgood
            go_wp2
            refine bodyPost_ret (v := .tuple #[entVal (kindEnt 0), .int .i64 4]) ?_ rfl ⟨by rw [HR.out], ?_⟩
            · simp [results, Tryz.results10, go_sem, entVal, kindEnt, *]
            · repeat (refine Below.setCell ?_ (by simp; try omega) _)
              exact hBf.out
          · have hsn : (an != 0) = true := by simpa using han
            clear hgood han
            go_wp2
            refine bodyPost_ret (v := .tuple #[entVal (kindEnt 0), .int .i64 4]) ?_ rfl ⟨by rw [HR.out], ?_⟩
            · simp [results, Tryz.results10, go_sem, entVal, kindEnt, *]
            · repeat (refine Below.setCell ?_ (by simp; try omega) _)
              exact hBf.out
      · obtain rfl : k = 3 := by
          have : (k : Int) = 3 := hcc
          omega
        have hyk : y = ⟨d, 1, g 1, g 2, g 0, 0, 0, 0, 0, textAt t 3⟩ := by
          rw [← hy]
          simp [offs, refNumsOf, numAt, hg]
        subst hyk
        unfold entVal at HWR
        simp only [entCells] at HWR
        obtain ⟨gn, rfl, hgz, q0⟩ := hI 0 (g 0) rfl
        have hgx := (hown gn rfl).1
        have hne1 : gn ≠ gx := by omega
        have hne2 : gx ≠ gn := by omega
        obtain ⟨_, e1, _, q1⟩ := hI 1 (g 1) rfl
        cases e1
        obtain ⟨_, e2, _, q2⟩ := hI 2 (g 2) rfl
        cases e2
        clear hy hg hcc hI hown hO HKC HCC HY HG HCT HCW HNB
        go_wp2_with fail
        have hXE := ((((hX.set 4 (.int .i64 (g 0))).set 2 (.int .i64 (g 1))).set 3 (.int .i64 (g 2))).set 9 (.string (textAt t 3)))
        have hRE := ((((hR.far (p := ⟨gx, 4, none⟩) (Nat.ne_of_lt hzz) (.int .i64 (g 0))).far (p := ⟨gx, 2, none⟩) (Nat.ne_of_lt hzz) (.int .i64 (g 1))).far (p := ⟨gx, 3, none⟩) (Nat.ne_of_lt hzz) (.int .i64 (g 2))).far (p := ⟨gx, 9, none⟩) (Nat.ne_of_lt hzz) (.string (textAt t 3)))
        have hBE := ((((hB.setCell (p := ⟨gx, 4, none⟩) (Nat.le_of_lt hzz) (.int .i64 (g 0))).setCell (p := ⟨gx, 2, none⟩) (Nat.le_of_lt hzz) (.int .i64 (g 1))).setCell (p := ⟨gx, 3, none⟩) (Nat.le_of_lt hzz) (.int .i64 (g 2))).setCell (p := ⟨gx, 9, none⟩) (Nat.le_of_lt hzz) (.string (textAt t 3)))
        try simp only [List.setIfInBounds_toArray, List.set_cons_succ, List.set_cons_zero] at hXE
        clear x0 x1 x2 x3 x4 x5 x6 x7 x8 x9 f2 f3 f4 f5 f6 f7 f8 f9 hX hR hB
        generalize ((((wr.setCell ⟨gx, 4, none⟩ (.int .i64 (g 0))).setCell ⟨gx, 2, none⟩ (.int .i64 (g 1))).setCell ⟨gx, 3, none⟩ (.int .i64 (g 2))).setCell ⟨gx, 9, none⟩ (.string (textAt t 3))) = WE at hXE hRE hBE ⊢
        refine (HWR.out WE hBE).mono ?_
        rintro e w8 ⟨rfl, hb8⟩
        have hB8 := hBE.trans (hb8.mono hBE.size)
        have hR8 := hRE.below hb8 hRE.lt
        have hX8 := hXE.below hb8 hXE.lt
        clear hXE hRE hBE hb8 HWR
        have x0 := hX8.cell 0
        have x1 := hX8.cell 1
        have x2 := hX8.cell 2
        have x3 := hX8.cell 3
        have x4 := hX8.cell 4
        have x5 := hX8.cell 5
        have x6 := hX8.cell 6
        have x7 := hX8.cell 7
        have x8 := hX8.cell 8
        have x9 := hX8.cell 9
        have r0 := hR8.cell 0
        have r1 := hR8.cell 1
        have r2 := hR8.cell 2
        have r3 := hR8.cell 3
        have r4 := hR8.cell 4
        have r5 := hR8.cell 5
        have r6 := hR8.cell 6
        have r7 := hR8.cell 7
        have r8 := hR8.cell 8
        have r9 := hR8.cell 9
        have g0 := hR8.frozen 0
        have g1 := hR8.frozen 1
        have g2 := hR8.frozen 2
        have g3 := hR8.frozen 3
        have g4 := hR8.frozen 4
        have g5 := hR8.frozen 5
        have g6 := hR8.frozen 6
        have g7 := hR8.frozen 7
        have g8 := hR8.frozen 8
        have g9 := hR8.frozen 9
        have hzr8 := hR8.lt
        have hzx8 := hX8.lt
        simp at x0 x1 x2 x3 x4 x5 x6 x7 x8 x9 r0 r1 r2 r3 r4 r5 r6 r7 r8 r9
        have hBf := Lib.hid hB8
        clear hR8 hX8 hB8
        by_cases hgood : an = 0 ∧ aw = s
        · have HR := Lib.hid (HRG.out hgood)
          clear HRG HRB
          obtain ⟨rfl, rfl⟩ := hgood
          go_wp2
          refine bodyPost_ret (v := .tuple #[entVal ⟨d, 1, g 1, g 2, g 0, 0, 0, 0, 0, textAt t 3⟩, .int .i64 0]) ?_ rfl ⟨by rw [HR.out], ?_⟩
          · simp [results, Tryz.results10, go_sem, entVal, *]
          · repeat (refine Below.setCell ?_ (by simp; try omega) _)
            exact hBf.out
        · have HR := Lib.hid (HRB.out hgood)
          clear HRG HRB
          by_cases han : an = 0
          · subst han
            have hsn := strEq_false (fun h => hgood ⟨rfl, h⟩)
            clear hgood
            go_wp2
            refine bodyPost_ret (v := .tuple #[entVal (kindEnt 0), .int .i64 4]) ?_ rfl ⟨by rw [HR.out], ?_⟩
            · simp [results, Tryz.results10, go_sem, entVal, kindEnt, *]
            · repeat (refine Below.setCell ?_ (by simp; try omega) _)
              exact hBf.out
          · have hsn : (an != 0) = true := by simpa using han
            clear hgood han
            go_wp2
            refine bodyPost_ret (v := .tuple #[entVal (kindEnt 0), .int .i64 4]) ?_ rfl ⟨by rw [HR.out], ?_⟩
            · simp [results, Tryz.results10, go_sem, entVal, kindEnt, *]
            · repeat (refine Below.setCell ?_ (by simp; try omega) _)
              exact hBf.out
      · obtain rfl : k = 4 := by
          have : (k : Int) = 4 := hcc
          omega
        have hyk : y = ⟨d, 2, g 2, g 3, g 0, g 1, 0, 0, 0, ⟨#[]⟩⟩ := by
          rw [← hy]
          simp [offs, refNumsOf, numAt, hg]
        subst hyk
        unfold entVal at HWR
        simp only [entCells] at HWR
        obtain ⟨gn, rfl, hgz, q0⟩ := hI 0 (g 0) rfl
        have hgx := (hown gn rfl).1
        have hne1 : gn ≠ gx := by omega
        have hne2 : gx ≠ gn := by omega
        obtain ⟨_, e1, _, q1⟩ := hI 1 (g 1) rfl
        cases e1
        obtain ⟨_, e2, _, q2⟩ := hI 2 (g 2) rfl
        cases e2
        obtain ⟨_, e3, _, q3⟩ := hI 3 (g 3) rfl
        cases e3
        clear hy hg hcc hI hown hO HKC HCC HY HG HCT HCW HNB
        go_wp2_with fail
        have hXE := ((((hX.set 4 (.int .i64 (g 0))).set 5 (.int .i64 (g 1))).set 2 (.int .i64 (g 2))).set 3 (.int .i64 (g 3)))
        have hRE := ((((hR.far (p := ⟨gx, 4, none⟩) (Nat.ne_of_lt hzz) (.int .i64 (g 0))).far (p := ⟨gx, 5, none⟩) (Nat.ne_of_lt hzz) (.int .i64 (g 1))).far (p := ⟨gx, 2, none⟩) (Nat.ne_of_lt hzz) (.int .i64 (g 2))).far (p := ⟨gx, 3, none⟩) (Nat.ne_of_lt hzz) (.int .i64 (g 3)))
        have hBE := ((((hB.setCell (p := ⟨gx, 4, none⟩) (Nat.le_of_lt hzz) (.int .i64 (g 0))).setCell (p := ⟨gx, 5, none⟩) (Nat.le_of_lt hzz) (.int .i64 (g 1))).setCell (p := ⟨gx, 2, none⟩) (Nat.le_of_lt hzz) (.int .i64 (g 2))).setCell (p := ⟨gx, 3, none⟩) (Nat.le_of_lt hzz) (.int .i64 (g 3)))
        try simp only [List.setIfInBounds_toArray, List.set_cons_succ, List.set_cons_zero] at hXE
        clear x0 x1 x2 x3 x4 x5 x6 x7 x8 x9 f2 f3 f4 f5 f6 f7 f8 f9 hX hR hB
        generalize ((((wr.setCell ⟨gx, 4, none⟩ (.int .i64 (g 0))).setCell ⟨gx, 5, none⟩ (.int .i64 (g 1))).setCell ⟨gx, 2, none⟩ (.int .i64 (g 2))).setCell ⟨gx, 3, none⟩ (.int .i64 (g 3))) = WE at hXE hRE hBE ⊢
        refine (HWR.out WE hBE).mono ?_
        rintro e w8 ⟨rfl, hb8⟩
        have hB8 := hBE.trans (hb8.mono hBE.size)
        have hR8 := hRE.below hb8 hRE.lt
        have hX8 := hXE.below hb8 hXE.lt
        clear hXE hRE hBE hb8 HWR
        have x0 := hX8.cell 0
        have x1 := hX8.cell 1
        have x2 := hX8.cell 2
        have x3 := hX8.cell 3
        have x4 := hX8.cell 4
        have x5 := hX8.cell 5
        have x6 := hX8.cell 6
        have x7 := hX8.cell 7
        have x8 := hX8.cell 8
        have x9 := hX8.cell 9
        have r0 := hR8.cell 0
        have r1 := hR8.cell 1
        have r2 := hR8.cell 2
        have r3 := hR8.cell 3
        have r4 := hR8.cell 4
        have r5 := hR8.cell 5
        have r6 := hR8.cell 6
        have r7 := hR8.cell 7
        have r8 := hR8.cell 8
        have r9 := hR8.cell 9
        have g0 := hR8.frozen 0
        have g1 := hR8.frozen 1
        have g2 := hR8.frozen 2
        have g3 := hR8.frozen 3
        have g4 := hR8.frozen 4
        have g5 := hR8.frozen 5
        have g6 := hR8.frozen 6
        have g7 := hR8.frozen 7
        have g8 := hR8.frozen 8
        have g9 := hR8.frozen 9
        have hzr8 := hR8.lt
        have hzx8 := hX8.lt
        simp at x0 x1 x2 x3 x4 x5 x6 x7 x8 x9 r0 r1 r2 r3 r4 r5 r6 r7 r8 r9
        have hBf := Lib.hid hB8
        clear hR8 hX8 hB8
        by_cases hgood : an = 0 ∧ aw = s
        · have HR := Lib.hid (HRG.out hgood)
          clear HRG HRB
          obtain ⟨rfl, rfl⟩ := hgood
          go_wp2
          refine bodyPost_ret (v := .tuple #[entVal ⟨d, 2, g 2, g 3, g 0, g 1, 0, 0, 0, ⟨#[]⟩⟩, .int .i64 0]) ?_ rfl ⟨by rw [HR.out], ?_⟩
          · simp [results, Tryz.results10, go_sem, entVal, *]
          · repeat (refine Below.setCell ?_ (by simp; try omega) _)
            exact hBf.out
        · have HR := Lib.hid (HRB.out hgood)
          clear HRG HRB
          by_cases han : an = 0
          · subst han
            have hsn := strEq_false (fun h => hgood ⟨rfl, h⟩)
            clear hgood
            go_wp2
            refine bodyPost_ret (v := .tuple #[entVal (kindEnt 0), .int .i64 4]) ?_ rfl ⟨by rw [HR.out], ?_⟩
            · simp [results, Tryz.results10, go_sem, entVal, kindEnt, *]
            · repeat (refine Below.setCell ?_ (by simp; try omega) _)
              exact hBf.out
          · have hsn : (an != 0) = true := by simpa using han
            clear hgood han
            go_wp2
            refine bodyPost_ret (v := .tuple #[entVal (kindEnt 0), .int .i64 4]) ?_ rfl ⟨by rw [HR.out], ?_⟩
            · simp [results, Tryz.results10, go_sem, entVal, kindEnt, *]
            · repeat (refine Below.setCell ?_ (by simp; try omega) _)
              exact hBf.out
      · obtain rfl : k = 2 := by
          have : (k : Int) = 2 := hcc
          omega
        have hyk : y = ⟨d, 3, g 1, 0, g 0, 0, 0, 0, 0, ⟨#[]⟩⟩ := by
          rw [← hy]
          simp [offs, refNumsOf, numAt, hg]
        subst hyk
        unfold entVal at HWR
        simp only [entCells] at HWR
        obtain ⟨gn, rfl, hgz, q0⟩ := hI 0 (g 0) rfl
        have hgx := (hown gn rfl).1
        have hne1 : gn ≠ gx := by omega
        have hne2 : gx ≠ gn := by omega
        obtain ⟨_, e1, _, q1⟩ := hI 1 (g 1) rfl
        cases e1
        clear hy hg hcc hI hown hO HKC HCC HY HG HCT HCW HNB
        go_wp2_with fail
        have hXE := ((hX.set 4 (.int .i64 (g 0))).set 2 (.int .i64 (g 1)))
        have hRE := ((hR.far (p := ⟨gx, 4, none⟩) (Nat.ne_of_lt hzz) (.int .i64 (g 0))).far (p := ⟨gx, 2, none⟩) (Nat.ne_of_lt hzz) (.int .i64 (g 1)))
        have hBE := ((hB.setCell (p := ⟨gx, 4, none⟩) (Nat.le_of_lt hzz) (.int .i64 (g 0))).setCell (p := ⟨gx, 2, none⟩) (Nat.le_of_lt hzz) (.int .i64 (g 1)))
        try simp only [List.setIfInBounds_toArray, List.set_cons_succ, List.set_cons_zero] at hXE
        clear x0 x1 x2 x3 x4 x5 x6 x7 x8 x9 f2 f3 f4 f5 f6 f7 f8 f9 hX hR hB
        generalize ((wr.setCell ⟨gx, 4, none⟩ (.int .i64 (g 0))).setCell ⟨gx, 2, none⟩ (.int .i64 (g 1))) = WE at hXE hRE hBE ⊢
        refine (HWR.out WE hBE).mono ?_
        rintro e w8 ⟨rfl, hb8⟩
        have hB8 := hBE.trans (hb8.mono hBE.size)
        have hR8 := hRE.below hb8 hRE.lt
        have hX8 := hXE.below hb8 hXE.lt
        clear hXE hRE hBE hb8 HWR
        have x0 := hX8.cell 0
        have x1 := hX8.cell 1
        have x2 := hX8.cell 2
        have x3 := hX8.cell 3
        have x4 := hX8.cell 4
        have x5 := hX8.cell 5
        have x6 := hX8.cell 6
        have x7 := hX8.cell 7
        have x8 := hX8.cell 8
        have x9 := hX8.cell 9
        have r0 := hR8.cell 0
        have r1 := hR8.cell 1
        have r2 := hR8.cell 2
        have r3 := hR8.cell 3
        have r4 := hR8.cell 4
        have r5 := hR8.cell 5
        have r6 := hR8.cell 6
        have r7 := hR8.cell 7
        have r8 := hR8.cell 8
        have r9 := hR8.cell 9
        have g0 := hR8.frozen 0
        have g1 := hR8.frozen 1
        have g2 := hR8.frozen 2
        have g3 := hR8.frozen 3
        have g4 := hR8.frozen 4
        have g5 := hR8.frozen 5
        have g6 := hR8.frozen 6
        have g7 := hR8.frozen 7
        have g8 := hR8.frozen 8
        have g9 := hR8.frozen 9
        have hzr8 := hR8.lt
        have hzx8 := hX8.lt
        simp at x0 x1 x2 x3 x4 x5 x6 x7 x8 x9 r0 r1 r2 r3 r4 r5 r6 r7 r8 r9
        have hBf := Lib.hid hB8
        clear hR8 hX8 hB8
        by_cases hgood : an = 0 ∧ aw = s
        · have HR := Lib.hid (HRG.out hgood)
          clear HRG HRB
          obtain ⟨rfl, rfl⟩ := hgood
          go_wp2
          refine bodyPost_ret (v := .tuple #[entVal ⟨d, 3, g 1, 0, g 0, 0, 0, 0, 0, ⟨#[]⟩⟩, .int .i64 0]) ?_ rfl ⟨by rw [HR.out], ?_⟩
          · simp [results, Tryz.results10, go_sem, entVal, *]
          · repeat (refine Below.setCell ?_ (by simp; try omega) _)
            exact hBf.out
        · have HR := Lib.hid (HRB.out hgood)
          clear HRG HRB
          by_cases han : an = 0
          · subst han
            have hsn := strEq_false (fun h => hgood ⟨rfl, h⟩)
            clear hgood
            go_wp2
            refine bodyPost_ret (v := .tuple #[entVal (kindEnt 0), .int .i64 4]) ?_ rfl ⟨by rw [HR.out], ?_⟩
            · simp [results, Tryz.results10, go_sem, entVal, kindEnt, *]
            · repeat (refine Below.setCell ?_ (by simp; try omega) _)
              exact hBf.out
          · have hsn : (an != 0) = true := by simpa using han
            clear hgood han
            go_wp2
            refine bodyPost_ret (v := .tuple #[entVal (kindEnt 0), .int .i64 4]) ?_ rfl ⟨by rw [HR.out], ?_⟩
            · simp [results, Tryz.results10, go_sem, entVal, kindEnt, *]
            · repeat (refine Below.setCell ?_ (by simp; try omega) _)
              exact hBf.out
      · obtain rfl : k = 4 := by
          have : (k : Int) = 4 := hcc
          omega
        have hyk : y = ⟨d, 4, g 2, g 3, g 0, 0, g 1, 0, 0, ⟨#[]⟩⟩ := by
          rw [← hy]
          simp [offs, refNumsOf, numAt, hg]
        subst hyk
        unfold entVal at HWR
        simp only [entCells] at HWR
        obtain ⟨gn, rfl, hgz, q0⟩ := hI 0 (g 0) rfl
        have hgx := (hown gn rfl).1
        have hne1 : gn ≠ gx := by omega
        have hne2 : gx ≠ gn := by omega
        obtain ⟨_, e1, _, q1⟩ := hI 1 (g 1) rfl
        cases e1
        obtain ⟨_, e2, _, q2⟩ := hI 2 (g 2) rfl
        cases e2
        obtain ⟨_, e3, _, q3⟩ := hI 3 (g 3) rfl
        cases e3
        clear hy hg hcc hI hown hO HKC HCC HY HG HCT HCW HNB
        go_wp2_with fail
        have hXE := ((((hX.set 4 (.int .i64 (g 0))).set 6 (.int .i64 (g 1))).set 2 (.int .i64 (g 2))).set 3 (.int .i64 (g 3)))
        have hRE := ((((hR.far (p := ⟨gx, 4, none⟩) (Nat.ne_of_lt hzz) (.int .i64 (g 0))).far (p := ⟨gx, 6, none⟩) (Nat.ne_of_lt hzz) (.int .i64 (g 1))).far (p := ⟨gx, 2, none⟩) (Nat.ne_of_lt hzz) (.int .i64 (g 2))).far (p := ⟨gx, 3, none⟩) (Nat.ne_of_lt hzz) (.int .i64 (g 3)))
        have hBE := ((((hB.setCell (p := ⟨gx, 4, none⟩) (Nat.le_of_lt hzz) (.int .i64 (g 0))).setCell (p := ⟨gx, 6, none⟩) (Nat.le_of_lt hzz) (.int .i64 (g 1))).setCell (p := ⟨gx, 2, none⟩) (Nat.le_of_lt hzz) (.int .i64 (g 2))).setCell (p := ⟨gx, 3, none⟩) (Nat.le_of_lt hzz) (.int .i64 (g 3)))
        try simp only [List.setIfInBounds_toArray, List.set_cons_succ, List.set_cons_zero] at hXE
        clear x0 x1 x2 x3 x4 x5 x6 x7 x8 x9 f2 f3 f4 f5 f6 f7 f8 f9 hX hR hB
        generalize ((((wr.setCell ⟨gx, 4, none⟩ (.int .i64 (g 0))).setCell ⟨gx, 6, none⟩ (.int .i64 (g 1))).setCell ⟨gx, 2, none⟩ (.int .i64 (g 2))).setCell ⟨gx, 3, none⟩ (.int .i64 (g 3))) = WE at hXE hRE hBE ⊢
        refine (HWR.out WE hBE).mono ?_
        rintro e w8 ⟨rfl, hb8⟩
        have hB8 := hBE.trans (hb8.mono hBE.size)
        have hR8 := hRE.below hb8 hRE.lt
        have hX8 := hXE.below hb8 hXE.lt
        clear hXE hRE hBE hb8 HWR
        have x0 := hX8.cell 0
        have x1 := hX8.cell 1
        have x2 := hX8.cell 2
        have x3 := hX8.cell 3
        have x4 := hX8.cell 4
        have x5 := hX8.cell 5
        have x6 := hX8.cell 6
        have x7 := hX8.cell 7
        have x8 := hX8.cell 8
        have x9 := hX8.cell 9
        have r0 := hR8.cell 0
        have r1 := hR8.cell 1
        have r2 := hR8.cell 2
        have r3 := hR8.cell 3
        have r4 := hR8.cell 4
        have r5 := hR8.cell 5
        have r6 := hR8.cell 6
        have r7 := hR8.cell 7
        have r8 := hR8.cell 8
        have r9 := hR8.cell 9
        have g0 := hR8.frozen 0
        have g1 := hR8.frozen 1
        have g2 := hR8.frozen 2
        have g3 := hR8.frozen 3
        have g4 := hR8.frozen 4
        have g5 := hR8.frozen 5
        have g6 := hR8.frozen 6
        have g7 := hR8.frozen 7
        have g8 := hR8.frozen 8
        have g9 := hR8.frozen 9
        have hzr8 := hR8.lt
        have hzx8 := hX8.lt
        simp at x0 x1 x2 x3 x4 x5 x6 x7 x8 x9 r0 r1 r2 r3 r4 r5 r6 r7 r8 r9
        have hBf := Lib.hid hB8
        clear hR8 hX8 hB8
        by_cases hgood : an = 0 ∧ aw = s
        · have HR := Lib.hid (HRG.out hgood)
          clear HRG HRB
          obtain ⟨rfl, rfl⟩ := hgood
          go_wp2
          refine bodyPost_ret (v := .tuple #[entVal ⟨d, 4, g 2, g 3, g 0, 0, g 1, 0, 0, ⟨#[]⟩⟩, .int .i64 0]) ?_ rfl ⟨by rw [HR.out], ?_⟩
          · simp [results, Tryz.results10, go_sem, entVal, *]
          · repeat (refine Below.setCell ?_ (by simp; try omega) _)
            exact hBf.out
        · have HR := Lib.hid (HRB.out hgood)
          clear HRG HRB
          by_cases han : an = 0
          · subst han
            have hsn := strEq_false (fun h => hgood ⟨rfl, h⟩)
            clear hgood
            go_wp2
            refine bodyPost_ret (v := .tuple #[entVal (kindEnt 0), .int .i64 4]) ?_ rfl ⟨by rw [HR.out], ?_⟩
            · simp [results, Tryz.results10, go_sem, entVal, kindEnt, *]
            · repeat (refine Below.setCell ?_ (by simp; try omega) _)
              exact hBf.out
          · have hsn : (an != 0) = true := by simpa using han
            clear hgood han
            go_wp2
            refine bodyPost_ret (v := .tuple #[entVal (kindEnt 0), .int .i64 4]) ?_ rfl ⟨by rw [HR.out], ?_⟩
            · simp [results, Tryz.results10, go_sem, entVal, kindEnt, *]
            · repeat (refine Below.setCell ?_ (by simp; try omega) _)
              exact hBf.out
      · obtain rfl : k = 7 := by
          have : (k : Int) = 7 := hcc
          omega
        have hyk : y = ⟨d, 5, g 5, g 6, g 1, g 2, g 3, g 4, g 0, ⟨#[]⟩⟩ := by
          rw [← hy]
          simp [offs, refNumsOf, numAt, hg]
        subst hyk
        unfold entVal at HWR
        simp only [entCells] at HWR
        obtain ⟨gn, rfl, hgz, q0⟩ := hI 0 (g 0) rfl
        have hgx := (hown gn rfl).1
        have hne1 : gn ≠ gx := by omega
        have hne2 : gx ≠ gn := by omega
        obtain ⟨_, e1, _, q1⟩ := hI 1 (g 1) rfl
        cases e1
        obtain ⟨_, e2, _, q2⟩ := hI 2 (g 2) rfl
        cases e2
        obtain ⟨_, e3, _, q3⟩ := hI 3 (g 3) rfl
        cases e3
        obtain ⟨_, e4, _, q4⟩ := hI 4 (g 4) rfl
        cases e4
        obtain ⟨_, e5, _, q5⟩ := hI 5 (g 5) rfl
        cases e5
        obtain ⟨_, e6, _, q6⟩ := hI 6 (g 6) rfl
        cases e6
        clear hy hg hcc hI hown hO HKC HCC HY HG HCT HCW HNB
        go_wp2_with fail
        have hXE := (((((((hX.set 8 (.int .i64 (g 0))).set 4 (.int .i64 (g 1))).set 5 (.int .i64 (g 2))).set 6 (.int .i64 (g 3))).set 7 (.int .i64 (g 4))).set 2 (.int .i64 (g 5))).set 3 (.int .i64 (g 6)))
        have hRE := (((((((hR.far (p := ⟨gx, 8, none⟩) (Nat.ne_of_lt hzz) (.int .i64 (g 0))).far (p := ⟨gx, 4, none⟩) (Nat.ne_of_lt hzz) (.int .i64 (g 1))).far (p := ⟨gx, 5, none⟩) (Nat.ne_of_lt hzz) (.int .i64 (g 2))).far (p := ⟨gx, 6, none⟩) (Nat.ne_of_lt hzz) (.int .i64 (g 3))).far (p := ⟨gx, 7, none⟩) (Nat.ne_of_lt hzz) (.int .i64 (g 4))).far (p := ⟨gx, 2, none⟩) (Nat.ne_of_lt hzz) (.int .i64 (g 5))).far (p := ⟨gx, 3, none⟩) (Nat.ne_of_lt hzz) (.int .i64 (g 6)))
        have hBE := (((((((hB.setCell (p := ⟨gx, 8, none⟩) (Nat.le_of_lt hzz) (.int .i64 (g 0))).setCell (p := ⟨gx, 4, none⟩) (Nat.le_of_lt hzz) (.int .i64 (g 1))).setCell (p := ⟨gx, 5, none⟩) (Nat.le_of_lt hzz) (.int .i64 (g 2))).setCell (p := ⟨gx, 6, none⟩) (Nat.le_of_lt hzz) (.int .i64 (g 3))).setCell (p := ⟨gx, 7, none⟩) (Nat.le_of_lt hzz) (.int .i64 (g 4))).setCell (p := ⟨gx, 2, none⟩) (Nat.le_of_lt hzz) (.int .i64 (g 5))).setCell (p := ⟨gx, 3, none⟩) (Nat.le_of_lt hzz) (.int .i64 (g 6)))
        try simp only [List.setIfInBounds_toArray, List.set_cons_succ, List.set_cons_zero] at hXE
        clear x0 x1 x2 x3 x4 x5 x6 x7 x8 x9 f2 f3 f4 f5 f6 f7 f8 f9 hX hR hB
        generalize (((((((wr.setCell ⟨gx, 8, none⟩ (.int .i64 (g 0))).setCell ⟨gx, 4, none⟩ (.int .i64 (g 1))).setCell ⟨gx, 5, none⟩ (.int .i64 (g 2))).setCell ⟨gx, 6, none⟩ (.int .i64 (g 3))).setCell ⟨gx, 7, none⟩ (.int .i64 (g 4))).setCell ⟨gx, 2, none⟩ (.int .i64 (g 5))).setCell ⟨gx, 3, none⟩ (.int .i64 (g 6))) = WE at hXE hRE hBE ⊢
        refine (HWR.out WE hBE).mono ?_
        rintro e w8 ⟨rfl, hb8⟩
        have hB8 := hBE.trans (hb8.mono hBE.size)
        have hR8 := hRE.below hb8 hRE.lt
        have hX8 := hXE.below hb8 hXE.lt
        clear hXE hRE hBE hb8 HWR
        have x0 := hX8.cell 0
        have x1 := hX8.cell 1
        have x2 := hX8.cell 2
        have x3 := hX8.cell 3
        have x4 := hX8.cell 4
        have x5 := hX8.cell 5
        have x6 := hX8.cell 6
        have x7 := hX8.cell 7
        have x8 := hX8.cell 8
        have x9 := hX8.cell 9
        have r0 := hR8.cell 0
        have r1 := hR8.cell 1
        have r2 := hR8.cell 2
        have r3 := hR8.cell 3
        have r4 := hR8.cell 4
        have r5 := hR8.cell 5
        have r6 := hR8.cell 6
        have r7 := hR8.cell 7
        have r8 := hR8.cell 8
        have r9 := hR8.cell 9
        have g0 := hR8.frozen 0
        have g1 := hR8.frozen 1
        have g2 := hR8.frozen 2
        have g3 := hR8.frozen 3
        have g4 := hR8.frozen 4
        have g5 := hR8.frozen 5
        have g6 := hR8.frozen 6
        have g7 := hR8.frozen 7
        have g8 := hR8.frozen 8
        have g9 := hR8.frozen 9
        have hzr8 := hR8.lt
        have hzx8 := hX8.lt
        simp at x0 x1 x2 x3 x4 x5 x6 x7 x8 x9 r0 r1 r2 r3 r4 r5 r6 r7 r8 r9
        have hBf := Lib.hid hB8
        clear hR8 hX8 hB8
        by_cases hgood : an = 0 ∧ aw = s
        · have HR := Lib.hid (HRG.out hgood)
          clear HRG HRB
          obtain ⟨rfl, rfl⟩ := hgood
          go_wp2
          refine bodyPost_ret (v := .tuple #[entVal ⟨d, 5, g 5, g 6, g 1, g 2, g 3, g 4, g 0, ⟨#[]⟩⟩, .int .i64 0]) ?_ rfl ⟨by rw [HR.out], ?_⟩
          · simp [results, Tryz.results10, go_sem, entVal, *]
          · repeat (refine Below.setCell ?_ (by simp; try omega) _)
            exact hBf.out
        · have HR := Lib.hid (HRB.out hgood)
          clear HRG HRB
          by_cases han : an = 0
          · subst han
            have hsn := strEq_false (fun h => hgood ⟨rfl, h⟩)
            clear hgood
            go_wp2
            refine bodyPost_ret (v := .tuple #[entVal (kindEnt 0), .int .i64 4]) ?_ rfl ⟨by rw [HR.out], ?_⟩
            · simp [results, Tryz.results10, go_sem, entVal, kindEnt, *]
            · repeat (refine Below.setCell ?_ (by simp; try omega) _)
              exact hBf.out
          · have hsn : (an != 0) = true := by simpa using han
            clear hgood han
            go_wp2
            refine bodyPost_ret (v := .tuple #[entVal (kindEnt 0), .int .i64 4]) ?_ rfl ⟨by rw [HR.out], ?_⟩
            · simp [results, Tryz.results10, go_sem, entVal, kindEnt, *]
            · repeat (refine Below.setCell ?_ (by simp; try omega) _)
              exact hBf.out
      · obtain rfl : k = 2 := by
          have : (k : Int) = 2 := hcc
          omega
        have hyk : y = ⟨d, 6, g 1, 0, 0, 0, 0, 0, g 0, ⟨#[]⟩⟩ := by
          rw [← hy]
          simp [offs, refNumsOf, numAt, hg]
        subst hyk
        unfold entVal at HWR
        simp only [entCells] at HWR
        obtain ⟨gn, rfl, hgz, q0⟩ := hI 0 (g 0) rfl
        have hgx := (hown gn rfl).1
        have hne1 : gn ≠ gx := by omega
        have hne2 : gx ≠ gn := by omega
        obtain ⟨_, e1, _, q1⟩ := hI 1 (g 1) rfl
        cases e1
        clear hy hg hcc hI hown hO HKC HCC HY HG HCT HCW HNB
        go_wp2_with fail
        have hXE := ((hX.set 8 (.int .i64 (g 0))).set 2 (.int .i64 (g 1)))
        have hRE := ((hR.far (p := ⟨gx, 8, none⟩) (Nat.ne_of_lt hzz) (.int .i64 (g 0))).far (p := ⟨gx, 2, none⟩) (Nat.ne_of_lt hzz) (.int .i64 (g 1)))
        have hBE := ((hB.setCell (p := ⟨gx, 8, none⟩) (Nat.le_of_lt hzz) (.int .i64 (g 0))).setCell (p := ⟨gx, 2, none⟩) (Nat.le_of_lt hzz) (.int .i64 (g 1)))
        try simp only [List.setIfInBounds_toArray, List.set_cons_succ, List.set_cons_zero] at hXE
        clear x0 x1 x2 x3 x4 x5 x6 x7 x8 x9 f2 f3 f4 f5 f6 f7 f8 f9 hX hR hB
        generalize ((wr.setCell ⟨gx, 8, none⟩ (.int .i64 (g 0))).setCell ⟨gx, 2, none⟩ (.int .i64 (g 1))) = WE at hXE hRE hBE ⊢
        refine (HWR.out WE hBE).mono ?_
        rintro e w8 ⟨rfl, hb8⟩
        have hB8 := hBE.trans (hb8.mono hBE.size)
        have hR8 := hRE.below hb8 hRE.lt
        have hX8 := hXE.below hb8 hXE.lt
        clear hXE hRE hBE hb8 HWR
        have x0 := hX8.cell 0
        have x1 := hX8.cell 1
        have x2 := hX8.cell 2
        have x3 := hX8.cell 3
        have x4 := hX8.cell 4
        have x5 := hX8.cell 5
        have x6 := hX8.cell 6
        have x7 := hX8.cell 7
        have x8 := hX8.cell 8
        have x9 := hX8.cell 9
        have r0 := hR8.cell 0
        have r1 := hR8.cell 1
        have r2 := hR8.cell 2
        have r3 := hR8.cell 3
        have r4 := hR8.cell 4
        have r5 := hR8.cell 5
        have r6 := hR8.cell 6
        have r7 := hR8.cell 7
        have r8 := hR8.cell 8
        have r9 := hR8.cell 9
        have g0 := hR8.frozen 0
        have g1 := hR8.frozen 1
        have g2 := hR8.frozen 2
        have g3 := hR8.frozen 3
        have g4 := hR8.frozen 4
        have g5 := hR8.frozen 5
        have g6 := hR8.frozen 6
        have g7 := hR8.frozen 7
        have g8 := hR8.frozen 8
        have g9 := hR8.frozen 9
        have hzr8 := hR8.lt
        have hzx8 := hX8.lt
        simp at x0 x1 x2 x3 x4 x5 x6 x7 x8 x9 r0 r1 r2 r3 r4 r5 r6 r7 r8 r9
        have hBf := Lib.hid hB8
        clear hR8 hX8 hB8
        by_cases hgood : an = 0 ∧ aw = s
        · have HR := Lib.hid (HRG.out hgood)
          clear HRG HRB
          obtain ⟨rfl, rfl⟩ := hgood
          go_wp2
          refine bodyPost_ret (v := .tuple #[entVal ⟨d, 6, g 1, 0, 0, 0, 0, 0, g 0, ⟨#[]⟩⟩, .int .i64 0]) ?_ rfl ⟨by rw [HR.out], ?_⟩
          · simp [results, Tryz.results10, go_sem, entVal, *]
          · repeat (refine Below.setCell ?_ (by simp; try omega) _)
            exact hBf.out
        · have HR := Lib.hid (HRB.out hgood)
          clear HRG HRB
          by_cases han : an = 0
          · subst han
            have hsn := strEq_false (fun h => hgood ⟨rfl, h⟩)
            clear hgood
            go_wp2
            refine bodyPost_ret (v := .tuple #[entVal (kindEnt 0), .int .i64 4]) ?_ rfl ⟨by rw [HR.out], ?_⟩
            · simp [results, Tryz.results10, go_sem, entVal, kindEnt, *]
            · repeat (refine Below.setCell ?_ (by simp; try omega) _)
              exact hBf.out
          · have hsn : (an != 0) = true := by simpa using han
            clear hgood han
            go_wp2
            refine bodyPost_ret (v := .tuple #[entVal (kindEnt 0), .int .i64 4]) ?_ rfl ⟨by rw [HR.out], ?_⟩
            · simp [results, Tryz.results10, go_sem, entVal, kindEnt, *]
            · repeat (refine Below.setCell ?_ (by simp; try omega) _)
              exact hBf.out
      · obtain rfl : k = 5 := by
          have : (k : Int) = 5 := hcc
          omega
        have hyk : y = ⟨d, 7, g 3, g 4, g 0, g 1, g 2, 0, 0, ⟨#[]⟩⟩ := by
          rw [← hy]
          simp [offs, refNumsOf, numAt, hg]
        subst hyk
        unfold entVal at HWR
        simp only [entCells] at HWR
        obtain ⟨gn, rfl, hgz, q0⟩ := hI 0 (g 0) rfl
        have hgx := (hown gn rfl).1
        have hne1 : gn ≠ gx := by omega
        have hne2 : gx ≠ gn := by omega
        obtain ⟨_, e1, _, q1⟩ := hI 1 (g 1) rfl
        cases e1
        obtain ⟨_, e2, _, q2⟩ := hI 2 (g 2) rfl
        cases e2
        obtain ⟨_, e3, _, q3⟩ := hI 3 (g 3) rfl
        cases e3
        obtain ⟨_, e4, _, q4⟩ := hI 4 (g 4) rfl
        cases e4
        clear hy hg hcc hI hown hO HKC HCC HY HG HCT HCW HNB
        go_wp2_with fail
        have hXE := (((((hX.set 4 (.int .i64 (g 0))).set 5 (.int .i64 (g 1))).set 6 (.int .i64 (g 2))).set 2 (.int .i64 (g 3))).set 3 (.int .i64 (g 4)))
        have hRE := (((((hR.far (p := ⟨gx, 4, none⟩) (Nat.ne_of_lt hzz) (.int .i64 (g 0))).far (p := ⟨gx, 5, none⟩) (Nat.ne_of_lt hzz) (.int .i64 (g 1))).far (p := ⟨gx, 6, none⟩) (Nat.ne_of_lt hzz) (.int .i64 (g 2))).far (p := ⟨gx, 2, none⟩) (Nat.ne_of_lt hzz) (.int .i64 (g 3))).far (p := ⟨gx, 3, none⟩) (Nat.ne_of_lt hzz) (.int .i64 (g 4)))
        have hBE := (((((hB.setCell (p := ⟨gx, 4, none⟩) (Nat.le_of_lt hzz) (.int .i64 (g 0))).setCell (p := ⟨gx, 5, none⟩) (Nat.le_of_lt hzz) (.int .i64 (g 1))).setCell (p := ⟨gx, 6, none⟩) (Nat.le_of_lt hzz) (.int .i64 (g 2))).setCell (p := ⟨gx, 2, none⟩) (Nat.le_of_lt hzz) (.int .i64 (g 3))).setCell (p := ⟨gx, 3, none⟩) (Nat.le_of_lt hzz) (.int .i64 (g 4)))
        try simp only [List.setIfInBounds_toArray, List.set_cons_succ, List.set_cons_zero] at hXE
        clear x0 x1 x2 x3 x4 x5 x6 x7 x8 x9 f2 f3 f4 f5 f6 f7 f8 f9 hX hR hB
        generalize (((((wr.setCell ⟨gx, 4, none⟩ (.int .i64 (g 0))).setCell ⟨gx, 5, none⟩ (.int .i64 (g 1))).setCell ⟨gx, 6, none⟩ (.int .i64 (g 2))).setCell ⟨gx, 2, none⟩ (.int .i64 (g 3))).setCell ⟨gx, 3, none⟩ (.int .i64 (g 4))) = WE at hXE hRE hBE ⊢
        refine (HWR.out WE hBE).mono ?_
        rintro e w8 ⟨rfl, hb8⟩
        have hB8 := hBE.trans (hb8.mono hBE.size)
        have hR8 := hRE.below hb8 hRE.lt
        have hX8 := hXE.below hb8 hXE.lt
        clear hXE hRE hBE hb8 HWR
        have x0 := hX8.cell 0
        have x1 := hX8.cell 1
        have x2 := hX8.cell 2
        have x3 := hX8.cell 3
        have x4 := hX8.cell 4
        have x5 := hX8.cell 5
        have x6 := hX8.cell 6
        have x7 := hX8.cell 7
        have x8 := hX8.cell 8
        have x9 := hX8.cell 9
        have r0 := hR8.cell 0
        have r1 := hR8.cell 1
        have r2 := hR8.cell 2
        have r3 := hR8.cell 3
        have r4 := hR8.cell 4
        have r5 := hR8.cell 5
        have r6 := hR8.cell 6
        have r7 := hR8.cell 7
        have r8 := hR8.cell 8
        have r9 := hR8.cell 9
        have g0 := hR8.frozen 0
        have g1 := hR8.frozen 1
        have g2 := hR8.frozen 2
        have g3 := hR8.frozen 3
        have g4 := hR8.frozen 4
        have g5 := hR8.frozen 5
        have g6 := hR8.frozen 6
        have g7 := hR8.frozen 7
        have g8 := hR8.frozen 8
        have g9 := hR8.frozen 9
        have hzr8 := hR8.lt
        have hzx8 := hX8.lt
        simp at x0 x1 x2 x3 x4 x5 x6 x7 x8 x9 r0 r1 r2 r3 r4 r5 r6 r7 r8 r9
        have hBf := Lib.hid hB8
        clear hR8 hX8 hB8
        by_cases hgood : an = 0 ∧ aw = s
        · have HR := Lib.hid (HRG.out hgood)
          clear HRG HRB
          obtain ⟨rfl, rfl⟩ := hgood
          go_wp2
          refine bodyPost_ret (v := .tuple #[entVal ⟨d, 7, g 3, g 4, g 0, g 1, g 2, 0, 0, ⟨#[]⟩⟩, .int .i64 0]) ?_ rfl ⟨by rw [HR.out], ?_⟩
          · simp [results, Tryz.results10, go_sem, entVal, *]
          · repeat (refine Below.setCell ?_ (by simp; try omega) _)
            exact hBf.out
        · have HR := Lib.hid (HRB.out hgood)
          clear HRG HRB
          by_cases han : an = 0
          · subst han
            have hsn := strEq_false (fun h => hgood ⟨rfl, h⟩)
            clear hgood
            go_wp2
            refine bodyPost_ret (v := .tuple #[entVal (kindEnt 0), .int .i64 4]) ?_ rfl ⟨by rw [HR.out], ?_⟩
            · simp [results, Tryz.results10, go_sem, entVal, kindEnt, *]
            · repeat (refine Below.setCell ?_ (by simp; try omega) _)
              exact hBf.out
          · have hsn : (an != 0) = true := by simpa using han
            clear hgood han
            go_wp2
            refine bodyPost_ret (v := .tuple #[entVal (kindEnt 0), .int .i64 4]) ?_ rfl ⟨by rw [HR.out], ?_⟩
            · simp [results, Tryz.results10, go_sem, entVal, kindEnt, *]
            · repeat (refine Below.setCell ?_ (by simp; try omega) _)
              exact hBf.out

/-- The reference's Read of any line. -/
theorem refRead_all (s : ByteArray) (hs : s.size ≤ maxLen) (w : World) (hT : PowAt w) :
    Calls Tryz.prog 10 #[.string s] w fun e w' => e = .returned (match readE s with | some x => .tuple #[entVal x, .int .i64 0] | none => .tuple #[entVal (kindEnt 0), .int .i64 4]) ∧ Below w.heap.size w w' := by
  have h := ref_reads s
  refine refRead_run s hs _ rfl _ _ rfl rfl w hT _ (fun hg => ?_) (fun hb => ?_)
  · have h0 := hg.1
    have h1 := hg.2
    rw [if_pos h0] at h1
    rw [if_pos ⟨h0, h1⟩] at h
    rw [← h]
  · by_cases h0 : ckE (refSays s) = 0
    · have h1 : lineB (refSays s) ≠ s := fun h1 => hb ⟨h0, by rw [if_pos h0]; exact h1⟩
      rw [if_neg (fun hh => h1 hh.2)] at h
      rw [← h]
    · rw [if_neg (fun hh => h0 hh.1)] at h
      rw [← h]
end Go.Proofs.YthbgmhhbkojcmaaGreatDoor
