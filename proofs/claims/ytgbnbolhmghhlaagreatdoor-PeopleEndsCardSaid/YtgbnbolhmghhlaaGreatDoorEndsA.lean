/- PeopleEnds returns true for every list of entries, every pair, sender and day, and leaves its arguments as they were; the package variables that it names start as the program's text lays them (the card ties them). -/
import Derived.Test.YtgbnbolhmghhlaaGreatDoorAliveA
import Derived.Test.YtgbnbolhmghhlaaGreatDoorOpenA
import Derived.Test.YtgbnbolhmghhlaaGreatDoorFolC
import Derived.Lib.QuietBelow
import Derived.BigQuiet
namespace Go.Proofs.YtgbnbolhmghhlaaGreatDoor
open Go.ChangeShapes Go.WideShapes Go.ChangeAt Go.RowKit Go.Sort

set_option maxRecDepth 100000 in
set_option maxHeartbeats 8000000 in
theorem ends_walk (A : Option Addr) (c : Nat) (l : List OEnt) (cp : Int × Int) (s d : Int) (hI : ∀ x ∈ l, intB x.1.place ∧ intB x.1.at') (w : World) (hL : EntsLie w w.heap.size A (l.map (·.1))) (_ : l.length ≤ maxLen) (hm : MaxAt w) :
    Calls Tryz.prog 7 #[.slice A l.length c, candVal cp, .int .i64 s, .int .i64 d] w fun e w' => e = .returned (.bool true) ∧ Below w.heap.size w w' := by
  have H0 := Lib.hid fun W => refFew_any A l.length c W
  have H3 : Hid (∀ W, Below w.heap.size w W → _) := Lib.hid fun W (hW : Below w.heap.size w W) => alive_any W (hm.below hm.lt hW)
  by_cases h60 : l.length ≤ 60
  · have H1 : Hid (∀ W, Below w.heap.size w W → _) := Lib.hid fun W (hW : Below w.heap.size w W) => follows_any A c l d s cp hI h60 W (hL.up hW hW.size)
    have HI : Hid ((l.length : Int) ≤ 60) := Lib.hid (by omega)
    obtain ⟨p, q⟩ := cp
    unfold candVal rtVal at *
    dsimp only at H1 ⊢
    have H60 := Lib.hid h60
    clear hI hL hm
    go_enter Tryz.func7, Tryz.ntmps7
    go_wp2_with fail
    refine (H0.out _).mono ?_
    rintro e w0 ⟨rfl, rfl⟩
    rw [decide_eq_true HI.out]
    have hB0 : Below w.heap.size w (w.alloc (.cells #[.int .i64 p, .int .i64 q] 24)) := below_al (Below.refl _ _) _
    have kC := Blk.new w 24 #[.int .i64 p, .int .i64 q]
    generalize w.alloc (.cells _ 24) = w0 at hB0 kC ⊢
    have e0 := kC.cell 0
    have e1 := kC.cell 1
    have zC := kC.lt
    simp at e0 e1
    go_wp2_with fail
    refine (H1.out _ hB0).mono ?_
    rintro e w1 ⟨hb1, ⟨k, ⟨f1, f2⟩, hops, back⟩, hv, x, rfl, hO, hF, hx⟩
    dsimp only at hO hF hx ⊢
    obtain ⟨A2, c2, rfl⟩ := hO.shape
    have hB1 := hB0.trans (hb1.mono hB0.size)
    replace kC := Blk.below kC hb1 (Blk.lt kC)
    clear hb1 e0 e1 zC H0 H1
    have e0 := Blk.cell kC 0
    have e1 := Blk.cell kC 1
    have zC := Blk.lt kC
    simp at e0 e1
    rcases hF with ⟨rfl, hF⟩ | ⟨rfl, hr⟩
    rotate_left
    · obtain ⟨rfl, hr, rfl, rfl⟩ : k = 0 ∧ (f1, f2) = (0, 0) ∧ hops = [] ∧ back = 0 := by cases hr; exact ⟨rfl, rfl, rfl, rfl⟩
      cases hr
      clear hx
      have hBx := hB1.alloc hB1.size (.cells #[.int .u8 0, .int .i64 0, .int .i64 0, .slice A2 0 c2, .int .i64 0] 42)
      have kR := Blk.new w1 42 #[.int .u8 0, .int .i64 0, .int .i64 0, .slice A2 0 c2, .int .i64 0]
      go_wp2_with fail
      generalize w1.alloc (.cells _ 42) = w2 at hBx kR ⊢
      refine (H3.out _ hBx).mono ?_
      rintro e w3 ⟨rfl, hb3⟩
      have hB3 := hBx.trans (hb3.mono hBx.size)
      replace kR := Blk.below kR hb3 (Blk.lt kR)
      have r0 := kR.cell 0
      have r3 := kR.cell 3
      have zR := kR.lt
      simp at r0 r3
      go_wp2_with fail
      go_ret
      exact ⟨rfl, hB3⟩
    · have hval := hx.1 rfl
      simp only [Bool.and_eq_true] at hval
      have hcp := valid_int hval.1.1.1 hval.1.1.2
      have HE := Lib.hid (hF.ended (Way.start l d (p, q)))
      clear hx hval
      have hBx := hB1.alloc hB1.size (.cells #[.int .u8 k, .int .i64 f1, .int .i64 f2, .slice A2 hops.length c2, .int .i64 back] 42)
      have kR := Blk.new w1 42 #[.int .u8 k, .int .i64 f1, .int .i64 f2, .slice A2 hops.length c2, .int .i64 back]
      have hRow : 0 < hops.length → ∃ g, A2 = some ⟨g, 0, none⟩ ∧ RowH (w1.alloc (.cells #[.int .u8 k, .int .i64 f1, .int .i64 f2, .slice A2 hops.length c2, .int .i64 back] 42)) g hops ∧ g < w1.heap.size := fun h0 => by
        obtain ⟨g, h1, _, h2⟩ := hO.row h0
        exact ⟨g, h1, h2.keep ((Keeps.refl (fun i => i = w1.heap.size) w1).alloc _) (by have := h2.1; omega), h2.1⟩
      have HRow := Lib.hid hRow
      clear hRow hO hF HI
      have kA : Blk ((w1.alloc (.cells #[.int .u8 k, .int .i64 f1, .int .i64 f2, .slice A2 hops.length c2, .int .i64 back] 42)).alloc (.cells #[.int .i64 p, .int .i64 q] 24)) (w1.heap.size + 1) 24 #[.int .i64 p, .int .i64 q] := at_new (by simp)
      have kR2 := kR.alloc (.cells #[.int .i64 p, .int .i64 q] 24)
      have hBy := hBx.alloc hBx.size (.cells #[.int .i64 p, .int .i64 q] 24)
      have hRow2 : 0 < hops.length → ∃ g, A2 = some ⟨g, 0, none⟩ ∧ RowH ((w1.alloc (.cells #[.int .u8 k, .int .i64 f1, .int .i64 f2, .slice A2 hops.length c2, .int .i64 back] 42)).alloc (.cells #[.int .i64 p, .int .i64 q] 24)) g hops ∧ g < w1.heap.size := fun h0 => by
        obtain ⟨g, h1, h2, h3⟩ := HRow.out h0
        exact ⟨g, h1, h2.keep ((Keeps.refl (fun _ => False) _).alloc _) (fun h => h), h3⟩
      replace HRow := Lib.hid hRow2
      clear hRow2
      go_wp2_with fail
      generalize (w1.alloc (.cells _ 42)).alloc (.cells _ 24) = w2 at hBy kA kR2 HRow ⊢
      obtain ⟨e, hch, hfin⟩ := HE.out.chain
      dsimp only at hch hfin
      have HCH := Lib.hid hch
      have HFin := Lib.hid hfin
      have hz2 : w1.heap.size + 1 < w2.heap.size := kA.lt
      have hlN : hops.length ≤ 61 := by
        have h1 := HE.out.len
        have h2 := H60.out
        dsimp only at h1
        omega
      clear hch hfin kC zC e0 e1 hBx kR hcp h60
      go_loopw [45] (fun i wr => ∃ (j : Nat) (a : Int × Int), j ≤ hops.length ∧ i = .int .i64 j ∧ Hid ((froms hops ++ [e])[j]? = some a) ∧ Keeps (fun i => i = w1.heap.size + 1) w2 wr ∧ Blk wr (w1.heap.size + 1) 24 #[.int .i64 a.1, .int .i64 a.2]) (fun i _ => hops.length - (intOf i).toNat)
      case atStart => exact ⟨0, (p, q), Nat.zero_le _, rfl, Lib.hid (by rw [HCH.out]; rfl), Keeps.refl _ _, kA⟩
      case round =>
        clear kA
        obtain ⟨j, ⟨a1, a2⟩, hj, rfl, HA, hK, kA⟩ := hrel
        dsimp only at kA
        by_cases hlt : j < hops.length
        · obtain ⟨⟨kd, ⟨x1, x2⟩, ⟨y1, y2⟩, od⟩, hx⟩ : ∃ x, hops[j]? = some x := ⟨_, List.getElem?_eq_getElem hlt⟩
          have hfa : (froms hops ++ [e])[j]? = some (x1, x2) := by rw [List.getElem?_append_left (by simp [froms]; omega)]; simp [froms, hx]
          obtain ⟨rfl, rfl⟩ : a1 = x1 ∧ a2 = x2 := by
            have h := HA.out.symm.trans hfa
            simp at h
            exact h
          have HN : Hid ((froms hops ++ [e])[j + 1]? = some (y1, y2)) := Lib.hid (by rw [HCH.out, List.getElem?_cons_succ]; simp [tos, hx])
          have hkd := HE.out.kinds _ (List.mem_of_getElem? hx)
          dsimp only at hkd
          obtain ⟨g, hAg, hRw, hg⟩ := HRow.out (by omega)
          subst hAg
          have hR3 := hRw.keep hK (by omega)
          have kR3 := kR2.keep hK (by omega)
          have v0 := hR3.2 j _ hx 0 (by omega)
          have v1 := hR3.2 j _ hx 1 (by omega)
          have v2 := hR3.2 j _ hx 2 (by omega)
          have v3 := hR3.2 j _ hx 3 (by omega)
          have v4 := hR3.2 j _ hx 4 (by omega)
          have v5 := hR3.2 j _ hx 5 (by omega)
          simp [hopCells] at v0 v1 v2 v3 v4 v5
          have zg := hR3.1
          have zA := kA.lt
          have a0 := kA.cell 0
          have a1' := kA.cell 1
          simp at a0 a1'
          have HX := Lib.hid hx
          have hKa := hK.alloc (.cells #[.int .u8 kd, .int .i64 a1, .int .i64 a2, .int .i64 y1, .int .i64 y2, .int .i64 od] 48)
          have kH := Blk.new wr 48 #[.int .u8 kd, .int .i64 a1, .int .i64 a2, .int .i64 y1, .int .i64 y2, .int .i64 od]
          have kAa := kA.alloc (.cells #[.int .u8 kd, .int .i64 a1, .int .i64 a2, .int .i64 y1, .int .i64 y2, .int .i64 od] 48)
          have hK0 := hK.size
          clear hfa hx hR3 hK kA kR3
          have hzb : w1.heap.size + 1 < wr.heap.size := Nat.lt_of_lt_of_le hz2 hK0
          have hkd2 : (kd = 1 ∧ True) ∨ (kd = 2 ∧ od = 0) := hkd.elim (fun h => .inl ⟨h, trivial⟩) .inr
          clear hkd
          rcases hkd2 with ⟨rfl, -⟩ | ⟨rfl, rfl⟩
          all_goals
            go_wp2_with fail
            generalize hh : wr.heap.size = hb at *
            generalize wr.alloc (.cells _ 48) = w3 at hKa kH kAa ⊢
            clear v0 v1 v2 v3 v4 v5 zg zA a0 a1' hh
            have zH3 : w1.heap.size + 1 < hb := hzb
            go_loopw [75] (fun i wq => ∃ m : Nat, m ≤ j ∧ i = .int .i64 m ∧ Keeps (fun _ => False) w3 wq) (fun i _ => j - (intOf i).toNat)
            case atStart => exact ⟨0, Nat.zero_le _, rfl, Keeps.refl _ _⟩
            case round =>
              obtain ⟨m, hm, rfl, hK4⟩ := hrel
              have hK5 := hKa.trans hK4 (fun _ _ h => h.elim)
              have kH4 := kH.keep hK4 (fun h => h)
              have kA4 := kAa.keep hK4 (fun h => h)
              by_cases hmj : m < j
              · obtain ⟨⟨zk, ⟨z1, z2⟩, zt, zo⟩, hz⟩ : ∃ x, hops[m]? = some x := ⟨_, List.getElem?_eq_getElem (by omega)⟩
                have hR4 := hRw.keep hK5 (by omega)
                have kR4 := kR2.keep hK5 (by omega)
                have hne : ¬ (z1, z2) = (a1, a2) := fun h => by
                  simp only [Prod.mk.injEq] at h
                  have h1 : (froms hops)[m]? = some (a1, a2) := by simp [froms, hz, h.1, h.2]
                  have h2 : (froms hops)[j]? = some (a1, a2) := by simp [froms, HX.out]
                  have := (List.getElem?_inj (by simp [froms]; omega) HE.out.alone).1 (h1.trans h2.symm)
                  omega
                have heq := eqCand (z1, z2) (a1, a2)
                have hng := fun a b => noGuardCand .eql a b (z1, z2) (a1, a2)
                unfold candVal at heq hng
                rw [decide_eq_false hne] at heq
                dsimp only at heq hng
                have v1 := hR4.2 m _ hz 1 (by omega)
                have v2 := hR4.2 m _ hz 2 (by omega)
                have zg := hR4.1
                have hml : m < hops.length := by omega
                have t1 := kH4.cell 1
                have t2 := kH4.cell 2
                have zH := kH4.lt
                have r3 := kR4.cell 3
                have zR := kR4.lt
                simp [hopCells] at v1 v2 t1 t2 r3
                clear hz hR4 kR4 hne
                go_wp2_with fail
                go_quiet (fail)
                go_wp2_with fail
                go_roundw
                case rel => exact ⟨m + 1, by omega, by go_num, hK4.drewN _⟩
                case measure => simp [intOf]; omega
              · obtain rfl : m = j := by omega
                have zA := kA4.lt
                have a0 := kA4.cell 0
                have a1' := kA4.cell 1
                have f0 := kA4.frozen 0
                have f1' := kA4.frozen 1
                have t3 := kH4.cell 3
                have t4 := kH4.cell 4
                have zH := kH4.lt
                simp at a0 a1' t3 t4
                have hKz := (hK5.setCell (p := ⟨w1.heap.size + 1, 0, none⟩) (fun _ => rfl) (.int .i64 y1)).setCell (p := ⟨w1.heap.size + 1, 1, none⟩) (fun _ => rfl) (.int .i64 y2)
                have kAz : Blk ((wr.setCell ⟨w1.heap.size + 1, 0, none⟩ (.int .i64 y1)).setCell ⟨w1.heap.size + 1, 1, none⟩ (.int .i64 y2)) (w1.heap.size + 1) 24 #[.int .i64 y1, .int .i64 y2] := by
                  have h := (kA4.set 0 (.int .i64 y1)).set 1 (.int .i64 y2)
                  simpa using h
                have HKz := Lib.hid hKz
                have HAz := Lib.hid kAz
                clear hKz kAz hK4 hK5 kH4 kA4
                go_wp2_with fail
                go_roundw
                case rel => exact ⟨m + 1, (y1, y2), by omega, by go_num, HN, HKz.out, HAz.out⟩
                case measure => simp [intOf]; omega
        · obtain rfl : j = hops.length := by omega
          have hae : e = (a1, a2) := by
            have h := HA.out
            rw [List.getElem?_append_right (by simp [froms])] at h
            simpa [froms] using h
          subst hae
          have hlen := HE.out.len
          have hkind := HE.out.kind
          dsimp only at hlen hkind
          have HBack := Lib.hid HE.out.back
          have HLoop := Lib.hid HE.out.loop
          dsimp only at HBack HLoop
          have kR3 := kR2.keep hK (by omega)
          have hBw : Below w.heap.size w wr := hBy.trans (hK.below (B := w.heap.size) (fun i h1 h2 => by have := hB1.size; omega) hBy.size)
          have hlenI : ¬ ((l.length : Int) + 1 < hops.length) := by omega
          have hl60 := H60.out
          have HRw : Hid (0 < hops.length → ∃ g, A2 = some ⟨g, 0, none⟩ ∧ RowH wr g hops) := Lib.hid (fun h0 => by
            obtain ⟨g, h1, h2, h3⟩ := HRow.out h0
            exact ⟨g, h1, h2.keep hK (by omega)⟩)
          have r0 := kR3.cell 0
          have r1 := kR3.cell 1
          have r2 := kR3.cell 2
          have r3 := kR3.cell 3
          have r4 := kR3.cell 4
          have zR := kR3.lt
          have zA := kA.lt
          have a0 := kA.cell 0
          have a1' := kA.cell 1
          simp at r0 r1 r2 r3 r4 a0 a1'
          have hk : k = 1 ∨ k = 2 ∨ k = 3 ∨ k = 4 ∨ k = 5 ∨ k = 6 := by omega
          clear HRow hlen hkind HA hK kR2 hBy
          by_cases h6 : k = 6
          · subst h6
            obtain ⟨i, rfl, hi⟩ := HLoop.out rfl
            obtain ⟨rfl, rfl⟩ : f1 = a1 ∧ f2 = a2 := by simpa using HFin.out (by decide)
            have hil : i < hops.length := by
              have := (List.getElem?_eq_some_iff.1 hi).1
              simpa [froms] using this
            obtain ⟨⟨zk, ⟨z1, z2⟩, zt, zo⟩, hz⟩ : ∃ x, hops[i]? = some x := ⟨_, List.getElem?_eq_getElem hil⟩
            obtain ⟨rfl, rfl⟩ : z1 = f1 ∧ z2 = f2 := by
              have h : (froms hops)[i]? = some (z1, z2) := by simp [froms, hz]
              simpa using h.symm.trans hi
            obtain ⟨g, hAg, hRr⟩ := HRw.out (by omega)
            subst hAg
            have hne := neCand (z1, z2) (z1, z2)
            have hng := fun a b => noGuardCand .neq a b (z1, z2) (z1, z2)
            have heq := eqCand (z1, z2) (z1, z2)
            have hng2 := fun a b => noGuardCand .eql a b (z1, z2) (z1, z2)
            unfold candVal at hne hng heq hng2
            simp only [decide_true, Bool.not_true] at hne heq
            dsimp only at hng hng2
            have v1 := hRr.2 i _ hz 1 (by omega)
            have v2 := hRr.2 i _ hz 2 (by omega)
            have zg := hRr.1
            simp [hopCells] at v1 v2
            clear hz hi HBack HLoop HFin hk
            go_upto_region 23 with fail
            have q1 := fun d' os => cell_regrown r1 d' os
            have q2 := fun d' os => cell_regrown r2 d' os
            have q3 := fun d' os => cell_regrown r3 d' os
            have q4 := fun d' os => cell_regrown r4 d' os
            have q5 := fun d' os => cell_regrown v1 d' os
            have q6 := fun d' os => cell_regrown v2 d' os
            have hW : ∀ d' os, Below w.heap.size w (grow (redrawn wr d') os) := fun d' os => hBw.trans ((below_regrown wr d' os).mono hBw.size)
            have HW := Lib.hid hW
            clear hW r0 r1 r2 r3 r4 a0 a1' v1 v2 hRr kR3 kA
            refine wp_region_quiet_below (by kernel_rfl) (by kernel_rfl) ?_
            repeat (go_big_quiet_step ((go_at_call 10; exact Calls.regrown_of (H3.out _ (HW.out _ _)))))
            refine wpQuiet_nil ?_
            intro _ hw'
            obtain ⟨⟨dq, osq⟩, hw''⟩ := hw'
            subst hw''
            go_wp2_with fail
            go_ret
            exact ⟨by first | rfl | simp, HW.out _ _⟩
          · obtain rfl := HBack.out h6
            by_cases h5 : k = 5
            · subst h5
              clear HBack HLoop HFin h6 hk
              go_wp2_with fail
              refine (H3.out _ hBw).mono ?_
              rintro e w5 ⟨rfl, hb5⟩
              have hB5 := hBw.trans (hb5.mono hBw.size)
              have kR5 := Blk.below kR3 hb5 (Blk.lt kR3)
              clear r0 r1 r2 r3 r4 zR
              have r4 := kR5.cell 4
              have zR := kR5.lt
              simp at r4
              go_wp2_with fail
              go_ret
              exact ⟨by first | rfl | simp, hB5⟩
            · obtain ⟨rfl, rfl⟩ : f1 = a1 ∧ f2 = a2 := by simpa using HFin.out h5
              have hne := neCand (f1, f2) (f1, f2)
              have hng := fun a b => noGuardCand .neq a b (f1, f2) (f1, f2)
              unfold candVal at hne hng
              simp only [decide_true, Bool.not_true] at hne
              dsimp only at hng
              have hk4 : k = 1 ∨ k = 2 ∨ k = 3 ∨ k = 4 := by omega
              clear HBack HLoop HFin h5 h6 hk
              rcases hk4 with rfl | rfl | rfl | rfl
              all_goals
                go_wp2_with fail
                refine (H3.out _ hBw).mono ?_
                rintro e w5 ⟨rfl, hb5⟩
                have hB5 := hBw.trans (hb5.mono hBw.size)
                have kR5 := Blk.below kR3 hb5 (Blk.lt kR3)
                clear r0 r1 r2 r3 r4 zR
                have r4 := kR5.cell 4
                have zR := kR5.lt
                simp at r4
                go_wp2_with fail
                go_ret
                exact ⟨by first | rfl | simp, hB5⟩
  · have HI : Hid (decide ((l.length : Int) ≤ 60) = false) := Lib.hid (decide_eq_false (by omega))
    clear hI hL hm
    obtain ⟨p, q⟩ := cp
    unfold candVal
    go_enter Tryz.func7, Tryz.ntmps7
    go_wp2_with fail
    refine (H0.out _).mono ?_
    rintro e w0 ⟨rfl, rfl⟩
    rw [HI.out]
    have hB0 : Below w.heap.size w (w.alloc (.cells #[.int .i64 p, .int .i64 q] 24)) := below_al (Below.refl _ _) _
    generalize w.alloc (.cells _ 24) = w0 at hB0 ⊢
    go_wp2_with fail
    refine (H3.out _ hB0).mono ?_
    rintro e w1 ⟨rfl, hb1⟩
    go_wp2_with fail
    go_ret
    exact ⟨rfl, hB0.trans (hb1.mono hB0.size)⟩
end Go.Proofs.YtgbnbolhmghhlaaGreatDoor
namespace Go.Proofs.YtgbnbolhmghhlaaGreatDoor
open Go.ChangeShapes Go.WideShapes Go.ChangeAt Go.RowKit

set_option maxRecDepth 100000 in
theorem ends_contract (H : Type) (enc : TypeId × Value → H) (W : World) (base : Nat) (args : Array Value) (ds gs : List (DataW H)) (before : List MemPlace)
    (hval : ∀ (j : Nat) t v, Tryz.f7.params[j]? = some t → args[j]? = some v → Value.okWide Tryz.prog W .any base t v)
    (hW : DataW.Whole enc Tryz.prog Tryz.f7.params.toList Rows.peopleEndsSpec.vars false W args.toList ds gs before)
    (hsh : W.ShapedOpen Tryz.prog) :
    Calls Tryz.prog 7 args W fun e W' => ∃ v, e = .returned v ∧ Rows.peopleEndsSpec.post enc Tryz.prog Tryz.f7 false true false false W args v W' := by
  have hW' := hW
  have hlt : ∀ p ∈ before, p.block < W.heap.size := fun p hp => hW.lt p hp
  obtain ⟨p, q, hA, hV, rfl, hfz, hnd⟩ := hW
  have hA0 : DataW.TrodAll enc Tryz.prog W 0 (fun _ => true) true [22, 24, 3, 3] args.toList ds p := hA
  obtain ⟨v0, vs0, d0, ds0, p0, q0, hargs, rfl, rfl, h0, r0⟩ := trodAll_cons hA0
  obtain ⟨v1, vs1, d1, ds1, p1, q1, rfl, rfl, rfl, h1, r1⟩ := trodAll_cons r0
  obtain ⟨v2, vs2, d2, ds2, p2, q2, rfl, rfl, rfl, h2, r2⟩ := trodAll_cons r1
  obtain ⟨v3, vs3, d3, ds3, p3, q3, rfl, rfl, rfl, h3, r3⟩ := trodAll_cons r2
  obtain ⟨rfl, rfl, rfl⟩ := trodAll_nil r3
  obtain rfl : args = #[v0, v1, v2, v3] := by cases args; simp_all
  obtain ⟨rfl, rfl⟩ := trodVars_none hV
  have hsl := slice_of_ok (hval 0 22 v0 rfl rfl)
  obtain ⟨A, c, l, rfl, hlc, hcm, hL, hgo, hd⟩ := open_ents (fun x hx => hlt x (by simp [hx])) h0 hsl
  obtain ⟨cp, rfl, hcp, _⟩ := cand_of_ok (hval 1 24 v1 rfl rfl) h1
  obtain ⟨s, rfl, rfl, rfl, hws⟩ := open_int Tryz.underlying3 (hval 2 3 v2 rfl rfl) h2
  obtain ⟨d, rfl, rfl, rfl, hwd⟩ := open_int Tryz.underlying3 (hval 3 3 v3 rfl rfl) h3
  obtain ⟨m, rfl⟩ := to_oents l hgo
  have hlm : (m.map (·.1)).length = m.length := List.length_map _
  have hw := ends_walk A c m cp s d (fun x hx => ⟨(hgo x.1 (List.mem_map_of_mem hx)).2.2.2.2.1, (hgo x.1 (List.mem_map_of_mem hx)).2.2.2.2.2⟩) W hL (by rw [← hlm]; exact Nat.le_trans hlc hcm) (laysCut.s1_3 W hsh)
  rw [← hlm] at hw
  refine hw.mono fun e W' ⟨he, hb⟩ => ?_
  subst he
  exact law_post rfl (fun t ht => by
    have ht' : t ∈ [(22 : TypeId), 24, 3, 3] := ht
    simp at ht'
    rcases ht' with rfl | rfl | rfl
    · exact ents_readable
    · exact cand_readable
    · exact int_readable) rfl hW' rfl hb

theorem ends_laid_met (os : Os) : laidMetH Tryz.prog Rows.peopleEndsRow.laid ((doorW os).forCall (fun _ _ => 0) ⟨#[], #[.slice none 0 0, .agg #[.int .i64 0, .int .i64 0], .int .i64 0, .int .i64 0], []⟩).memory :=
  laidMetH_of_parts3 (fuel := 8) (laidMet_of_run' 8 (by kernel_rfl) (by kernel_rfl)) (by kernel_rfl) (by kernel_rfl)
theorem ends_reads (os : Os) {H : Type} (enc : TypeId × Value → H) : ∃ places, DataW.whole enc Tryz.prog ((doorW os).forCall (fun _ _ => 0) ⟨#[], #[.slice none 0 0, .agg #[.int .i64 0, .int .i64 0], .int .i64 0, .int .i64 0], []⟩).memory Tryz.f7.params.toList Rows.peopleEndsSpec.vars false #[Value.slice none 0 0, Value.agg #[.int .i64 0, .int .i64 0], Value.int .i64 0, Value.int .i64 0].toList 8 = some ([.nil, .agg [.lit (.int .i64 0), .lit (.int .i64 0)], .lit (.int .i64 0), .lit (.int .i64 0)], [], places) :=
  ⟨[], by kernel_rfl⟩

set_option maxRecDepth 100000 in
theorem ends_lifted (os : Os) (started : os.Started) (H : Type) (enc : TypeId × Value → H) (F : Stop.Interp) :
    ReturnsInHanded {} Tryz.checked os 7 .any ((OpenSpec.ofChange Rows.peopleEndsSpec).preRow enc Tryz.prog Tryz.f7 Rows.peopleEndsRow.domain false Rows.peopleEndsRow.laid) (((OpenSpec.ofChange Rows.peopleEndsSpec).at F).post enc Tryz.prog Tryz.f7 false true false false) := by
  obtain ⟨places, hx⟩ := ends_reads os enc
  refine returnsInHanded_of_row (C := Tryz.checked) (s := OpenSpec.ofChange Rows.peopleEndsSpec) ownKnobA started (by kernel_rfl) Tryz.func7
    (witness_row_at (enc := enc) (C := Tryz.checked) false (doorW os) #[.slice none 0 0, .agg #[.int .i64 0, .int .i64 0], .int .i64 0, .int .i64 0] rfl (by kernel_rfl) (by kernel_rfl) (by kernel_rfl)
      (OpenSpec.preRow_of_cond 8 hx (by kernel_rfl) (fun k hk => by cases hk) (by kernel_rfl) (ends_laid_met os))) ?_
  intro W base args ds gs before hval hW _ _ _ _ hsh _
  exact ends_contract H enc W base args ds gs before hval hW hsh

theorem ends_said : Rows.PeopleEndsSaid :=
  OpenClaim.holds_of_cond 7 Tryz.f7 rfl rfl rfl rfl rfl rfl rfl ⟨rfl, rfl, rfl, rfl, rfl⟩ rfl rfl rfl rfl rfl (by kernel_rfl) Tryz.func7 (by kernel_rfl)
    (of_decide_eq_true (by kernel_rfl)) (by unfold Func.isWrapper; first | (rw [if_pos (by decide +kernel)]; kernel_rfl) | (rw [if_neg (by decide +kernel)]; exact ⟨rfl, rfl⟩))
    (fun os started H enc _ F => by rw [OpenClaim.pre_eq_preRow]; exact ends_lifted os started H enc F)

theorem ends_plain (f : FuncId) (fn : Func) (hf : Tryz.pinned.checked.prog.funcNamed "restante/restantelaw03.PeopleEnds" = some f) (hfn : Tryz.pinned.checked.prog.funcs[f]? = some fn) :
    true = Tryz.pinned.checked.prog.looks [] ∧ ∀ (j : Nat) t, fn.params[j]? = some t → Tryz.pinned.checked.prog.wantsStandIn t = false := by
  obtain rfl : f = 7 := Option.some.inj ((show Tryz.prog.funcNamed "restante/restantelaw03.PeopleEnds" = some 7 by kernel_rfl).symm.trans hf) |>.symm
  obtain rfl : fn = Tryz.f7 := (Option.some.inj (Tryz.func7.symm.trans hfn)).symm
  refine ⟨by kernel_rfl, fun j t ht => ?_⟩
  rw [Tryz.params7] at ht
  have ht' := Array.mem_of_getElem? ht
  simp at ht'
  rcases ht' with rfl | rfl | rfl
  · exact (show Tryz.prog.wantsStandIn 22 = false by kernel_rfl)
  · exact (show Tryz.prog.wantsStandIn 24 = false by kernel_rfl)
  · exact (show Tryz.prog.wantsStandIn 3 = false by kernel_rfl)

theorem peopleEnds_card : Rows.PeopleEndsCardSaid :=
  Claim7.holds_tied_plain_at .later [] _ _ _ _ ends_said (fun _ h => by cases h) (by kernel_rfl) (fun _ h => by cases h) peopleEnds_row_tie rfl ⟨rfl, rfl⟩ (by kernel_rfl) rfl ends_plain (by kernel_rfl)
#print axioms peopleEnds_card
end Go.Proofs.YtgbnbolhmghhlaaGreatDoor
