/- The contract of the reference's Order. Conditions: the list lies in memory. -/
import Derived.Test.YtlbehpbhmmppiaaGreatDoorRefDA
namespace Go.Proofs.YtlbehpbhmmppiaaGreatDoor
open Go.RowKit

set_option maxRecDepth 100000 in
set_option maxHeartbeats 24000000 in
theorem refOrder_any (A : Option Addr) (c : Nat) (l : List Ent) (cp : Int × Int) (d : Int) (w : World) (hL : EntsLie w w.heap.size A l) (hl : l.length ≤ maxLen) :
    Calls Tryz.prog 74 #[.slice A l.length c, candVal cp, .int .i64 d] w fun e w' => e = .returned (.tuple #[entVal (orderE l cp d).1, .bool (orderE l cp d).2]) ∧ Below w.heap.size w w' := by
  have hap : ∀ x W, Below w.heap.size w W → _ := fun x W (hW : Below w.heap.size w W) => refApplies_any A c l x cp d W (hL.up hW hW.size) hl
  obtain ⟨p, q⟩ := cp
  have HE : Hid (orderE l (p, q) d = match l.reverse.find? (fun x => applE l x (p, q) d && x.place != 0) with | some x => (x, true) | none => match l.reverse.find? (fun x => applE l x (p, q) d) with | some x => (x, true) | none => (zeroEnt, false)) := Lib.hid rfl
  unfold maxLen at hl
  unfold candVal at hap ⊢
  dsimp only at hap ⊢
  go_enter Tryz.func74, Tryz.ntmps74
  go_wp2_with fail
  go_loopw [8] (fun i wr => ∃ m : Nat, m ≤ l.length ∧ ((m = 0 ∧ i = .int .i64 (-1)) ∨ ∃ k : Nat, m = k + 1 ∧ i = .int .i64 k) ∧ Below w.heap.size w wr ∧ Blk wr w.heap.size 33 #[.int .i64 p, .int .i64 q] ∧ EntAt wr (w.heap.size + 1) zeroEnt ∧ Hid ((l.drop m).any (fun x => applE l x (p, q) d && x.place != 0) = false)) (fun i _ => (intOf i + 1).toNat)
  case atStart =>
    refine ⟨l.length, Nat.le_refl _, ?_, by (repeat (first | (with_reducible exact Below.refl _ _) | (with_reducible assumption) | (with_reducible refine below_al ?_ _) | (with_reducible refine below_se' ?_ ?_ _; · (first | omega | (simp <;> omega))) | (with_reducible refine below_dr ?_ _) | (with_reducible refine below_d1 ?_) | (exact Below.refl _ _) | assumption)), Blk.alloc (Blk.new w _ _) _, at_new (by simp), Lib.hid (by simp)⟩
    rcases hlz : l.length with _ | k
    · exact .inl ⟨rfl, by go_num⟩
    · exact .inr ⟨k, rfl, by go_num⟩
  case round =>
    obtain ⟨m, hm, hi, hB, kC, kR, H⟩ := hrel
    rcases hi with ⟨rfl, rfl⟩ | ⟨k, rfl, rfl⟩
    · replace HE : Hid (orderE l (p, q) d = match l.reverse.find? (fun x => applE l x (p, q) d) with | some x => (x, true) | none => (zeroEnt, false)) := Lib.hid (by rw [HE.out, rfind_none (f := fun x => applE l x (p, q) d && x.place != 0) (by simpa using H.out)])
      clear H
      go_wp2_with fail
      go_loopw [10] (fun i wr => ∃ m : Nat, m ≤ l.length ∧ ((m = 0 ∧ i = .int .i64 (-1)) ∨ ∃ k : Nat, m = k + 1 ∧ i = .int .i64 k) ∧ Below w.heap.size w wr ∧ Blk wr w.heap.size 33 #[.int .i64 p, .int .i64 q] ∧ EntAt wr (w.heap.size + 1) zeroEnt ∧ Hid ((l.drop m).any (fun x => applE l x (p, q) d) = false)) (fun i _ => (intOf i + 1).toNat)
      case atStart =>
        refine ⟨l.length, Nat.le_refl _, ?_, hB, kC, kR, Lib.hid (by simp)⟩
        rcases hlz : l.length with _ | k
        · exact .inl ⟨rfl, by go_num⟩
        · exact .inr ⟨k, rfl, by go_num⟩
      case round =>
        clear hm hB kC kR
        obtain ⟨m, hm, hi, hB, kC, kR, H⟩ := hrel
        rcases hi with ⟨rfl, rfl⟩ | ⟨k, rfl, rfl⟩
        · have HT : Hid (orderE l (p, q) d = (zeroEnt, false)) := Lib.hid (by rw [HE.out, rfind_none (f := fun x => applE l x (p, q) d) (by simpa using H.out)])
          have kR2 := kR
          have hB2 := hB
          obtain ⟨r0, r1, r2, r3, r4, r5, r6, r7, r8, r9, _⟩ := kR2.cells
          have f0 := kR2.frozens 0
          have f1 := kR2.frozens 1
          have f2 := kR2.frozens 2
          have f3 := kR2.frozens 3
          have f4 := kR2.frozens 4
          have f5 := kR2.frozens 5
          have f6 := kR2.frozens 6
          have f7 := kR2.frozens 7
          have f8 := kR2.frozens 8
          have f9 := kR2.frozens 9
          have hzz := Blk.lt kR2
          go_wp2
          have hE := kR2.put zeroEnt
          have hB3 := hB2.trans (putEnt_below wr (g := w.heap.size + 1) (by omega) zeroEnt)
          have hq := putEnt_eq wr (w.heap.size + 1) zeroEnt
          generalize putEnt wr (w.heap.size + 1) zeroEnt = V at hE hB3 hq
          dsimp only [zeroEnt] at hq
          rw [← hq]
          refine bodyPost_ret (results_crt rfl hE rfl rowEnt sizeEnt) rfl ?_
          exact ⟨by rw [HT.out]; rfl, hB3⟩
        · obtain ⟨x, hx⟩ : ∃ x, l[k]? = some x := ⟨_, List.getElem?_eq_getElem (by omega)⟩
          have hS := Lib.hid (any_drop_prev hx H.out)
          have hT : Hid ((applE l x (p, q) d) = true → orderE l (p, q) d = (x, true)) := Lib.hid (fun h => by rw [HE.out, rfind_at (f := fun x => applE l x (p, q) d) hx H.out h])
          have HX := Lib.hid hx
          obtain ⟨b, off, rfl, hb, c0, c1, c2, c3, c4, c5, c6, c7, c8, c9⟩ := (hL.below hB).at hx
          clear hx
          have e0 := Blk.cell kC 0
          have e1 := Blk.cell kC 1
          simp at e0 e1
          have hA := hap x wr.drew hB.drew
          unfold entVal at hA
          cases hv : applE l x (p, q) d
          · rw [hv] at hA
            go_wp2_with fail
            go_region_with (first | (go_at_call 100; refine hA.mono ?_; rintro e w2 ⟨rfl, hb2⟩))
            all_goals
              have hB2 := hB.drew.trans (hb2.mono hB.size)
              have kC2 := Blk.below (Blk.drew kC) hb2 (Blk.lt kC)
              have kR2 : EntAt w2 (w.heap.size + 1) zeroEnt := Blk.below (Blk.drew kR) hb2 (Blk.lt kR)
              obtain ⟨b', off', hA', hb', d0, d1, d2, d3, d4, d5, d6, d7, d8, d9⟩ := (hL.below hB2).at HX.out
              cases hA'
              clear c0 c1 c2 c3 c4 c5 c6 c7 c8 c9 hb2 hb' hA hB kC kR e0 e1
              have HN : Hid ((l.drop k).any (fun x => applE l x (p, q) d) = false) := Lib.hid (by rw [hS.out]; simp [hv])
              have hrel : ∃ m : Nat, m ≤ l.length ∧ ((m = 0 ∧ Value.int .i64 ((k : Int) - 1) = .int .i64 (-1)) ∨ ∃ k' : Nat, m = k' + 1 ∧ Value.int .i64 ((k : Int) - 1) = .int .i64 k') ∧ Below w.heap.size w w2 ∧ Blk w2 w.heap.size 33 #[.int .i64 p, .int .i64 q] ∧ EntAt w2 (w.heap.size + 1) zeroEnt ∧ Hid ((l.drop m).any (fun x => applE l x (p, q) d) = false) := by
                refine ⟨k, by omega, ?_, hB2, kC2, kR2, HN⟩
                rcases k with _ | k
                · exact .inl ⟨rfl, by simp⟩
                · exact .inr ⟨k, rfl, by congr 1; omega⟩
              replace hrel := Lib.hid hrel
              clear HN hB2 kC2 kR2
              clear hv
              go_wp2
              go_roundw
              case rel => exact hrel.out
              case measure => simp [intOf]
          · rw [hv] at hA
            have HT := Lib.hid (hT.out hv)
            go_wp2_with fail
            go_region_with (first | (go_at_call 100; refine hA.mono ?_; rintro e w2 ⟨rfl, hb2⟩))
            all_goals
              have hB2 := hB.drew.trans (hb2.mono hB.size)
              have kC2 := Blk.below (Blk.drew kC) hb2 (Blk.lt kC)
              have kR2 : EntAt w2 (w.heap.size + 1) zeroEnt := Blk.below (Blk.drew kR) hb2 (Blk.lt kR)
              obtain ⟨b', off', hA', hb', d0, d1, d2, d3, d4, d5, d6, d7, d8, d9⟩ := (hL.below hB2).at HX.out
              cases hA'
              clear c0 c1 c2 c3 c4 c5 c6 c7 c8 c9 hb2 hb' hA hB kC kR e0 e1
              clear hv
              obtain ⟨r0, r1, r2, r3, r4, r5, r6, r7, r8, r9, _⟩ := kR2.cells
              have f0 := kR2.frozens 0
              have f1 := kR2.frozens 1
              have f2 := kR2.frozens 2
              have f3 := kR2.frozens 3
              have f4 := kR2.frozens 4
              have f5 := kR2.frozens 5
              have f6 := kR2.frozens 6
              have f7 := kR2.frozens 7
              have f8 := kR2.frozens 8
              have f9 := kR2.frozens 9
              have hzz := Blk.lt kR2
              go_wp2
              have hE := kR2.put x
              have hB3 := hB2.trans (putEnt_below w2 (g := w.heap.size + 1) (by omega) x)
              rw [putEnt_eq] at hE hB3
              refine bodyPost_ret (results_crt rfl hE rfl rowEnt sizeEnt) rfl ?_
              rw [HT.out]
              exact ⟨rfl, hB3⟩
    · obtain ⟨x, hx⟩ : ∃ x, l[k]? = some x := ⟨_, List.getElem?_eq_getElem (by omega)⟩
      have hS := Lib.hid (any_drop_prev hx H.out)
      have hT : Hid ((applE l x (p, q) d && x.place != 0) = true → orderE l (p, q) d = (x, true)) := Lib.hid (fun h => by rw [HE.out, rfind_at (f := fun x => applE l x (p, q) d && x.place != 0) hx H.out h])
      have HX := Lib.hid hx
      obtain ⟨b, off, rfl, hb, c0, c1, c2, c3, c4, c5, c6, c7, c8, c9⟩ := (hL.below hB).at hx
      clear hx
      have e0 := Blk.cell kC 0
      have e1 := Blk.cell kC 1
      simp at e0 e1
      have hA := hap x wr.drew hB.drew
      unfold entVal at hA
      cases hv : applE l x (p, q) d
      · rw [hv] at hA
        go_wp2_with fail
        go_region_with (first | (go_at_call 100; refine hA.mono ?_; rintro e w2 ⟨rfl, hb2⟩))
        all_goals
          have hB2 := hB.drew.trans (hb2.mono hB.size)
          have kC2 := Blk.below (Blk.drew kC) hb2 (Blk.lt kC)
          have kR2 : EntAt w2 (w.heap.size + 1) zeroEnt := Blk.below (Blk.drew kR) hb2 (Blk.lt kR)
          obtain ⟨b', off', hA', hb', d0, d1, d2, d3, d4, d5, d6, d7, d8, d9⟩ := (hL.below hB2).at HX.out
          cases hA'
          clear c0 c1 c2 c3 c4 c5 c6 c7 c8 c9 hb2 hb' hA hB kC kR e0 e1
          have HN : Hid ((l.drop k).any (fun x => applE l x (p, q) d && x.place != 0) = false) := Lib.hid (by rw [hS.out]; simp [hv])
          have hrel : ∃ m : Nat, m ≤ l.length ∧ ((m = 0 ∧ Value.int .i64 ((k : Int) - 1) = .int .i64 (-1)) ∨ ∃ k' : Nat, m = k' + 1 ∧ Value.int .i64 ((k : Int) - 1) = .int .i64 k') ∧ Below w.heap.size w w2 ∧ Blk w2 w.heap.size 33 #[.int .i64 p, .int .i64 q] ∧ EntAt w2 (w.heap.size + 1) zeroEnt ∧ Hid ((l.drop m).any (fun x => applE l x (p, q) d && x.place != 0) = false) := by
            refine ⟨k, by omega, ?_, hB2, kC2, kR2, HN⟩
            rcases k with _ | k
            · exact .inl ⟨rfl, by simp⟩
            · exact .inr ⟨k, rfl, by congr 1; omega⟩
          replace hrel := Lib.hid hrel
          clear HN hB2 kC2 kR2
          clear hv
          go_wp2
          go_roundw
          case rel => exact hrel.out
          case measure => simp [intOf]
      · rw [hv] at hA
        by_cases hz : x.place = 0
        · have hz' : (x.place != 0) = false := by simpa using hz
          have HZ := Lib.hid hz
          clear hz
          go_wp2_with fail
          go_region_with (first | (go_at_call 100; refine hA.mono ?_; rintro e w2 ⟨rfl, hb2⟩))
          all_goals
            have hB2 := hB.drew.trans (hb2.mono hB.size)
            have kC2 := Blk.below (Blk.drew kC) hb2 (Blk.lt kC)
            have kR2 : EntAt w2 (w.heap.size + 1) zeroEnt := Blk.below (Blk.drew kR) hb2 (Blk.lt kR)
            obtain ⟨b', off', hA', hb', d0, d1, d2, d3, d4, d5, d6, d7, d8, d9⟩ := (hL.below hB2).at HX.out
            cases hA'
            clear c0 c1 c2 c3 c4 c5 c6 c7 c8 c9 hb2 hb' hA hB kC kR e0 e1
            have HN : Hid ((l.drop k).any (fun x => applE l x (p, q) d && x.place != 0) = false) := Lib.hid (by rw [hS.out]; simp [HZ.out])
            have hrel : ∃ m : Nat, m ≤ l.length ∧ ((m = 0 ∧ Value.int .i64 ((k : Int) - 1) = .int .i64 (-1)) ∨ ∃ k' : Nat, m = k' + 1 ∧ Value.int .i64 ((k : Int) - 1) = .int .i64 k') ∧ Below w.heap.size w w2 ∧ Blk w2 w.heap.size 33 #[.int .i64 p, .int .i64 q] ∧ EntAt w2 (w.heap.size + 1) zeroEnt ∧ Hid ((l.drop m).any (fun x => applE l x (p, q) d && x.place != 0) = false) := by
              refine ⟨k, by omega, ?_, hB2, kC2, kR2, HN⟩
              rcases k with _ | k
              · exact .inl ⟨rfl, by simp⟩
              · exact .inr ⟨k, rfl, by congr 1; omega⟩
            replace hrel := Lib.hid hrel
            clear HN hB2 kC2 kR2
            clear hv
            go_wp2
            go_roundw
            case rel => exact hrel.out
            case measure => simp [intOf]
        · have hz' : (x.place != 0) = true := by simpa using hz
          have HT := Lib.hid (hT.out (by simp [hv, hz]))
          go_wp2_with fail
          go_region_with (first | (go_at_call 100; refine hA.mono ?_; rintro e w2 ⟨rfl, hb2⟩))
          all_goals
            have hB2 := hB.drew.trans (hb2.mono hB.size)
            have kC2 := Blk.below (Blk.drew kC) hb2 (Blk.lt kC)
            have kR2 : EntAt w2 (w.heap.size + 1) zeroEnt := Blk.below (Blk.drew kR) hb2 (Blk.lt kR)
            obtain ⟨b', off', hA', hb', d0, d1, d2, d3, d4, d5, d6, d7, d8, d9⟩ := (hL.below hB2).at HX.out
            cases hA'
            clear c0 c1 c2 c3 c4 c5 c6 c7 c8 c9 hb2 hb' hA hB kC kR e0 e1
            clear hv hz
            obtain ⟨r0, r1, r2, r3, r4, r5, r6, r7, r8, r9, _⟩ := kR2.cells
            have f0 := kR2.frozens 0
            have f1 := kR2.frozens 1
            have f2 := kR2.frozens 2
            have f3 := kR2.frozens 3
            have f4 := kR2.frozens 4
            have f5 := kR2.frozens 5
            have f6 := kR2.frozens 6
            have f7 := kR2.frozens 7
            have f8 := kR2.frozens 8
            have f9 := kR2.frozens 9
            have hzz := Blk.lt kR2
            go_wp2
            have hE := kR2.put x
            have hB3 := hB2.trans (putEnt_below w2 (g := w.heap.size + 1) (by omega) x)
            rw [putEnt_eq] at hE hB3
            refine bodyPost_ret (results_crt rfl hE rfl rowEnt sizeEnt) rfl ?_
            rw [HT.out]
            exact ⟨rfl, hB3⟩
end Go.Proofs.YtlbehpbhmmppiaaGreatDoor
