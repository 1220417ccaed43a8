/- The contract of applies: an order applies to a pair. Conditions: the directory lies in memory. The contract of order: the order of a pair. Conditions: the directory lies in memory; the pair's person is an int. The contract of why: the cause for which a thing goes on from a pair. Conditions: the directory lies in memory; the pair's person is an int. The contract of hop: the hop of a pair. Conditions: the directory lies in memory; the pair's person is an int. The contract of refuses: a person refuses at a place what comes from a sender. Conditions: the directory lies in memory; the person is an int. -/
import Derived.Test.YtlbehpbhmmppiaaGreatDoorHomeA
namespace Go.Proofs.YtlbehpbhmmppiaaGreatDoor
open Go.RowKit Go.Shelf
attribute [local go_sem] Oper.semAt_some

/-- An order that holds applies to a pair. -/
def appliesOf (dead canc : Int → Bool) (l : List OEnt) (d : Int) (x : Ent) (cp : Int × Int) : Bool :=
  if x.person ≠ cp.1 ∨ (x.place ≠ 0 ∧ x.place ≠ cp.2) ∨ canc x.order = true then false else !(targetOf dead l d x).2 || !decide ((targetOf dead l d x).1 = cp)

set_option maxRecDepth 100000 in
set_option maxHeartbeats 2000000 in
theorem applies_any (A : Option Addr) (c : Nat) (l : List OEnt) (d : Int) (x : OEnt) (cp : Int × Int) (b1 b2 : Nat) (dead canc : Int → Bool) (w : World) (hD : DirIn w A l b1 b2 dead canc) :
    Calls Tryz.prog 101 #[dirVal A l.length c d (some b1) (some b2), entVal x.1, candVal cp] w fun e w' => e = .returned (.bool (appliesOf dead canc l d x.1 cp)) ∧ Below w.heap.size w w' := by
  have hq : ∀ W, Below w.heap.size w W → (Instr.lookup 47 (.map (some b2)) (.int .i64 x.1.order) false).run Tryz.prog W = .ok (.bool (canc x.1.order)) W := fun W hW => by
    have := (hD.below hW).canc.look lawInt mapIntRow (keyInt x.2.2.1)
    rwa [onInt_at] at this
  have hh : ∀ W v4 v5, x.1.person = v4 → x.1.place = v5 → DirIn W A l b1 b2 dead canc → Calls Tryz.prog 47 #[.agg #[.int .i64 x.1.day, .int .u8 x.1.kind, .int .i64 x.1.since, .int .i64 x.1.untl, .int .i64 v4, .int .i64 v5, .int .i64 x.1.other, .int .i64 x.1.at', .int .i64 x.1.order, .string x.1.name], dirVal A l.length c d (some b1) (some b2)] W fun e w' => e = .returned (.tuple #[candVal (targetOf dead l d x.1).1, .bool (targetOf dead l d x.1).2]) ∧ Below W.heap.size W w' := fun W v4 v5 h4 h5 h => by
    subst h4 h5; exact target2_any A c l d x b1 b2 dead canc W h
  unfold appliesOf
  generalize targetOf dead l d x.1 = hv at *
  obtain ⟨hv1, hv3⟩ := hv
  have hne := neCand hv1 cp
  have hng := fun a b => noGuardCand .neq a b hv1 cp
  obtain ⟨hv1, hv2⟩ := hv1
  generalize decide ((hv1, hv2) = cp) = same at *
  obtain ⟨p, q⟩ := cp
  unfold dirVal candVal entVal at *
  dsimp only at hh hne hng ⊢
  generalize canc x.1.order = cx at *
  go_enter Tryz.func101, Tryz.ntmps101
  go_wp2_with fail
  all_goals first
    | (refine bodyPost_ret (results_tmp rfl _ _ _) rfl ?_; exact ⟨rfl, by (repeat (first | (with_reducible exact Below.refl _ _) | (with_reducible assumption) | (with_reducible refine below_al ?_ _) | (with_reducible refine below_se' ?_ ?_ _; · (first | omega | (simp <;> omega))) | (with_reducible refine below_dr ?_ _) | (with_reducible refine below_d1 ?_) | (exact Below.refl _ _) | assumption))⟩)
    | (rw [hq]; rotate_left; (· (repeat (first | (with_reducible exact Below.refl _ _) | (with_reducible assumption) | (with_reducible refine below_al ?_ _) | (with_reducible refine below_se' ?_ ?_ _; · (first | omega | (simp <;> omega))) | (with_reducible refine below_dr ?_ _) | (with_reducible refine below_d1 ?_) | (exact Below.refl _ _) | assumption)))
       cases cx
       · go_wp2_with fail
         refine (hh _ _ _ (by first | assumption | omega) (by first | assumption | omega) (hD.below (by (repeat (first | (with_reducible exact Below.refl _ _) | (with_reducible assumption) | (with_reducible refine below_al ?_ _) | (with_reducible refine below_se' ?_ ?_ _; · (first | omega | (simp <;> omega))) | (with_reducible refine below_dr ?_ _) | (with_reducible refine below_d1 ?_) | (exact Below.refl _ _) | assumption))))).mono ?_
         rintro e w1 ⟨rfl, hb1⟩
         have kC : Blk w1 (w.heap.size + 2) 33 #[.int .i64 p, .int .i64 q] := Blk.below (at_new (by simp)) hb1 (by simp)
         have hB1 : Below w.heap.size w w1 := Below.trans (by (repeat (first | (with_reducible exact Below.refl _ _) | (with_reducible assumption) | (with_reducible refine below_al ?_ _) | (with_reducible refine below_se' ?_ ?_ _; · (first | omega | (simp <;> omega))) | (with_reducible refine below_dr ?_ _) | (with_reducible refine below_d1 ?_) | (exact Below.refl _ _) | assumption))) (hb1.mono (by simp <;> omega))
         clear hh hb1 hq
         have e0 := kC.cell 0
         have e1 := kC.cell 1
         simp at e0 e1
         have hz := kC.lt
         cases hv3
         · go_wp2_with fail
           all_goals
             refine bodyPost_ret (results_tmp rfl _ _ _) rfl ?_
             exact ⟨by first | rfl | simp, Below.trans hB1 ((Below.refl _ w1).mono hB1.size) |>.trans (by first | exact (below_al (Below.refl _ w1) _).mono hB1.size | exact ((Below.refl _ w1)).mono hB1.size)⟩
         · go_wp2_with fail
           all_goals
             refine bodyPost_ret (results_tmp rfl _ _ _) rfl ?_
             exact ⟨by first | rfl | simp, Below.trans hB1 ((Below.refl _ w1).mono hB1.size) |>.trans (by first | exact (below_al (Below.refl _ w1) _).mono hB1.size | exact ((Below.refl _ w1)).mono hB1.size)⟩
       · go_wp2_with fail
         refine bodyPost_ret (results_tmp rfl _ _ _) rfl ?_
         exact ⟨by simp, by (repeat (first | (with_reducible exact Below.refl _ _) | (with_reducible assumption) | (with_reducible refine below_al ?_ _) | (with_reducible refine below_se' ?_ ?_ _; · (first | omega | (simp <;> omega))) | (with_reducible refine below_dr ?_ _) | (with_reducible refine below_d1 ?_) | (exact Below.refl _ _) | assumption))⟩)
end Go.Proofs.YtlbehpbhmmppiaaGreatDoor
namespace Go.Proofs.YtlbehpbhmmppiaaGreatDoor
open Go.RowKit Go.Shelf
attribute [local go_sem] Oper.semAt_some

theorem putEnt_eq (W : World) (g : Nat) (x : Ent) : putEnt W g x = (((((((((W.setCell ⟨g, 0, none⟩ (.int .i64 x.day)).setCell ⟨g, 1, none⟩ (.int .u8 x.kind)).setCell ⟨g, 2, none⟩ (.int .i64 x.since)).setCell ⟨g, 3, none⟩ (.int .i64 x.untl)).setCell ⟨g, 4, none⟩ (.int .i64 x.person)).setCell ⟨g, 5, none⟩ (.int .i64 x.place)).setCell ⟨g, 6, none⟩ (.int .i64 x.other)).setCell ⟨g, 7, none⟩ (.int .i64 x.at')).setCell ⟨g, 8, none⟩ (.int .i64 x.order)).setCell ⟨g, 9, none⟩ (.string x.name) := rfl

def zeroEnt : Ent := ⟨0, 0, 0, 0, 0, 0, 0, 0, 0, ⟨#[]⟩⟩
def stepO (dead canc : Int → Bool) (l : List OEnt) (d : Int) (cp : Int × Int) (s : Ent × Bool) (x : OEnt) : Ent × Bool :=
  if (x.1.place ≠ 0 ∨ s.1.place = 0) ∧ appliesOf dead canc l d x.1 cp = true then (x.1, true) else s
def ordPre (dead canc : Int → Bool) (l : List OEnt) (d : Int) (cp : Int × Int) (pre : List OEnt) : Ent × Bool := pre.foldl (stepO dead canc l d cp) (zeroEnt, false)
theorem ordPre_snoc (dead canc : Int → Bool) (l : List OEnt) (d : Int) (cp : Int × Int) (pre : List OEnt) (x : OEnt) : ordPre dead canc l d cp (pre ++ [x]) = stepO dead canc l d cp (ordPre dead canc l d cp pre) x := by
  simp [ordPre]
/-- The order of a pair, and whether there is one. -/
def orderOf (dead canc : Int → Bool) (l : List OEnt) (d : Int) (cp : Int × Int) : Ent × Bool := if dead cp.1 = true then (zeroEnt, false) else ordPre dead canc l d cp (flt l 5 d)

set_option maxRecDepth 100000 in
set_option maxHeartbeats 12000000 in
theorem order_any (A : Option Addr) (c : Nat) (l : List OEnt) (d : Int) (cp : Int × Int) (b1 b2 : Nat) (dead canc : Int → Bool) (hp : -9223372036854775808 ≤ cp.1 ∧ cp.1 ≤ 9223372036854775807) (w : World) (hD : DirIn w A l b1 b2 dead canc) :
    Calls Tryz.prog 76 #[dirVal A l.length c d (some b1) (some b2), candVal cp] w fun e w' => e = .returned (.tuple #[entVal (orderOf dead canc l d cp).1, .bool (orderOf dead canc l d cp).2]) ∧ Below w.heap.size w w' := by
  have hq : ∀ W, Below w.heap.size w W → (Instr.lookup 47 (.map (some b1)) (.int .i64 cp.1) false).run Tryz.prog W = .ok (.bool (dead cp.1)) W := fun W hW => by
    have := (hD.below hW).dead.look lawInt mapIntRow (keyInt hp)
    rwa [onInt_at] at this
  have hz0 : entVal zeroEnt = .agg #[.int .i64 0, .int .u8 0, .int .i64 0, .int .i64 0, .int .i64 0, .int .i64 0, .int .i64 0, .int .i64 0, .int .i64 0, .string ⟨#[]⟩] := rfl
  have hap := fun x W h => applies_any A c l d x cp b1 b2 dead canc W h
  obtain ⟨p, q⟩ := cp
  unfold dirVal candVal at *
  dsimp only at hq hap ⊢
  refine (callsIn_wide (n := 9)).1 (callsIn_of_wp_marks Tryz.func76 rfl trivial ?_ rfl)
  simp only [Tryz.ntmps76, List.size_toArray, List.length_cons, List.length_nil, Nat.reduceAdd, Nat.reduceSub, Array.replicate_succ, Array.replicate_zero, List.push_toArray, List.append_toArray, List.nil_append, List.cons_append]
  cases hd : dead p
  · rw [hd] at hq
    gi_wp2_with (first
      | (gi_at_lookup; refine wpListIn_look _ rfl _ _ _ _ rfl (hq _ (by (repeat (first | (with_reducible exact Below.refl _ _) | (with_reducible assumption) | (with_reducible refine below_al ?_ _) | (with_reducible refine below_se' ?_ ?_ _; · (first | omega | (simp <;> omega))) | (with_reducible refine below_dr ?_ _) | (with_reducible refine below_d1 ?_) | (exact Below.refl _ _) | assumption)))) ?_)
      | (refine ⟨trivial, ?_⟩; gi_at_call 32; refine (each_any _ A l.length c d 5 (some b1) (some b2) _).mono ?_; rintro e w' ⟨rfl, rfl⟩))
    simp only [Nat.add_assoc, Nat.reduceAdd]
    refine wpIn_gen7 ?_
    intro W0 hB0 hz0 k0 k1 k2 k3 k4 k5 k6
    refine wpIn_each (by omega) 8 w.heap.size (w.heap.size + 5) (w.heap.size + 6) A c l 5 d (some b1) (some b2) rfl (by omega) hD.len k5 k6 (hD.list.below hB0)
      (fun pre W => (Blk W w.heap.size 49 #[.slice A l.length c, .int .i64 d, .map (some b1), .map (some b2)] ∧ Blk W (w.heap.size + 1) 33 #[.int .i64 p, .int .i64 q] ∧ Blk W (w.heap.size + 2) 41 (entCells zeroEnt).toArray ∧ EntAt W (w.heap.size + 3) (ordPre dead canc l d (p, q) pre).1 ∧ Blk W (w.heap.size + 4) 4 #[.bool (ordPre dead canc l d (p, q) pre).2]) ∧ (Below w.heap.size w W ∧ W0.heap.size ≤ W.heap.size))
      (fun _ _ _ => False) ?_ (fun _ _ _ _ _ hs _ _ => hs) ⟨⟨k0, k1, k2, k3, k4⟩, hB0, Nat.le_refl _⟩ (fun pre W hs => hs.2.2) ?_ ?_ ?_ ?_
    · exact .and (.and (Own.from (blk_own _ _ _) _) (.and (Own.from (blk_own _ _ _) _) (.and (Own.from (blk_own _ _ _) _) (.and (Own.from (blk_own _ _ (fun pre => (entCells (ordPre dead canc l d (p, q) pre).1).toArray)) _) (Own.from (blk_own _ _ _) _))))) (.and (ownFrom_below (Nat.le_refl _) (by omega)) (size_own _ _))
    · intro lp x W K hK
      unfold entVal entCells at *
      simp only [List.setIfInBounds_toArray, List.set_cons_succ, List.set_cons_zero] at hK ⊢
      gi_wp2
      exact hK
    · rintro lp pre x Bx W hBx hx ⟨⟨bD, bC, bR, bO, bF⟩, hB, hz⟩
      have hs := ordPre_snoc dead canc l d (p, q) pre x
      generalize ordPre dead canc l d (p, q) pre = st at *
      obtain ⟨so, sf⟩ := st
      obtain ⟨c0, c1, c2, c3, c4, c5, c6, c7, c8, c9, _⟩ := hx.cells
      obtain ⟨o0, o1, o2, o3, o4, o5, o6, o7, o8, o9, _⟩ := bO.cells
      have d0 := bD.cell 0
      have d1 := bD.cell 1
      have d2 := bD.cell 2
      have d3 := bD.cell 3
      have e0 := bC.cell 0
      have e1 := bC.cell 1
      simp at d0 d1 d2 d3 e0 e1
      by_cases hxp : x.1.place = 0
      · have hx0 : (x.1.place != 0) = false := by simpa using hxp
        by_cases hop : so.place = 0
        · have HX := Lib.hid (show (x.1.place ≠ 0 ∨ so.place = 0) from .inr hop)
          have hx1 : (so.place == 0) = true := by simpa using hop
          clear hxp hop
          gi_wp2_with fail
          refine ⟨trivial, ?_⟩
          refine (CallsIn.inRound lp (callsIn_wide.2 (hap x _ (hD.below hB)))).mono ?_
          rintro e w1 ⟨rfl, hb1⟩
          have hKO := keepsO_new hb1
          have hKM : Keeps (mineS w.heap.size (w.heap.size + 5) (w.heap.size + 6)) W w1 := Keeps.of_new hb1
          have hB1 : Below w.heap.size w w1 := hB.trans (hb1.mono hB.size)
          have hz1 : W0.heap.size ≤ w1.heap.size := Nat.le_trans hz hb1.size
          have bD' := bD.below hb1 bD.lt
          have bC' := bC.below hb1 bC.lt
          have bR' := bR.below hb1 bR.lt
          have bO' : EntAt w1 (w.heap.size + 3) so := bO.below hb1 (Blk.lt bO)
          have bF' := bF.below hb1 bF.lt
          have hx' : EntAt w1 Bx x.1 := hx.below hb1 (Blk.lt hx)
          clear hap hb1 bD bC bR bO bF hx c0 c1 c2 c3 c4 c5 c6 c7 c8 c9 o0 o1 o2 o3 o4 o5 o6 o7 o8 o9 d0 d1 d2 d3 e0 e1 hx1 hx0
          cases hap2 : appliesOf dead canc l d x.1 (p, q)
          · have hs2 : ordPre dead canc l d (p, q) (pre ++ [x]) = (so, sf) := by rw [hs]; unfold stepO; rw [hap2]; simp
            gi_wp2
            exact ⟨hKO.from _, hKM, ⟨bD', bC', bR', by rw [hs2]; exact bO', by rw [hs2]; exact bF'⟩, hB1, hz1⟩
          · have hs2 : ordPre dead canc l d (p, q) (pre ++ [x]) = (x.1, true) := by rw [hs]; unfold stepO; rw [hap2]; simp [HX.out]
            obtain ⟨c0, c1, c2, c3, c4, c5, c6, c7, c8, c9, _⟩ := hx'.cells
            obtain ⟨o0, o1, o2, o3, o4, o5, o6, o7, o8, o9, _⟩ := bO'.cells
            have f0 := bO'.frozens 0
            have f1 := bO'.frozens 1
            have f2 := bO'.frozens 2
            have f3 := bO'.frozens 3
            have f4 := bO'.frozens 4
            have f5 := bO'.frozens 5
            have f6 := bO'.frozens 6
            have f7 := bO'.frozens 7
            have f8 := bO'.frozens 8
            have f9 := bO'.frozens 9
            have g0 := bF'.cell 0
            have g1 := bF'.frozen 0
            simp at g0
            gi_wp2
            have hEP := bO'.put x.1
            have hFP := bF'.putFar (g' := w.heap.size + 3) (by omega) x.1
            have hDP := bD'.putFar (g' := w.heap.size + 3) (by omega) x.1
            have hCP := bC'.putFar (g' := w.heap.size + 3) (by omega) x.1
            have hRP := bR'.putFar (g' := w.heap.size + 3) (by omega) x.1
            have q1 := hKO.trans (putEnt_others w1 (w.heap.size + 3) x.1)
            have q2 := hKM.trans (putEnt_keeps (S := mineS w.heap.size (w.heap.size + 5) (w.heap.size + 6)) w1 (g := w.heap.size + 3) ⟨by omega, by omega, by omega⟩ x.1) (fun _ _ h => h)
            have q3 := hB1.trans (putEnt_below w1 (g := w.heap.size + 3) (by omega) x.1)
            have q4 := Nat.le_trans hz1 (putEnt_below (n := w.heap.size) w1 (g := w.heap.size + 3) (by omega) x.1).size
            rw [← putEnt_eq]
            generalize putEnt w1 (w.heap.size + 3) x.1 = V at hEP hFP hDP hCP hRP q1 q2 q3 q4 ⊢
            exact ⟨(q1.trans (KeepsOthers.setCell _ _ _)).from _, q2.setCell (fun _ => ⟨by simp, by simp, by simp⟩) _, ⟨hDP.far (by simp) _, hCP.far (by simp) _, hRP.far (by simp) _, by rw [hs2]; exact Blk.far hEP (by simp) _, by rw [hs2]; exact hFP.set 0 _⟩, q3.setCell (by simp) _, by simpa [World.setCell] using q4⟩
        · have hs2 : ordPre dead canc l d (p, q) (pre ++ [x]) = (so, sf) := by rw [hs]; unfold stepO; simp [hxp, hop]
          have hx1 : (so.place == 0) = false := by simpa using hop
          clear hxp hop
          dsimp only at o0 o1 o2 o3 o4 o5 o6 o7 o8 o9
          gi_wp2
          refine ⟨trivial, ?_⟩
          gi_wp2
          exact ⟨KeepsFrom.refl _ _, Keeps.refl _ _, ⟨bD, bC, bR, by rw [hs2]; exact bO, by rw [hs2]; exact bF⟩, hB, hz⟩
      · have HX := Lib.hid (show (x.1.place ≠ 0 ∨ so.place = 0) from .inl hxp)
        have hx1 : (x.1.place != 0) = true := by simpa using hxp
        clear hxp
        gi_wp2_with fail
        refine ⟨trivial, ?_⟩
        refine (CallsIn.inRound lp (callsIn_wide.2 (hap x _ (hD.below hB)))).mono ?_
        rintro e w1 ⟨rfl, hb1⟩
        have hKO := keepsO_new hb1
        have hKM : Keeps (mineS w.heap.size (w.heap.size + 5) (w.heap.size + 6)) W w1 := Keeps.of_new hb1
        have hB1 : Below w.heap.size w w1 := hB.trans (hb1.mono hB.size)
        have hz1 : W0.heap.size ≤ w1.heap.size := Nat.le_trans hz hb1.size
        have bD' := bD.below hb1 bD.lt
        have bC' := bC.below hb1 bC.lt
        have bR' := bR.below hb1 bR.lt
        have bO' : EntAt w1 (w.heap.size + 3) so := bO.below hb1 (Blk.lt bO)
        have bF' := bF.below hb1 bF.lt
        have hx' : EntAt w1 Bx x.1 := hx.below hb1 (Blk.lt hx)
        clear hap hb1 bD bC bR bO bF hx c0 c1 c2 c3 c4 c5 c6 c7 c8 c9 o0 o1 o2 o3 o4 o5 o6 o7 o8 o9 d0 d1 d2 d3 e0 e1 hx1
        cases hap2 : appliesOf dead canc l d x.1 (p, q)
        · have hs2 : ordPre dead canc l d (p, q) (pre ++ [x]) = (so, sf) := by rw [hs]; unfold stepO; rw [hap2]; simp
          gi_wp2
          exact ⟨hKO.from _, hKM, ⟨bD', bC', bR', by rw [hs2]; exact bO', by rw [hs2]; exact bF'⟩, hB1, hz1⟩
        · have hs2 : ordPre dead canc l d (p, q) (pre ++ [x]) = (x.1, true) := by rw [hs]; unfold stepO; rw [hap2]; simp [HX.out]
          obtain ⟨c0, c1, c2, c3, c4, c5, c6, c7, c8, c9, _⟩ := hx'.cells
          obtain ⟨o0, o1, o2, o3, o4, o5, o6, o7, o8, o9, _⟩ := bO'.cells
          have f0 := bO'.frozens 0
          have f1 := bO'.frozens 1
          have f2 := bO'.frozens 2
          have f3 := bO'.frozens 3
          have f4 := bO'.frozens 4
          have f5 := bO'.frozens 5
          have f6 := bO'.frozens 6
          have f7 := bO'.frozens 7
          have f8 := bO'.frozens 8
          have f9 := bO'.frozens 9
          have g0 := bF'.cell 0
          have g1 := bF'.frozen 0
          simp at g0
          gi_wp2
          have hEP := bO'.put x.1
          have hFP := bF'.putFar (g' := w.heap.size + 3) (by omega) x.1
          have hDP := bD'.putFar (g' := w.heap.size + 3) (by omega) x.1
          have hCP := bC'.putFar (g' := w.heap.size + 3) (by omega) x.1
          have hRP := bR'.putFar (g' := w.heap.size + 3) (by omega) x.1
          have q1 := hKO.trans (putEnt_others w1 (w.heap.size + 3) x.1)
          have q2 := hKM.trans (putEnt_keeps (S := mineS w.heap.size (w.heap.size + 5) (w.heap.size + 6)) w1 (g := w.heap.size + 3) ⟨by omega, by omega, by omega⟩ x.1) (fun _ _ h => h)
          have q3 := hB1.trans (putEnt_below w1 (g := w.heap.size + 3) (by omega) x.1)
          have q4 := Nat.le_trans hz1 (putEnt_below (n := w.heap.size) w1 (g := w.heap.size + 3) (by omega) x.1).size
          rw [← putEnt_eq]
          generalize putEnt w1 (w.heap.size + 3) x.1 = V at hEP hFP hDP hCP hRP q1 q2 q3 q4 ⊢
          exact ⟨(q1.trans (KeepsOthers.setCell _ _ _)).from _, q2.setCell (fun _ => ⟨by simp, by simp, by simp⟩) _, ⟨hDP.far (by simp) _, hCP.far (by simp) _, hRP.far (by simp) _, by rw [hs2]; exact Blk.far hEP (by simp) _, by rw [hs2]; exact hFP.set 0 _⟩, q3.setCell (by simp) _, by simpa [World.setCell] using q4⟩
    · rintro D W hD' ⟨⟨bD, bC, bR, bO, bF⟩, hB, hz⟩ hK
      have ho : orderOf dead canc l d (p, q) = ordPre dead canc l d (p, q) (flt l 5 d) := by simp [orderOf, hd]
      generalize ordPre dead canc l d (p, q) (flt l 5 d) = st at *
      obtain ⟨so, sf⟩ := st
      obtain ⟨o0, o1, o2, o3, o4, o5, o6, o7, o8, o9, _⟩ := bO.cells
      have bR' : EntAt W (w.heap.size + 2) zeroEnt := bR
      obtain ⟨r0, r1, r2, r3, r4, r5, r6, r7, r8, r9, _⟩ := bR'.cells
      have f0 := bR'.frozens 0
      have f1 := bR'.frozens 1
      have f2 := bR'.frozens 2
      have f3 := bR'.frozens 3
      have f4 := bR'.frozens 4
      have f5 := bR'.frozens 5
      have f6 := bR'.frozens 6
      have f7 := bR'.frozens 7
      have f8 := bR'.frozens 8
      have f9 := bR'.frozens 9
      have g0 := bF.cell 0
      simp at g0
      dsimp only at o0 o1 o2 o3 o4 o5 o6 o7 o8 o9
      gi_wp2
      refine wpIn_wide.2 ?_
      go_region
      gi_wp2
      have hE := bR'.put so
      have hK2 := (putEnt_others W (w.heap.size + 2) so).same D _ hK rfl
      have hB2 := hB.trans (putEnt_below W (g := w.heap.size + 2) (by omega) so)
      have hcr : dead p = false := hd
      rw [← putEnt_eq]
      generalize putEnt W (w.heap.size + 2) so = V at hE hK2 hB2 ⊢
      refine ⟨by simp, .inl ⟨_, _, rfl, run_takeDeferred (w := V.drew) hK2, ?_⟩⟩
      exact ⟨_, results_crt rfl (hg := (grownBy_putObj' _ D _).block _ (Blk.lt hE) (by simp; omega) |>.trans hE) rfl rowEnt sizeEnt, by rw [ho]; rfl, below_end (below_d1 hB2) hK2 (by omega)⟩
    · rintro D co pre W _ _ h _
      exact h.elim
  · rw [hd] at hq
    gi_wp2_with (gi_at_lookup; refine wpListIn_look _ rfl _ _ _ _ rfl (hq _ (by (repeat (first | (with_reducible exact Below.refl _ _) | (with_reducible assumption) | (with_reducible refine below_al ?_ _) | (with_reducible refine below_se' ?_ ?_ _; · (first | omega | (simp <;> omega))) | (with_reducible refine below_dr ?_ _) | (with_reducible refine below_d1 ?_) | (exact Below.refl _ _) | assumption)))) ?_)
    refine wpIn_gen5 ?_
    intro W0 hB0 hz1 k0 k1 k2 k3 k4
    have bR' : EntAt W0 (w.heap.size + 2) zeroEnt := k2
    have bO' : EntAt W0 (w.heap.size + 3) zeroEnt := k3
    obtain ⟨o0, o1, o2, o3, o4, o5, o6, o7, o8, o9, _⟩ := bO'.cells
    obtain ⟨r0, r1, r2, r3, r4, r5, r6, r7, r8, r9, _⟩ := bR'.cells
    have f0 := bR'.frozens 0
    have f1 := bR'.frozens 1
    have f2 := bR'.frozens 2
    have f3 := bR'.frozens 3
    have f4 := bR'.frozens 4
    have f5 := bR'.frozens 5
    have f6 := bR'.frozens 6
    have f7 := bR'.frozens 7
    have f8 := bR'.frozens 8
    have f9 := bR'.frozens 9
    have g0 := Blk.cell (w := W0) (g := w.heap.size + 4) k4 0
    simp at g0
    simp only [Nat.add_assoc, Nat.reduceAdd]
    refine wpIn_wide.2 ?_
    go_region
    gi_wp2
    have hE := bR'.put zeroEnt
    have hB2 := hB0.trans (putEnt_below W0 (g := w.heap.size + 2) (by omega) zeroEnt)
    rw [← putEnt_eq]
    generalize putEnt W0 (w.heap.size + 2) zeroEnt = V at hE hB2 ⊢
    exact ⟨_, results_crt rfl (Blk.drew hE) rfl rowEnt sizeEnt, by unfold orderOf; rw [hd]; rfl, below_d1 hB2⟩
end Go.Proofs.YtlbehpbhmmppiaaGreatDoor
namespace Go.Proofs.YtlbehpbhmmppiaaGreatDoor
open Go.RowKit Go.Shelf
attribute [local go_sem] Oper.semAt_some

/-- The cause as a value. -/
def whyVal (dead canc : Int → Bool) (l : List OEnt) (d : Int) (cp : Int × Int) : Value :=
  if ((heirOf l d cp.1).2 && dead cp.1) = true then .iface 82 (.agg #[.int .i64 (heirOf l d cp.1).1])
  else if (orderOf dead canc l d cp).2 = true then .iface 80 (entVal (orderOf dead canc l d cp).1) else .nilIface

set_option maxRecDepth 100000 in
set_option maxHeartbeats 4000000 in
theorem why_any (A : Option Addr) (c : Nat) (l : List OEnt) (d : Int) (cp : Int × Int) (b1 b2 : Nat) (dead canc : Int → Bool) (hp : -9223372036854775808 ≤ cp.1 ∧ cp.1 ≤ 9223372036854775807) (w : World) (hD : DirIn w A l b1 b2 dead canc) :
    Calls Tryz.prog 45 #[dirVal A l.length c d (some b1) (some b2), candVal cp] w fun e w' => e = .returned (whyVal dead canc l d cp) ∧ Below w.heap.size w w' := by
  have hq : ∀ W, Below w.heap.size w W → (Instr.lookup 47 (.map (some b1)) (.int .i64 cp.1) false).run Tryz.prog W = .ok (.bool (dead cp.1)) W := fun W hW => by
    have := (hD.below hW).dead.look lawInt mapIntRow (keyInt hp)
    rwa [onInt_at] at this
  have hor := fun W h => order_any A c l d cp b1 b2 dead canc hp W h
  have hhe := fun W h => heir_any A c l d cp.1 b1 b2 dead canc W h
  unfold whyVal
  obtain ⟨p, q⟩ := cp
  generalize orderOf dead canc l d (p, q) = hv at *
  obtain ⟨hv1, hv2⟩ := hv
  unfold dirVal candVal entVal at *
  dsimp only at hq hor hhe ⊢
  generalize heirOf l d p = hw at *
  obtain ⟨hw1, hw2⟩ := hw
  dsimp only at hq hor hhe ⊢
  generalize dead p = dp at *
  go_enter Tryz.func45, Tryz.ntmps45
  go_wp2_with fail
  have hB0 : Below w.heap.size w ((w.alloc (.cells #[.slice A l.length c, .int .i64 d, .map (some b1), .map (some b2)] 49)).alloc (.cells #[.int .i64 p, .int .i64 q] 33)) := by (repeat (first | (with_reducible exact Below.refl _ _) | (with_reducible assumption) | (with_reducible refine below_al ?_ _) | (with_reducible refine below_se' ?_ ?_ _; · (first | omega | (simp <;> omega))) | (with_reducible refine below_dr ?_ _) | (with_reducible refine below_d1 ?_) | (exact Below.refl _ _) | assumption))
  have kD : Blk ((w.alloc (.cells #[.slice A l.length c, .int .i64 d, .map (some b1), .map (some b2)] 49)).alloc (.cells #[.int .i64 p, .int .i64 q] 33)) w.heap.size 49 #[.slice A l.length c, .int .i64 d, .map (some b1), .map (some b2)] := at_al (at_new rfl)
  have kC : Blk ((w.alloc (.cells #[.slice A l.length c, .int .i64 d, .map (some b1), .map (some b2)] 49)).alloc (.cells #[.int .i64 p, .int .i64 q] 33)) (w.heap.size + 1) 33 #[.int .i64 p, .int .i64 q] := at_new (by simp)
  generalize (w.alloc (.cells _ 49)).alloc (.cells _ 33) = W0 at hB0 kD kC ⊢
  refine (hhe W0 (hD.below hB0)).mono ?_
  rintro e w1 ⟨rfl, hb1⟩
  have hB1 : Below w.heap.size w w1 := hB0.trans (hb1.mono hB0.size)
  replace kD := kD.below hb1 kD.lt
  replace kC := kC.below hb1 kC.lt
  clear hhe hb1 hB0
  have d0 := kD.cell 0
  have d1 := kD.cell 1
  have d2 := kD.cell 2
  have d3 := kD.cell 3
  have e0 := kC.cell 0
  have e1 := kC.cell 1
  simp at d0 d1 d2 d3 e0 e1
  have hq1 := hq w1 hB1
  clear hq
  cases hw2
  · go_wp2_with fail
    all_goals
      refine (hor w1 (hD.below hB1)).mono ?_
      rintro e w2 ⟨rfl, hb2⟩
      have hB2 : Below w.heap.size w w2 := hB1.trans (hb2.mono hB1.size)
      clear hor hq1 hb2 d0 d1 d2 d3 e0 e1
      cases hv2
      · go_wp2_with fail
        refine bodyPost_ret (results_tmp rfl _ _ _) rfl ?_
        exact ⟨by first | rfl | simp, by (repeat (first | (with_reducible exact Below.refl _ _) | (with_reducible assumption) | (with_reducible refine below_al ?_ _) | (with_reducible refine below_se' ?_ ?_ _; · (first | omega | (simp <;> omega))) | (with_reducible refine below_dr ?_ _) | (with_reducible refine below_d1 ?_) | (exact Below.refl _ _) | assumption))⟩
      · go_wp2_with fail
        refine bodyPost_ret (results_tmp rfl _ _ _) rfl ?_
        exact ⟨by first | rfl | simp, by (repeat (first | (with_reducible exact Below.refl _ _) | (with_reducible assumption) | (with_reducible refine below_al ?_ _) | (with_reducible refine below_se' ?_ ?_ _; · (first | omega | (simp <;> omega))) | (with_reducible refine below_dr ?_ _) | (with_reducible refine below_d1 ?_) | (exact Below.refl _ _) | assumption))⟩
  · cases dp
    · go_wp2_with fail
      all_goals
        refine (hor w1 (hD.below hB1)).mono ?_
        rintro e w2 ⟨rfl, hb2⟩
        have hB2 : Below w.heap.size w w2 := hB1.trans (hb2.mono hB1.size)
        clear hor hq1 hb2 d0 d1 d2 d3 e0 e1
        cases hv2
        · go_wp2_with fail
          refine bodyPost_ret (results_tmp rfl _ _ _) rfl ?_
          exact ⟨by first | rfl | simp, by (repeat (first | (with_reducible exact Below.refl _ _) | (with_reducible assumption) | (with_reducible refine below_al ?_ _) | (with_reducible refine below_se' ?_ ?_ _; · (first | omega | (simp <;> omega))) | (with_reducible refine below_dr ?_ _) | (with_reducible refine below_d1 ?_) | (exact Below.refl _ _) | assumption))⟩
        · go_wp2_with fail
          refine bodyPost_ret (results_tmp rfl _ _ _) rfl ?_
          exact ⟨by first | rfl | simp, by (repeat (first | (with_reducible exact Below.refl _ _) | (with_reducible assumption) | (with_reducible refine below_al ?_ _) | (with_reducible refine below_se' ?_ ?_ _; · (first | omega | (simp <;> omega))) | (with_reducible refine below_dr ?_ _) | (with_reducible refine below_d1 ?_) | (exact Below.refl _ _) | assumption))⟩
    · go_wp2_with fail
      refine bodyPost_ret (results_tmp rfl _ _ _) rfl ?_
      exact ⟨by first | rfl | simp, by (repeat (first | (with_reducible exact Below.refl _ _) | (with_reducible assumption) | (with_reducible refine below_al ?_ _) | (with_reducible refine below_se' ?_ ?_ _; · (first | omega | (simp <;> omega))) | (with_reducible refine below_dr ?_ _) | (with_reducible refine below_d1 ?_) | (exact Below.refl _ _) | assumption))⟩
end Go.Proofs.YtlbehpbhmmppiaaGreatDoor
namespace Go.Proofs.YtlbehpbhmmppiaaGreatDoor
open Go.RowKit Go.Shelf
attribute [local go_sem] Oper.semAt_some

theorem lastOf_ent (f : Ent → Int) (p : Int) : ∀ (pre : List OEnt) (s : Int × Bool), (s.2 = true → ∃ x : OEnt, s.1 = f x.1) →
    (pre.foldl (fun s x => if x.1.person = p then (f x.1, true) else s) s).2 = true → ∃ x : OEnt, (pre.foldl (fun s x => if x.1.person = p then (f x.1, true) else s) s).1 = f x.1
  | [], _, hs, h => hs h
  | x :: pre, s, hs, h => lastOf_ent f p pre _ (fun h' => by
      dsimp only at h' ⊢
      split
      · exact ⟨x, rfl⟩
      · rename_i hn; rw [if_neg hn] at h'; exact hs h') h
theorem heirOf_ent {l : List OEnt} {d p : Int} (h : (heirOf l d p).2 = true) : ∃ x : OEnt, (heirOf l d p).1 = x.1.other :=
  lastOf_ent (·.other) p _ _ (fun h => by cases h) h
theorem ordPre_ent (dead canc : Int → Bool) (l : List OEnt) (d : Int) (cp : Int × Int) : ∀ (pre : List OEnt) (s : Ent × Bool), (s.2 = true → ∃ x : OEnt, s.1 = x.1) →
    (pre.foldl (stepO dead canc l d cp) s).2 = true → ∃ x : OEnt, (pre.foldl (stepO dead canc l d cp) s).1 = x.1
  | [], _, hs, h => hs h
  | x :: pre, s, hs, h => ordPre_ent dead canc l d cp pre _ (fun h' => by
      unfold stepO at h' ⊢
      split
      · exact ⟨x, rfl⟩
      · rename_i hn; rw [if_neg hn] at h'; exact hs h') h
theorem orderOf_ent {dead canc : Int → Bool} {l : List OEnt} {d : Int} {cp : Int × Int} (h : (orderOf dead canc l d cp).2 = true) : ∃ x : OEnt, (orderOf dead canc l d cp).1 = x.1 := by
  unfold orderOf at h ⊢
  split
  · rename_i hd; rw [if_pos hd] at h; cases h
  · rename_i hd; rw [if_neg hd] at h; exact ordPre_ent dead canc l d cp _ _ (fun h => by cases h) h

theorem below_two {w X w2 : World} (h2 : Below X.heap.size X w2) (h1 : Below w.heap.size w X) : Below w.heap.size w w2 := h1.trans (h2.mono h1.size)
theorem calls_gen4 {P : Program} {f : FuncId} {args : Array Value} {R : Ending → World → Prop} {w : World} {o0 o1 o2 o3 : Obj}
    (h : ∀ W, Below w.heap.size w W → W.heap.size = w.heap.size + 4 → W.heap[w.heap.size]? = some o0 → W.heap[w.heap.size + 1]? = some o1 → W.heap[w.heap.size + 2]? = some o2 → W.heap[w.heap.size + 3]? = some o3 → Calls P f args W R) :
    Calls P f args ((((w.alloc o0).alloc o1).alloc o2).alloc o3) R := by
  refine h _ (by (repeat (first | (with_reducible exact Below.refl _ _) | (with_reducible assumption) | (with_reducible refine below_al ?_ _) | (with_reducible refine below_se' ?_ ?_ _; · (first | omega | (simp <;> omega))) | (with_reducible refine below_dr ?_ _) | (with_reducible refine below_d1 ?_) | (exact Below.refl _ _) | assumption))) (by simp) ?_ ?_ ?_ ?_ <;> (repeat (first | exact at_new (by simp) | refine at_al ?_))

theorem taN91 (w : World) : (Instr.typeAssert .nilIface 84 82 true).run Tryz.prog w = .ok (.tuple #[.agg #[.int .i64 0], .bool false]) w := by kernel_rfl
theorem taN95 (w : World) : (Instr.typeAssert .nilIface 84 80 true).run Tryz.prog w = .ok (.tuple #[entVal zeroEnt, .bool false]) w := by kernel_rfl
theorem taI91 (v : Value) (w : World) : (Instr.typeAssert (.iface 82 v) 84 82 true).run Tryz.prog w = .ok (.tuple #[v, .bool true]) w := by kernel_rfl
theorem taR91 (v : Value) (w : World) : (Instr.typeAssert (.iface 80 v) 84 82 true).run Tryz.prog w = .ok (.tuple #[.agg #[.int .i64 0], .bool false]) w := by kernel_rfl
theorem taR95 (v : Value) (w : World) : (Instr.typeAssert (.iface 80 v) 84 80 true).run Tryz.prog w = .ok (.tuple #[v, .bool true]) w := by kernel_rfl

/-- A hop as a value: its kind, where from, where to, its order. -/
def hopVal (k : Int) (cp t : Int × Int) (o : Int) : Value := .agg #[.int .u8 k, .int .i64 cp.1, .int .i64 cp.2, .int .i64 t.1, .int .i64 t.2, .int .i64 o]
/-- The hop of a pair: its kind, its end, its order, and whether it leads to a pair. -/
def hopOf (dead canc : Int → Bool) (l : List OEnt) (d : Int) (cp : Int × Int) : (Int × (Int × Int) × Int) × Bool :=
  if ((heirOf l d cp.1).2 && dead cp.1) = true then ((2, (reachedOf dead l d (heirOf l d cp.1).1).1, 0), (reachedOf dead l d (heirOf l d cp.1).1).2)
  else if (orderOf dead canc l d cp).2 = true then ((1, (targetOf dead l d (orderOf dead canc l d cp).1).1, (orderOf dead canc l d cp).1.order), (targetOf dead l d (orderOf dead canc l d cp).1).2)
  else ((0, (0, 0), 0), false)

set_option maxRecDepth 100000 in
set_option maxHeartbeats 2000000 in
theorem hop_any (A : Option Addr) (c : Nat) (l : List OEnt) (d : Int) (cp : Int × Int) (b1 b2 : Nat) (dead canc : Int → Bool) (hp : -9223372036854775808 ≤ cp.1 ∧ cp.1 ≤ 9223372036854775807) (w : World) (hD : DirIn w A l b1 b2 dead canc) :
    Calls Tryz.prog 27 #[dirVal A l.length c d (some b1) (some b2), candVal cp] w fun e w' =>
      e = .returned (.tuple #[hopVal (hopOf dead canc l d cp).1.1 cp (hopOf dead canc l d cp).1.2.1 (hopOf dead canc l d cp).1.2.2, .bool (hopOf dead canc l d cp).2]) ∧ Below w.heap.size w w' := by
  have hwh := fun W h => why_any A c l d cp b1 b2 dead canc hp W h
  have hin : ∀ W, ((heirOf l d cp.1).2 && dead cp.1) = true → DirIn W A l b1 b2 dead canc → Calls Tryz.prog 46 #[.agg #[.int .i64 (heirOf l d cp.1).1], dirVal A l.length c d (some b1) (some b2)] W fun e w' => e = .returned (.tuple #[candVal (reachedOf dead l d (heirOf l d cp.1).1).1, .bool (reachedOf dead l d (heirOf l d cp.1).1).2]) ∧ Below W.heap.size W w' := fun W h hW => by
    obtain ⟨x, hx⟩ := heirOf_ent (l := l) (d := d) (p := cp.1) (by revert h; cases (heirOf l d cp.1).2 <;> simp)
    rw [hx]
    exact target1_any A c l d x.1.other b1 b2 dead canc x.2.2.2.1 W hW
  have hre : ∀ W, (orderOf dead canc l d cp).2 = true → DirIn W A l b1 b2 dead canc → Calls Tryz.prog 47 #[.agg (entCells (orderOf dead canc l d cp).1).toArray, dirVal A l.length c d (some b1) (some b2)] W fun e w' => e = .returned (.tuple #[candVal (targetOf dead l d (orderOf dead canc l d cp).1).1, .bool (targetOf dead l d (orderOf dead canc l d cp).1).2]) ∧ Below W.heap.size W w' := fun W h hW => by
    obtain ⟨x, hx⟩ := orderOf_ent h
    rw [hx]
    exact target2_any A c l d x b1 b2 dead canc W hW
  unfold hopOf whyVal at *
  generalize orderOf dead canc l d cp = hv at *
  obtain ⟨hv1, hv2⟩ := hv
  generalize heirOf l d cp.1 = hw at *
  obtain ⟨hw1, hw2⟩ := hw
  dsimp only at hwh hin hre ⊢
  generalize reachedOf dead l d hw1 = rc at *
  obtain ⟨⟨rc1, rc2⟩, rc3⟩ := rc
  generalize targetOf dead l d hv1 = tg at *
  obtain ⟨⟨tg1, tg2⟩, tg3⟩ := tg
  obtain ⟨p, q⟩ := cp
  unfold dirVal candVal entVal entCells hopVal at *
  dsimp only at hwh hin hre ⊢
  generalize (hw2 && dead p) = hi at *
  clear hw2
  go_enter Tryz.func27, Tryz.ntmps27
  go_wp2_with fail
  simp only [Nat.add_assoc, Nat.reduceAdd]
  refine calls_gen4 ?_
  intro W0 hB0 hz0 k0 k1 k2 k3
  refine (hwh W0 (hD.below hB0)).mono ?_
  rintro e w1 ⟨rfl, hb1⟩
  have hB1 : Below w.heap.size w w1 := hB0.trans (hb1.mono hB0.size)
  have kD := Blk.below (w := W0) k0 hb1 (by omega)
  have kR := Blk.below (w := W0) k2 hb1 (by omega)
  have kH := Blk.below (w := W0) k3 hb1 (by omega)
  have hz1 : w.heap.size + 4 ≤ w1.heap.size := by have := hb1.size; omega
  clear hwh hb1 hB0 k0 k1 k2 k3
  have d0 := kD.cell 0
  have d1 := kD.cell 1
  have d2 := kD.cell 2
  have d3 := kD.cell 3
  have h0 := kH.cell 0
  have h1 := kH.cell 1
  have h2 := kH.cell 2
  have h3 := kH.cell 3
  have h4 := kH.cell 4
  have h5 := kH.cell 5
  have g0 := kH.frozen 0
  have g3 := kH.frozen 3
  have g4 := kH.frozen 4
  have g5 := kH.frozen 5
  have r0 := kR.cell 0
  have r1 := kR.cell 1
  have r2 := kR.cell 2
  have r3 := kR.cell 3
  have r4 := kR.cell 4
  have r5 := kR.cell 5
  have f0 := kR.frozen 0
  have f1 := kR.frozen 1
  have f2 := kR.frozen 2
  have f3 := kR.frozen 3
  have f4 := kR.frozen 4
  have f5 := kR.frozen 5
  simp at d0 d1 d2 d3 h0 h1 h2 h3 h4 h5 r0 r1 r2 r3 r4 r5
  have n1 := taN91
  have n2 := taN95
  have n3 := taI91
  have n4 := taR91
  have n5 := taR95
  unfold entVal zeroEnt at n2
  dsimp only at n2
  cases hi
  · cases hv2
    · go_wp2_with fail
      all_goals first
        | (exfalso; simp_all; done)
        | (have kE := (((((kR.set 0 (.int .u8 0)).set 1 (.int .i64 p)).set 2 (.int .i64 q)).set 3 (.int .i64 0)).set 4 (.int .i64 0)).set 5 (.int .i64 0)
           simp only [List.setIfInBounds_toArray, List.set_cons_zero, List.set_cons_succ] at kE
           refine bodyPost_ret (results_crt rfl kE rfl rowHop sizeHop) rfl ?_
           exact ⟨by first | rfl | simp, by (repeat (first | (with_reducible exact Below.refl _ _) | (with_reducible assumption) | (with_reducible refine below_al ?_ _) | (with_reducible refine below_se' ?_ ?_ _; · (first | omega | (simp <;> omega))) | (with_reducible refine below_dr ?_ _) | (with_reducible refine below_d1 ?_) | (exact Below.refl _ _) | assumption))⟩)
    · go_wp2_with fail
      have kX : Blk (w1.alloc (.cells #[.int .i64 hv1.day, .int .u8 hv1.kind, .int .i64 hv1.since, .int .i64 hv1.untl, .int .i64 hv1.person, .int .i64 hv1.place, .int .i64 hv1.other, .int .i64 hv1.at', .int .i64 hv1.order, .string hv1.name] 80)) w1.heap.size 80 #[.int .i64 hv1.day, .int .u8 hv1.kind, .int .i64 hv1.since, .int .i64 hv1.untl, .int .i64 hv1.person, .int .i64 hv1.place, .int .i64 hv1.other, .int .i64 hv1.at', .int .i64 hv1.order, .string hv1.name] := at_new rfl
      have kH2 := kH.alloc (.cells #[.int .i64 hv1.day, .int .u8 hv1.kind, .int .i64 hv1.since, .int .i64 hv1.untl, .int .i64 hv1.person, .int .i64 hv1.place, .int .i64 hv1.other, .int .i64 hv1.at', .int .i64 hv1.order, .string hv1.name] 80)
      have kR2 := kR.alloc (.cells #[.int .i64 hv1.day, .int .u8 hv1.kind, .int .i64 hv1.since, .int .i64 hv1.untl, .int .i64 hv1.person, .int .i64 hv1.place, .int .i64 hv1.other, .int .i64 hv1.at', .int .i64 hv1.order, .string hv1.name] 80)
      have kD2 := kD.alloc (.cells #[.int .i64 hv1.day, .int .u8 hv1.kind, .int .i64 hv1.since, .int .i64 hv1.untl, .int .i64 hv1.person, .int .i64 hv1.place, .int .i64 hv1.other, .int .i64 hv1.at', .int .i64 hv1.order, .string hv1.name] 80)
      have hB2 := below_al hB1 (.cells #[.int .i64 hv1.day, .int .u8 hv1.kind, .int .i64 hv1.since, .int .i64 hv1.untl, .int .i64 hv1.person, .int .i64 hv1.place, .int .i64 hv1.other, .int .i64 hv1.at', .int .i64 hv1.order, .string hv1.name] 80)
      generalize w1.alloc (.cells #[.int .i64 hv1.day, .int .u8 hv1.kind, .int .i64 hv1.since, .int .i64 hv1.untl, .int .i64 hv1.person, .int .i64 hv1.place, .int .i64 hv1.other, .int .i64 hv1.at', .int .i64 hv1.order, .string hv1.name] 80) = V at kX kH2 kR2 kD2 hB2 ⊢
      clear d0 d1 d2 d3 h0 h1 h2 h3 h4 h5 g0 g3 g4 g5 r0 r1 r2 r3 r4 r5 f0 f1 f2 f3 f4 f5
      generalize w1.heap.size = g1 at hz1 kX ⊢
      have d0 := kD2.cell 0
      have d1 := kD2.cell 1
      have d2 := kD2.cell 2
      have d3 := kD2.cell 3
      have h0 := kH2.cell 0
      have h5 := kH2.cell 5
      have g0 := kH2.frozen 0
      have g5 := kH2.frozen 5
      have x0 := kX.cell 0
      have x1 := kX.cell 1
      have x2 := kX.cell 2
      have x3 := kX.cell 3
      have x4 := kX.cell 4
      have x5 := kX.cell 5
      have x6 := kX.cell 6
      have x7 := kX.cell 7
      have x8 := kX.cell 8
      have x9 := kX.cell 9
      simp at d0 d1 d2 d3 h0 h5 x0 x1 x2 x3 x4 x5 x6 x7 x8 x9
      go_region
      go_wp2_with fail
      refine (hre _ (by first | rfl | trivial) (hD.below (by (repeat (first | (with_reducible exact Below.refl _ _) | (with_reducible assumption) | (with_reducible refine below_al ?_ _) | (with_reducible refine below_se' ?_ ?_ _; · (first | omega | (simp <;> omega))) | (with_reducible refine below_dr ?_ _) | (with_reducible refine below_d1 ?_) | (exact Below.refl _ _) | assumption))))).mono ?_
      rintro e w2 ⟨rfl, hb2⟩
      have kq := ((kH2.set 0 (.int .u8 1)).set 5 (.int .i64 hv1.order)).drew
      have kH3 := Blk.below kq hb2 kq.lt
      have kp := ((kR2.far (p := ⟨w.heap.size + 3, 0, none⟩) (by simp) (.int .u8 1)).far (p := ⟨w.heap.size + 3, 5, none⟩) (by simp) (.int .i64 hv1.order)).drew
      have kR3 := Blk.below kp hb2 kp.lt
      simp only [List.setIfInBounds_toArray, List.set_cons_zero, List.set_cons_succ] at kH3
      have hB3 : Below w.heap.size w w2 := below_two hb2 (by (repeat (first | (with_reducible exact Below.refl _ _) | (with_reducible assumption) | (with_reducible refine below_al ?_ _) | (with_reducible refine below_se' ?_ ?_ _; · (first | omega | (simp <;> omega))) | (with_reducible refine below_dr ?_ _) | (with_reducible refine below_d1 ?_) | (exact Below.refl _ _) | assumption)))
      clear kq kp hB2 hb2 hre hin d0 d1 d2 d3 h0 h5 g0 g5 x0 x1 x2 x3 x4 x5 x6 x7 x8 x9
      have h0 := kH3.cell 0
      have h1 := kH3.cell 1
      have h2 := kH3.cell 2
      have h3 := kH3.cell 3
      have h4 := kH3.cell 4
      have h5 := kH3.cell 5
      have r0 := kR3.cell 0
      have r1 := kR3.cell 1
      have r2 := kR3.cell 2
      have r3 := kR3.cell 3
      have r4 := kR3.cell 4
      have r5 := kR3.cell 5
      have f0 := kR3.frozen 0
      have f1 := kR3.frozen 1
      have f2 := kR3.frozen 2
      have f3 := kR3.frozen 3
      have f4 := kR3.frozen 4
      have f5 := kR3.frozen 5
      have g3 := kH3.frozen 3
      have g4 := kH3.frozen 4
      simp at h0 h1 h2 h3 h4 h5 r0 r1 r2 r3 r4 r5
      go_wp2_with fail
      have kE := (((((((kR3.far (p := ⟨w.heap.size + 3, 3, none⟩) (by simp) (.int .i64 tg1)).far (p := ⟨w.heap.size + 3, 4, none⟩) (by simp) (.int .i64 tg2)).set 0 (.int .u8 1)).set 1 (.int .i64 p)).set 2 (.int .i64 q)).set 3 (.int .i64 tg1)).set 4 (.int .i64 tg2)).set 5 (.int .i64 hv1.order)
      simp only [List.setIfInBounds_toArray, List.set_cons_zero, List.set_cons_succ] at kE
      refine bodyPost_ret (results_crt rfl kE rfl rowHop sizeHop) rfl ?_
      exact ⟨by first | rfl | simp, by (repeat (first | (with_reducible exact Below.refl _ _) | (with_reducible assumption) | (with_reducible refine below_al ?_ _) | (with_reducible refine below_se' ?_ ?_ _; · (first | omega | (simp <;> omega))) | (with_reducible refine below_dr ?_ _) | (with_reducible refine below_d1 ?_) | (exact Below.refl _ _) | assumption))⟩
  · have kA := kH.alloc (.cells #[.int .i64 hw1] 82)
    have g0' := kA.frozen 0
    have h0' := kA.cell 0
    have kN := (show Blk (w1.alloc (.cells #[.int .i64 hw1] 82)) w1.heap.size 82 #[.int .i64 hw1] from at_new rfl).far (p := ⟨w.heap.size + 3, 0, none⟩) (by simp; omega) (.int .u8 2)
    have kM := (kD.alloc (.cells #[.int .i64 hw1] 82)).far (p := ⟨w.heap.size + 3, 0, none⟩) (by simp) (.int .u8 2)
    have x0 := kN.cell 0
    have y0 := kM.cell 0
    have y1 := kM.cell 1
    have y2 := kM.cell 2
    have y3 := kM.cell 3
    simp at h0' x0 y0 y1 y2 y3
    go_wp2_with fail
    refine (hin _ (by first | rfl | trivial) (hD.below (by (repeat (first | (with_reducible exact Below.refl _ _) | (with_reducible assumption) | (with_reducible refine below_al ?_ _) | (with_reducible refine below_se' ?_ ?_ _; · (first | omega | (simp <;> omega))) | (with_reducible refine below_dr ?_ _) | (with_reducible refine below_d1 ?_) | (exact Below.refl _ _) | assumption))))).mono ?_
    rintro e w2 ⟨rfl, hb2⟩
    have kq := (kH.alloc (.cells #[.int .i64 hw1] 82)).set 0 (.int .u8 2)
    have kH3 := Blk.below kq hb2 kq.lt
    have kp := (kR.alloc (.cells #[.int .i64 hw1] 82)).far (p := ⟨w.heap.size + 3, 0, none⟩) (by simp) (.int .u8 2)
    have kR3 := Blk.below kp hb2 kp.lt
    simp only [List.setIfInBounds_toArray, List.set_cons_zero] at kH3
    have hB3 : Below w.heap.size w w2 := below_two hb2 (by (repeat (first | (with_reducible exact Below.refl _ _) | (with_reducible assumption) | (with_reducible refine below_al ?_ _) | (with_reducible refine below_se' ?_ ?_ _; · (first | omega | (simp <;> omega))) | (with_reducible refine below_dr ?_ _) | (with_reducible refine below_d1 ?_) | (exact Below.refl _ _) | assumption)))
    clear kA kN kM x0 y0 y1 y2 y3 g0' h0' kq kp hb2 hre hin d0 d1 d2 d3 h0 h1 h2 h3 h4 h5 g0 g3 g4 g5 r0 r1 r2 r3 r4 r5 f0 f1 f2 f3 f4 f5
    have h0 := kH3.cell 0
    have h1 := kH3.cell 1
    have h2 := kH3.cell 2
    have h3 := kH3.cell 3
    have h4 := kH3.cell 4
    have h5 := kH3.cell 5
    have r0 := kR3.cell 0
    have r1 := kR3.cell 1
    have r2 := kR3.cell 2
    have r3 := kR3.cell 3
    have r4 := kR3.cell 4
    have r5 := kR3.cell 5
    have f0 := kR3.frozen 0
    have f1 := kR3.frozen 1
    have f2 := kR3.frozen 2
    have f3 := kR3.frozen 3
    have f4 := kR3.frozen 4
    have f5 := kR3.frozen 5
    have g3 := kH3.frozen 3
    have g4 := kH3.frozen 4
    simp at h0 h1 h2 h3 h4 h5 r0 r1 r2 r3 r4 r5
    go_wp2_with fail
    have kE := (((((((kR3.far (p := ⟨w.heap.size + 3, 3, none⟩) (by simp) (.int .i64 rc1)).far (p := ⟨w.heap.size + 3, 4, none⟩) (by simp) (.int .i64 rc2)).set 0 (.int .u8 2)).set 1 (.int .i64 p)).set 2 (.int .i64 q)).set 3 (.int .i64 rc1)).set 4 (.int .i64 rc2)).set 5 (.int .i64 0)
    simp only [List.setIfInBounds_toArray, List.set_cons_zero, List.set_cons_succ] at kE
    refine bodyPost_ret (results_crt rfl kE rfl rowHop sizeHop) rfl ?_
    exact ⟨by first | rfl | simp, by (repeat (first | (with_reducible exact Below.refl _ _) | (with_reducible assumption) | (with_reducible refine below_al ?_ _) | (with_reducible refine below_se' ?_ ?_ _; · (first | omega | (simp <;> omega))) | (with_reducible refine below_dr ?_ _) | (with_reducible refine below_d1 ?_) | (exact Below.refl _ _) | assumption))⟩
end Go.Proofs.YtlbehpbhmmppiaaGreatDoor
namespace Go.Proofs.YtlbehpbhmmppiaaGreatDoor
open Go.RowKit Go.Shelf
attribute [local go_sem] Oper.semAt_some

theorem results_cb {fn : Func} {p : Tmp} (h : fn.results = #[.cell p 4]) {tmps : Array Value} {w : World} {g : Nat} {b : Bool} (hg : Blk w g 4 #[.bool b]) (hp : tmps.getD p undef = .pointer (some ⟨g, 0, none⟩)) :
    (results fn tmps).run Tryz.prog w = .ok (.bool b) w := by
  have hp' : tmps[p]?.getD undef = .pointer (some ⟨g, 0, none⟩) := by simpa using hp
  have hc := hg.cell 0
  simp at hc
  simp [results, h, hp', asAddr, go_sem, hc, Result.andThen, Sem.run_bind]

def refuseB (p q s : Int) (x : Ent) : Bool := (x.person == p && (x.place == 0 || x.place == q)) && (x.other == 0 || x.other == s)
def refusesOf (dead : Int → Bool) (l : List OEnt) (d : Int) (cp : Int × Int) (s : Int) : Bool := if dead cp.1 = true then false else (flt l 7 d).any fun x => refuseB cp.1 cp.2 s x.1

set_option maxRecDepth 100000 in
set_option maxHeartbeats 2000000 in
theorem refusesP_any (A : Option Addr) (c : Nat) (l : List OEnt) (d : Int) (cp : Int × Int) (s : Int) (b1 b2 : Nat) (dead canc : Int → Bool) (hp : -9223372036854775808 ≤ cp.1 ∧ cp.1 ≤ 9223372036854775807) (w : World) (hD : DirIn w A l b1 b2 dead canc) :
    Calls Tryz.prog 28 #[dirVal A l.length c d (some b1) (some b2), candVal cp, .int .i64 s] w fun e w' => e = .returned (.bool (refusesOf dead l d cp s)) ∧ Below w.heap.size w w' := by
  have hq : ∀ W, Below w.heap.size w W → (Instr.lookup 47 (.map (some b1)) (.int .i64 cp.1) false).run Tryz.prog W = .ok (.bool (dead cp.1)) W := fun W hW => by
    have := (hD.below hW).dead.look lawInt mapIntRow (keyInt hp)
    rwa [onInt_at] at this
  unfold refusesOf
  obtain ⟨p, q⟩ := cp
  unfold dirVal candVal at *
  dsimp only at hq ⊢
  refine (callsIn_wide (n := 9)).1 (callsIn_of_wp_marks Tryz.func28 rfl trivial ?_ rfl)
  simp only [Tryz.ntmps28, List.size_toArray, List.length_cons, List.length_nil, Nat.reduceAdd, Nat.reduceSub, Array.replicate_succ, Array.replicate_zero, List.push_toArray, List.append_toArray, List.nil_append, List.cons_append]
  cases hd : dead p
  · rw [hd] at hq
    gi_wp2_with (first
      | (gi_at_lookup; refine wpListIn_look _ rfl _ _ _ _ rfl (hq _ (by (repeat (first | (with_reducible exact Below.refl _ _) | (with_reducible assumption) | (with_reducible refine below_al ?_ _) | (with_reducible refine below_se' ?_ ?_ _; · (first | omega | (simp <;> omega))) | (with_reducible refine below_dr ?_ _) | (with_reducible refine below_d1 ?_) | (exact Below.refl _ _) | assumption)))) ?_)
      | (refine ⟨trivial, ?_⟩; gi_at_call 32; refine (each_any _ A l.length c d 7 (some b1) (some b2) _).mono ?_; rintro e w' ⟨rfl, rfl⟩))
    simp only [Nat.add_assoc, Nat.reduceAdd]
    refine wpIn_gen6 ?_
    intro W0 hB0 hz0 k0 k1 k2 k3 k4 k5
    refine wpIn_each (by omega) 7 w.heap.size (w.heap.size + 4) (w.heap.size + 5) A c l 7 d (some b1) (some b2) rfl (by omega) hD.len k4 k5 (hD.list.below hB0)
      (fun pre W => (Blk W (w.heap.size + 1) 33 #[.int .i64 p, .int .i64 q] ∧ Blk W (w.heap.size + 2) 3 #[.int .i64 s] ∧ Blk W (w.heap.size + 3) 4 #[.bool false] ∧ pre.any (fun x => refuseB p q s x.1) = false) ∧ (Below w.heap.size w W ∧ W0.heap.size ≤ W.heap.size))
      (fun co pre W => (co = .ret ∧ Blk W (w.heap.size + 3) 4 #[.bool true] ∧ pre.any (fun x => refuseB p q s x.1) = true) ∧ (Below w.heap.size w W ∧ W0.heap.size ≤ W.heap.size)) ?_ ?_ ⟨⟨k1, k2, k3, rfl⟩, hB0, Nat.le_refl _⟩ (fun pre W hs => hs.2.2) ?_ ?_ ?_ ?_
    · exact .and (.and (Own.from (blk_own _ _ _) _) (.and (Own.from (blk_own _ _ _) _) (.and (Own.from (blk_own _ _ _) _) (fun _ _ _ _ hs _ _ => hs)))) (.and (ownFrom_below (Nat.le_refl _) (by omega)) (size_own _ _))
    · exact fun co => .and (.and (fun _ _ _ _ hs _ _ => hs) (.and (Own.from (blk_own _ _ _) _) (fun _ _ _ _ hs _ _ => hs))) (.and (ownFrom_below (Nat.le_refl _) (by omega)) (size_own _ _))
    · intro lp x W K hK
      unfold entVal entCells at *
      simp only [List.setIfInBounds_toArray, List.set_cons_succ, List.set_cons_zero] at hK ⊢
      gi_wp2
      exact hK
    · rintro lp pre x Bx W hBx hx ⟨⟨bC, bS, bR, hn⟩, hB, hz⟩
      obtain ⟨c0, c1, c2, c3, c4, c5, c6, c7, c8, c9, _⟩ := hx.cells
      have e0 := bC.cell 0
      have e1 := bC.cell 1
      have e2 := bS.cell 0
      have e3 := bR.cell 0
      have f3 := bR.frozen 0
      simp at e0 e1 e2 e3
      have hs : (pre ++ [x]).any (fun x => refuseB p q s x.1) = refuseB p q s x.1 := by simp [List.any_append, hn]
      gi_wp2
      all_goals first
        | exact ⟨(KeepsOthers.setCell _ _ _).from _, ⟨rfl, bR.set 0 _, by rw [hs]; simp_all [refuseB]⟩, hB.setCell (by simp) _, by simpa [World.setCell] using hz⟩
        | exact ⟨KeepsFrom.refl _ _, Keeps.refl _ _, ⟨bC, bS, bR, by rw [hs]; simp_all [refuseB]⟩, hB, hz⟩
    · rintro D W hD' ⟨⟨bC, bS, bR, hn⟩, hB, hz⟩ hK
      have e3 := bR.cell 0
      have f3 := bR.frozen 0
      simp at e3
      gi_wp2
      have hr := bR.set 0 (.bool false)
      have hK2 : (W.setCell ⟨w.heap.size + 3, 0, none⟩ (.bool false)).heap[D]? = some (.deferred (some [])) := (Below.heap_setCell W _ _ D (by simp; omega)).trans hK
      refine ⟨by simp, .inl ⟨_, _, rfl, run_takeDeferred hK2, ?_⟩⟩
      refine ⟨_, results_cb rfl (b := false) (g := w.heap.size + 3) ?_ rfl, by first | rfl | (rw [hn]; rfl) | simp_all, below_end (by (repeat (first | (with_reducible exact Below.refl _ _) | (with_reducible assumption) | (with_reducible refine below_al ?_ _) | (with_reducible refine below_se' ?_ ?_ _; · (first | omega | (simp <;> omega))) | (with_reducible refine below_dr ?_ _) | (with_reducible refine below_d1 ?_) | (exact Below.refl _ _) | assumption))) hK2 (by omega)⟩
      exact (grownBy_putObj' _ D _).block _ hr.lt (by simp; omega) |>.trans hr
    · rintro D co pre W hD' hpre ⟨⟨rfl, bR, hn⟩, hB, hz⟩ hK
      gi_wp2
      refine ⟨by simp, .inl ⟨_, _, rfl, run_takeDeferred hK, ?_⟩⟩
      have ht : (flt l 7 d).any (fun x => refuseB p q s x.1) = true := by
        obtain ⟨t, ht⟩ := hpre
        rw [← ht, List.any_append, hn]; rfl
      refine ⟨_, results_cb rfl (b := true) (g := w.heap.size + 3) ?_ rfl, by first | (rw [ht]; rfl) | simp_all, below_end hB hK (by omega)⟩
      exact (grownBy_putObj' _ D _).block _ bR.lt (by simp; omega) |>.trans bR
  · rw [hd] at hq
    gi_wp2_with (gi_at_lookup; refine wpListIn_look _ rfl _ _ _ _ rfl (hq _ (by (repeat (first | (with_reducible exact Below.refl _ _) | (with_reducible assumption) | (with_reducible refine below_al ?_ _) | (with_reducible refine below_se' ?_ ?_ _; · (first | omega | (simp <;> omega))) | (with_reducible refine below_dr ?_ _) | (with_reducible refine below_d1 ?_) | (exact Below.refl _ _) | assumption)))) ?_)
    exact ⟨_, results_cb rfl (at_new (by simp)) rfl, rfl, by (repeat (first | (with_reducible exact Below.refl _ _) | (with_reducible assumption) | (with_reducible refine below_al ?_ _) | (with_reducible refine below_se' ?_ ?_ _; · (first | omega | (simp <;> omega))) | (with_reducible refine below_dr ?_ _) | (with_reducible refine below_d1 ?_) | (exact Below.refl _ _) | assumption))⟩
end Go.Proofs.YtlbehpbhmmppiaaGreatDoor
