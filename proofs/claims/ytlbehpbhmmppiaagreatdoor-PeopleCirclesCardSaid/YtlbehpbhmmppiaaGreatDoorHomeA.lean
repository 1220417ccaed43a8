/- The contract of home: the home of a person in a directory. Conditions: the directory lies in memory; the person is an int. The contract of heir: the heir of a person in a directory; and of reached. Conditions: the directory lies in memory; the person is an int. The contracts of the targets of the two causes. Conditions: the directory lies in memory; the persons are ints. -/
import Derived.Test.YtlbehpbhmmppiaaGreatDoorLoopA
namespace Go.Proofs.YtlbehpbhmmppiaaGreatDoor
open Go.RowKit Go.Shelf
attribute [local go_sem] Oper.semAt_some

/-- What a loop over the entries of a person keeps: a number of the last one, and that there is one. -/
def lastOf (f : Ent → Int) (p : Int) (l : List OEnt) : Int × Bool := l.foldl (fun s x => if x.1.person = p then (f x.1, true) else s) (0, false)
theorem lastOf_snoc (f : Ent → Int) (p : Int) (l : List OEnt) (x : OEnt) : lastOf f p (l ++ [x]) = if x.1.person = p then (f x.1, true) else lastOf f p l := by
  simp [lastOf]
def homeOf (dead : Int → Bool) (l : List OEnt) (d p : Int) : Int × Bool := if dead p = true then (0, false) else lastOf (·.place) p (flt l 2 d)

set_option maxRecDepth 100000 in
set_option maxHeartbeats 2000000 in
theorem home_any (A : Option Addr) (c : Nat) (l : List OEnt) (d p : Int) (b1 b2 : Nat) (dead canc : Int → Bool) (hp : -9223372036854775808 ≤ p ∧ p ≤ 9223372036854775807) (w : World) (hD : DirIn w A l b1 b2 dead canc) :
    Calls Tryz.prog 102 #[dirVal A l.length c d (some b1) (some b2), .int .i64 p] w fun e w' => e = .returned (.tuple #[.int .i64 (homeOf dead l d p).1, .bool (homeOf dead l d p).2]) ∧ Below w.heap.size w w' := by
  have hq : ∀ W, Below w.heap.size w W → (Instr.lookup 47 (.map (some b1)) (.int .i64 p) false).run Tryz.prog W = .ok (.bool (dead p)) W := fun W hW => by
    have := (hD.below hW).dead.look lawInt mapIntRow (keyInt hp)
    rwa [onInt_at] at this
  unfold dirVal
  refine (callsIn_wide (n := 9)).1 (callsIn_of_wp_marks Tryz.func102 rfl trivial ?_ rfl)
  simp only [Tryz.ntmps102, List.size_toArray, List.length_cons, List.length_nil, Nat.reduceAdd, Nat.reduceSub, Array.replicate_succ, Array.replicate_zero, List.push_toArray, List.append_toArray, List.nil_append, List.cons_append]
  cases hd : dead p
  · rw [hd] at hq
    gi_wp2_with (first
      | (gi_at_lookup; refine wpListIn_look _ rfl _ _ _ _ rfl (hq _ (by (repeat (first | (with_reducible exact Below.refl _ _) | (with_reducible assumption) | (with_reducible refine below_al ?_ _) | (with_reducible refine below_se' ?_ ?_ _; · (first | omega | (simp <;> omega))) | (with_reducible refine below_dr ?_ _) | (with_reducible refine below_d1 ?_) | (exact Below.refl _ _) | assumption)))) ?_)
      | (refine ⟨trivial, ?_⟩; gi_at_call 32; refine (each_any _ A l.length c d 2 (some b1) (some b2) _).mono ?_; rintro e w' ⟨rfl, rfl⟩))
    simp only [Nat.add_assoc, Nat.reduceAdd]
    refine wpIn_gen6 ?_
    intro W0 hB0 hz0 k0 k1 k2 k3 k4 k5
    refine wpIn_each (by omega) 8 w.heap.size (w.heap.size + 4) (w.heap.size + 5) A c l 2 d (some b1) (some b2) rfl (by omega) hD.len k4 k5 (hD.list.below hB0)
      (fun pre W => (Blk W (w.heap.size + 1) 3 #[.int .i64 p] ∧ Blk W (w.heap.size + 2) 3 #[.int .i64 (lastOf (·.place) p pre).1] ∧ Blk W (w.heap.size + 3) 4 #[.bool (lastOf (·.place) p pre).2]) ∧ (Below w.heap.size w W ∧ W0.heap.size ≤ W.heap.size))
      (fun _ _ _ => False) ?_ (fun _ _ _ _ _ hs _ _ => hs) ⟨⟨k1, k2, k3⟩, hB0, Nat.le_refl _⟩ (fun pre W hs => hs.2.2) ?_ ?_ ?_ ?_
    · exact .and (.and (Own.from (blk_own _ _ _) _) (.and (Own.from (blk_own _ _ _) _) (Own.from (blk_own _ _ _) _))) (.and (ownFrom_below (Nat.le_refl _) (by omega)) (size_own _ _))
    · intro lp x W K hK
      unfold entVal entCells at *
      simp only [List.setIfInBounds_toArray, List.set_cons_succ, List.set_cons_zero] at hK ⊢
      gi_wp2
      exact hK
    · rintro lp pre x Bx W hBx hx ⟨⟨bP, bH, bF⟩, hB, hz⟩
      obtain ⟨c0, c1, c2, c3, c4, c5, c6, c7, c8, c9, _⟩ := hx.cells
      have e1 := bP.cell 0
      have e2 := bH.cell 0
      have e3 := bF.cell 0
      have f2 := bH.frozen 0
      have f3 := bF.frozen 0
      have hs := lastOf_snoc (·.place) p pre x
      simp at e1 e2 e3
      by_cases hpp : x.1.person = p
      · rw [hpp] at c4
        rw [if_pos hpp] at hs
        clear hpp
        gi_wp2
        refine ⟨((KeepsOthers.setCell _ _ _).trans (KeepsOthers.setCell _ _ _)).from _, ((Keeps.refl _ _).setCell (fun _ => ⟨by simp, by simp, by simp⟩) _).setCell (fun _ => ⟨by simp, by simp, by simp⟩) _, ⟨(bP.far (by simp) _).far (by simp) _, ?_, ?_⟩, (hB.setCell (by simp) _).setCell (by simp) _, by simpa using hz⟩
        · rw [hs]
          exact (bH.set 0 _).far (by simp) _
        · rw [hs]
          exact (bF.far (by simp) _).set 0 _
      · rw [if_neg hpp] at hs
        gi_wp2
        exact ⟨KeepsFrom.refl _ _, Keeps.refl _ _, ⟨bP, by rw [hs]; exact bH, by rw [hs]; exact bF⟩, hB, hz⟩
    · rintro D W hD' ⟨⟨bP, bH, bF⟩, hB, hz⟩ hK
      have e2 := bH.cell 0
      have e3 := bF.cell 0
      simp at e2 e3
      gi_wp2
      refine wpIn_wide.2 ?_
      go_quiet (fail)
      gi_wp2
      refine ⟨by simp, .inl ⟨_, _, rfl, run_takeDeferred hK, ?_⟩⟩
      exact ⟨_, results_tmp2 rfl _ _ _, by unfold homeOf; rw [hd]; rfl, below_end (below_dr hB _) hK (by omega)⟩
    · rintro D co pre W _ _ h _
      exact h.elim
  · rw [hd] at hq
    gi_wp2_with (gi_at_lookup; refine wpListIn_look _ rfl _ _ _ _ rfl (hq _ (by (repeat (first | (with_reducible exact Below.refl _ _) | (with_reducible assumption) | (with_reducible refine below_al ?_ _) | (with_reducible refine below_se' ?_ ?_ _; · (first | omega | (simp <;> omega))) | (with_reducible refine below_dr ?_ _) | (with_reducible refine below_d1 ?_) | (exact Below.refl _ _) | assumption)))) ?_)
    refine wpIn_wide.2 ?_
    go_quiet (fail)
    gi_wp2
    exact ⟨_, results_tmp2 rfl _ _ _, by unfold homeOf; rw [hd]; rfl, by (repeat (first | (with_reducible exact Below.refl _ _) | (with_reducible assumption) | (with_reducible refine below_al ?_ _) | (with_reducible refine below_se' ?_ ?_ _; · (first | omega | (simp <;> omega))) | (with_reducible refine below_dr ?_ _) | (with_reducible refine below_d1 ?_) | (exact Below.refl _ _) | assumption))⟩
end Go.Proofs.YtlbehpbhmmppiaaGreatDoor
namespace Go.Proofs.YtlbehpbhmmppiaaGreatDoor
open Go.RowKit Go.Shelf
attribute [local go_sem] Oper.semAt_some

def heirOf (l : List OEnt) (d p : Int) : Int × Bool := lastOf (·.other) p (flt l 4 d)

set_option maxRecDepth 100000 in
set_option maxHeartbeats 2000000 in
theorem heir_any (A : Option Addr) (c : Nat) (l : List OEnt) (d p : Int) (b1 b2 : Nat) (dead canc : Int → Bool) (w : World) (hD : DirIn w A l b1 b2 dead canc) :
    Calls Tryz.prog 75 #[dirVal A l.length c d (some b1) (some b2), .int .i64 p] w fun e w' => e = .returned (.tuple #[.int .i64 (heirOf l d p).1, .bool (heirOf l d p).2]) ∧ Below w.heap.size w w' := by
  unfold dirVal
  refine (callsIn_wide (n := 9)).1 (callsIn_of_wp_marks Tryz.func75 rfl trivial ?_ rfl)
  simp only [Tryz.ntmps75, List.size_toArray, List.length_cons, List.length_nil, Nat.reduceAdd, Nat.reduceSub, Array.replicate_succ, Array.replicate_zero, List.push_toArray, List.append_toArray, List.nil_append, List.cons_append]
  · gi_wp2_with ((refine ⟨trivial, ?_⟩; gi_at_call 32; refine (each_any _ A l.length c d 4 (some b1) (some b2) _).mono ?_; rintro e w' ⟨rfl, rfl⟩))
    simp only [Nat.add_assoc, Nat.reduceAdd]
    refine wpIn_gen6 ?_
    intro W0 hB0 hz0 k0 k1 k2 k3 k4 k5
    refine wpIn_each (by omega) 8 w.heap.size (w.heap.size + 4) (w.heap.size + 5) A c l 4 d (some b1) (some b2) rfl (by omega) hD.len k4 k5 (hD.list.below hB0)
      (fun pre W => (Blk W (w.heap.size + 1) 3 #[.int .i64 p] ∧ Blk W (w.heap.size + 2) 3 #[.int .i64 (lastOf (·.other) p pre).1] ∧ Blk W (w.heap.size + 3) 4 #[.bool (lastOf (·.other) p pre).2]) ∧ (Below w.heap.size w W ∧ W0.heap.size ≤ W.heap.size))
      (fun _ _ _ => False) ?_ (fun _ _ _ _ _ hs _ _ => hs) ⟨⟨k1, k2, k3⟩, hB0, Nat.le_refl _⟩ (fun pre W hs => hs.2.2) ?_ ?_ ?_ ?_
    · exact .and (.and (Own.from (blk_own _ _ _) _) (.and (Own.from (blk_own _ _ _) _) (Own.from (blk_own _ _ _) _))) (.and (ownFrom_below (Nat.le_refl _) (by omega)) (size_own _ _))
    · intro lp x W K hK
      unfold entVal entCells at *
      simp only [List.setIfInBounds_toArray, List.set_cons_succ, List.set_cons_zero] at hK ⊢
      gi_wp2
      exact hK
    · rintro lp pre x Bx W hBx hx ⟨⟨bP, bH, bF⟩, hB, hz⟩
      obtain ⟨c0, c1, c2, c3, c4, c5, c6, c7, c8, c9, _⟩ := hx.cells
      have e1 := bP.cell 0
      have e2 := bH.cell 0
      have e3 := bF.cell 0
      have f2 := bH.frozen 0
      have f3 := bF.frozen 0
      have hs := lastOf_snoc (·.other) p pre x
      simp at e1 e2 e3
      by_cases hpp : x.1.person = p
      · rw [hpp] at c4
        rw [if_pos hpp] at hs
        clear hpp
        gi_wp2
        refine ⟨((KeepsOthers.setCell _ _ _).trans (KeepsOthers.setCell _ _ _)).from _, ((Keeps.refl _ _).setCell (fun _ => ⟨by simp, by simp, by simp⟩) _).setCell (fun _ => ⟨by simp, by simp, by simp⟩) _, ⟨(bP.far (by simp) _).far (by simp) _, ?_, ?_⟩, (hB.setCell (by simp) _).setCell (by simp) _, by simpa using hz⟩
        · rw [hs]
          exact (bH.set 0 _).far (by simp) _
        · rw [hs]
          exact (bF.far (by simp) _).set 0 _
      · rw [if_neg hpp] at hs
        gi_wp2
        exact ⟨KeepsFrom.refl _ _, Keeps.refl _ _, ⟨bP, by rw [hs]; exact bH, by rw [hs]; exact bF⟩, hB, hz⟩
    · rintro D W hD' ⟨⟨bP, bH, bF⟩, hB, hz⟩ hK
      have e2 := bH.cell 0
      have e3 := bF.cell 0
      simp at e2 e3
      gi_wp2
      refine wpIn_wide.2 ?_
      go_quiet (fail)
      gi_wp2
      refine ⟨by simp, .inl ⟨_, _, rfl, run_takeDeferred hK, ?_⟩⟩
      exact ⟨_, results_tmp2 rfl _ _ _, rfl, below_end (below_dr hB _) hK (by omega)⟩
    · rintro D co pre W _ _ h _
      exact h.elim

/-- The pair to which a person is reached. -/
def reachedOf (dead : Int → Bool) (l : List OEnt) (d p : Int) : (Int × Int) × Bool := ((p, (homeOf dead l d p).1), (homeOf dead l d p).2 || dead p)

set_option maxRecDepth 100000 in
set_option maxHeartbeats 2000000 in
theorem reached_any (A : Option Addr) (c : Nat) (l : List OEnt) (d p : Int) (b1 b2 : Nat) (dead canc : Int → Bool) (hp : -9223372036854775808 ≤ p ∧ p ≤ 9223372036854775807) (w : World) (hD : DirIn w A l b1 b2 dead canc) :
    Calls Tryz.prog 77 #[dirVal A l.length c d (some b1) (some b2), .int .i64 p] w fun e w' => e = .returned (.tuple #[candVal (reachedOf dead l d p).1, .bool (reachedOf dead l d p).2]) ∧ Below w.heap.size w w' := by
  have hq : ∀ W, Below w.heap.size w W → (Instr.lookup 47 (.map (some b1)) (.int .i64 p) false).run Tryz.prog W = .ok (.bool (dead p)) W := fun W hW => by
    have := (hD.below hW).dead.look lawInt mapIntRow (keyInt hp)
    rwa [onInt_at] at this
  unfold reachedOf
  have hh := home_any A c l d p b1 b2 dead canc hp
  generalize homeOf dead l d p = hv at *
  obtain ⟨hv1, hv2⟩ := hv
  unfold dirVal candVal at *
  go_enter Tryz.func77, Tryz.ntmps77
  go_wp2_with fail
  have hB0 : Below w.heap.size w ((w.alloc (.cells #[.slice A l.length c, .int .i64 d, .map (some b1), .map (some b2)] 49)).alloc (.cells #[.int .i64 0, .int .i64 0] 33)) := by (repeat (first | (with_reducible exact Below.refl _ _) | (with_reducible assumption) | (with_reducible refine below_al ?_ _) | (with_reducible refine below_se' ?_ ?_ _; · (first | omega | (simp <;> omega))) | (with_reducible refine below_dr ?_ _) | (with_reducible refine below_d1 ?_) | (exact Below.refl _ _) | assumption))
  have kD : Blk ((w.alloc (.cells #[.slice A l.length c, .int .i64 d, .map (some b1), .map (some b2)] 49)).alloc (.cells #[.int .i64 0, .int .i64 0] 33)) w.heap.size 49 #[.slice A l.length c, .int .i64 d, .map (some b1), .map (some b2)] := (Blk.new _ _ _).alloc _
  have kC : Blk ((w.alloc (.cells #[.slice A l.length c, .int .i64 d, .map (some b1), .map (some b2)] 49)).alloc (.cells #[.int .i64 0, .int .i64 0] 33)) (w.heap.size + 1) 33 #[.int .i64 0, .int .i64 0] := by have := Blk.new (w.alloc (.cells #[.slice A l.length c, .int .i64 d, .map (some b1), .map (some b2)] 49)) 33 #[.int .i64 0, .int .i64 0]; simpa using this
  generalize (w.alloc (.cells _ 49)).alloc (.cells _ 33) = W0 at hB0 kD kC ⊢
  refine (hh W0 (hD.below hB0)).mono ?_
  rintro e w1 ⟨rfl, hb1⟩
  have hB1 : Below w.heap.size w w1 := hB0.trans (hb1.mono hB0.size)
  replace kD := kD.below hb1 kD.lt
  replace kC := kC.below hb1 kC.lt
  clear hh hb1 hB0
  have d2 := kD.cell 2
  have e0 := kC.cell 0
  have e1 := kC.cell 1
  have f0 := kC.frozen 0
  have f1 := kC.frozen 1
  simp at d2 e0 e1
  have hqd : (Instr.lookup 47 (.map (some b1)) (.int .i64 p) false).run Tryz.prog w1.drew = .ok (.bool (dead p)) w1.drew := hq _ (below_d1 hB1)
  have hqs : (Instr.lookup 47 (.map (some b1)) (.int .i64 p) false).run Tryz.prog ((w1.setCell ⟨w.heap.size + 1, 0, none⟩ (.int .i64 p)).setCell ⟨w.heap.size + 1, 1, none⟩ (.int .i64 hv1)).drew = .ok (.bool (dead p)) ((w1.setCell ⟨w.heap.size + 1, 0, none⟩ (.int .i64 p)).setCell ⟨w.heap.size + 1, 1, none⟩ (.int .i64 hv1)).drew := hq _ (by (repeat (first | (with_reducible exact Below.refl _ _) | (with_reducible assumption) | (with_reducible refine below_al ?_ _) | (with_reducible refine below_se' ?_ ?_ _; · (first | omega | (simp <;> omega))) | (with_reducible refine below_dr ?_ _) | (with_reducible refine below_d1 ?_) | (exact Below.refl _ _) | assumption)))
  clear hq
  have kE : Blk ((w1.setCell ⟨w.heap.size + 1, 0, none⟩ (.int .i64 p)).setCell ⟨w.heap.size + 1, 1, none⟩ (.int .i64 hv1)).drew (w.heap.size + 1) 33 #[.int .i64 p, .int .i64 hv1] := by
    have := (kC.set 0 (.int .i64 p)).set 1 (.int .i64 hv1)
    exact this.drew
  cases hv2
  · go_wp2_with fail
    go_region
    go_wp2
    refine bodyPost_ret (results_crt rfl kE rfl rowCand sizeCand) rfl ?_
    exact ⟨rfl, by (repeat (first | (with_reducible exact Below.refl _ _) | (with_reducible assumption) | (with_reducible refine below_al ?_ _) | (with_reducible refine below_se' ?_ ?_ _; · (first | omega | (simp <;> omega))) | (with_reducible refine below_dr ?_ _) | (with_reducible refine below_d1 ?_) | (exact Below.refl _ _) | assumption))⟩
  · go_wp2_with fail
    go_region
    go_wp2
    refine bodyPost_ret (results_crt rfl kE rfl rowCand sizeCand) rfl ?_
    exact ⟨rfl, by (repeat (first | (with_reducible exact Below.refl _ _) | (with_reducible assumption) | (with_reducible refine below_al ?_ _) | (with_reducible refine below_se' ?_ ?_ _; · (first | omega | (simp <;> omega))) | (with_reducible refine below_dr ?_ _) | (with_reducible refine below_d1 ?_) | (exact Below.refl _ _) | assumption))⟩
end Go.Proofs.YtlbehpbhmmppiaaGreatDoor
namespace Go.Proofs.YtlbehpbhmmppiaaGreatDoor
open Go.RowKit Go.Shelf
attribute [local go_sem] Oper.semAt_some

/-- Where an order leads. -/
def targetOf (dead : Int → Bool) (l : List OEnt) (d : Int) (x : Ent) : (Int × Int) × Bool := if x.at' ≠ 0 then ((x.other, x.at'), true) else reachedOf dead l d x.other

set_option maxRecDepth 100000 in
set_option maxHeartbeats 2000000 in
theorem target1_any (A : Option Addr) (c : Nat) (l : List OEnt) (d p : Int) (b1 b2 : Nat) (dead canc : Int → Bool) (hp : -9223372036854775808 ≤ p ∧ p ≤ 9223372036854775807) (w : World) (hD : DirIn w A l b1 b2 dead canc) :
    Calls Tryz.prog 46 #[.agg #[.int .i64 p], dirVal A l.length c d (some b1) (some b2)] w fun e w' => e = .returned (.tuple #[candVal (reachedOf dead l d p).1, .bool (reachedOf dead l d p).2]) ∧ Below w.heap.size w w' := by
  have hh := reached_any A c l d p b1 b2 dead canc hp
  generalize reachedOf dead l d p = hv at *
  obtain ⟨⟨hv1, hv2⟩, hv3⟩ := hv
  unfold dirVal candVal at *
  go_enter Tryz.func46, Tryz.ntmps46
  go_wp2_with fail
  have hB0 : Below w.heap.size w (((w.alloc (.cells #[.int .i64 p] 82)).alloc (.cells #[.slice A l.length c, .int .i64 d, .map (some b1), .map (some b2)] 49)).alloc (.cells #[.int .i64 0, .int .i64 0] 33)) := by (repeat (first | (with_reducible exact Below.refl _ _) | (with_reducible assumption) | (with_reducible refine below_al ?_ _) | (with_reducible refine below_se' ?_ ?_ _; · (first | omega | (simp <;> omega))) | (with_reducible refine below_dr ?_ _) | (with_reducible refine below_d1 ?_) | (exact Below.refl _ _) | assumption))
  have kC : Blk (((w.alloc (.cells #[.int .i64 p] 82)).alloc (.cells #[.slice A l.length c, .int .i64 d, .map (some b1), .map (some b2)] 49)).alloc (.cells #[.int .i64 0, .int .i64 0] 33)) (w.heap.size + 2) 33 #[.int .i64 0, .int .i64 0] := at_new (by simp)
  generalize ((w.alloc (.cells _ 82)).alloc (.cells _ 49)).alloc (.cells _ 33) = W0 at hB0 kC ⊢
  simp only [Nat.add_assoc, Nat.reduceAdd]
  refine (hh W0 (hD.below hB0)).mono ?_
  rintro e w1 ⟨rfl, hb1⟩
  have hB1 : Below w.heap.size w w1 := hB0.trans (hb1.mono hB0.size)
  replace kC := kC.below hb1 kC.lt
  clear hh hb1 hB0
  have e0 := kC.cell 0
  have e1 := kC.cell 1
  have f0 := kC.frozen 0
  have f1 := kC.frozen 1
  simp at e0 e1
  have kE : Blk ((w1.setCell ⟨w.heap.size + 2, 0, none⟩ (.int .i64 hv1)).setCell ⟨w.heap.size + 2, 1, none⟩ (.int .i64 hv2)) (w.heap.size + 2) 33 #[.int .i64 hv1, .int .i64 hv2] := (kC.set 0 (.int .i64 hv1)).set 1 (.int .i64 hv2)
  go_wp2_with fail
  refine bodyPost_ret (results_crt rfl kE rfl rowCand sizeCand) rfl ?_
  exact ⟨rfl, by (repeat (first | (with_reducible exact Below.refl _ _) | (with_reducible assumption) | (with_reducible refine below_al ?_ _) | (with_reducible refine below_se' ?_ ?_ _; · (first | omega | (simp <;> omega))) | (with_reducible refine below_dr ?_ _) | (with_reducible refine below_d1 ?_) | (exact Below.refl _ _) | assumption))⟩

set_option maxRecDepth 100000 in
set_option maxHeartbeats 2000000 in
theorem target2_any (A : Option Addr) (c : Nat) (l : List OEnt) (d : Int) (x : OEnt) (b1 b2 : Nat) (dead canc : Int → Bool) (w : World) (hD : DirIn w A l b1 b2 dead canc) :
    Calls Tryz.prog 47 #[.agg (entCells x.1).toArray, dirVal A l.length c d (some b1) (some b2)] w fun e w' => e = .returned (.tuple #[candVal (targetOf dead l d x.1).1, .bool (targetOf dead l d x.1).2]) ∧ Below w.heap.size w w' := by
  have hh := reached_any A c l d x.1.other b1 b2 dead canc x.2.2.2.1
  unfold targetOf
  generalize reachedOf dead l d x.1.other = hv at *
  obtain ⟨⟨hv1, hv2⟩, hv3⟩ := hv
  unfold dirVal candVal at *
  unfold entCells
  by_cases ha : x.1.at' = 0
  · rw [ha, if_neg (by simp)]
    clear ha
    go_enter Tryz.func47, Tryz.ntmps47
    go_wp2_with fail
    have hB0 : Below w.heap.size w (((w.alloc (.cells #[.int .i64 x.1.day, .int .u8 x.1.kind, .int .i64 x.1.since, .int .i64 x.1.untl, .int .i64 x.1.person, .int .i64 x.1.place, .int .i64 x.1.other, .int .i64 0, .int .i64 x.1.order, .string x.1.name] 80)).alloc (.cells #[.slice A l.length c, .int .i64 d, .map (some b1), .map (some b2)] 49)).alloc (.cells #[.int .i64 0, .int .i64 0] 33)) := by (repeat (first | (with_reducible exact Below.refl _ _) | (with_reducible assumption) | (with_reducible refine below_al ?_ _) | (with_reducible refine below_se' ?_ ?_ _; · (first | omega | (simp <;> omega))) | (with_reducible refine below_dr ?_ _) | (with_reducible refine below_d1 ?_) | (exact Below.refl _ _) | assumption))
    have kC : Blk (((w.alloc (.cells #[.int .i64 x.1.day, .int .u8 x.1.kind, .int .i64 x.1.since, .int .i64 x.1.untl, .int .i64 x.1.person, .int .i64 x.1.place, .int .i64 x.1.other, .int .i64 0, .int .i64 x.1.order, .string x.1.name] 80)).alloc (.cells #[.slice A l.length c, .int .i64 d, .map (some b1), .map (some b2)] 49)).alloc (.cells #[.int .i64 0, .int .i64 0] 33)) (w.heap.size + 2) 33 #[.int .i64 0, .int .i64 0] := at_new (by simp)
    generalize ((w.alloc (.cells _ 80)).alloc (.cells _ 49)).alloc (.cells _ 33) = W0 at hB0 kC ⊢
    simp only [Nat.add_assoc, Nat.reduceAdd]
    refine (hh W0 (hD.below hB0)).mono ?_
    rintro e w1 ⟨rfl, hb1⟩
    have hB1 : Below w.heap.size w w1 := hB0.trans (hb1.mono hB0.size)
    replace kC := kC.below hb1 kC.lt
    clear hh hb1 hB0
    have e0 := kC.cell 0
    have e1 := kC.cell 1
    have f0 := kC.frozen 0
    have f1 := kC.frozen 1
    simp at e0 e1
    have kE : Blk ((w1.setCell ⟨w.heap.size + 2, 0, none⟩ (.int .i64 hv1)).setCell ⟨w.heap.size + 2, 1, none⟩ (.int .i64 hv2)) (w.heap.size + 2) 33 #[.int .i64 hv1, .int .i64 hv2] := (kC.set 0 (.int .i64 hv1)).set 1 (.int .i64 hv2)
    go_wp2_with fail
    refine bodyPost_ret (results_crt rfl kE rfl rowCand sizeCand) rfl ?_
    exact ⟨rfl, by (repeat (first | (with_reducible exact Below.refl _ _) | (with_reducible assumption) | (with_reducible refine below_al ?_ _) | (with_reducible refine below_se' ?_ ?_ _; · (first | omega | (simp <;> omega))) | (with_reducible refine below_dr ?_ _) | (with_reducible refine below_d1 ?_) | (exact Below.refl _ _) | assumption))⟩
  · rw [if_pos ha]
    have hA := ha
    go_enter Tryz.func47, Tryz.ntmps47
    go_wp2_with fail
    simp only [Nat.add_assoc, Nat.reduceAdd]
    refine bodyPost_ret (results_crt rfl (Blk.drewN (w := (((w.alloc _).alloc _).alloc (.cells #[.int .i64 x.1.other, .int .i64 x.1.at'] 33))) (at_new (by simp)) 0) rfl rowCand sizeCand) rfl ?_
    exact ⟨rfl, by (repeat (first | (with_reducible exact Below.refl _ _) | (with_reducible assumption) | (with_reducible refine below_al ?_ _) | (with_reducible refine below_se' ?_ ?_ _; · (first | omega | (simp <;> omega))) | (with_reducible refine below_dr ?_ _) | (with_reducible refine below_d1 ?_) | (exact Below.refl _ _) | assumption))⟩
end Go.Proofs.YtlbehpbhmmppiaaGreatDoor
