/- The contract of checkEntry: the error of an entry that depends on no other. Condition: the name's length is a Go length. -/
import Derived.Test.YtlbehpbhmmppiaaGreatDoorOnlyA
namespace Go.Proofs.YtlbehpbhmmppiaaGreatDoor
open Go.RowKit

theorem held {W w1 : World} {g : Nat} (hb : Below W.heap.size W w1) (hz : g < W.heap.size) : (∀ o, w1.cell? ⟨g, o, none⟩ = W.cell? ⟨g, o, none⟩) ∧ g < w1.heap.size :=
  ⟨fun _ => hb.cell hz, Nat.lt_of_lt_of_le hz hb.size⟩

set_option maxRecDepth 100000 in
set_option maxHeartbeats 4000000 in
theorem checkEntry_any (x : Ent) (w : World) (hs : x.name.size ≤ maxLen) :
    Calls Tryz.prog 83 #[entVal x] w fun e w' => e = .returned (.int .i64 (ckE x)) ∧ Below w.heap.size w w' := by
  have hne := neEnt x (onlyW x)
  have hng := fun a b => noGuardEnt .neq a b x (onlyW x)
  have ho : okE x = (vDays x && vIds x && decide (x = onlyW x)) := by unfold okE; congr 1; rw [Bool.eq_iff_iff]; simp [eq_comm]
  generalize decide (x = onlyW x) = bb at hne ho
  have HO := Lib.hid ho
  clear ho
  unfold entVal at hne hng ⊢
  have hX0 := EntAt.new w x
  simp only [entCells] at hX0
  go_enter Tryz.func83, Tryz.ntmps83
  go_upto_region 1 with fail
  have hB0 : Below w.heap.size w (w.alloc (.cells (entCells x).toArray 41)) := (Below.refl _ _).alloc (Nat.le_refl _) _
  simp only [entCells] at hB0
  generalize w.alloc (.cells _ 41) = W0 at hX0 hB0 ⊢
  obtain ⟨k0, k1, k2, k3, k4, k5, k6, k7, k8, k9, hz⟩ := hX0.cells
  go_cut [0, 16] (fun _ s wx => s = .bool (!okE x) ∧ Below w.heap.size w wx ∧ EntAt wx w.heap.size x)
  case first =>
    cases hd : vDays x with
    | false =>
      go_region_with (first | (go_at_call 106; refine (validDays_any x _).mono ?_; rintro e w1 ⟨he1, hb1⟩; rw [hd] at he1; subst he1; obtain ⟨hc1, hz1⟩ := held hb1 (g := w.heap.size) (by first | exact hz | (simp; omega))))
      all_goals go_wp2_with fail
      all_goals go_meet
      all_goals exact ⟨by rw [HO.out, hd]; rfl, hB0.drew.trans (hb1.mono (by simpa using hB0.size)), Blk.below (Blk.drew hX0) hb1 (by simpa using hz)⟩
    | true =>
      cases hi : vIds x with
      | false =>
        go_region_with (first | (go_at_call 106; refine (validDays_any x _).mono ?_; rintro e w1 ⟨he1, hb1⟩; rw [hd] at he1; subst he1; obtain ⟨hc1, hz1⟩ := held hb1 (g := w.heap.size) (by first | exact hz | (simp; omega))) | (go_at_call 107; refine (validIds_any x _).mono ?_; rintro e w2 ⟨he2, hb2⟩; rw [hi] at he2; subst he2; obtain ⟨hc2, hz2⟩ := held hb2 (g := w.heap.size) (by first | exact hz1 | (simp; omega))))
        all_goals go_wp2_with fail
        all_goals go_meet
        all_goals
          have q1 : Below w.heap.size w w1 := hB0.drew.trans (hb1.mono (by simpa using hB0.size))
          have x1 : EntAt w1 w.heap.size x := Blk.below (Blk.drew hX0) hb1 (by simpa using hz)
          exact ⟨by rw [HO.out, hd, hi]; rfl, q1.trans (hb2.mono q1.size), Blk.below x1 hb2 hz1⟩
      | true =>
        cases bb
        all_goals
          go_region_with (first | (go_at_call 106; refine (validDays_any x _).mono ?_; rintro e w1 ⟨he1, hb1⟩; rw [hd] at he1; subst he1; obtain ⟨hc1, hz1⟩ := held hb1 (g := w.heap.size) (by first | exact hz | (simp; omega))) | (go_at_call 107; refine (validIds_any x _).mono ?_; rintro e w2 ⟨he2, hb2⟩; rw [hi] at he2; subst he2; obtain ⟨hc2, hz2⟩ := held hb2 (g := w.heap.size) (by first | exact hz1 | (simp; omega))) | (go_at_call 108; refine (onlyWritten_any x _).mono ?_; rintro e w3 ⟨rfl, hb3⟩; unfold entVal; obtain ⟨hc3, hz3⟩ := held hb3 (g := w.heap.size) (by first | exact hz2 | (simp; omega))))
          all_goals go_wp2_with fail
          all_goals go_meet
          all_goals
            have q1 : Below w.heap.size w w1 := hB0.drew.trans (hb1.mono (by simpa using hB0.size))
            have x1 : EntAt w1 w.heap.size x := Blk.below (Blk.drew hX0) hb1 (by simpa using hz)
            have q2 := q1.trans (hb2.mono q1.size)
            exact ⟨by rw [HO.out, hd, hi]; rfl, q2.trans (hb3.mono q2.size), Blk.below (Blk.below x1 hb2 hz1) hb3 hz2⟩
  case rest =>
    clear hne hng hX0 hB0 k0 k1 k2 k3 k4 k5 k6 k7 k8 k9 hz
    obtain ⟨hs16, hB, hX⟩ := hcut
    obtain ⟨k0, k1, k2, k3, k4, k5, k6, k7, k8, k9, hz⟩ := hX.cells
    cases hk : okE x
    all_goals
      rw [hk] at hs16
      subst hs16
      have HK := Lib.hid hk
      clear hk HO
      go_wp2_with (go_at_call 109; refine (isName_any _ _ hs).mono ?_; rintro e w3 ⟨rfl, rfl⟩)
      all_goals
        go_ret
        exact ⟨ret_int (by unfold ckE; rw [HK.out]; clear k0 k1 k2 k3 k4 k5 k6 k7 k8 k9 HK hX; simp_all), hB⟩
end Go.Proofs.YtlbehpbhmmppiaaGreatDoor
