/- The contracts of Dead, Lives, Home and Heir of package people. Conditions: the list lies in memory; the person is an int. -/
import Derived.Test.YtmfjmoicnddkcaaGreatDoorOnA
import Derived.Test.YtmfjmoicnddkcaaGreatDoorHomeA
import Derived.Test.YtmfjmoicnddkcaaGreatDoorFolA
namespace Go.Proofs.YtmfjmoicnddkcaaGreatDoor
open Go.RowKit

set_option maxRecDepth 100000 in
set_option maxHeartbeats 4000000 in
theorem pHome_any (A : Option Addr) (c : Nat) (l : List OEnt) (p d : Int) (hp : -9223372036854775808 ≤ p ∧ p ≤ 9223372036854775807) (w : World) (hL : EntsLie w w.heap.size A (l.map (·.1))) (hl : l.length ≤ maxLen) :
    Calls Tryz.prog 32 #[.slice A l.length c, .int .i64 p, .int .i64 d] w fun e w' => e = .returned (.tuple #[.int .i64 (homeOf (deadOf l d) l d p).1, .bool (homeOf (deadOf l d) l d p).2]) ∧ Below w.heap.size w w' := by
  have H1 := Lib.hid (on_any A c l d w hL hl)
  have H2 := Lib.hid (fun W b1 b2 (hD : DirIn W A l b1 b2 (deadOf l d) (cancOf l d)) => home_any A c l d p b1 b2 (deadOf l d) (cancOf l d) hp W hD)
  generalize homeOf (deadOf l d) l d p = r at *
  obtain ⟨x, r⟩ := r
  unfold dirVal at H1 H2
  dsimp only at H2 ⊢
  go_enter Tryz.func32, Tryz.ntmps32
  go_wp2_with fail
  refine H1.out.mono ?_
  rintro e w1 ⟨b1, b2, rfl, hD, hb1⟩
  go_wp2_with fail
  refine (H2.out w1 b1 b2 hD).mono ?_
  rintro e w2 ⟨rfl, hb2⟩
  go_wp2_with fail
  go_ret2
  exact ⟨rfl, hb1.trans (hb2.mono hb1.size)⟩

set_option maxRecDepth 100000 in
set_option maxHeartbeats 4000000 in
theorem pHeir_any (A : Option Addr) (c : Nat) (l : List OEnt) (p d : Int) (w : World) (hL : EntsLie w w.heap.size A (l.map (·.1))) (hl : l.length ≤ maxLen) :
    Calls Tryz.prog 34 #[.slice A l.length c, .int .i64 p, .int .i64 d] w fun e w' => e = .returned (.tuple #[.int .i64 (heirOf l d p).1, .bool (heirOf l d p).2]) ∧ Below w.heap.size w w' := by
  have H1 := Lib.hid (on_any A c l d w hL hl)
  have H2 := Lib.hid (fun W b1 b2 (hD : DirIn W A l b1 b2 (deadOf l d) (cancOf l d)) => heir_any A c l d p b1 b2 (deadOf l d) (cancOf l d) W hD)
  generalize heirOf l d p = r at *
  obtain ⟨x, r⟩ := r
  unfold dirVal at H1 H2
  dsimp only at H2 ⊢
  go_enter Tryz.func34, Tryz.ntmps34
  go_wp2_with fail
  refine H1.out.mono ?_
  rintro e w1 ⟨b1, b2, rfl, hD, hb1⟩
  go_wp2_with fail
  refine (H2.out w1 b1 b2 hD).mono ?_
  rintro e w2 ⟨rfl, hb2⟩
  go_wp2_with fail
  go_ret2
  exact ⟨rfl, hb1.trans (hb2.mono hb1.size)⟩

set_option maxRecDepth 100000 in
set_option maxHeartbeats 4000000 in
theorem pDead_any (A : Option Addr) (c : Nat) (l : List OEnt) (p d : Int) (hp : -9223372036854775808 ≤ p ∧ p ≤ 9223372036854775807) (w : World) (hL : EntsLie w w.heap.size A (l.map (·.1))) (hl : l.length ≤ maxLen) :
    Calls Tryz.prog 13 #[.slice A l.length c, .int .i64 p, .int .i64 d] w fun e w' => e = .returned (.bool (deadOf l d p)) ∧ Below w.heap.size w w' := by
  have H1 := Lib.hid (on_any A c l d w hL hl)
  have hq : ∀ W b1 b2, DirIn W A l b1 b2 (deadOf l d) (cancOf l d) → (Instr.lookup 67 (.map (some b1)) (.int .i64 p) false).run Tryz.prog W = .ok (.bool (deadOf l d p)) W := fun W b1 b2 hD => by
    have := hD.dead.look lawInt mapIntRow (keyInt hp)
    rwa [onInt_at] at this
  have HQ := Lib.hid hq
  clear hq
  generalize deadOf l d p = r at *
  unfold dirVal at H1
  go_enter Tryz.func13, Tryz.ntmps13
  go_wp2_with fail
  refine H1.out.mono ?_
  rintro e w1 ⟨b1, b2, rfl, hD, hb1⟩
  have hDx := hD.below ((Below.refl w1.heap.size w1).alloc (Nat.le_refl _) (.cells #[.slice A l.length c, .int .i64 d, .map (some b1), .map (some b2)] 69))
  have hBx := hb1.trans (((Below.refl w1.heap.size w1).alloc (Nat.le_refl _) (.cells #[.slice A l.length c, .int .i64 d, .map (some b1), .map (some b2)] 69)).mono hb1.size)
  have hq1 := HQ.out _ _ _ hD
  have hq2 := HQ.out _ _ _ hDx
  have hfd : ∀ W, (Instr.field 69 (.agg #[.slice A l.length c, .int .i64 d, .map (some b1), .map (some b2)]) 2).run Tryz.prog W = .ok (.map (some b1)) W := fun W => by kernel_rfl
  go_wp2_with (first | (at_lookup; refine wpList_look _ rfl _ _ _ _ rfl hq1 ?_) | (at_lookup; refine wpList_look _ rfl _ _ _ _ rfl hq2 ?_))
  go_ret
  exact ⟨rfl, by first | exact hb1 | exact hBx⟩

set_option maxRecDepth 100000 in
set_option maxHeartbeats 4000000 in
theorem pLives_any (A : Option Addr) (c : Nat) (l : List OEnt) (cp : Int × Int) (d : Int) (hp : intB cp.1 ∧ intB cp.2) (w : World) (hL : EntsLie w w.heap.size A (l.map (·.1))) (hl : l.length ≤ maxLen) :
    Calls Tryz.prog 25 #[.slice A l.length c, candVal cp, .int .i64 d] w fun e w' => e = .returned (.bool (livesOf (deadOf l d) l d cp)) ∧ Below w.heap.size w w' := by
  obtain ⟨kl, hk⟩ := keyCand hp
  have H1 : ∀ W, Below w.heap.size w W → _ := fun W (hW : Below w.heap.size w W) => on_any A c l d W (hL.up hW hW.size) hl
  have H2 := fun W b1 b2 (hD : DirIn W A l b1 b2 (deadOf l d) (cancOf l d)) => livesA A c l d cp kl hk b1 b2 (deadOf l d) (cancOf l d) W hD
  clear hk hp
  generalize livesOf (deadOf l d) l d cp = r at *
  obtain ⟨p, q⟩ := cp
  unfold candVal dirVal at *
  dsimp only at H2 ⊢
  go_enter Tryz.func25, Tryz.ntmps25
  go_upto_region 1 with fail
  have hB0 : Below w.heap.size w (w.alloc (.cells #[.int .i64 p, .int .i64 q] 38)) := below_al (Below.refl _ _) _
  have kC := Blk.new w 38 #[.int .i64 p, .int .i64 q]
  generalize w.alloc (.cells _ 38) = W0 at hB0 kC ⊢
  have h1 := H1 W0.drew hB0.drew
  have e0 := kC.cell 0
  have e1 := kC.cell 1
  have zC := kC.lt
  simp at e0 e1
  clear H1
  go_region_with (first
    | (go_at_call 45; refine h1.mono ?_; rintro e w1 ⟨b1, b2, rfl, hD, hb1⟩; have hB1 := hB0.drew.trans (hb1.mono hB0.size); have kC1 := Blk.below (Blk.drew kC) hb1 zC; have e10 := Blk.cell kC1 0; have e11 := Blk.cell kC1 1; have zC1 := Blk.lt kC1; simp at e10 e11; have h2 := H2 w1 b1 b2 hD)
    | (go_at_call 53; refine h2.mono ?_; rintro e w2 ⟨rfl, hb2⟩; have hB2 := hB1.trans (hb2.mono hB1.size)))
  all_goals
    go_wp2_with fail
    refine bodyPost_ret (results_tmp rfl _ _ _) rfl ?_
    exact ⟨rfl, hB2⟩
end Go.Proofs.YtmfjmoicnddkcaaGreatDoor
