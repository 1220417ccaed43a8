/- PeopleHouses returns true for every list of entries, every pair, sender and day, and leaves its arguments as they were; the package variables that it names start as the program's text lays them (the card ties them). -/
import Derived.Test.YtgbnbolhmghhlaaGreatDoorOnA
import Derived.Test.YtgbnbolhmghhlaaGreatDoorHomeA
import Derived.Test.YtgbnbolhmghhlaaGreatDoorFolA
import Derived.Test.YtgbnbolhmghhlaaGreatDoorAliveA
import Derived.Test.YtgbnbolhmghhlaaGreatDoorOpenA
import Derived.Test.YtgbnbolhmghhlaaGreatDoorFolC
namespace Go.Proofs.YtgbnbolhmghhlaaGreatDoor
open Go.RowKit

set_option maxRecDepth 100000 in
set_option maxHeartbeats 4000000 in
theorem pHome_any (A : Option Addr) (c : Nat) (l : List OEnt) (p d : Int) (hp : -9223372036854775808 ≤ p ∧ p ≤ 9223372036854775807) (w : World) (hL : EntsLie w w.heap.size A (l.map (·.1))) (hl : l.length ≤ maxLen) :
    Calls Tryz.prog 17 #[.slice A l.length c, .int .i64 p, .int .i64 d] w fun e w' => e = .returned (.tuple #[.int .i64 (homeOf (deadOf l d) l d p).1, .bool (homeOf (deadOf l d) l d p).2]) ∧ Below w.heap.size w w' := by
  have H1 := Lib.hid (on_any A c l d w hL hl)
  have H2 := Lib.hid (fun W b1 b2 (hD : DirIn W A l b1 b2 (deadOf l d) (cancOf l d)) => home_any A c l d p b1 b2 (deadOf l d) (cancOf l d) hp W hD)
  generalize homeOf (deadOf l d) l d p = r at *
  obtain ⟨x, r⟩ := r
  unfold dirVal at H1 H2
  dsimp only at H2 ⊢
  go_enter Tryz.func17, Tryz.ntmps17
  go_wp2_with fail
  refine H1.out.mono ?_
  rintro e w1 ⟨b1, b2, rfl, hD, hb1⟩
  go_wp2_with fail
  refine (H2.out w1 b1 b2 hD).mono ?_
  rintro e w2 ⟨rfl, hb2⟩
  go_wp2_with fail
  go_ret2
  exact ⟨rfl, hb1.trans (hb2.mono hb1.size)⟩

set_option maxRecDepth 100000 in
set_option maxHeartbeats 4000000 in
theorem pHeir_any (A : Option Addr) (c : Nat) (l : List OEnt) (p d : Int) (w : World) (hL : EntsLie w w.heap.size A (l.map (·.1))) (hl : l.length ≤ maxLen) :
    Calls Tryz.prog 25 #[.slice A l.length c, .int .i64 p, .int .i64 d] w fun e w' => e = .returned (.tuple #[.int .i64 (heirOf l d p).1, .bool (heirOf l d p).2]) ∧ Below w.heap.size w w' := by
  have H1 := Lib.hid (on_any A c l d w hL hl)
  have H2 := Lib.hid (fun W b1 b2 (hD : DirIn W A l b1 b2 (deadOf l d) (cancOf l d)) => heir_any A c l d p b1 b2 (deadOf l d) (cancOf l d) W hD)
  generalize heirOf l d p = r at *
  obtain ⟨x, r⟩ := r
  unfold dirVal at H1 H2
  dsimp only at H2 ⊢
  go_enter Tryz.func25, Tryz.ntmps25
  go_wp2_with fail
  refine H1.out.mono ?_
  rintro e w1 ⟨b1, b2, rfl, hD, hb1⟩
  go_wp2_with fail
  refine (H2.out w1 b1 b2 hD).mono ?_
  rintro e w2 ⟨rfl, hb2⟩
  go_wp2_with fail
  go_ret2
  exact ⟨rfl, hb1.trans (hb2.mono hb1.size)⟩

set_option maxRecDepth 100000 in
set_option maxHeartbeats 4000000 in
theorem pDead_any (A : Option Addr) (c : Nat) (l : List OEnt) (p d : Int) (hp : -9223372036854775808 ≤ p ∧ p ≤ 9223372036854775807) (w : World) (hL : EntsLie w w.heap.size A (l.map (·.1))) (hl : l.length ≤ maxLen) :
    Calls Tryz.prog 16 #[.slice A l.length c, .int .i64 p, .int .i64 d] w fun e w' => e = .returned (.bool (deadOf l d p)) ∧ Below w.heap.size w w' := by
  have H1 := Lib.hid (on_any A c l d w hL hl)
  have hq : ∀ W b1 b2, DirIn W A l b1 b2 (deadOf l d) (cancOf l d) → (Instr.lookup 51 (.map (some b1)) (.int .i64 p) false).run Tryz.prog W = .ok (.bool (deadOf l d p)) W := fun W b1 b2 hD => by
    have := hD.dead.look lawInt mapIntRow (keyInt hp)
    rwa [onInt_at] at this
  have HQ := Lib.hid hq
  clear hq
  generalize deadOf l d p = r at *
  unfold dirVal at H1
  go_enter Tryz.func16, Tryz.ntmps16
  go_wp2_with fail
  refine H1.out.mono ?_
  rintro e w1 ⟨b1, b2, rfl, hD, hb1⟩
  have hDx := hD.below ((Below.refl w1.heap.size w1).alloc (Nat.le_refl _) (.cells #[.slice A l.length c, .int .i64 d, .map (some b1), .map (some b2)] 53))
  have hBx := hb1.trans (((Below.refl w1.heap.size w1).alloc (Nat.le_refl _) (.cells #[.slice A l.length c, .int .i64 d, .map (some b1), .map (some b2)] 53)).mono hb1.size)
  have hq1 := HQ.out _ _ _ hD
  have hq2 := HQ.out _ _ _ hDx
  have hfd : ∀ W, (Instr.field 53 (.agg #[.slice A l.length c, .int .i64 d, .map (some b1), .map (some b2)]) 2).run Tryz.prog W = .ok (.map (some b1)) W := fun W => by kernel_rfl
  go_wp2_with (first | (at_lookup; refine wpList_look _ rfl _ _ _ _ rfl hq1 ?_) | (at_lookup; refine wpList_look _ rfl _ _ _ _ rfl hq2 ?_))
  go_ret
  exact ⟨rfl, by first | exact hb1 | exact hBx⟩

set_option maxRecDepth 100000 in
set_option maxHeartbeats 4000000 in
theorem pLives_any (A : Option Addr) (c : Nat) (l : List OEnt) (cp : Int × Int) (d : Int) (hp : intB cp.1 ∧ intB cp.2) (w : World) (hL : EntsLie w w.heap.size A (l.map (·.1))) (hl : l.length ≤ maxLen) :
    Calls Tryz.prog 24 #[.slice A l.length c, candVal cp, .int .i64 d] w fun e w' => e = .returned (.bool (livesOf (deadOf l d) l d cp)) ∧ Below w.heap.size w w' := by
  obtain ⟨kl, hk⟩ := keyCand hp
  have H1 : ∀ W, Below w.heap.size w W → _ := fun W (hW : Below w.heap.size w W) => on_any A c l d W (hL.up hW hW.size) hl
  have H2 := fun W b1 b2 (hD : DirIn W A l b1 b2 (deadOf l d) (cancOf l d)) => livesA A c l d cp kl hk b1 b2 (deadOf l d) (cancOf l d) W hD
  clear hk hp
  generalize livesOf (deadOf l d) l d cp = r at *
  obtain ⟨p, q⟩ := cp
  unfold candVal dirVal at *
  dsimp only at H2 ⊢
  go_enter Tryz.func24, Tryz.ntmps24
  go_upto_region 1 with fail
  have hB0 : Below w.heap.size w (w.alloc (.cells #[.int .i64 p, .int .i64 q] 24)) := below_al (Below.refl _ _) _
  have kC := Blk.new w 24 #[.int .i64 p, .int .i64 q]
  generalize w.alloc (.cells _ 24) = W0 at hB0 kC ⊢
  have h1 := H1 W0.drew hB0.drew
  have e0 := kC.cell 0
  have e1 := kC.cell 1
  have zC := kC.lt
  simp at e0 e1
  clear H1
  go_region_with (first
    | (go_at_call 27; refine h1.mono ?_; rintro e w1 ⟨b1, b2, rfl, hD, hb1⟩; have hB1 := hB0.drew.trans (hb1.mono hB0.size); have kC1 := Blk.below (Blk.drew kC) hb1 zC; have e10 := Blk.cell kC1 0; have e11 := Blk.cell kC1 1; have zC1 := Blk.lt kC1; simp at e10 e11; have h2 := H2 w1 b1 b2 hD)
    | (go_at_call 42; refine h2.mono ?_; rintro e w2 ⟨rfl, hb2⟩; have hB2 := hB1.trans (hb2.mono hB1.size)))
  all_goals
    go_wp2_with fail
    refine bodyPost_ret (results_tmp rfl _ _ _) rfl ?_
    exact ⟨rfl, hB2⟩
end Go.Proofs.YtgbnbolhmghhlaaGreatDoor
namespace Go.Proofs.YtgbnbolhmghhlaaGreatDoor
open Go.ChangeShapes Go.WideShapes Go.ChangeAt Go.RowKit

set_option maxRecDepth 100000 in
set_option maxHeartbeats 8000000 in
theorem houses_walk (A : Option Addr) (c : Nat) (l : List OEnt) (cp : Int × Int) (s d : Int) (hI : ∀ x ∈ l, intB x.1.place ∧ intB x.1.at') (w : World) (hL : EntsLie w w.heap.size A (l.map (·.1))) (hl : l.length ≤ maxLen) (hm : MaxAt w) :
    Calls Tryz.prog 8 #[.slice A l.length c, candVal cp, .int .i64 s, .int .i64 d] w fun e w' => e = .returned (.bool true) ∧ Below w.heap.size w w' := by
  have H0 := Lib.hid fun W => refFew_any A l.length c W
  have H3 : Hid (∀ W, Below w.heap.size w W → _) := Lib.hid fun W (hW : Below w.heap.size w W) => alive_any W (hm.below hm.lt hW)
  by_cases h60 : l.length ≤ 60
  · have H1 : Hid (∀ W, Below w.heap.size w W → _) := Lib.hid fun W (hW : Below w.heap.size w W) => follows_any A c l d s cp hI h60 W (hL.up hW hW.size)
    have K1 : Hid (∀ (f : Int × Int), intB f.1 ∧ intB f.2 → ∀ W, Below w.heap.size w W → _) := Lib.hid fun (f : Int × Int) (hf : intB f.1 ∧ intB f.2) W (hW : Below w.heap.size w W) => pDead_any A c l f.1 d hf.1 W (hL.up hW hW.size) hl
    have K2 : Hid (∀ (f : Int × Int), intB f.1 ∧ intB f.2 → ∀ W, Below w.heap.size w W → _) := Lib.hid fun (f : Int × Int) (hf : intB f.1 ∧ intB f.2) W (hW : Below w.heap.size w W) => pLives_any A c l f d hf W (hL.up hW hW.size) hl
    have K3 : Hid (∀ (f : Int × Int), intB f.1 ∧ intB f.2 → ∀ W, Below w.heap.size w W → _) := Lib.hid fun (f : Int × Int) (hf : intB f.1 ∧ intB f.2) W (hW : Below w.heap.size w W) => pRefuses_any A c l f s d hf.1 W (hL.up hW hW.size) hl
    have K4 : Hid (∀ (f : Int × Int), intB f.1 ∧ intB f.2 → ∀ W, Below w.heap.size w W → _) := Lib.hid fun (f : Int × Int) (hf : intB f.1 ∧ intB f.2) W (hW : Below w.heap.size w W) => pOrder_any A c l f d hf.1 W (hL.up hW hW.size) hl
    have K5 : Hid (∀ (f : Int × Int), ∀ W, Below w.heap.size w W → _) := Lib.hid fun (f : Int × Int) W (hW : Below w.heap.size w W) => pHeir_any A c l f.1 d W (hL.up hW hW.size) hl
    have K6 : Hid (∀ (f : Int × Int), intB f.1 ∧ intB f.2 → ∀ W, Below w.heap.size w W → _) := Lib.hid fun (f : Int × Int) (hf : intB f.1 ∧ intB f.2) W (hW : Below w.heap.size w W) => pHome_any A c l f.1 d hf.1 W (hL.up hW hW.size) hl
    have HI : Hid ((l.length : Int) ≤ 60) := Lib.hid (by omega)
    have HII := Lib.hid hI
    obtain ⟨p, q⟩ := cp
    unfold candVal rtVal entVal at *
    dsimp only at H1 ⊢
    clear hI hL hm
    go_enter Tryz.func8, Tryz.ntmps8
    go_wp2_with fail
    refine (H0.out _).mono ?_
    rintro e w0 ⟨rfl, rfl⟩
    rw [decide_eq_true HI.out]
    have hB0 : Below w.heap.size w (w.alloc (.cells #[.int .i64 p, .int .i64 q] 24)) := below_al (Below.refl _ _) _
    have kC := Blk.new w 24 #[.int .i64 p, .int .i64 q]
    generalize w.alloc (.cells _ 24) = w0 at hB0 kC ⊢
    have e0 := kC.cell 0
    have e1 := kC.cell 1
    have zC := kC.lt
    simp at e0 e1
    go_wp2_with fail
    refine (H1.out _ hB0).mono ?_
    rintro e w1 ⟨hb1, ⟨k, ⟨f1, f2⟩, hops, back⟩, hv, x, rfl, hO, hF, hx⟩
    dsimp only at hO hF hx ⊢
    obtain ⟨A2, c2, rfl⟩ := hO.shape
    have hB1 := hB0.trans (hb1.mono hB0.size)
    clear hb1 e0 e1 zC H0 H1 kC
    rcases hF with ⟨rfl, hF⟩ | ⟨rfl, hr⟩
    rotate_left
    · obtain ⟨rfl, hr, rfl, rfl⟩ : k = 0 ∧ (f1, f2) = (0, 0) ∧ hops = [] ∧ back = 0 := by cases hr; exact ⟨rfl, rfl, rfl, rfl⟩
      cases hr
      clear hx
      have hBx := hB1.alloc hB1.size (.cells #[.int .u8 0, .int .i64 0, .int .i64 0, .slice A2 0 c2, .int .i64 0] 42)
      have kR := Blk.new w1 42 #[.int .u8 0, .int .i64 0, .int .i64 0, .slice A2 0 c2, .int .i64 0]
      go_wp2_with fail
      generalize w1.alloc (.cells _ 42) = w2 at hBx kR ⊢
      refine (H3.out _ hBx).mono ?_
      rintro e w3 ⟨rfl, hb3⟩
      have hB3 := hBx.trans (hb3.mono hBx.size)
      replace kR := Blk.below kR hb3 (Blk.lt kR)
      have r0 := kR.cell 0
      have r3 := kR.cell 3
      have zR := kR.lt
      simp at r0 r3
      go_wp2_with fail
      go_ret
      exact ⟨rfl, hB3⟩
    · have hval := hx.1 rfl
      simp only [Bool.and_eq_true] at hval
      have hcp := valid_int hval.1.1.1 hval.1.1.2
      have HE := Lib.hid (hF.ended (Way.start l d (p, q)))
      have HT := Lib.hid hF.true_end
      have hint := hF.fin_int HII.out hcp (Way.start l d (p, q))
      dsimp only at hint
      have HK := Lib.hid HE.out.kind
      dsimp only at HK
      clear hx hval hO HE hF hcp
      have hBx := hB1.alloc hB1.size (.cells #[.int .u8 k, .int .i64 f1, .int .i64 f2, .slice A2 hops.length c2, .int .i64 back] 42)
      have kR := Blk.new w1 42 #[.int .u8 k, .int .i64 f1, .int .i64 f2, .slice A2 hops.length c2, .int .i64 back]
      obtain ⟨dd, hdd⟩ : ∃ x, deadOf l d f1 = x := ⟨_, rfl⟩
      obtain ⟨lv, hlv⟩ : ∃ x, livesOf (deadOf l d) l d (f1, f2) = x := ⟨_, rfl⟩
      obtain ⟨rf, hrf⟩ : ∃ x, refusesOf (deadOf l d) l d (f1, f2) s = x := ⟨_, rfl⟩
      obtain ⟨od, hod⟩ : ∃ x, orderOf (deadOf l d) (cancOf l d) l d (f1, f2) = x := ⟨_, rfl⟩
      obtain ⟨hr, hhr⟩ : ∃ x, heirOf l d f1 = x := ⟨_, rfl⟩
      obtain ⟨hm, hhm⟩ : ∃ x, homeOf (deadOf l d) l d f1 = x := ⟨_, rfl⟩
      have k1 := K1.out (f1, f2) hint
      have k2 := K2.out (f1, f2) hint
      have k3 := K3.out (f1, f2) hint
      have k4 := K4.out (f1, f2) hint
      have k5 := K5.out (f1, f2)
      have k6 := K6.out (f1, f2) hint
      dsimp only at k1 k2 k3 k4 k5 k6
      rw [hdd] at k1
      rw [hlv] at k2
      rw [hrf] at k3
      rw [hod] at k4
      rw [hhr] at k5
      rw [hhm] at k6
      have e1 := HT.out.house
      have e2 := HT.out.refused
      have e3 := HT.out.dead
      have e4 := HT.out.gone
      have e5 := HT.out.homeless
      dsimp only at e1 e2 e3 e4 e5
      rw [hlv, hdd, hrf, hod] at e1
      rw [hrf, hdd] at e2
      rw [hdd, hhr] at e3
      rw [hlv, hrf, hod, hdd] at e4
      rw [hdd, hhm] at e5
      replace k1 := Lib.hid k1
      replace k2 := Lib.hid k2
      replace k3 := Lib.hid k3
      replace k4 := Lib.hid k4
      replace k5 := Lib.hid k5
      replace k6 := Lib.hid k6
      replace e1 := Lib.hid e1
      replace e2 := Lib.hid e2
      replace e3 := Lib.hid e3
      replace e4 := Lib.hid e4
      replace e5 := Lib.hid e5
      clear K1 K2 K3 K4 K5 K6 HT hdd hlv hrf hod hhr hhm hint
      obtain ⟨ox, ob⟩ := od
      obtain ⟨hx, hb⟩ := hr
      obtain ⟨mx, mb⟩ := hm
      dsimp only at k4 k5 k6 e1 e3 e4 e5
      go_wp2_with fail
      generalize w1.alloc (.cells _ 42) = w2 at hBx kR ⊢
      refine (k1.out _ hBx).mono ?_
      rintro e w3 ⟨rfl, hb3⟩
      have hB3 := hBx.trans (hb3.mono hBx.size)
      replace kR := Blk.below kR hb3 (Blk.lt kR)
      clear hBx hb3 k1
      have r1 := kR.cell 1
      have r2 := kR.cell 2
      have zR := kR.lt
      simp at r1 r2
      go_wp2_with fail
      refine (k2.out _ hB3).mono ?_
      rintro e w4 ⟨rfl, hb4⟩
      have hB4 := hB3.trans (hb4.mono hB3.size)
      replace kR := Blk.below kR hb4 (Blk.lt kR)
      clear hB3 hb4 k2 r1 r2 zR
      have r1 := kR.cell 1
      have r2 := kR.cell 2
      have zR := kR.lt
      simp at r1 r2
      go_wp2_with fail
      refine (k3.out _ hB4).mono ?_
      rintro e w5 ⟨rfl, hb5⟩
      have hB5 := hB4.trans (hb5.mono hB4.size)
      replace kR := Blk.below kR hb5 (Blk.lt kR)
      clear hB4 hb5 k3 r1 r2 zR
      have r1 := kR.cell 1
      have r2 := kR.cell 2
      have zR := kR.lt
      simp at r1 r2
      go_wp2_with fail
      refine (k4.out _ hB5).mono ?_
      rintro e w6 ⟨rfl, hb6⟩
      have hB6 := hB5.trans (hb6.mono hB5.size)
      replace kR := Blk.below kR hb6 (Blk.lt kR)
      clear hB5 hb6 k4 r1 r2 zR
      have r1 := kR.cell 1
      have r2 := kR.cell 2
      have zR := kR.lt
      simp at r1 r2
      have hBo := hB6.alloc hB6.size (.cells #[.int .i64 ox.day, .int .u8 ox.kind, .int .i64 ox.since, .int .i64 ox.untl, .int .i64 ox.person, .int .i64 ox.place, .int .i64 ox.other, .int .i64 ox.at', .int .i64 ox.order, .string ox.name] 28)
      replace kR := kR.alloc (.cells #[.int .i64 ox.day, .int .u8 ox.kind, .int .i64 ox.since, .int .i64 ox.untl, .int .i64 ox.person, .int .i64 ox.place, .int .i64 ox.other, .int .i64 ox.at', .int .i64 ox.order, .string ox.name] 28)
      go_wp2_with fail
      generalize w6.alloc (.cells _ 28) = w6 at hBo kR ⊢
      clear hB6
      have hB6 := hBo
      clear hBo
      refine (k5.out _ hB6).mono ?_
      rintro e w7 ⟨rfl, hb7⟩
      have hB7 := hB6.trans (hb7.mono hB6.size)
      replace kR := Blk.below kR hb7 (Blk.lt kR)
      clear hB6 hb7 k5 r1 r2 zR
      have r1 := kR.cell 1
      have r2 := kR.cell 2
      have zR := kR.lt
      simp at r1 r2
      go_wp2_with fail
      refine (k6.out _ hB7).mono ?_
      rintro e w8 ⟨rfl, hb8⟩
      have hB8 := hB7.trans (hb8.mono hB7.size)
      replace kR := Blk.below kR hb8 (Blk.lt kR)
      clear hB7 hb8 k6 r1 r2 zR
      have r0 := kR.cell 0
      have r2 := kR.cell 2
      have zR := kR.lt
      simp at r0 r2
      have hk : k = 1 ∨ k = 2 ∨ k = 3 ∨ k = 4 ∨ k = 5 ∨ k = 6 := by have := HK.out; omega
      rcases hk with rfl | rfl | rfl | rfl | rfl | rfl
      · obtain ⟨rfl, rfl, rfl, rfl⟩ := e1.out rfl
        clear e1 e2 e3 e4 e5 HK
        · go_wp2_with fail
          refine (H3.out _ hB8).mono ?_
          rintro e w9 ⟨rfl, hb9⟩
          have hB9 := hB8.trans (hb9.mono hB8.size)
          go_wp2_with fail
          go_ret
          exact ⟨rfl, hB9⟩
      · obtain ⟨rfl, rfl⟩ := e2.out rfl
        clear e1 e2 e3 e4 e5 HK
        · go_wp2_with fail
          refine (H3.out _ hB8).mono ?_
          rintro e w9 ⟨rfl, hb9⟩
          have hB9 := hB8.trans (hb9.mono hB8.size)
          go_wp2_with fail
          go_ret
          exact ⟨rfl, hB9⟩
      · obtain ⟨rfl, rfl⟩ := e3.out rfl
        clear e1 e2 e3 e4 e5 HK
        · go_wp2_with fail
          refine (H3.out _ hB8).mono ?_
          rintro e w9 ⟨rfl, hb9⟩
          have hB9 := hB8.trans (hb9.mono hB8.size)
          go_wp2_with fail
          go_ret
          exact ⟨rfl, hB9⟩
      · obtain ⟨rfl, rfl, rfl, rfl⟩ := e4.out rfl
        clear e1 e2 e3 e4 e5 HK
        · go_wp2_with fail
          refine (H3.out _ hB8).mono ?_
          rintro e w9 ⟨rfl, hb9⟩
          have hB9 := hB8.trans (hb9.mono hB8.size)
          go_wp2_with fail
          go_ret
          exact ⟨rfl, hB9⟩
      · obtain ⟨rfl, rfl, rfl⟩ := e5.out rfl
        clear e1 e2 e3 e4 e5 HK
        · go_wp2_with fail
          refine (H3.out _ hB8).mono ?_
          rintro e w9 ⟨rfl, hb9⟩
          have hB9 := hB8.trans (hb9.mono hB8.size)
          go_wp2_with fail
          go_ret
          exact ⟨rfl, hB9⟩
      · clear e1 e2 e3 e4 e5 HK
        · go_wp2_with fail
          refine (H3.out _ hB8).mono ?_
          rintro e w9 ⟨rfl, hb9⟩
          have hB9 := hB8.trans (hb9.mono hB8.size)
          go_wp2_with fail
          go_ret
          exact ⟨rfl, hB9⟩
  · have HI : Hid (decide ((l.length : Int) ≤ 60) = false) := Lib.hid (decide_eq_false (by omega))
    clear hI hL hm
    obtain ⟨p, q⟩ := cp
    unfold candVal
    go_enter Tryz.func8, Tryz.ntmps8
    go_wp2_with fail
    refine (H0.out _).mono ?_
    rintro e w0 ⟨rfl, rfl⟩
    rw [HI.out]
    have hB0 : Below w.heap.size w (w.alloc (.cells #[.int .i64 p, .int .i64 q] 24)) := below_al (Below.refl _ _) _
    generalize w.alloc (.cells _ 24) = w0 at hB0 ⊢
    go_wp2_with fail
    refine (H3.out _ hB0).mono ?_
    rintro e w1 ⟨rfl, hb1⟩
    go_wp2_with fail
    go_ret
    exact ⟨rfl, hB0.trans (hb1.mono hB0.size)⟩
end Go.Proofs.YtgbnbolhmghhlaaGreatDoor
namespace Go.Proofs.YtgbnbolhmghhlaaGreatDoor
open Go.ChangeShapes Go.WideShapes Go.ChangeAt Go.RowKit

set_option maxRecDepth 100000 in
theorem houses_contract (H : Type) (enc : TypeId × Value → H) (W : World) (base : Nat) (args : Array Value) (ds gs : List (DataW H)) (before : List MemPlace)
    (hval : ∀ (j : Nat) t v, Tryz.f8.params[j]? = some t → args[j]? = some v → Value.okWide Tryz.prog W .any base t v)
    (hW : DataW.Whole enc Tryz.prog Tryz.f8.params.toList Rows.peopleHousesSpec.vars false W args.toList ds gs before)
    (hsh : W.ShapedOpen Tryz.prog) :
    Calls Tryz.prog 8 args W fun e W' => ∃ v, e = .returned v ∧ Rows.peopleHousesSpec.post enc Tryz.prog Tryz.f8 false true false false W args v W' := by
  have hW' := hW
  have hlt : ∀ p ∈ before, p.block < W.heap.size := fun p hp => hW.lt p hp
  obtain ⟨p, q, hA, hV, rfl, hfz, hnd⟩ := hW
  have hA0 : DataW.TrodAll enc Tryz.prog W 0 (fun _ => true) true [22, 24, 3, 3] args.toList ds p := hA
  obtain ⟨v0, vs0, d0, ds0, p0, q0, hargs, rfl, rfl, h0, r0⟩ := trodAll_cons hA0
  obtain ⟨v1, vs1, d1, ds1, p1, q1, rfl, rfl, rfl, h1, r1⟩ := trodAll_cons r0
  obtain ⟨v2, vs2, d2, ds2, p2, q2, rfl, rfl, rfl, h2, r2⟩ := trodAll_cons r1
  obtain ⟨v3, vs3, d3, ds3, p3, q3, rfl, rfl, rfl, h3, r3⟩ := trodAll_cons r2
  obtain ⟨rfl, rfl, rfl⟩ := trodAll_nil r3
  obtain rfl : args = #[v0, v1, v2, v3] := by cases args; simp_all
  obtain ⟨rfl, rfl⟩ := trodVars_none hV
  have hsl := slice_of_ok (hval 0 22 v0 rfl rfl)
  obtain ⟨A, c, l, rfl, hlc, hcm, hL, hgo, hd⟩ := open_ents (fun x hx => hlt x (by simp [hx])) h0 hsl
  obtain ⟨cp, rfl, hcp, _⟩ := cand_of_ok (hval 1 24 v1 rfl rfl) h1
  obtain ⟨s, rfl, rfl, rfl, hws⟩ := open_int Tryz.underlying3 (hval 2 3 v2 rfl rfl) h2
  obtain ⟨d, rfl, rfl, rfl, hwd⟩ := open_int Tryz.underlying3 (hval 3 3 v3 rfl rfl) h3
  obtain ⟨m, rfl⟩ := to_oents l hgo
  have hlm : (m.map (·.1)).length = m.length := List.length_map _
  have hw := houses_walk A c m cp s d (fun x hx => ⟨(hgo x.1 (List.mem_map_of_mem hx)).2.2.2.2.1, (hgo x.1 (List.mem_map_of_mem hx)).2.2.2.2.2⟩) W hL (by rw [← hlm]; exact Nat.le_trans hlc hcm) (laysCut.s1_3 W hsh)
  rw [← hlm] at hw
  refine hw.mono fun e W' ⟨he, hb⟩ => ?_
  subst he
  exact law_post rfl (fun t ht => by
    have ht' : t ∈ [(22 : TypeId), 24, 3, 3] := ht
    simp at ht'
    rcases ht' with rfl | rfl | rfl
    · exact ents_readable
    · exact cand_readable
    · exact int_readable) rfl hW' rfl hb

theorem houses_laid_met (os : Os) : laidMetH Tryz.prog Rows.peopleHousesRow.laid ((doorW os).forCall (fun _ _ => 0) ⟨#[], #[.slice none 0 0, .agg #[.int .i64 0, .int .i64 0], .int .i64 0, .int .i64 0], []⟩).memory :=
  laidMetH_of_parts3 (fuel := 8) (laidMet_of_run' 8 (by kernel_rfl) (by kernel_rfl)) (by kernel_rfl) (by kernel_rfl)
theorem houses_reads (os : Os) {H : Type} (enc : TypeId × Value → H) : ∃ places, DataW.whole enc Tryz.prog ((doorW os).forCall (fun _ _ => 0) ⟨#[], #[.slice none 0 0, .agg #[.int .i64 0, .int .i64 0], .int .i64 0, .int .i64 0], []⟩).memory Tryz.f8.params.toList Rows.peopleHousesSpec.vars false #[Value.slice none 0 0, Value.agg #[.int .i64 0, .int .i64 0], Value.int .i64 0, Value.int .i64 0].toList 8 = some ([.nil, .agg [.lit (.int .i64 0), .lit (.int .i64 0)], .lit (.int .i64 0), .lit (.int .i64 0)], [], places) :=
  ⟨[], by kernel_rfl⟩

set_option maxRecDepth 100000 in
theorem houses_lifted (os : Os) (started : os.Started) (H : Type) (enc : TypeId × Value → H) (F : Stop.Interp) :
    ReturnsInHanded {} Tryz.checked os 8 .any ((OpenSpec.ofChange Rows.peopleHousesSpec).preRow enc Tryz.prog Tryz.f8 Rows.peopleHousesRow.domain false Rows.peopleHousesRow.laid) (((OpenSpec.ofChange Rows.peopleHousesSpec).at F).post enc Tryz.prog Tryz.f8 false true false false) := by
  obtain ⟨places, hx⟩ := houses_reads os enc
  refine returnsInHanded_of_row (C := Tryz.checked) (s := OpenSpec.ofChange Rows.peopleHousesSpec) ownKnobA started (by kernel_rfl) Tryz.func8
    (witness_row_at (enc := enc) (C := Tryz.checked) false (doorW os) #[.slice none 0 0, .agg #[.int .i64 0, .int .i64 0], .int .i64 0, .int .i64 0] rfl (by kernel_rfl) (by kernel_rfl) (by kernel_rfl)
      (OpenSpec.preRow_of_cond 8 hx (by kernel_rfl) (fun k hk => by cases hk) (by kernel_rfl) (houses_laid_met os))) ?_
  intro W base args ds gs before hval hW _ _ _ _ hsh _
  exact houses_contract H enc W base args ds gs before hval hW hsh

theorem houses_said : Rows.PeopleHousesSaid :=
  OpenClaim.holds_of_cond 8 Tryz.f8 rfl rfl rfl rfl rfl rfl rfl ⟨rfl, rfl, rfl, rfl, rfl⟩ rfl rfl rfl rfl rfl (by kernel_rfl) Tryz.func8 (by kernel_rfl)
    (of_decide_eq_true (by kernel_rfl)) (by unfold Func.isWrapper; first | (rw [if_pos (by decide +kernel)]; kernel_rfl) | (rw [if_neg (by decide +kernel)]; exact ⟨rfl, rfl⟩))
    (fun os started H enc _ F => by rw [OpenClaim.pre_eq_preRow]; exact houses_lifted os started H enc F)

theorem houses_plain (f : FuncId) (fn : Func) (hf : Tryz.pinned.checked.prog.funcNamed "restante/restantelaw03.PeopleHouses" = some f) (hfn : Tryz.pinned.checked.prog.funcs[f]? = some fn) :
    true = Tryz.pinned.checked.prog.looks [] ∧ ∀ (j : Nat) t, fn.params[j]? = some t → Tryz.pinned.checked.prog.wantsStandIn t = false := by
  obtain rfl : f = 8 := Option.some.inj ((show Tryz.prog.funcNamed "restante/restantelaw03.PeopleHouses" = some 8 by kernel_rfl).symm.trans hf) |>.symm
  obtain rfl : fn = Tryz.f8 := (Option.some.inj (Tryz.func8.symm.trans hfn)).symm
  refine ⟨by kernel_rfl, fun j t ht => ?_⟩
  rw [Tryz.params8] at ht
  have ht' := Array.mem_of_getElem? ht
  simp at ht'
  rcases ht' with rfl | rfl | rfl
  · exact (show Tryz.prog.wantsStandIn 22 = false by kernel_rfl)
  · exact (show Tryz.prog.wantsStandIn 24 = false by kernel_rfl)
  · exact (show Tryz.prog.wantsStandIn 3 = false by kernel_rfl)

theorem peopleHouses_card : Rows.PeopleHousesCardSaid :=
  Claim7.holds_tied_plain_at .later [] _ _ _ _ houses_said (fun _ h => by cases h) (by kernel_rfl) (fun _ h => by cases h) peopleHouses_row_tie rfl ⟨rfl, rfl⟩ (by kernel_rfl) rfl houses_plain (by kernel_rfl)
#print axioms peopleHouses_card
end Go.Proofs.YtgbnbolhmghhlaaGreatDoor
