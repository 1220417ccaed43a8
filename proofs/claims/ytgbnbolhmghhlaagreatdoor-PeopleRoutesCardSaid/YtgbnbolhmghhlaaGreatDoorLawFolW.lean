/- PeopleFollows returns true for every list of entries, every pair, sender and day, and leaves its arguments as they were; the package variables that it names start as the program's text lays them. -/
import Derived.Test.YtgbnbolhmghhlaaGreatDoorAliveA
import Derived.Test.YtgbnbolhmghhlaaGreatDoorOpenA
import Derived.Test.YtgbnbolhmghhlaaGreatDoorFolC
import Derived.Test.YtgbnbolhmghhlaaGreatDoorRefFA
import Derived.Test.YtgbnbolhmghhlaaGreatDoorSameA
namespace Go.Proofs.YtgbnbolhmghhlaaGreatDoor
open Go.ChangeShapes Go.WideShapes Go.ChangeAt Go.RowKit Go.Sort

/-- Two runs of the relation of following, both at the same arguments, give the same route and the same error. -/
theorem fol_same {l : List OEnt} {d s : Int} {cp : Int × Int} {r r' : Rt} {x x' : Int} {P : Prop} (h : (x = 0 ∧ Fol l d s [] cp r) ∨ (x = 1 ∧ r = ⟨0, (0, 0), [], 0⟩)) (h' : (x' = 0 ∧ Fol l d s [] cp r') ∨ (x' = 1 ∧ r' = ⟨0, (0, 0), [], 0⟩)) (hx : x = 0 ↔ P) (hx' : x' = 0 ↔ P) : x = x' ∧ r = r' := by
  rcases h with ⟨rfl, h⟩ | ⟨rfl, h⟩ <;> rcases h' with ⟨rfl, h'⟩ | ⟨rfl, h'⟩
  · exact ⟨rfl, h.unique h'⟩
  · exact absurd (hx'.2 (hx.1 rfl)) (by decide)
  · exact absurd (hx.2 (hx'.1 rfl)) (by decide)
  · exact ⟨rfl, h.trans h'.symm⟩
theorem fol_len {l : List OEnt} {d s : Int} {cp : Int × Int} {r : Rt} {x : Int} (h : (x = 0 ∧ Fol l d s [] cp r) ∨ (x = 1 ∧ r = ⟨0, (0, 0), [], 0⟩)) (h60 : l.length ≤ 60) : r.hops.length ≤ 1000 := by
  rcases h with ⟨_, h⟩ | ⟨_, rfl⟩
  · have := (h.ended (Way.start l d cp)).len
    omega
  · simp

set_option maxRecDepth 100000 in
set_option maxHeartbeats 8000000 in
theorem follows_walk (A : Option Addr) (c : Nat) (l : List OEnt) (cp : Int × Int) (s d : Int) (hI : ∀ x ∈ l, intB x.1.place ∧ intB x.1.at') (w : World) (hL : EntsLie w w.heap.size A (l.map (·.1))) (_ : l.length ≤ maxLen) (hm : MaxAt w) :
    Calls Tryz.prog 5 #[.slice A l.length c, candVal cp, .int .i64 s, .int .i64 d] w fun e w' => e = .returned (.bool true) ∧ Below w.heap.size w w' := by
  have H0 := Lib.hid fun W => refFew_any A l.length c W
  have H3 : Hid (∀ W, Below w.heap.size w W → _) := Lib.hid fun W (hW : Below w.heap.size w W) => alive_any W (hm.below hm.lt hW)
  by_cases h60 : l.length ≤ 60
  · have H1 : Hid (∀ W, Below w.heap.size w W → _) := Lib.hid fun W (hW : Below w.heap.size w W) => follows_any A c l d s cp hI h60 W (hL.up hW hW.size)
    have H2 : Hid (∀ W, Below w.heap.size w W → _) := Lib.hid fun W (hW : Below w.heap.size w W) => refFollow_any A c l d s cp h60 W (hL.up hW hW.size)
    have HI : Hid ((l.length : Int) ≤ 60) := Lib.hid (by omega)
    have H60 := Lib.hid h60
    obtain ⟨p, q⟩ := cp
    unfold candVal rtVal at *
    dsimp only at H1 H2 ⊢
    clear hI hL hm h60
    go_enter Tryz.func5, Tryz.ntmps5
    go_wp2_with fail
    refine (H0.out _).mono ?_
    rintro e w0 ⟨rfl, rfl⟩
    rw [decide_eq_true HI.out]
    have hB0 : Below w.heap.size w (w.alloc (.cells #[.int .i64 p, .int .i64 q] 24)) := below_al (Below.refl _ _) _
    have kC := Blk.new w 24 #[.int .i64 p, .int .i64 q]
    generalize w.alloc (.cells _ 24) = w0 at hB0 kC ⊢
    have e0 := kC.cell 0
    have e1 := kC.cell 1
    have zC := kC.lt
    simp at e0 e1
    go_wp2_with fail
    refine (H1.out _ hB0).mono ?_
    rintro e w1 ⟨hb1, ⟨k, ⟨f1, f2⟩, hops, back⟩, hv, x, rfl, hO, hF, hx⟩
    have hR1 := hO
    dsimp only at hR1 ⊢
    obtain ⟨A2, c2, rfl⟩ := hR1.shape
    replace hR1 := hR1.rows
    have HF := Lib.hid hF
    have HX := Lib.hid hx
    have hB1 := hB0.trans (hb1.mono hB0.size)
    replace kC := Blk.below kC hb1 (Blk.lt kC)
    clear hb1 e0 e1 zC H0 H1 hO hF hx hB0
    have e0 := Blk.cell kC 0
    have e1 := Blk.cell kC 1
    have zC := Blk.lt kC
    simp at e0 e1
    have hBx := below_al hB1 (.cells #[.int .u8 k, .int .i64 f1, .int .i64 f2, .slice A2 hops.length c2, .int .i64 back] 42)
    have kR := Blk.new w1 42 #[.int .u8 k, .int .i64 f1, .int .i64 f2, .slice A2 hops.length c2, .int .i64 back]
    have kC2 := kC.alloc (.cells #[.int .u8 k, .int .i64 f1, .int .i64 f2, .slice A2 hops.length c2, .int .i64 back] 42)
    replace hR1 := hR1.below ((Below.refl w1.heap.size w1).alloc (Nat.le_refl _) (.cells #[.int .u8 k, .int .i64 f1, .int .i64 f2, .slice A2 hops.length c2, .int .i64 back] 42))
    go_upto_region 4 with fail
    generalize hgr : w1.heap.size = gr at *
    generalize w1.alloc (.cells _ 42) = w2 at hBx kR kC2 hR1 ⊢
    clear kC hB1 e0 e1 zC
    have e0 := Blk.cell kC2 0
    have e1 := Blk.cell kC2 1
    have zC := Blk.lt kC2
    simp at e0 e1
    go_wp2_with fail
    refine (H2.out _ hBx).mono ?_
    rintro e w3 ⟨hb3, ⟨k', ⟨f1', f2'⟩, hops', back'⟩, hv', x', rfl, hO', hF', hx'⟩
    have hR2 := hO'
    dsimp only at hR2 ⊢
    obtain ⟨A3, c3, rfl⟩ := hR2.shape
    replace hR2 := hR2.rows
    obtain ⟨hxx, hrr⟩ := fol_same HF.out hF' HX.out hx'
    subst hxx
    cases hrr
    have HLen : Hid (hops.length ≤ 1000) := Lib.hid (fol_len HF.out H60.out)
    have hB3 := hBx.trans (hb3.mono hBx.size)
    replace kC2 := Blk.below kC2 hb3 (Blk.lt kC2)
    replace kR := Blk.below kR hb3 (Blk.lt kR)
    replace hR1 := hR1.below hb3
    clear hb3 e0 e1 zC H2 hO' hF' hx' hBx HF HX H60 hgr
    have hB4 := below_al hB3 (.cells #[.int .u8 k, .int .i64 f1, .int .i64 f2, .slice A3 hops.length c3, .int .i64 back] 42)
    have kS := Blk.new w3 42 #[.int .u8 k, .int .i64 f1, .int .i64 f2, .slice A3 hops.length c3, .int .i64 back]
    have kR2 := kR.alloc (.cells #[.int .u8 k, .int .i64 f1, .int .i64 f2, .slice A3 hops.length c3, .int .i64 back] 42)
    replace hR1 := hR1.below ((Below.refl w3.heap.size w3).alloc (Nat.le_refl _) (.cells #[.int .u8 k, .int .i64 f1, .int .i64 f2, .slice A3 hops.length c3, .int .i64 back] 42))
    replace hR2 := hR2.below ((Below.refl w3.heap.size w3).alloc (Nat.le_refl _) (.cells #[.int .u8 k, .int .i64 f1, .int .i64 f2, .slice A3 hops.length c3, .int .i64 back] 42))
    go_upto_region 5 with fail
    generalize hgs : w3.heap.size = gs at *
    generalize w3.alloc (.cells _ 42) = w4 at hB4 kS kR2 hR1 hR2 ⊢
    clear kC2 kR hB3 hgs
    go_wp2_with fail
    refine (H3.out _ hB4).mono ?_
    rintro e w5 ⟨rfl, hb5⟩
    have hB5 := hB4.trans (hb5.mono hB4.size)
    replace kR2 := Blk.below kR2 hb5 (Blk.lt kR2)
    replace kS := Blk.below kS hb5 (Blk.lt kS)
    replace hR1 := hR1.below hb5
    replace hR2 := hR2.below hb5
    clear hb5 hB4
    have r0 := kR2.cell 0
    have r1 := kR2.cell 1
    have r2 := kR2.cell 2
    have r3 := kR2.cell 3
    have r4 := kR2.cell 4
    have s0 := kS.cell 0
    have s1 := kS.cell 1
    have s2 := kS.cell 2
    have s3 := kS.cell 3
    have s4 := kS.cell 4
    have zR := kR2.lt
    have zS := kS.lt
    simp at r0 r1 r2 r3 r4 s0 s1 s2 s3 s4
    have hS := sameRoute_eq k back (f1, f2) hops A2 A3 c2 c3 HLen.out w5 hR1 hR2
    unfold rtVal at hS
    dsimp only at hS
    have HS := Lib.hid hS
    clear hS hR1 hR2 kS kR2
    go_wp2_with fail
    refine HS.out.mono ?_
    rintro e w6 ⟨rfl, hb6⟩
    go_wp2_with fail
    go_ret
    exact ⟨by first | rfl | simp, hB5.trans (hb6.mono hB5.size)⟩
  · have HI : Hid (decide ((l.length : Int) ≤ 60) = false) := Lib.hid (decide_eq_false (by omega))
    clear hI hL hm
    obtain ⟨p, q⟩ := cp
    unfold candVal
    go_enter Tryz.func5, Tryz.ntmps5
    go_wp2_with fail
    refine (H0.out _).mono ?_
    rintro e w0 ⟨rfl, rfl⟩
    rw [HI.out]
    have hB0 : Below w.heap.size w (w.alloc (.cells #[.int .i64 p, .int .i64 q] 24)) := below_al (Below.refl _ _) _
    generalize w.alloc (.cells _ 24) = w0 at hB0 ⊢
    go_wp2_with fail
    refine (H3.out _ hB0).mono ?_
    rintro e w1 ⟨rfl, hb1⟩
    go_wp2_with fail
    go_ret
    exact ⟨rfl, hB0.trans (hb1.mono hB0.size)⟩
end Go.Proofs.YtgbnbolhmghhlaaGreatDoor
