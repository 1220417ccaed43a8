/- The contract of the reference's Follow: the route that the relation of following gives. Conditions: the list lies in memory and has at most 60 entries. The contract of the reference's Follow at any arguments. Conditions: the list lies in memory and has at most 60 entries. -/
import Derived.Test.YtgbnbolhmghhlaaGreatDoorRefHA
import Derived.Test.YtgbnbolhmghhlaaGreatDoorIntA
import Derived.Test.YtgbnbolhmghhlaaGreatDoorRefRA
import Derived.Test.YtgbnbolhmghhlaaGreatDoorFolA
import Derived.Test.YtgbnbolhmghhlaaGreatDoorFolC
import Derived.Deep.LoopGhost
namespace Go.Proofs.YtgbnbolhmghhlaaGreatDoor
open Go.RowKit Go.Shelf

theorem hop_dead {l : List OEnt} {d : Int} {c : Int × Int} (hd : deadOf l d c.1 = true) : (hopAt l d c).1.1 = 0 ↔ (heirOf l d c.1).2 = false := by
  unfold hopAt hopOf
  have ho : (orderOf (deadOf l d) (cancOf l d) l d c).2 = false := by unfold orderOf; rw [if_pos hd]
  cases hh : (heirOf l d c.1).2 <;> simp [hd, ho]
/-- What holds at the head of the reference's loop: w as the call began. -/
structure RefAt (l : List OEnt) (d s : Int) (cp : Int × Int) (w : World) (hs : List HopV) (e : Int × Int) (hv : Value) (W : World) : Prop where
  old : Below w.heap.size w W
  bR : Blk W (w.heap.size + 2) 42 #[.int .u8 0, .int .i64 e.1, .int .i64 e.2, hv, .int .i64 0]
  bT : Blk W (w.heap.size + 1) 42 #[.int .u8 0, .int .i64 0, .int .i64 0, .slice none 0 0, .int .i64 0]
  hops : OwnH W (w.heap.size + 3) hv hs
  way : Way l d cp hs e
  goes : ∀ r, Fol l d s hs e r → Fol l d s [] cp r
theorem ref_leaf {l : List OEnt} {d s : Int} {cp e f : Int × Int} {w w5 WE : World} {hs hops : List HopV} {hv : Value} {k b : Int} (hB : Below w.heap.size w w5) (hO : OwnH w5 (w.heap.size + 3) hv hops) (hK : Keeps (fun i => i = w.heap.size + 2 ∨ i = w.heap.size + 1) w5 WE)
    (goes : ∀ r, Fol l d s hs e r → Fol l d s [] cp r) (hF : Fol l d s hs e ⟨k, f, hops, b⟩) : FolPost l d s cp w (.returned (.tuple #[rtVal k f hv b, .int .i64 0])) WE :=
  ⟨hB.trans (hK.below (B := w.heap.size) (by rintro i h1 (h | h) <;> omega) hB.size), _, hv, rfl, (hO.keep hK (by rintro g hg (h | h) <;> omega)).mono (by omega), goes _ hF⟩

set_option maxRecDepth 100000 in
set_option maxHeartbeats 16000000 in
theorem refFollow_good (A : Option Addr) (c : Nat) (l : List OEnt) (d s : Int) (cp : Int × Int) (hlen : l.length ≤ 60) (h1 : isIdB cp.1 = true) (h2 : isIdB cp.2 = true) (h3 : isIdZB s = true) (h4 : isDayB d = true) (w : World) (hL : EntsLie w w.heap.size A (l.map (·.1))) :
    Calls Tryz.prog 20 #[.slice A l.length c, candVal cp, .int .i64 s, .int .i64 d] w (FolPost l d s cp w) := by
  have hlm : (l.map (·.1)).length = l.length := List.length_map _
  have HD : Hid (∀ (e : Int × Int) W, Below w.heap.size w W → _) := Lib.hid fun (e : Int × Int) W (hW : Below w.heap.size w W) => refDead_any A c (l.map (·.1)) e.1 d W (hL.up hW hW.size) (by unfold maxLen; omega)
  have HH : Hid (∀ (e : Int × Int) W, Below w.heap.size w W → _) := Lib.hid fun (e : Int × Int) W (hW : Below w.heap.size w W) => refHeir_any A c (l.map (·.1)) e.1 d W (hL.up hW hW.size) (by unfold maxLen; omega)
  have HR : Hid (∀ (e : Int × Int) W, Below w.heap.size w W → _) := Lib.hid fun (e : Int × Int) W (hW : Below w.heap.size w W) => refRefuses_any A c (l.map (·.1)) e s d W (hL.up hW hW.size) (by unfold maxLen; omega)
  have HL : Hid (∀ (e : Int × Int) W, Below w.heap.size w W → _) := Lib.hid fun (e : Int × Int) W (hW : Below w.heap.size w W) => refLives_any A c (l.map (·.1)) e d W (hL.up hW hW.size) (by omega)
  have HO : Hid (∀ (e : Int × Int) W, Below w.heap.size w W → _) := Lib.hid fun (e : Int × Int) W (hW : Below w.heap.size w W) => refHop_any A c (l.map (·.1)) e d W (hL.up hW hW.size) (by unfold maxLen; omega)
  rw [hlm] at HD HH HR HL HO
  simp only [deadE_eq] at HD
  simp only [heirE_eq] at HH
  simp only [refusE_eq] at HR
  simp only [livE_eq] at HL
  clear hlm hL
  obtain ⟨p, q⟩ := cp
  dsimp only at h1 h2
  have i1 := fun W => refId_any p W
  have i2 := fun W => refId_any q W
  have i3 := fun W => refIdOrNone_any s W
  rw [h1] at i1
  rw [h2] at i2
  rw [h3] at i3
  have h5 : 0 ≤ d ∧ d ≤ 100000 := by simpa [isDayB] using h4
  have hd0 : decide (d < 0) = false := decide_eq_false (by omega)
  have hd1 : decide (100000 < d) = false := decide_eq_false (by omega)
  have hd2 : ¬ d < 0 := by omega
  have hd3 : ¬ 100000 < d := by omega
  clear h1 h2 h3 h4 h5
  unfold candVal at HR HL HO ⊢
  dsimp only
  go_enter Tryz.func20, Tryz.ntmps20
  have bC : Blk ((w.alloc (.cells #[.int .i64 p, .int .i64 q] 24)).alloc (.cells #[.int .u8 0, .int .i64 0, .int .i64 0, .slice none 0 0, .int .i64 0] 42)) w.heap.size 24 #[.int .i64 p, .int .i64 q] := (Blk.new w _ _).alloc _
  have bT : Blk ((w.alloc (.cells #[.int .i64 p, .int .i64 q] 24)).alloc (.cells #[.int .u8 0, .int .i64 0, .int .i64 0, .slice none 0 0, .int .i64 0] 42)) (w.heap.size + 1) 42 #[.int .u8 0, .int .i64 0, .int .i64 0, .slice none 0 0, .int .i64 0] := at_new (by simp)
  have hB0 : Below w.heap.size w ((w.alloc (.cells #[.int .i64 p, .int .i64 q] 24)).alloc (.cells #[.int .u8 0, .int .i64 0, .int .i64 0, .slice none 0 0, .int .i64 0] 42)) := below_al (below_al (Below.refl _ _) _) _
  have e0 := bC.cell 0
  have e1 := bC.cell 1
  have zC := bC.lt
  simp at e0 e1
  go_wp2_with (first | (go_at_call 43; refine (i1 _).mono ?_; rintro e w' ⟨rfl, rfl⟩) | (go_at_call 43; refine (i2 _).mono ?_; rintro e w' ⟨rfl, rfl⟩) | (go_at_call 44; refine (i3 _).mono ?_; rintro e w' ⟨rfl, rfl⟩))
  obtain ⟨A0, c0, hA0⟩ : ∃ A' c', Value.slice none 0 0 = Value.slice A' ([] : List HopV).length c' := ⟨none, 0, rfl⟩
  have bR : Blk (((w.alloc (.cells #[.int .i64 p, .int .i64 q] 24)).alloc (.cells #[.int .u8 0, .int .i64 0, .int .i64 0, .slice none 0 0, .int .i64 0] 42)).alloc (.cells #[.int .u8 0, .int .i64 p, .int .i64 q, .slice none 0 0, .int .i64 0] 42)) (w.heap.size + 2) 42 #[.int .u8 0, .int .i64 p, .int .i64 q, .slice none 0 0, .int .i64 0] := at_new (by simp)
  have bT2 := bT.alloc (.cells #[.int .u8 0, .int .i64 p, .int .i64 q, .slice none 0 0, .int .i64 0] 42)
  have hB1 := below_al hB0 (.cells #[.int .u8 0, .int .i64 p, .int .i64 q, .slice none 0 0, .int .i64 0] 42)
  generalize ((w.alloc (.cells _ 24)).alloc (.cells _ 42)).alloc (.cells _ 42) = w0 at bR bT2 hB1 ⊢
  clear hA0 A0 c0 bC bT hB0 e0 e1 zC hd0 hd1 hd2 hd3
  clear i1 i2 i3
  go_loopg [] 61 (fun n wr => ∃ (hs : List HopV) (e : Int × Int) (A' : Option Addr) (c' : Nat), n + hs.length = 61 ∧ Hid (RefAt l d s (p, q) w hs e (.slice A' hs.length c') wr))
  case atStart => exact ⟨[], (p, q), none, 0, rfl, Lib.hid ⟨hB1, bR, bT2, OwnH.nil _ _, Way.start _ _ _, fun _ h => h⟩⟩
  case round =>
    clear bR bT2 hB1
    obtain ⟨hs, ⟨p1, q1⟩, A', c', hn, H⟩ := hrel
    have HW := Lib.hid H.out.way
    have HG := Lib.hid H.out.goes
    have hB := H.out.old
    have bR := H.out.bR
    have bT := H.out.bT
    have hO := H.out.hops
    have hlen2 := HW.out.len
    obtain ⟨k, p2, q2, o, ld, hh⟩ : ∃ k p2 q2 o ld, hopOf (deadOf l d) (cancOf l d) l d (p1, q1) = ((k, (p2, q2), o), ld) := ⟨_, _, _, _, _, rfl⟩
    obtain ⟨dd, hdd⟩ : ∃ x, deadOf l d p1 = x := ⟨_, rfl⟩
    obtain ⟨hx, hb, hhh⟩ : ∃ x y, heirOf l d p1 = (x, y) := ⟨_, _, rfl⟩
    obtain ⟨rf, hrf⟩ : ∃ x, refusesOf (deadOf l d) l d (p1, q1) s = x := ⟨_, rfl⟩
    obtain ⟨lv, hlv⟩ : ∃ x, livesOf (deadOf l d) l d (p1, q1) = x := ⟨_, rfl⟩
    have HA := Lib.hid (arrive_eq (s := s) hh hdd hrf hlv)
    have HDK : Hid (dd = true → (k = 0 ↔ hb = false)) := Lib.hid (fun h => by
      have h1 := hop_dead (l := l) (d := d) (c := (p1, q1)) (by rw [← h]; exact hdd)
      unfold hopAt at h1
      rw [hh] at h1
      dsimp only at h1
      rw [hhh] at h1
      exact h1)
    have HLD : Hid (ld = true → k ≠ 0) := Lib.hid (fun h => by
      have h2 := hop_leads (l := l) (d := d) (c := (p1, q1)) (by unfold hopAt; rw [hh]; exact h)
      unfold hopAt at h2
      rw [hh] at h2
      exact h2)
    have k1 := HD.out (p1, q1)
    have k2 := HH.out (p1, q1)
    have k3 := HR.out (p1, q1)
    have k4 := HL.out (p1, q1)
    have k5 := HO.out (p1, q1)
    rw [hopE_eq] at k5
    unfold hopV hopAt at k5
    dsimp only at k1 k2 k3 k4 k5
    simp only [hdd] at k1
    simp only [hhh] at k2
    simp only [hrf] at k3
    simp only [hlv] at k4
    simp only [hh] at k5
    have HK5 := Lib.hid k5
    replace hh := Lib.hid hh
    replace k1 := Lib.hid k1
    replace k2 := Lib.hid k2
    replace k3 := Lib.hid k3
    replace k4 := Lib.hid k4
    clear k5 hdd hhh hrf hlv H
    have r1 := bR.cell 1
    have r2 := bR.cell 2
    have zR := bR.lt
    simp at r1 r2
    go_wp2_with fail
    have bA := Blk.new wr 24 #[.int .i64 p1, .int .i64 q1]
    have hBa := below_al hB (.cells #[.int .i64 p1, .int .i64 q1] 24)
    replace bR := bR.alloc (.cells #[.int .i64 p1, .int .i64 q1] 24)
    replace bT := bT.alloc (.cells #[.int .i64 p1, .int .i64 q1] 24)
    replace hO : OwnH (wr.alloc (.cells #[.int .i64 p1, .int .i64 q1] 24)) (w.heap.size + 3) (.slice A' hs.length c') hs := hO.below ((Below.refl _ _).alloc (Nat.le_refl _) _)
    generalize hga : wr.heap.size = ga at *
    generalize wr.alloc (.cells _ 24) = wa at bA hBa bR bT hO ⊢
    clear hB r1 r2 zR hga
    refine (k1.out _ hBa).mono ?_
    rintro e w1 ⟨rfl, hbn⟩
    have hBw1 := hBa.trans (hbn.mono hBa.size)
    replace bA := Blk.below bA hbn (Blk.lt bA)
    replace bR := Blk.below bR hbn (Blk.lt bR)
    replace bT := Blk.below bT hbn (Blk.lt bT)
    replace hO := hO.below hbn
    clear hbn hBa k1
    have a0 := bA.cell 0
    have a1 := bA.cell 1
    have zA := bA.lt
    simp at a0 a1
    go_wp2_with fail
    refine (k2.out _ hBw1).mono ?_
    rintro e w2 ⟨rfl, hbn⟩
    have hBw2 := hBw1.trans (hbn.mono hBw1.size)
    replace bA := Blk.below bA hbn (Blk.lt bA)
    replace bR := Blk.below bR hbn (Blk.lt bR)
    replace bT := Blk.below bT hbn (Blk.lt bT)
    replace hO := hO.below hbn
    clear hbn hBw1 k2
    clear a0 a1 zA
    have a0 := bA.cell 0
    have a1 := bA.cell 1
    have zA := bA.lt
    simp at a0 a1
    go_wp2_with fail
    refine (k3.out _ hBw2).mono ?_
    rintro e w3 ⟨rfl, hbn⟩
    have hBw3 := hBw2.trans (hbn.mono hBw2.size)
    replace bA := Blk.below bA hbn (Blk.lt bA)
    replace bR := Blk.below bR hbn (Blk.lt bR)
    replace bT := Blk.below bT hbn (Blk.lt bT)
    replace hO := hO.below hbn
    clear hbn hBw2 k3
    clear a0 a1 zA
    have a0 := bA.cell 0
    have a1 := bA.cell 1
    have zA := bA.lt
    simp at a0 a1
    go_wp2_with fail
    refine (k4.out _ hBw3).mono ?_
    rintro e w4 ⟨rfl, hbn⟩
    have hBw4 := hBw3.trans (hbn.mono hBw3.size)
    replace bA := Blk.below bA hbn (Blk.lt bA)
    replace bR := Blk.below bR hbn (Blk.lt bR)
    replace bT := Blk.below bT hbn (Blk.lt bT)
    replace hO := hO.below hbn
    clear hbn hBw3 k4
    clear a0 a1 zA
    obtain ⟨⟨is, hk, ⟨hp1, hq1⟩, ⟨hp2, hq2⟩, ho⟩, hE⟩ : ∃ x, (if k = 0 then ((0 : Int), zeroHop) else if ld = true then (1, (k, (p1, q1), (p2, q2), o)) else (2, (0, (0, 0), (p2, q2), 0))) = x := ⟨_, rfl⟩
    have k5 := HK5.out
    rw [hE] at k5
    unfold hopVal at k5
    dsimp only at k5
    clear HK5
    replace hE := Lib.hid hE
    have k5 := Lib.hid k5
    have a0 := bA.cell 0
    have a1 := bA.cell 1
    have zA := bA.lt
    simp at a0 a1
    go_wp2_with fail
    refine (k5.out _ hBw4).mono ?_
    rintro e w5 ⟨rfl, hbn⟩
    have hBw5 := hBw4.trans (hbn.mono hBw4.size)
    replace bA := Blk.below bA hbn (Blk.lt bA)
    replace bR := Blk.below bR hbn (Blk.lt bR)
    replace bT := Blk.below bT hbn (Blk.lt bT)
    replace hO := hO.below hbn
    clear hbn hBw4 k5
    clear a0 a1 zA bA
    have hB6 := below_al hBw5 (.cells #[.int .u8 hk, .int .i64 hp1, .int .i64 hq1, .int .i64 hp2, .int .i64 hq2, .int .i64 ho] 48)
    have bH := Blk.new w5 48 #[.int .u8 hk, .int .i64 hp1, .int .i64 hq1, .int .i64 hp2, .int .i64 hq2, .int .i64 ho]
    have hzR : w.heap.size + 2 < w5.heap.size := bR.lt
    replace bR := bR.alloc (.cells #[.int .u8 hk, .int .i64 hp1, .int .i64 hq1, .int .i64 hp2, .int .i64 hq2, .int .i64 ho] 48)
    replace bT := bT.alloc (.cells #[.int .u8 hk, .int .i64 hp1, .int .i64 hq1, .int .i64 hp2, .int .i64 hq2, .int .i64 ho] 48)
    have hO5 := hO
    replace hO : OwnH (w5.alloc (.cells #[.int .u8 hk, .int .i64 hp1, .int .i64 hq1, .int .i64 hp2, .int .i64 hq2, .int .i64 ho] 48)) (w.heap.size + 3) (.slice A' hs.length c') hs := hO.below ((Below.refl _ _).alloc (Nat.le_refl _) _)
    go_upto_region 10 with fail
    have hE' := hE.out
    generalize hgh : w5.heap.size = gh at hzR bH ⊢
    generalize w5.alloc (.cells _ 48) = w6 at hB6 bH bR bT hO ⊢
    have hlow5 := hO5.own_lt
    rw [hgh] at hlow5
    clear hO5 hBw5 hE hgh
    by_cases hdead : dd = true ∧ hb = false
    · obtain ⟨rfl, rfl⟩ := hdead
      have hk0 : k = 0 := (HDK.out rfl).2 rfl
      clear hE' HDK HLD
      have r0 := bR.cell 0
      have r1 := bR.cell 1
      have r2 := bR.cell 2
      have r3 := bR.cell 3
      have r4 := bR.cell 4
      have s0 := bT.cell 0
      have s1 := bT.cell 1
      have s2 := bT.cell 2
      have s3 := bT.cell 3
      have s4 := bT.cell 4
      have f0 := bT.frozen 0
      have f1 := bT.frozen 1
      have f2 := bT.frozen 2
      have f3 := bT.frozen 3
      have f4 := bT.frozen 4
      have g0 := bR.frozen 0
      have g1 := bR.frozen 1
      have g2 := bR.frozen 2
      have g3 := bR.frozen 3
      have g4 := bR.frozen 4
      have zR := bR.lt
      have z8 := bT.lt
      simp at r0 r1 r2 r3 r4 s0 s1 s2 s3 s4
      go_wp2_with fail
      have hKE : Keeps (fun i => i = w.heap.size + 2 ∨ i = w.heap.size + 1) w6 ((((((w6.setCell ⟨w.heap.size + 2, 0, none⟩ (.int .u8 3)).setCell ⟨w.heap.size + 1, 0, none⟩ (.int .u8 3)).setCell ⟨w.heap.size + 1, 1, none⟩ (.int .i64 p1)).setCell ⟨w.heap.size + 1, 2, none⟩ (.int .i64 q1)).setCell ⟨w.heap.size + 1, 3, none⟩ (.slice A' hs.length c')).setCell ⟨w.heap.size + 1, 4, none⟩ (.int .i64 0)) := ((Keeps.refl (fun i => i = w.heap.size + 2 ∨ i = w.heap.size + 1) w6).setCell (p := ⟨w.heap.size + 2, 0, none⟩) (fun _ => .inl rfl) (.int .u8 3)).trans (keep5 (w6.setCell ⟨w.heap.size + 2, 0, none⟩ (.int .u8 3)) (w.heap.size + 1) (.int .u8 3) (.int .i64 p1) (.int .i64 q1) (.slice A' hs.length c') (.int .i64 0)) (fun i _ h => .inr h)
      have hBL : Blk ((((((w6.setCell ⟨w.heap.size + 2, 0, none⟩ (.int .u8 3)).setCell ⟨w.heap.size + 1, 0, none⟩ (.int .u8 3)).setCell ⟨w.heap.size + 1, 1, none⟩ (.int .i64 p1)).setCell ⟨w.heap.size + 1, 2, none⟩ (.int .i64 q1)).setCell ⟨w.heap.size + 1, 3, none⟩ (.slice A' hs.length c')).setCell ⟨w.heap.size + 1, 4, none⟩ (.int .i64 0)) (w.heap.size + 1) 42 #[.int .u8 3, .int .i64 p1, .int .i64 q1, .slice A' hs.length c', .int .i64 0] := set5 ((bT.far (p := ⟨w.heap.size + 2, 0, none⟩) (show w.heap.size + 1 ≠ w.heap.size + 2 by omega) (.int .u8 3))) (.int .u8 3) (.int .i64 p1) (.int .i64 q1) (.slice A' hs.length c') (.int .i64 0)
      generalize ((((((w6.setCell ⟨w.heap.size + 2, 0, none⟩ (.int .u8 3)).setCell ⟨w.heap.size + 1, 0, none⟩ (.int .u8 3)).setCell ⟨w.heap.size + 1, 1, none⟩ (.int .i64 p1)).setCell ⟨w.heap.size + 1, 2, none⟩ (.int .i64 q1)).setCell ⟨w.heap.size + 1, 3, none⟩ (.slice A' hs.length c')).setCell ⟨w.heap.size + 1, 4, none⟩ (.int .i64 0)) = WE at hKE hBL ⊢
      refine bodyPost_ret (v := .tuple #[rtVal (3) (p1, q1) (.slice A' hs.length c') 0, .int .i64 0]) ((results_crt (p := 8) (u := 9) Tryz.results20 hBL rfl rowRoute sizeRoute).trans rfl) rfl ?_
      exact ref_leaf hB6 hO hKE HG.out (.ends (by rw [HA.out]; simp [hk0]))
    · have hnd : ¬ (dd = true ∧ k = 0) := fun h => hdead ⟨h.1, (HDK.out h.1).1 h.2⟩
      have HND := Lib.hid hnd
      have hcomb : dd = false ∨ (dd = true ∧ hb = true) := by
        cases dd
        · exact .inl rfl
        · cases hb
          · exact absurd ⟨rfl, rfl⟩ hdead
          · exact .inr ⟨rfl, rfl⟩
      clear HDK hdead hnd
      rcases hcomb with rfl | ⟨rfl, rfl⟩
      all_goals
        cases rf
        rotate_left
        · clear hE' HLD
          have r0 := bR.cell 0
          have r1 := bR.cell 1
          have r2 := bR.cell 2
          have r3 := bR.cell 3
          have r4 := bR.cell 4
          have s0 := bT.cell 0
          have s1 := bT.cell 1
          have s2 := bT.cell 2
          have s3 := bT.cell 3
          have s4 := bT.cell 4
          have f0 := bT.frozen 0
          have f1 := bT.frozen 1
          have f2 := bT.frozen 2
          have f3 := bT.frozen 3
          have f4 := bT.frozen 4
          have g0 := bR.frozen 0
          have g1 := bR.frozen 1
          have g2 := bR.frozen 2
          have g3 := bR.frozen 3
          have g4 := bR.frozen 4
          have zR := bR.lt
          have z8 := bT.lt
          simp at r0 r1 r2 r3 r4 s0 s1 s2 s3 s4
          go_wp2_with fail
          have hKE : Keeps (fun i => i = w.heap.size + 2 ∨ i = w.heap.size + 1) w6 ((((((w6.setCell ⟨w.heap.size + 2, 0, none⟩ (.int .u8 2)).setCell ⟨w.heap.size + 1, 0, none⟩ (.int .u8 2)).setCell ⟨w.heap.size + 1, 1, none⟩ (.int .i64 p1)).setCell ⟨w.heap.size + 1, 2, none⟩ (.int .i64 q1)).setCell ⟨w.heap.size + 1, 3, none⟩ (.slice A' hs.length c')).setCell ⟨w.heap.size + 1, 4, none⟩ (.int .i64 0)) := ((Keeps.refl (fun i => i = w.heap.size + 2 ∨ i = w.heap.size + 1) w6).setCell (p := ⟨w.heap.size + 2, 0, none⟩) (fun _ => .inl rfl) (.int .u8 2)).trans (keep5 (w6.setCell ⟨w.heap.size + 2, 0, none⟩ (.int .u8 2)) (w.heap.size + 1) (.int .u8 2) (.int .i64 p1) (.int .i64 q1) (.slice A' hs.length c') (.int .i64 0)) (fun i _ h => .inr h)
          have hBL : Blk ((((((w6.setCell ⟨w.heap.size + 2, 0, none⟩ (.int .u8 2)).setCell ⟨w.heap.size + 1, 0, none⟩ (.int .u8 2)).setCell ⟨w.heap.size + 1, 1, none⟩ (.int .i64 p1)).setCell ⟨w.heap.size + 1, 2, none⟩ (.int .i64 q1)).setCell ⟨w.heap.size + 1, 3, none⟩ (.slice A' hs.length c')).setCell ⟨w.heap.size + 1, 4, none⟩ (.int .i64 0)) (w.heap.size + 1) 42 #[.int .u8 2, .int .i64 p1, .int .i64 q1, .slice A' hs.length c', .int .i64 0] := set5 ((bT.far (p := ⟨w.heap.size + 2, 0, none⟩) (show w.heap.size + 1 ≠ w.heap.size + 2 by omega) (.int .u8 2))) (.int .u8 2) (.int .i64 p1) (.int .i64 q1) (.slice A' hs.length c') (.int .i64 0)
          generalize ((((((w6.setCell ⟨w.heap.size + 2, 0, none⟩ (.int .u8 2)).setCell ⟨w.heap.size + 1, 0, none⟩ (.int .u8 2)).setCell ⟨w.heap.size + 1, 1, none⟩ (.int .i64 p1)).setCell ⟨w.heap.size + 1, 2, none⟩ (.int .i64 q1)).setCell ⟨w.heap.size + 1, 3, none⟩ (.slice A' hs.length c')).setCell ⟨w.heap.size + 1, 4, none⟩ (.int .i64 0)) = WE at hKE hBL ⊢
          refine bodyPost_ret (v := .tuple #[rtVal (2) (p1, q1) (.slice A' hs.length c') 0, .int .i64 0]) ((results_crt (p := 8) (u := 9) Tryz.results20 hBL rfl rowRoute sizeRoute).trans rfl) rfl ?_
          exact ref_leaf hB6 hO hKE HG.out (.ends (by rw [HA.out, if_neg HND.out]; simp))
        by_cases hk0 : k = 0
        · obtain rfl : ld = false := by cases ld <;> first | rfl | exact absurd hk0 (HLD.out rfl)
          rw [if_pos hk0] at hE'
          simp only [zeroHop, Prod.mk.injEq] at hE'
          obtain ⟨rfl, rfl, ⟨rfl, rfl⟩, ⟨rfl, rfl⟩, rfl⟩ := hE'
          have HK0 := Lib.hid hk0
          clear hk0 HLD
          cases lv
          · have r0 := bR.cell 0
            have r1 := bR.cell 1
            have r2 := bR.cell 2
            have r3 := bR.cell 3
            have r4 := bR.cell 4
            have s0 := bT.cell 0
            have s1 := bT.cell 1
            have s2 := bT.cell 2
            have s3 := bT.cell 3
            have s4 := bT.cell 4
            have f0 := bT.frozen 0
            have f1 := bT.frozen 1
            have f2 := bT.frozen 2
            have f3 := bT.frozen 3
            have f4 := bT.frozen 4
            have g0 := bR.frozen 0
            have g1 := bR.frozen 1
            have g2 := bR.frozen 2
            have g3 := bR.frozen 3
            have g4 := bR.frozen 4
            have zR := bR.lt
            have z8 := bT.lt
            simp at r0 r1 r2 r3 r4 s0 s1 s2 s3 s4
            go_wp2_with fail
            have hKE : Keeps (fun i => i = w.heap.size + 2 ∨ i = w.heap.size + 1) w6 ((((((w6.setCell ⟨w.heap.size + 2, 0, none⟩ (.int .u8 4)).setCell ⟨w.heap.size + 1, 0, none⟩ (.int .u8 4)).setCell ⟨w.heap.size + 1, 1, none⟩ (.int .i64 p1)).setCell ⟨w.heap.size + 1, 2, none⟩ (.int .i64 q1)).setCell ⟨w.heap.size + 1, 3, none⟩ (.slice A' hs.length c')).setCell ⟨w.heap.size + 1, 4, none⟩ (.int .i64 0)) := ((Keeps.refl (fun i => i = w.heap.size + 2 ∨ i = w.heap.size + 1) w6).setCell (p := ⟨w.heap.size + 2, 0, none⟩) (fun _ => .inl rfl) (.int .u8 4)).trans (keep5 (w6.setCell ⟨w.heap.size + 2, 0, none⟩ (.int .u8 4)) (w.heap.size + 1) (.int .u8 4) (.int .i64 p1) (.int .i64 q1) (.slice A' hs.length c') (.int .i64 0)) (fun i _ h => .inr h)
            have hBL : Blk ((((((w6.setCell ⟨w.heap.size + 2, 0, none⟩ (.int .u8 4)).setCell ⟨w.heap.size + 1, 0, none⟩ (.int .u8 4)).setCell ⟨w.heap.size + 1, 1, none⟩ (.int .i64 p1)).setCell ⟨w.heap.size + 1, 2, none⟩ (.int .i64 q1)).setCell ⟨w.heap.size + 1, 3, none⟩ (.slice A' hs.length c')).setCell ⟨w.heap.size + 1, 4, none⟩ (.int .i64 0)) (w.heap.size + 1) 42 #[.int .u8 4, .int .i64 p1, .int .i64 q1, .slice A' hs.length c', .int .i64 0] := set5 ((bT.far (p := ⟨w.heap.size + 2, 0, none⟩) (show w.heap.size + 1 ≠ w.heap.size + 2 by omega) (.int .u8 4))) (.int .u8 4) (.int .i64 p1) (.int .i64 q1) (.slice A' hs.length c') (.int .i64 0)
            generalize ((((((w6.setCell ⟨w.heap.size + 2, 0, none⟩ (.int .u8 4)).setCell ⟨w.heap.size + 1, 0, none⟩ (.int .u8 4)).setCell ⟨w.heap.size + 1, 1, none⟩ (.int .i64 p1)).setCell ⟨w.heap.size + 1, 2, none⟩ (.int .i64 q1)).setCell ⟨w.heap.size + 1, 3, none⟩ (.slice A' hs.length c')).setCell ⟨w.heap.size + 1, 4, none⟩ (.int .i64 0)) = WE at hKE hBL ⊢
            refine bodyPost_ret (v := .tuple #[rtVal (4) (p1, q1) (.slice A' hs.length c') 0, .int .i64 0]) ((results_crt (p := 8) (u := 9) Tryz.results20 hBL rfl rowRoute sizeRoute).trans rfl) rfl ?_
            exact ref_leaf hB6 hO hKE HG.out (.ends (by rw [HA.out, if_neg HND.out]; simp [HK0.out]))
          · have r0 := bR.cell 0
            have r1 := bR.cell 1
            have r2 := bR.cell 2
            have r3 := bR.cell 3
            have r4 := bR.cell 4
            have s0 := bT.cell 0
            have s1 := bT.cell 1
            have s2 := bT.cell 2
            have s3 := bT.cell 3
            have s4 := bT.cell 4
            have f0 := bT.frozen 0
            have f1 := bT.frozen 1
            have f2 := bT.frozen 2
            have f3 := bT.frozen 3
            have f4 := bT.frozen 4
            have g0 := bR.frozen 0
            have g1 := bR.frozen 1
            have g2 := bR.frozen 2
            have g3 := bR.frozen 3
            have g4 := bR.frozen 4
            have zR := bR.lt
            have z8 := bT.lt
            simp at r0 r1 r2 r3 r4 s0 s1 s2 s3 s4
            go_wp2_with fail
            have hKE : Keeps (fun i => i = w.heap.size + 2 ∨ i = w.heap.size + 1) w6 ((((((w6.setCell ⟨w.heap.size + 2, 0, none⟩ (.int .u8 1)).setCell ⟨w.heap.size + 1, 0, none⟩ (.int .u8 1)).setCell ⟨w.heap.size + 1, 1, none⟩ (.int .i64 p1)).setCell ⟨w.heap.size + 1, 2, none⟩ (.int .i64 q1)).setCell ⟨w.heap.size + 1, 3, none⟩ (.slice A' hs.length c')).setCell ⟨w.heap.size + 1, 4, none⟩ (.int .i64 0)) := ((Keeps.refl (fun i => i = w.heap.size + 2 ∨ i = w.heap.size + 1) w6).setCell (p := ⟨w.heap.size + 2, 0, none⟩) (fun _ => .inl rfl) (.int .u8 1)).trans (keep5 (w6.setCell ⟨w.heap.size + 2, 0, none⟩ (.int .u8 1)) (w.heap.size + 1) (.int .u8 1) (.int .i64 p1) (.int .i64 q1) (.slice A' hs.length c') (.int .i64 0)) (fun i _ h => .inr h)
            have hBL : Blk ((((((w6.setCell ⟨w.heap.size + 2, 0, none⟩ (.int .u8 1)).setCell ⟨w.heap.size + 1, 0, none⟩ (.int .u8 1)).setCell ⟨w.heap.size + 1, 1, none⟩ (.int .i64 p1)).setCell ⟨w.heap.size + 1, 2, none⟩ (.int .i64 q1)).setCell ⟨w.heap.size + 1, 3, none⟩ (.slice A' hs.length c')).setCell ⟨w.heap.size + 1, 4, none⟩ (.int .i64 0)) (w.heap.size + 1) 42 #[.int .u8 1, .int .i64 p1, .int .i64 q1, .slice A' hs.length c', .int .i64 0] := set5 ((bT.far (p := ⟨w.heap.size + 2, 0, none⟩) (show w.heap.size + 1 ≠ w.heap.size + 2 by omega) (.int .u8 1))) (.int .u8 1) (.int .i64 p1) (.int .i64 q1) (.slice A' hs.length c') (.int .i64 0)
            generalize ((((((w6.setCell ⟨w.heap.size + 2, 0, none⟩ (.int .u8 1)).setCell ⟨w.heap.size + 1, 0, none⟩ (.int .u8 1)).setCell ⟨w.heap.size + 1, 1, none⟩ (.int .i64 p1)).setCell ⟨w.heap.size + 1, 2, none⟩ (.int .i64 q1)).setCell ⟨w.heap.size + 1, 3, none⟩ (.slice A' hs.length c')).setCell ⟨w.heap.size + 1, 4, none⟩ (.int .i64 0)) = WE at hKE hBL ⊢
            refine bodyPost_ret (v := .tuple #[rtVal (1) (p1, q1) (.slice A' hs.length c') 0, .int .i64 0]) ((results_crt (p := 8) (u := 9) Tryz.results20 hBL rfl rowRoute sizeRoute).trans rfl) rfl ?_
            exact ref_leaf hB6 hO hKE HG.out (.ends (by rw [HA.out, if_neg HND.out]; simp [HK0.out]))
        · rw [if_neg hk0] at hE'
          clear HLD
          cases ld
          · rw [if_neg (by simp)] at hE'
            simp only [Prod.mk.injEq] at hE'
            obtain ⟨rfl, rfl, ⟨rfl, rfl⟩, ⟨rfl, rfl⟩, rfl⟩ := hE'
            have HK0 := Lib.hid hk0
            clear hk0
            have h3 := bH.cell 3
            have h4 := bH.cell 4
            have zH := bH.lt
            simp at h3 h4
            have r0 := bR.cell 0
            have r1 := bR.cell 1
            have r2 := bR.cell 2
            have r3 := bR.cell 3
            have r4 := bR.cell 4
            have s0 := bT.cell 0
            have s1 := bT.cell 1
            have s2 := bT.cell 2
            have s3 := bT.cell 3
            have s4 := bT.cell 4
            have f0 := bT.frozen 0
            have f1 := bT.frozen 1
            have f2 := bT.frozen 2
            have f3 := bT.frozen 3
            have f4 := bT.frozen 4
            have g0 := bR.frozen 0
            have g1 := bR.frozen 1
            have g2 := bR.frozen 2
            have g3 := bR.frozen 3
            have g4 := bR.frozen 4
            have zR := bR.lt
            have z8 := bT.lt
            simp at r0 r1 r2 r3 r4 s0 s1 s2 s3 s4
            go_wp2_with fail
            have hKE : Keeps (fun i => i = w.heap.size + 2 ∨ i = w.heap.size + 1) w6 ((((((((w6.setCell ⟨w.heap.size + 2, 0, none⟩ (.int .u8 5)).setCell ⟨w.heap.size + 2, 1, none⟩ (.int .i64 p2)).setCell ⟨w.heap.size + 2, 2, none⟩ (.int .i64 q2)).setCell ⟨w.heap.size + 1, 0, none⟩ (.int .u8 5)).setCell ⟨w.heap.size + 1, 1, none⟩ (.int .i64 p2)).setCell ⟨w.heap.size + 1, 2, none⟩ (.int .i64 q2)).setCell ⟨w.heap.size + 1, 3, none⟩ (.slice A' hs.length c')).setCell ⟨w.heap.size + 1, 4, none⟩ (.int .i64 0)) := ((((Keeps.refl (fun i => i = w.heap.size + 2 ∨ i = w.heap.size + 1) w6).setCell (p := ⟨w.heap.size + 2, 0, none⟩) (fun _ => .inl rfl) (.int .u8 5)).setCell (p := ⟨w.heap.size + 2, 1, none⟩) (fun _ => .inl rfl) (.int .i64 p2)).setCell (p := ⟨w.heap.size + 2, 2, none⟩) (fun _ => .inl rfl) (.int .i64 q2)).trans (keep5 (((w6.setCell ⟨w.heap.size + 2, 0, none⟩ (.int .u8 5)).setCell ⟨w.heap.size + 2, 1, none⟩ (.int .i64 p2)).setCell ⟨w.heap.size + 2, 2, none⟩ (.int .i64 q2)) (w.heap.size + 1) (.int .u8 5) (.int .i64 p2) (.int .i64 q2) (.slice A' hs.length c') (.int .i64 0)) (fun i _ h => .inr h)
            have hBL : Blk ((((((((w6.setCell ⟨w.heap.size + 2, 0, none⟩ (.int .u8 5)).setCell ⟨w.heap.size + 2, 1, none⟩ (.int .i64 p2)).setCell ⟨w.heap.size + 2, 2, none⟩ (.int .i64 q2)).setCell ⟨w.heap.size + 1, 0, none⟩ (.int .u8 5)).setCell ⟨w.heap.size + 1, 1, none⟩ (.int .i64 p2)).setCell ⟨w.heap.size + 1, 2, none⟩ (.int .i64 q2)).setCell ⟨w.heap.size + 1, 3, none⟩ (.slice A' hs.length c')).setCell ⟨w.heap.size + 1, 4, none⟩ (.int .i64 0)) (w.heap.size + 1) 42 #[.int .u8 5, .int .i64 p2, .int .i64 q2, .slice A' hs.length c', .int .i64 0] := set5 ((((bT.far (p := ⟨w.heap.size + 2, 0, none⟩) (show w.heap.size + 1 ≠ w.heap.size + 2 by omega) (.int .u8 5)).far (p := ⟨w.heap.size + 2, 1, none⟩) (show w.heap.size + 1 ≠ w.heap.size + 2 by omega) (.int .i64 p2)).far (p := ⟨w.heap.size + 2, 2, none⟩) (show w.heap.size + 1 ≠ w.heap.size + 2 by omega) (.int .i64 q2))) (.int .u8 5) (.int .i64 p2) (.int .i64 q2) (.slice A' hs.length c') (.int .i64 0)
            generalize ((((((((w6.setCell ⟨w.heap.size + 2, 0, none⟩ (.int .u8 5)).setCell ⟨w.heap.size + 2, 1, none⟩ (.int .i64 p2)).setCell ⟨w.heap.size + 2, 2, none⟩ (.int .i64 q2)).setCell ⟨w.heap.size + 1, 0, none⟩ (.int .u8 5)).setCell ⟨w.heap.size + 1, 1, none⟩ (.int .i64 p2)).setCell ⟨w.heap.size + 1, 2, none⟩ (.int .i64 q2)).setCell ⟨w.heap.size + 1, 3, none⟩ (.slice A' hs.length c')).setCell ⟨w.heap.size + 1, 4, none⟩ (.int .i64 0)) = WE at hKE hBL ⊢
            refine bodyPost_ret (v := .tuple #[rtVal (5) (p2, q2) (.slice A' hs.length c') 0, .int .i64 0]) ((results_crt (p := 8) (u := 9) Tryz.results20 hBL rfl rowRoute sizeRoute).trans rfl) rfl ?_
            exact ref_leaf hB6 hO hKE HG.out (.ends (by rw [HA.out, if_neg HND.out]; simp [HK0.out]))
          · rw [if_pos rfl] at hE'
            simp only [Prod.mk.injEq] at hE'
            obtain ⟨rfl, rfl, ⟨rfl, rfl⟩, ⟨rfl, rfl⟩, rfl⟩ := hE'
            have HK0 := Lib.hid hk0
            clear hk0
            have r3 := bR.cell 3
            have g3 := bR.frozen 3
            have h0 := bH.cell 0
            have h1 := bH.cell 1
            have h2 := bH.cell 2
            have h3 := bH.cell 3
            have h4 := bH.cell 4
            have h5 := bH.cell 5
            have zH := bH.lt
            simp at h0 h1 h2 h3 h4 h5
            have zR := bR.lt
            have hRw : w.heap.size + 2 < w6.heap.size := bR.lt
            have hlow := hO.own_lt
            simp at r3
            obtain ⟨v', w7, hrunA, hO7, hk7⟩ := append_hop hO (k, (p1, q1), (p2, q2), o) (by omega) (by omega) 40
            obtain ⟨A2, c2, rfl⟩ := hO7.shape
            rw [len_snoc] at hrunA hO7
            replace hrunA : (Builtin.append_ #[40, 40] 40 #[.slice A' hs.length c', .slice (some ⟨w6.heap.size, 0, none⟩) 1 1]).run Tryz.prog (w6.alloc (.cells #[.int .u8 k, .int .i64 p1, .int .i64 q1, .int .i64 p2, .int .i64 q2, .int .i64 o] 48)) = .ok (.slice A2 (hs.length + 1) c2) w7 := hrunA
            have bR7 := bR.keep hk7 (fun h => by have := hlow _ h; omega)
            have bT7 := bT.keep hk7 (fun h => by have := hlow _ h; omega)
            have bH7 := bH.keep hk7 (fun h => by have := hlow5 _ h; omega)
            have hB7 : Below w.heap.size w w7 := hB6.trans (hk7.below (fun i hi h => by have := hlow _ h; omega) hB6.size)
            have r61 := bR7.frozen 1
            have r62 := bR7.frozen 2
            have r63 := bR7.frozen 3
            have s61 := bR7.cell 1
            have s62 := bR7.cell 2
            have s63 := bR7.cell 3
            have h63 := bH7.cell 3
            have h64 := bH7.cell 4
            have zR7 := bR7.lt
            have zH7 := bH7.lt
            simp at s61 s62 s63 h63 h64
            clear hk7 hlow
            go_wp2_with (first | (at_builtin; refine Lib.wpList_append_run _ rfl _ _ _ _ rfl _ _ rfl rfl _ _ hrunA ?_))
            have bR9 : Blk (((w7.setCell ⟨w.heap.size + 2, 3, none⟩ (.slice A2 (hs.length + 1) c2)).setCell ⟨w.heap.size + 2, 1, none⟩ (.int .i64 p2)).setCell ⟨w.heap.size + 2, 2, none⟩ (.int .i64 q2)) (w.heap.size + 2) 42 #[.int .u8 0, .int .i64 p2, .int .i64 q2, .slice A2 (hs.length + 1) c2, .int .i64 0] := by
              have := ((bR7.set 3 (.slice A2 (hs.length + 1) c2)).set 1 (.int .i64 p2)).set 2 (.int .i64 q2)
              simpa using this
            have hK9 : Keeps (fun i => i = w.heap.size + 2) w7 (((w7.setCell ⟨w.heap.size + 2, 3, none⟩ (.slice A2 (hs.length + 1) c2)).setCell ⟨w.heap.size + 2, 1, none⟩ (.int .i64 p2)).setCell ⟨w.heap.size + 2, 2, none⟩ (.int .i64 q2)) := (((Keeps.refl (fun i => i = w.heap.size + 2) w7).setCell (p := ⟨w.heap.size + 2, 3, none⟩) (fun _ => rfl) _).setCell (p := ⟨w.heap.size + 2, 1, none⟩) (fun _ => rfl) _).setCell (p := ⟨w.heap.size + 2, 2, none⟩) (fun _ => rfl) _
            generalize ((w7.setCell ⟨w.heap.size + 2, 3, none⟩ _).setCell ⟨w.heap.size + 2, 1, none⟩ _).setCell ⟨w.heap.size + 2, 2, none⟩ _ = w9 at bR9 hK9 ⊢
            have bT9 := bT7.keep hK9 (by omega)
            have bH9 := bH7.keep hK9 (by omega)
            have hO9 := hO7.keep hK9 (by omega)
            have hB9 : Below w.heap.size w w9 := hB7.trans (hK9.below (B := w.heap.size) (fun i h1 h2 => by omega) hB7.size)
            have ha : arrive l d s (p1, q1) = none := by rw [HA.out]; rw [if_neg HND.out]; simp [HK0.out]
            have hl : (hopAt l d (p1, q1)).2 = true := by unfold hopAt; rw [hh.out]
            have ht : (hopAt l d (p1, q1)).1.2.1 = (p2, q2) := by unfold hopAt; rw [hh.out]
            have hv : hopV l d (p1, q1) = (k, (p1, q1), (p2, q2), o) := by unfold hopV hopAt; rw [hh.out]
            obtain ⟨gH, hAg, hgb, hRow⟩ := OwnH.row (A := A2) (c := c2) (l := hs ++ [(k, (p1, q1), (p2, q2), o)]) (by rw [len_snoc]; exact hO9) (by simp)
            subst hAg
            have hfr : froms (hs ++ [(k, (p1, q1), (p2, q2), o)]) = froms hs ++ [(p1, q1)] := by simp [froms]
            have HFR := Lib.hid hfr
            have HAA := Lib.hid ha
            have HL2 := Lib.hid hl
            have HT2 := Lib.hid ht
            have HV2 := Lib.hid hv
            have hcl := len_snoc hs (k, (p1, q1), (p2, q2), o)
            have HCL := Lib.hid hcl
            clear bR bT bH hO hB6 bR7 bT7 bH7 hO7 hB7 hrunA hK9 r3 g3 h0 h1 h2 h3 h4 h5 zH zR hRw r61 r62 r63 s61 s62 s63 h63 h64 zR7 zH7 hfr ha hl ht hv hcl
            go_loopw [19] (fun i wq => ∃ j : Nat, j ≤ hs.length + 1 ∧ i = .int .i64 j ∧ Keeps (fun _ => False) w9 wq ∧ Hid (∀ x ∈ (froms hs ++ [(p1, q1)]).take j, x ≠ (p2, q2))) (fun i _ => hs.length + 1 - (intOf i).toNat)
            case atStart => exact ⟨0, Nat.zero_le _, rfl, Keeps.refl _ _, Lib.hid (by simp)⟩
            case round =>
              obtain ⟨j, hj, rfl, hKq, HN⟩ := hrel
              have bRq := bR9.keep hKq (fun h => h)
              have bTq := bT9.keep hKq (fun h => h)
              have bHq := bH9.keep hKq (fun h => h)
              have hOq := hO9.keep hKq (fun _ _ h => h)
              have hBq : Below w.heap.size w wr := hB9.trans (hKq.below (B := w.heap.size) (fun i h1 h2 => h2) hB9.size)
              have hRq := hRow.keep hKq (fun h => h)
              have t3 := bRq.cell 3
              have h3 := bHq.cell 3
              have h4 := bHq.cell 4
              have zR := bRq.lt
              have zH := bHq.lt
              simp at t3 h3 h4
              by_cases hlt : j < hs.length + 1
              · obtain ⟨⟨zk, ⟨z1, z2⟩, zt, zo⟩, hz⟩ : ∃ x, (hs ++ [(k, (p1, q1), (p2, q2), o)])[j]? = some x := ⟨_, List.getElem?_eq_getElem (by rw [HCL.out]; exact hlt)⟩
                have hzf : (froms hs ++ [(p1, q1)])[j]? = some (z1, z2) := by
                  rw [← HFR.out]
                  unfold froms
                  rw [List.getElem?_map, hz]
                  rfl
                have v1 := hRq.2 j _ hz 1 (by omega)
                have v2 := hRq.2 j _ hz 2 (by omega)
                have zg := hRq.1
                simp [hopCells] at v1 v2
                have HZF := Lib.hid hzf
                have heq := eqCand (z1, z2) (p2, q2)
                have hng := fun a b => noGuardCand .eql a b (z1, z2) (p2, q2)
                unfold candVal at heq hng
                dsimp only at heq hng
                clear hz hzf hRq hRow hO9 bR9 bT9 bH9 hB9
                by_cases he : (z1, z2) = (p2, q2)
                · have HBK : Hid (backTo (froms hs ++ [(p1, q1)]) (p2, q2) = some j) := Lib.hid (by
                    unfold backTo
                    rw [List.findIdx?_eq_some_iff_getElem]
                    obtain ⟨h1, h2⟩ := List.getElem?_eq_some_iff.1 HZF.out
                    refine ⟨h1, by rw [h2, he]; simp, fun m hm => ?_⟩
                    have h3 := HN.out ((froms hs ++ [(p1, q1)])[m]) (by
                      refine List.mem_of_getElem? (i := m) ?_
                      rw [List.getElem?_take, if_pos hm, List.getElem?_eq_getElem])
                    simpa using h3)
                  rw [decide_eq_true he] at heq
                  clear he HN
                  go_wp2_with fail
                  go_quiet (fail)
                  generalize hwd : wr.drewN _ = wd
                  have hKd : Keeps (fun _ => False) wr wd := by rw [← hwd]; exact (Keeps.refl _ wr).drewN _
                  have bRd := bRq.keep hKd (fun h => h)
                  have bTd := bTq.keep hKd (fun h => h)
                  have hOd := hOq.keep hKd (fun _ _ h => h)
                  have hBd : Below w.heap.size w wd := hBq.trans (hKd.below (fun _ _ h => h) hBq.size)
                  clear hwd hKd t3 h3 h4 zR zH v1 v2 zg bRq bTq bHq hOq hBq hKq
                  have r0 := bRd.cell 0
                  have r1 := bRd.cell 1
                  have r2 := bRd.cell 2
                  have r3 := bRd.cell 3
                  have r4 := bRd.cell 4
                  have s0 := bTd.cell 0
                  have s1 := bTd.cell 1
                  have s2 := bTd.cell 2
                  have s3 := bTd.cell 3
                  have s4 := bTd.cell 4
                  have f0 := bTd.frozen 0
                  have f1 := bTd.frozen 1
                  have f2 := bTd.frozen 2
                  have f3 := bTd.frozen 3
                  have f4 := bTd.frozen 4
                  have g0 := bRd.frozen 0
                  have g1 := bRd.frozen 1
                  have g2 := bRd.frozen 2
                  have g3 := bRd.frozen 3
                  have g4 := bRd.frozen 4
                  have zR := bRd.lt
                  have z8 := bTd.lt
                  simp at r0 r1 r2 r3 r4 s0 s1 s2 s3 s4
                  go_wp2_with fail
                  have hKE : Keeps (fun i => i = w.heap.size + 2 ∨ i = w.heap.size + 1) wd (((((((wd.setCell ⟨w.heap.size + 2, 0, none⟩ (.int .u8 6)).setCell ⟨w.heap.size + 2, 4, none⟩ (.int .i64 ↑j)).setCell ⟨w.heap.size + 1, 0, none⟩ (.int .u8 6)).setCell ⟨w.heap.size + 1, 1, none⟩ (.int .i64 p2)).setCell ⟨w.heap.size + 1, 2, none⟩ (.int .i64 q2)).setCell ⟨w.heap.size + 1, 3, none⟩ (.slice (some ⟨gH, 0, none⟩) (hs.length + 1) c2)).setCell ⟨w.heap.size + 1, 4, none⟩ (.int .i64 ↑j)) := (((Keeps.refl (fun i => i = w.heap.size + 2 ∨ i = w.heap.size + 1) wd).setCell (p := ⟨w.heap.size + 2, 0, none⟩) (fun _ => .inl rfl) (.int .u8 6)).setCell (p := ⟨w.heap.size + 2, 4, none⟩) (fun _ => .inl rfl) (.int .i64 ↑j)).trans (keep5 ((wd.setCell ⟨w.heap.size + 2, 0, none⟩ (.int .u8 6)).setCell ⟨w.heap.size + 2, 4, none⟩ (.int .i64 ↑j)) (w.heap.size + 1) (.int .u8 6) (.int .i64 p2) (.int .i64 q2) (.slice (some ⟨gH, 0, none⟩) (hs.length + 1) c2) (.int .i64 ↑j)) (fun i _ h => .inr h)
                  have hBL : Blk (((((((wd.setCell ⟨w.heap.size + 2, 0, none⟩ (.int .u8 6)).setCell ⟨w.heap.size + 2, 4, none⟩ (.int .i64 ↑j)).setCell ⟨w.heap.size + 1, 0, none⟩ (.int .u8 6)).setCell ⟨w.heap.size + 1, 1, none⟩ (.int .i64 p2)).setCell ⟨w.heap.size + 1, 2, none⟩ (.int .i64 q2)).setCell ⟨w.heap.size + 1, 3, none⟩ (.slice (some ⟨gH, 0, none⟩) (hs.length + 1) c2)).setCell ⟨w.heap.size + 1, 4, none⟩ (.int .i64 ↑j)) (w.heap.size + 1) 42 #[.int .u8 6, .int .i64 p2, .int .i64 q2, .slice (some ⟨gH, 0, none⟩) (hs.length + 1) c2, .int .i64 ↑j] := set5 (((bTd.far (p := ⟨w.heap.size + 2, 0, none⟩) (show w.heap.size + 1 ≠ w.heap.size + 2 by omega) (.int .u8 6)).far (p := ⟨w.heap.size + 2, 4, none⟩) (show w.heap.size + 1 ≠ w.heap.size + 2 by omega) (.int .i64 ↑j))) (.int .u8 6) (.int .i64 p2) (.int .i64 q2) (.slice (some ⟨gH, 0, none⟩) (hs.length + 1) c2) (.int .i64 ↑j)
                  generalize (((((((wd.setCell ⟨w.heap.size + 2, 0, none⟩ (.int .u8 6)).setCell ⟨w.heap.size + 2, 4, none⟩ (.int .i64 ↑j)).setCell ⟨w.heap.size + 1, 0, none⟩ (.int .u8 6)).setCell ⟨w.heap.size + 1, 1, none⟩ (.int .i64 p2)).setCell ⟨w.heap.size + 1, 2, none⟩ (.int .i64 q2)).setCell ⟨w.heap.size + 1, 3, none⟩ (.slice (some ⟨gH, 0, none⟩) (hs.length + 1) c2)).setCell ⟨w.heap.size + 1, 4, none⟩ (.int .i64 ↑j)) = WE at hKE hBL ⊢
                  refine bodyPost_ret (v := .tuple #[rtVal (6) (p2, q2) (.slice (some ⟨gH, 0, none⟩) (hs.length + 1) c2) ↑j, .int .i64 0]) ((results_crt (p := 8) (u := 9) Tryz.results20 hBL rfl rowRoute sizeRoute).trans rfl) rfl ?_
                  exact ref_leaf hBd hOd hKE HG.out (by have h := Fol.loop (i := j) HAA.out (by rw [HT2.out]; exact HBK.out); rw [HT2.out, HV2.out] at h; exact h)
                · have HN2 : Hid (∀ x ∈ (froms hs ++ [(p1, q1)]).take (j + 1), x ≠ (p2, q2)) := Lib.hid (fun x hx => by
                    rw [List.take_add_one, HZF.out, List.mem_append] at hx
                    rcases hx with hx | hx
                    · exact HN.out x hx
                    · simp at hx
                      subst hx
                      exact he)
                  rw [decide_eq_false he] at heq
                  clear he HN HZF
                  go_wp2_with fail
                  go_quiet (fail)
                  go_wp2_with fail
                  go_roundw
                  case rel => exact ⟨j + 1, by omega, by go_num, hKq.drewN _, HN2⟩
                  case measure => simp [intOf]; omega
              · obtain rfl : j = hs.length + 1 := by omega
                have HBK : Hid (backTo (froms hs ++ [(p1, q1)]) (p2, q2) = none) := Lib.hid (by
                  unfold backTo
                  rw [List.findIdx?_eq_none_iff]
                  intro x hx
                  have h1 := HN.out x (by rw [List.take_of_length_le (by simp [froms])]; exact hx)
                  simpa using h1)
                clear HN hRq hRow hO9 bR9 bT9 bH9 hB9
                go_wp2_with fail
                go_roundg (gk - 1)
                case measure => omega
                case rel =>
                  have hbk' : backTo (froms hs ++ [(p1, q1)]) (hopAt l d (p1, q1)).1.2.1 = none := by rw [HT2.out]; exact HBK.out
                  have hwy := HW.out.on HL2.out hbk'
                  rw [HT2.out] at hwy
                  refine ⟨hs ++ [hopV l d (p1, q1)], (p2, q2), some ⟨gH, 0, none⟩, c2, by rw [len_snoc]; omega, Lib.hid ?_⟩
                  rw [len_snoc]
                  rw [← HV2.out] at hOq
                  exact ⟨hBq, bRq, bTq, hOq, hwy, fun r hr => HG.out r (Fol.on HAA.out hbk' (by rw [HT2.out]; exact hr))⟩
end Go.Proofs.YtgbnbolhmghhlaaGreatDoor
namespace Go.Proofs.YtgbnbolhmghhlaaGreatDoor
open Go.RowKit Go.Shelf

set_option maxRecDepth 100000 in
set_option maxHeartbeats 4000000 in
theorem refFollow_bad (A : Option Addr) (c n : Nat) (s d : Int) (cp : Int × Int) (hb : (isIdB cp.1 && isIdB cp.2 && isIdZB s && isDayB d) = false) (w : World) :
    Calls Tryz.prog 20 #[.slice A n c, candVal cp, .int .i64 s, .int .i64 d] w fun e w' => e = .returned (.tuple #[rtVal 0 (0, 0) (.slice none 0 0) 0, .int .i64 1]) ∧ Below w.heap.size w w' := by
  obtain ⟨p, q⟩ := cp
  dsimp only at hb
  have I1 := Lib.hid fun W => refId_any p W
  have I2 := Lib.hid fun W => refId_any q W
  have I3 := Lib.hid fun W => refIdOrNone_any s W
  generalize isIdB p = B1 at hb I1
  generalize isIdB q = B2 at hb I2
  generalize isIdZB s = B3 at hb I3
  have HD : Hid (isDayB d = false → d < 0 ∨ 100000 < d) := Lib.hid (fun h => by
    simp [isDayB] at h
    omega)
  generalize isDayB d = B4 at hb HD
  have b5 : Blk ((w.alloc (.cells #[.int .i64 p, .int .i64 q] 24)).alloc (.cells #[.int .u8 0, .int .i64 0, .int .i64 0, .slice none 0 0, .int .i64 0] 42)) w.heap.size 24 #[.int .i64 p, .int .i64 q] := (Blk.new w _ _).alloc _
  have b8 : Blk ((w.alloc (.cells #[.int .i64 p, .int .i64 q] 24)).alloc (.cells #[.int .u8 0, .int .i64 0, .int .i64 0, .slice none 0 0, .int .i64 0] 42)) (w.heap.size + 1) 42 #[.int .u8 0, .int .i64 0, .int .i64 0, .slice none 0 0, .int .i64 0] := at_new (by simp)
  have hB0 : Below w.heap.size w ((w.alloc (.cells #[.int .i64 p, .int .i64 q] 24)).alloc (.cells #[.int .u8 0, .int .i64 0, .int .i64 0, .slice none 0 0, .int .i64 0] 42)) := below_al (below_al (Below.refl _ _) _) _
  unfold candVal
  dsimp only
  go_enter Tryz.func20, Tryz.ntmps20
  go_upto_region 1 with fail
  generalize (w.alloc (.cells _ 24)).alloc (.cells _ 42) = W0 at b5 b8 hB0 ⊢
  have p0 := b5.cell 0
  have p1 := b5.cell 1
  have z5 := b5.lt
  have s0 := b8.cell 0
  have f0 := b8.frozen 0
  have s1 := b8.cell 1
  have f1 := b8.frozen 1
  have s2 := b8.cell 2
  have f2 := b8.frozen 2
  have s3 := b8.cell 3
  have f3 := b8.frozen 3
  have s4 := b8.cell 4
  have f4 := b8.frozen 4
  have z8 := b8.lt
  simp at p0 p1 s0 s1 s2 s3 s4
  cases B1
  · clear hb HD
    go_wp2_with (first | (go_at_call 43; refine (I1.out _).mono ?_; rintro e w' ⟨rfl, rfl⟩) | (go_at_call 43; refine (I2.out _).mono ?_; rintro e w' ⟨rfl, rfl⟩) | (go_at_call 44; refine (I3.out _).mono ?_; rintro e w' ⟨rfl, rfl⟩))
    have hKE : Below w.heap.size w (((((W0.setCell ⟨w.heap.size + 1, 0, none⟩ (.int .u8 0)).setCell ⟨w.heap.size + 1, 1, none⟩ (.int .i64 0)).setCell ⟨w.heap.size + 1, 2, none⟩ (.int .i64 0)).setCell ⟨w.heap.size + 1, 3, none⟩ (.slice none 0 0)).setCell ⟨w.heap.size + 1, 4, none⟩ (.int .i64 0)) := hB0.trans ((keep5 W0 (w.heap.size + 1) (.int .u8 0) (.int .i64 0) (.int .i64 0) (.slice none 0 0) (.int .i64 0)).below (by rintro i h1 h2; omega) hB0.size)
    have hBL : Blk (((((W0.setCell ⟨w.heap.size + 1, 0, none⟩ (.int .u8 0)).setCell ⟨w.heap.size + 1, 1, none⟩ (.int .i64 0)).setCell ⟨w.heap.size + 1, 2, none⟩ (.int .i64 0)).setCell ⟨w.heap.size + 1, 3, none⟩ (.slice none 0 0)).setCell ⟨w.heap.size + 1, 4, none⟩ (.int .i64 0)) (w.heap.size + 1) 42 #[.int .u8 0, .int .i64 0, .int .i64 0, .slice none 0 0, .int .i64 0] := set5 b8 (.int .u8 0) (.int .i64 0) (.int .i64 0) (.slice none 0 0) (.int .i64 0)
    generalize (((((W0.setCell ⟨w.heap.size + 1, 0, none⟩ (.int .u8 0)).setCell ⟨w.heap.size + 1, 1, none⟩ (.int .i64 0)).setCell ⟨w.heap.size + 1, 2, none⟩ (.int .i64 0)).setCell ⟨w.heap.size + 1, 3, none⟩ (.slice none 0 0)).setCell ⟨w.heap.size + 1, 4, none⟩ (.int .i64 0)) = WE at hKE hBL ⊢
    refine bodyPost_ret (v := .tuple #[rtVal 0 (0, 0) (.slice none 0 0) 0, .int .i64 1]) ((results_crt (p := 8) (u := 9) Tryz.results20 hBL rfl rowRoute sizeRoute).trans rfl) rfl ?_
    exact ⟨rfl, hKE⟩
  · cases B2
    · clear hb HD
      go_wp2_with (first | (go_at_call 43; refine (I1.out _).mono ?_; rintro e w' ⟨rfl, rfl⟩) | (go_at_call 43; refine (I2.out _).mono ?_; rintro e w' ⟨rfl, rfl⟩) | (go_at_call 44; refine (I3.out _).mono ?_; rintro e w' ⟨rfl, rfl⟩))
      have hKE : Below w.heap.size w (((((W0.setCell ⟨w.heap.size + 1, 0, none⟩ (.int .u8 0)).setCell ⟨w.heap.size + 1, 1, none⟩ (.int .i64 0)).setCell ⟨w.heap.size + 1, 2, none⟩ (.int .i64 0)).setCell ⟨w.heap.size + 1, 3, none⟩ (.slice none 0 0)).setCell ⟨w.heap.size + 1, 4, none⟩ (.int .i64 0)) := hB0.trans ((keep5 W0 (w.heap.size + 1) (.int .u8 0) (.int .i64 0) (.int .i64 0) (.slice none 0 0) (.int .i64 0)).below (by rintro i h1 h2; omega) hB0.size)
      have hBL : Blk (((((W0.setCell ⟨w.heap.size + 1, 0, none⟩ (.int .u8 0)).setCell ⟨w.heap.size + 1, 1, none⟩ (.int .i64 0)).setCell ⟨w.heap.size + 1, 2, none⟩ (.int .i64 0)).setCell ⟨w.heap.size + 1, 3, none⟩ (.slice none 0 0)).setCell ⟨w.heap.size + 1, 4, none⟩ (.int .i64 0)) (w.heap.size + 1) 42 #[.int .u8 0, .int .i64 0, .int .i64 0, .slice none 0 0, .int .i64 0] := set5 b8 (.int .u8 0) (.int .i64 0) (.int .i64 0) (.slice none 0 0) (.int .i64 0)
      generalize (((((W0.setCell ⟨w.heap.size + 1, 0, none⟩ (.int .u8 0)).setCell ⟨w.heap.size + 1, 1, none⟩ (.int .i64 0)).setCell ⟨w.heap.size + 1, 2, none⟩ (.int .i64 0)).setCell ⟨w.heap.size + 1, 3, none⟩ (.slice none 0 0)).setCell ⟨w.heap.size + 1, 4, none⟩ (.int .i64 0)) = WE at hKE hBL ⊢
      refine bodyPost_ret (v := .tuple #[rtVal 0 (0, 0) (.slice none 0 0) 0, .int .i64 1]) ((results_crt (p := 8) (u := 9) Tryz.results20 hBL rfl rowRoute sizeRoute).trans rfl) rfl ?_
      exact ⟨rfl, hKE⟩
    · cases B3
      · clear hb HD
        go_wp2_with (first | (go_at_call 43; refine (I1.out _).mono ?_; rintro e w' ⟨rfl, rfl⟩) | (go_at_call 43; refine (I2.out _).mono ?_; rintro e w' ⟨rfl, rfl⟩) | (go_at_call 44; refine (I3.out _).mono ?_; rintro e w' ⟨rfl, rfl⟩))
        have hKE : Below w.heap.size w (((((W0.setCell ⟨w.heap.size + 1, 0, none⟩ (.int .u8 0)).setCell ⟨w.heap.size + 1, 1, none⟩ (.int .i64 0)).setCell ⟨w.heap.size + 1, 2, none⟩ (.int .i64 0)).setCell ⟨w.heap.size + 1, 3, none⟩ (.slice none 0 0)).setCell ⟨w.heap.size + 1, 4, none⟩ (.int .i64 0)) := hB0.trans ((keep5 W0 (w.heap.size + 1) (.int .u8 0) (.int .i64 0) (.int .i64 0) (.slice none 0 0) (.int .i64 0)).below (by rintro i h1 h2; omega) hB0.size)
        have hBL : Blk (((((W0.setCell ⟨w.heap.size + 1, 0, none⟩ (.int .u8 0)).setCell ⟨w.heap.size + 1, 1, none⟩ (.int .i64 0)).setCell ⟨w.heap.size + 1, 2, none⟩ (.int .i64 0)).setCell ⟨w.heap.size + 1, 3, none⟩ (.slice none 0 0)).setCell ⟨w.heap.size + 1, 4, none⟩ (.int .i64 0)) (w.heap.size + 1) 42 #[.int .u8 0, .int .i64 0, .int .i64 0, .slice none 0 0, .int .i64 0] := set5 b8 (.int .u8 0) (.int .i64 0) (.int .i64 0) (.slice none 0 0) (.int .i64 0)
        generalize (((((W0.setCell ⟨w.heap.size + 1, 0, none⟩ (.int .u8 0)).setCell ⟨w.heap.size + 1, 1, none⟩ (.int .i64 0)).setCell ⟨w.heap.size + 1, 2, none⟩ (.int .i64 0)).setCell ⟨w.heap.size + 1, 3, none⟩ (.slice none 0 0)).setCell ⟨w.heap.size + 1, 4, none⟩ (.int .i64 0)) = WE at hKE hBL ⊢
        refine bodyPost_ret (v := .tuple #[rtVal 0 (0, 0) (.slice none 0 0) 0, .int .i64 1]) ((results_crt (p := 8) (u := 9) Tryz.results20 hBL rfl rowRoute sizeRoute).trans rfl) rfl ?_
        exact ⟨rfl, hKE⟩
      · cases B4
        · have hd := HD.out rfl
          clear hb HD
          by_cases hn : d < 0
          · have hd0 : decide (d < 0) = true := decide_eq_true hn
            clear hd
            go_wp2_with (first | (go_at_call 43; refine (I1.out _).mono ?_; rintro e w' ⟨rfl, rfl⟩) | (go_at_call 43; refine (I2.out _).mono ?_; rintro e w' ⟨rfl, rfl⟩) | (go_at_call 44; refine (I3.out _).mono ?_; rintro e w' ⟨rfl, rfl⟩))
            have hKE : Below w.heap.size w (((((W0.setCell ⟨w.heap.size + 1, 0, none⟩ (.int .u8 0)).setCell ⟨w.heap.size + 1, 1, none⟩ (.int .i64 0)).setCell ⟨w.heap.size + 1, 2, none⟩ (.int .i64 0)).setCell ⟨w.heap.size + 1, 3, none⟩ (.slice none 0 0)).setCell ⟨w.heap.size + 1, 4, none⟩ (.int .i64 0)) := hB0.trans ((keep5 W0 (w.heap.size + 1) (.int .u8 0) (.int .i64 0) (.int .i64 0) (.slice none 0 0) (.int .i64 0)).below (by rintro i h1 h2; omega) hB0.size)
            have hBL : Blk (((((W0.setCell ⟨w.heap.size + 1, 0, none⟩ (.int .u8 0)).setCell ⟨w.heap.size + 1, 1, none⟩ (.int .i64 0)).setCell ⟨w.heap.size + 1, 2, none⟩ (.int .i64 0)).setCell ⟨w.heap.size + 1, 3, none⟩ (.slice none 0 0)).setCell ⟨w.heap.size + 1, 4, none⟩ (.int .i64 0)) (w.heap.size + 1) 42 #[.int .u8 0, .int .i64 0, .int .i64 0, .slice none 0 0, .int .i64 0] := set5 b8 (.int .u8 0) (.int .i64 0) (.int .i64 0) (.slice none 0 0) (.int .i64 0)
            generalize (((((W0.setCell ⟨w.heap.size + 1, 0, none⟩ (.int .u8 0)).setCell ⟨w.heap.size + 1, 1, none⟩ (.int .i64 0)).setCell ⟨w.heap.size + 1, 2, none⟩ (.int .i64 0)).setCell ⟨w.heap.size + 1, 3, none⟩ (.slice none 0 0)).setCell ⟨w.heap.size + 1, 4, none⟩ (.int .i64 0)) = WE at hKE hBL ⊢
            refine bodyPost_ret (v := .tuple #[rtVal 0 (0, 0) (.slice none 0 0) 0, .int .i64 1]) ((results_crt (p := 8) (u := 9) Tryz.results20 hBL rfl rowRoute sizeRoute).trans rfl) rfl ?_
            exact ⟨rfl, hKE⟩
          · have hg : 100000 < d := by omega
            have hd0 : decide (d < 0) = false := decide_eq_false hn
            have hd1 : decide (100000 < d) = true := decide_eq_true hg
            clear hd
            go_wp2_with (first | (go_at_call 43; refine (I1.out _).mono ?_; rintro e w' ⟨rfl, rfl⟩) | (go_at_call 43; refine (I2.out _).mono ?_; rintro e w' ⟨rfl, rfl⟩) | (go_at_call 44; refine (I3.out _).mono ?_; rintro e w' ⟨rfl, rfl⟩))
            have hKE : Below w.heap.size w (((((W0.setCell ⟨w.heap.size + 1, 0, none⟩ (.int .u8 0)).setCell ⟨w.heap.size + 1, 1, none⟩ (.int .i64 0)).setCell ⟨w.heap.size + 1, 2, none⟩ (.int .i64 0)).setCell ⟨w.heap.size + 1, 3, none⟩ (.slice none 0 0)).setCell ⟨w.heap.size + 1, 4, none⟩ (.int .i64 0)) := hB0.trans ((keep5 W0 (w.heap.size + 1) (.int .u8 0) (.int .i64 0) (.int .i64 0) (.slice none 0 0) (.int .i64 0)).below (by rintro i h1 h2; omega) hB0.size)
            have hBL : Blk (((((W0.setCell ⟨w.heap.size + 1, 0, none⟩ (.int .u8 0)).setCell ⟨w.heap.size + 1, 1, none⟩ (.int .i64 0)).setCell ⟨w.heap.size + 1, 2, none⟩ (.int .i64 0)).setCell ⟨w.heap.size + 1, 3, none⟩ (.slice none 0 0)).setCell ⟨w.heap.size + 1, 4, none⟩ (.int .i64 0)) (w.heap.size + 1) 42 #[.int .u8 0, .int .i64 0, .int .i64 0, .slice none 0 0, .int .i64 0] := set5 b8 (.int .u8 0) (.int .i64 0) (.int .i64 0) (.slice none 0 0) (.int .i64 0)
            generalize (((((W0.setCell ⟨w.heap.size + 1, 0, none⟩ (.int .u8 0)).setCell ⟨w.heap.size + 1, 1, none⟩ (.int .i64 0)).setCell ⟨w.heap.size + 1, 2, none⟩ (.int .i64 0)).setCell ⟨w.heap.size + 1, 3, none⟩ (.slice none 0 0)).setCell ⟨w.heap.size + 1, 4, none⟩ (.int .i64 0)) = WE at hKE hBL ⊢
            refine bodyPost_ret (v := .tuple #[rtVal 0 (0, 0) (.slice none 0 0) 0, .int .i64 1]) ((results_crt (p := 8) (u := 9) Tryz.results20 hBL rfl rowRoute sizeRoute).trans rfl) rfl ?_
            exact ⟨rfl, hKE⟩
        · cases hb

theorem refFollow_any (A : Option Addr) (c : Nat) (l : List OEnt) (d s : Int) (cp : Int × Int) (hlen : l.length ≤ 60) (w : World) (hL : EntsLie w w.heap.size A (l.map (·.1))) :
    Calls Tryz.prog 20 #[.slice A l.length c, candVal cp, .int .i64 s, .int .i64 d] w fun e w' => Below w.heap.size w w' ∧ ∃ r hv x, e = .returned (.tuple #[rtVal r.kind r.fin hv r.back, .int .i64 x]) ∧ OwnH w' w.heap.size hv r.hops ∧
      ((x = 0 ∧ Fol l d s [] cp r) ∨ (x = 1 ∧ r = ⟨0, (0, 0), [], 0⟩)) ∧ (x = 0 ↔ (isIdB cp.1 && isIdB cp.2 && isIdZB s && isDayB d) = true) := by
  cases hb : (isIdB cp.1 && isIdB cp.2 && isIdZB s && isDayB d)
  · refine (refFollow_bad A c l.length s d cp hb w).mono fun e w' ⟨h1, h2⟩ => ⟨h2, ⟨0, (0, 0), [], 0⟩, .slice none 0 0, 1, h1, OwnH.nil _ _, .inr ⟨rfl, rfl⟩, by simp⟩
  · simp only [Bool.and_eq_true] at hb
    obtain ⟨⟨⟨h1, h2⟩, h3⟩, h4⟩ := hb
    refine (refFollow_good A c l d s cp hlen h1 h2 h3 h4 w hL).mono fun e w' ⟨hB, r, hv, he, hO, hF⟩ => ⟨hB, r, hv, 0, he, hO, .inl ⟨rfl, hF⟩, by simp⟩
end Go.Proofs.YtgbnbolhmghhlaaGreatDoor
