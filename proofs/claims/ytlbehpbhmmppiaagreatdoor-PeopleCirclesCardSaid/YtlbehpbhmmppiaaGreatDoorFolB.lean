/- The contract of Follow at valid arguments: the route that the relation of following gives. Conditions: the list lies in memory, has at most 60 entries, and its places are ints. -/
import Derived.Test.YtlbehpbhmmppiaaGreatDoorFolA
namespace Go.Proofs.YtlbehpbhmmppiaaGreatDoor
open Go.RowKit Go.Shelf

set_option maxRecDepth 100000 in
set_option maxHeartbeats 8000000 in
theorem follows_good (A : Option Addr) (c : Nat) (l : List OEnt) (d s : Int) (cp : Int × Int) (hI : ∀ x ∈ l, intB x.1.place ∧ intB x.1.at') (hlen : l.length ≤ 60) (h1 : isIdB cp.1 = true) (h2 : isIdB cp.2 = true) (h3 : isIdZB s = true) (h4 : isDayB d = true) (w : World) (hL : EntsLie w w.heap.size A (l.map (·.1))) :
    Calls Tryz.prog 10 #[.slice A l.length c, candVal cp, .int .i64 s, .int .i64 d] w (FolPost l d s cp w) := by
  have hc : intB cp.1 ∧ intB cp.2 := by
    simp [isIdB] at h1 h2
    unfold intB
    omega
  obtain ⟨p, q⟩ := cp
  dsimp only at h1 h2 hc
  have i1 := fun W => isId_any p W
  have i2 := fun W => isId_any q W
  have i3 := fun W => isIdOrZero_any s W
  have i4 := fun W => isDay_any d W
  rw [h1] at i1
  rw [h2] at i2
  rw [h3] at i3
  rw [h4] at i4
  clear h1 h2 h3 h4
  have hmm := @run_makeMap Tryz.prog
  have I1 := Lib.hid i1
  have I2 := Lib.hid i2
  have I3 := Lib.hid i3
  have I4 := Lib.hid i4
  have HO := Lib.hid (on_any A c l d)
  have HI := Lib.hid hI
  have HC := Lib.hid hc
  clear i1 i2 i3 i4 hI hc
  unfold candVal
  go_enter Tryz.func10, Tryz.ntmps10
  go_wp2_with fail
  -- BEGINPASS
  refine wp_scope_skip 0 (fun n a W => ∃ (w1 : World) (m1 m2 : Nat) (hs : List HopV) (e : Int × Int) (A' : Option Addr) (c' : Nat), a = ({ tmps := #[.slice A l.length c, .agg #[.int .i64 p, .int .i64 q], .int .i64 s, .int .i64 d, a.tmps.getD 4 undef, .pointer (some ⟨w.heap.size, 0, none⟩), a.tmps.getD 6 undef, a.tmps.getD 7 undef, .pointer (some ⟨w.heap.size + 1, 0, none⟩), .int .i64 0, .pointer (some ⟨w1.heap.size, 0, none⟩), .pointer (some ⟨w1.heap.size + 1, 0, none⟩), .map (some (w1.heap.size + 1 + 1)), a.tmps.getD 13 undef, a.tmps.getD 14 undef, a.tmps.getD 15 undef, a.tmps.getD 16 undef, a.tmps.getD 17 undef, a.tmps.getD 18 undef, a.tmps.getD 19 undef, a.tmps.getD 20 undef, a.tmps.getD 21 undef, a.tmps.getD 22 undef, a.tmps.getD 23 undef, a.tmps.getD 24 undef, a.tmps.getD 25 undef, a.tmps.getD 26 undef, a.tmps.getD 27 undef, a.tmps.getD 28 undef, a.tmps.getD 29 undef, a.tmps.getD 30 undef, a.tmps.getD 31 undef, a.tmps.getD 32 undef, a.tmps.getD 33 undef, a.tmps.getD 34 undef, a.tmps.getD 35 undef, a.tmps.getD 36 undef, a.tmps.getD 37 undef, a.tmps.getD 38 undef, a.tmps.getD 39 undef, a.tmps.getD 40 undef, a.tmps.getD 41 undef, a.tmps.getD 42 undef, a.tmps.getD 43 undef, a.tmps.getD 44 undef, a.tmps.getD 45 undef, a.tmps.getD 46 undef, a.tmps.getD 47 undef, a.tmps.getD 48 undef, a.tmps.getD 49 undef, a.tmps.getD 50 undef, a.tmps.getD 51 undef, a.tmps.getD 52 undef, a.tmps.getD 53 undef, a.tmps.getD 54 undef, a.tmps.getD 55 undef, a.tmps.getD 56 undef, a.tmps.getD 57 undef, a.tmps.getD 58 undef, a.tmps.getD 59 undef, a.tmps.getD 60 undef, a.tmps.getD 61 undef, a.tmps.getD 62 undef, a.tmps.getD 63 undef, a.tmps.getD 64 undef, a.tmps.getD 65 undef, a.tmps.getD 66 undef, a.tmps.getD 67 undef, a.tmps.getD 68 undef, a.tmps.getD 69 undef, a.tmps.getD 70 undef, a.tmps.getD 71 undef, a.tmps.getD 72 undef, a.tmps.getD 73 undef, a.tmps.getD 74 undef, a.tmps.getD 75 undef, a.tmps.getD 76 undef, a.tmps.getD 77 undef, a.tmps.getD 78 undef, a.tmps.getD 79 undef, a.tmps.getD 80 undef, a.tmps.getD 81 undef, a.tmps.getD 82 undef, a.tmps.getD 83 undef, a.tmps.getD 84 undef, a.tmps.getD 85 undef, a.tmps.getD 86 undef, a.tmps.getD 87 undef, a.tmps.getD 88 undef, a.tmps.getD 89 undef, a.tmps.getD 90 undef, a.tmps.getD 91 undef, a.tmps.getD 92 undef, a.tmps.getD 93 undef, a.tmps.getD 94 undef, a.tmps.getD 95 undef, a.tmps.getD 96 undef, a.tmps.getD 97 undef, a.tmps.getD 98 undef, a.tmps.getD 99 undef, a.tmps.getD 100 undef, a.tmps.getD 101 undef, a.tmps.getD 102 undef, a.tmps.getD 103 undef, a.tmps.getD 104 undef, a.tmps.getD 105 undef, a.tmps.getD 106 undef, a.tmps.getD 107 undef, a.tmps.getD 108 undef, a.tmps.getD 109 undef, a.tmps.getD 110 undef, a.tmps.getD 111 undef, a.tmps.getD 112 undef, a.tmps.getD 113 undef, a.tmps.getD 114 undef, a.tmps.getD 115 undef, a.tmps.getD 116 undef, a.tmps.getD 117 undef, a.tmps.getD 118 undef, a.tmps.getD 119 undef], defers := [] } : Act) ∧ n + hs.length = 61 ∧ Hid (FolAt A c l d s (p, q) w w1 m1 m2 hs e (.slice A' hs.length c') W)) rfl ?_ ?_
  · rintro n a W ⟨w1, m1, m2, hs, ⟨p1, q1⟩, A', c', ha, hn, H⟩
    obtain ⟨u, rfl⟩ : ∃ u : Nat → Value, a = ({ tmps := #[.slice A l.length c, .agg #[.int .i64 p, .int .i64 q], .int .i64 s, .int .i64 d, u 4, .pointer (some ⟨w.heap.size, 0, none⟩), u 6, u 7, .pointer (some ⟨w.heap.size + 1, 0, none⟩), .int .i64 0, .pointer (some ⟨w1.heap.size, 0, none⟩), .pointer (some ⟨w1.heap.size + 1, 0, none⟩), .map (some (w1.heap.size + 1 + 1)), u 13, u 14, u 15, u 16, u 17, u 18, u 19, u 20, u 21, u 22, u 23, u 24, u 25, u 26, u 27, u 28, u 29, u 30, u 31, u 32, u 33, u 34, u 35, u 36, u 37, u 38, u 39, u 40, u 41, u 42, u 43, u 44, u 45, u 46, u 47, u 48, u 49, u 50, u 51, u 52, u 53, u 54, u 55, u 56, u 57, u 58, u 59, u 60, u 61, u 62, u 63, u 64, u 65, u 66, u 67, u 68, u 69, u 70, u 71, u 72, u 73, u 74, u 75, u 76, u 77, u 78, u 79, u 80, u 81, u 82, u 83, u 84, u 85, u 86, u 87, u 88, u 89, u 90, u 91, u 92, u 93, u 94, u 95, u 96, u 97, u 98, u 99, u 100, u 101, u 102, u 103, u 104, u 105, u 106, u 107, u 108, u 109, u 110, u 111, u 112, u 113, u 114, u 115, u 116, u 117, u 118, u 119], defers := [] } : Act) := ⟨fun i => a.tmps.getD i undef, ha⟩
    clear ha
    have HW := Lib.hid H.out.way
    have HG := Lib.hid H.out.goes
    have HDir := Lib.hid H.out.dir
    have hz := H.out.big
    have hb10 := H.out.new
    have hB1 := H.out.old
    have bD := H.out.bD
    have bR := H.out.bR
    have b8 := H.out.bT
    have hM := H.out.met
    have hO := H.out.hops
    have hD := H.out.dir
    have hei : intB p1 ∧ intB q1 := HW.out.int HI.out HC.out (p1, q1) (by simp)
    have hni : (p1, q1) ∉ froms hs := by
      have h := HW.out.alone
      rw [List.nodup_append] at h
      exact fun hm => h.2.2 _ hm _ (by simp) rfl
    have hfl : (froms hs).length = hs.length := by simp [froms]
    have hlen2 := HW.out.len
    have hlow := hO.own_lt
    obtain ⟨w2, hrun, hM2, hkk⟩ := hM.store hei hni (by omega)
    rw [hfl] at hrun
    have hb12 : Below w1.heap.size w1 w2 := hb10.trans (hkk.below (fun i hi e => by omega) hb10.size)
    have bD2 := bD.keep hkk (by omega)
    have bR2 := bR.keep hkk (by omega)
    have b82 := b8.keep hkk (by omega)
    have hO2 := hO.keep hkk (by omega)
    have hW2 := hkk.size
    have r1 := bR.cell 1
    have r2 := bR.cell 2
    have r3 := bR.cell 3
    have zR := bR.lt
    have d20 := bD2.cell 0
    have d21 := bD2.cell 1
    have d22 := bD2.cell 2
    have d23 := bD2.cell 3
    have r21 := bR2.cell 1
    have r22 := bR2.cell 2
    have zD2 := bD2.lt
    have zR2 := bR2.lt
    simp at r1 r2 r3 d20 d21 d22 d23 r21 r22
    obtain ⟨k, p2, q2, o, ld, hh⟩ : ∃ k p2 q2 o ld, hopOf (deadOf l d) (cancOf l d) l d (p1, q1) = ((k, (p2, q2), o), ld) := ⟨_, _, _, _, _, rfl⟩
    obtain ⟨dd, hdd⟩ : ∃ x, deadOf l d p1 = x := ⟨_, rfl⟩
    obtain ⟨rf, hrf⟩ : ∃ x, refusesOf (deadOf l d) l d (p1, q1) s = x := ⟨_, rfl⟩
    obtain ⟨lv, hlv⟩ : ∃ x, livesOf (deadOf l d) l d (p1, q1) = x := ⟨_, rfl⟩
    have HA := Lib.hid (arrive_eq (s := s) hh hdd hrf hlv)
    have hto : k ≠ 0 → intB p2 ∧ intB q2 := fun hk0 => by
      have h := hop_to (l := l) (d := d) (c := (p1, q1)) (by unfold hopAt; rw [hh]; exact hk0)
      unfold hopAt at h
      rw [hh] at h
      exact tg_int HI.out h
    have hlead : ld = true → k ≠ 0 := fun h => by
      have h2 := hop_leads (l := l) (d := d) (c := (p1, q1)) (by unfold hopAt; rw [hh]; exact h)
      unfold hopAt at h2
      rw [hh] at h2
      exact h2
    obtain ⟨kl, hkl⟩ := keyCand (c := (p1, q1)) hei
    have HH0 := hop_any A c l d (p1, q1) m1 m2 (deadOf l d) (cancOf l d) hei.1 w2 (hD.below hb12)
    rw [hh] at HH0
    unfold hopVal dirVal candVal at HH0
    dsimp only at HH0
    have HH := Lib.hid HH0
    have HR0 := fun W hW => refusesP_any A c l d (p1, q1) s m1 m2 (deadOf l d) (cancOf l d) hei.1 W (hD.below hW)
    rw [hrf] at HR0
    unfold dirVal candVal at HR0
    dsimp only at HR0
    have HR := Lib.hid HR0
    have HL0 := fun W hW => livesA A c l d (p1, q1) kl hkl m1 m2 (deadOf l d) (cancOf l d) W (hD.below hW)
    rw [hlv] at HL0
    unfold dirVal candVal at HL0
    dsimp only at HL0
    have HL := Lib.hid HL0
    have HQ := Lib.hid (show ∀ W, Below w1.heap.size w1 W → (Instr.lookup 47 (.map (some m1)) (.int .i64 p1) false).run Tryz.prog W = .ok (.bool dd) W from fun W hW => by
      have := (hD.below hW).dead.look lawInt mapIntRow (keyInt (n := p1) hei.1)
      rw [onInt_at, hdd] at this
      exact this)
    replace hh := Lib.hid hh
    clear hM hkk hb10 bD bR b8 hO hD HH0 HR0 HL0 hkl hni hfl hdd hrf hlv H
    unfold candVal at hrun
    dsimp only at hrun
    go_wp2_with (at_mapUpdate; refine wpList_put _ rfl _ _ _ _ rfl hrun ?_)
    refine HH.out.mono ?_
    rintro e w3 ⟨rfl, hb3⟩
    have hb13 := hb12.trans (hb3.mono hb12.size)
    have bD3 := bD2.below hb3 bD2.lt
    have hM3 := hM2.below hb3 hM2.lt
    have bR3 := bR2.below hb3 bR2.lt
    have b83 := b82.below hb3 b82.lt
    have hO3 := hO2.below hb3
    have hW3 : W.heap.size ≤ w3.heap.size := Nat.le_trans hW2 hb3.size
    clear hrun r1 r2 r3 zR d20 d21 d22 d23 r21 r22 zD2 zR2 HH bD2 bR2 b82 hb12 hb3 hM2 hO2
    have hb14 : Below w1.heap.size w1 (w3.alloc (.cells #[.int .u8 k, .int .i64 p1, .int .i64 q1, .int .i64 p2, .int .i64 q2, .int .i64 o] 45)) := hb13.alloc hb13.size _
    have bD4 := bD3.alloc (.cells #[.int .u8 k, .int .i64 p1, .int .i64 q1, .int .i64 p2, .int .i64 q2, .int .i64 o] 45)
    have bR4 := bR3.alloc (.cells #[.int .u8 k, .int .i64 p1, .int .i64 q1, .int .i64 p2, .int .i64 q2, .int .i64 o] 45)
    have b84 := b83.alloc (.cells #[.int .u8 k, .int .i64 p1, .int .i64 q1, .int .i64 p2, .int .i64 q2, .int .i64 o] 45)
    have hRH : w1.heap.size + 1 < w3.heap.size := bR3.lt
    have hM4 := hM3.alloc (.cells #[.int .u8 k, .int .i64 p1, .int .i64 q1, .int .i64 p2, .int .i64 q2, .int .i64 o] 45)
    have bH4 := Blk.new w3 45 #[.int .u8 k, .int .i64 p1, .int .i64 q1, .int .i64 p2, .int .i64 q2, .int .i64 o]
    have hO4 : OwnH (w3.alloc (.cells #[.int .u8 k, .int .i64 p1, .int .i64 q1, .int .i64 p2, .int .i64 q2, .int .i64 o] 45)) (w1.heap.size + 1 + 1 + 1) (.slice A' hs.length c') hs := hO3.below ((Below.refl _ _).alloc (Nat.le_refl _) _)
    have hM1 : w1.heap.size + 1 + 1 < w3.heap.size := hM3.lt
    go_upto_region 9 with fail
    generalize w3.alloc (.cells _ 45) = w4 at hb14 bD4 bR4 b84 bH4 hM4 hO4 ⊢
    clear bD3 bR3 b83 hb13 hM3 hO3
    have hzz := hb14.size
    have hB4 : Below w.heap.size w w4 := hB1.trans (hb14.mono hB1.size)
    have d40 := bD4.cell 0
    have d41 := bD4.cell 1
    have d42 := bD4.cell 2
    have d43 := bD4.cell 3
    have r41 := bR4.cell 1
    have r42 := bR4.cell 2
    have zD4 := bD4.lt
    have zR4 := bR4.lt
    have h40 := bH4.cell 0
    have zH4 := bH4.lt
    simp at d40 d41 d42 d43 r41 r42 h40
    have hq4 := HQ.out w4 hb14
    have HR4 := Lib.hid (HR.out w4 hb14)
    by_cases hk0 : k = 0
    · subst hk0
      obtain rfl : ld = false := by cases ld <;> first | rfl | exact absurd rfl (hlead rfl)
      clear hlead hto
      cases dd
      · go_wp2_with (at_lookup; refine wpList_look _ rfl _ _ _ _ rfl hq4 ?_)

        refine HR4.out.mono ?_
        rintro e w5 ⟨rfl, hb5⟩
        have hB5 : Below w.heap.size w w5 := (hB1.trans (hb14.mono hB1.size)).trans (hb5.mono (Nat.le_trans hB1.size hzz))
        have bD5 := bD4.below hb5 bD4.lt
        have bR5 := bR4.below hb5 bR4.lt
        have b85 := b84.below hb5 b84.lt
        have bH5 := bH4.below hb5 bH4.lt
        have hM5 := hM4.below hb5 hM4.lt
        have hO5 := hO4.below hb5
        have hb15 := hb14.trans (hb5.mono hb14.size)
        clear hb5 hb14 bD4 bR4 b84 bH4 hM4 hO4 d40 d41 d42 d43 r41 r42 zD4 zR4 h40 zH4 hq4 HR4
        cases rf
        rotate_left
        · have r0 := bR5.cell 0
          have r1 := bR5.cell 1
          have r2 := bR5.cell 2
          have r3 := bR5.cell 3
          have r4 := bR5.cell 4
          have s0 := b85.cell 0
          have s1 := b85.cell 1
          have s2 := b85.cell 2
          have s3 := b85.cell 3
          have s4 := b85.cell 4
          have f0 := b85.frozen 0
          have f1 := b85.frozen 1
          have f2 := b85.frozen 2
          have f3 := b85.frozen 3
          have f4 := b85.frozen 4
          have g0 := bR5.frozen 0
          have g1 := bR5.frozen 1
          have g2 := bR5.frozen 2
          have g3 := bR5.frozen 3
          have g4 := bR5.frozen 4
          have zR := bR5.lt
          have z8 := b85.lt
          simp at r0 r1 r2 r3 r4 s0 s1 s2 s3 s4
          go_wp2
          try simp only [Exit.jump]
          have hKE : Keeps (fun i => i = w1.heap.size + 1 ∨ i = w.heap.size + 1) w5 ((((((w5.setCell ⟨w1.heap.size + 1, 0, none⟩ (.int .u8 2)).setCell ⟨w.heap.size + 1, 0, none⟩ (.int .u8 2)).setCell ⟨w.heap.size + 1, 1, none⟩ (.int .i64 p1)).setCell ⟨w.heap.size + 1, 2, none⟩ (.int .i64 q1)).setCell ⟨w.heap.size + 1, 3, none⟩ (.slice A' hs.length c')).setCell ⟨w.heap.size + 1, 4, none⟩ (.int .i64 0)) := ((Keeps.refl (fun i => i = w1.heap.size + 1 ∨ i = w.heap.size + 1) w5).setCell (p := ⟨w1.heap.size + 1, 0, none⟩) (fun _ => .inl rfl) (.int .u8 2)).trans (keep5 (w5.setCell ⟨w1.heap.size + 1, 0, none⟩ (.int .u8 2)) (w.heap.size + 1) (.int .u8 2) (.int .i64 p1) (.int .i64 q1) (.slice A' hs.length c') (.int .i64 0)) (fun i _ h => .inr h)
          have hBL : Blk ((((((w5.setCell ⟨w1.heap.size + 1, 0, none⟩ (.int .u8 2)).setCell ⟨w.heap.size + 1, 0, none⟩ (.int .u8 2)).setCell ⟨w.heap.size + 1, 1, none⟩ (.int .i64 p1)).setCell ⟨w.heap.size + 1, 2, none⟩ (.int .i64 q1)).setCell ⟨w.heap.size + 1, 3, none⟩ (.slice A' hs.length c')).setCell ⟨w.heap.size + 1, 4, none⟩ (.int .i64 0)) (w.heap.size + 1) 36 #[.int .u8 2, .int .i64 p1, .int .i64 q1, .slice A' hs.length c', .int .i64 0] := set5 ((b85.far (p := ⟨w1.heap.size + 1, 0, none⟩) (show w.heap.size + 1 ≠ w1.heap.size + 1 by omega) (.int .u8 2))) (.int .u8 2) (.int .i64 p1) (.int .i64 q1) (.slice A' hs.length c') (.int .i64 0)
          generalize ((((((w5.setCell ⟨w1.heap.size + 1, 0, none⟩ (.int .u8 2)).setCell ⟨w.heap.size + 1, 0, none⟩ (.int .u8 2)).setCell ⟨w.heap.size + 1, 1, none⟩ (.int .i64 p1)).setCell ⟨w.heap.size + 1, 2, none⟩ (.int .i64 q1)).setCell ⟨w.heap.size + 1, 3, none⟩ (.slice A' hs.length c')).setCell ⟨w.heap.size + 1, 4, none⟩ (.int .i64 0)) = WE at hKE hBL ⊢
          refine bodyPost_ret (v := .tuple #[rtVal (2) (p1, q1) (.slice A' hs.length c') 0, .int .i64 0]) ((results_crt (p := 8) (u := 9) Tryz.results10 hBL rfl rowRoute sizeRoute).trans rfl) rfl ?_
          exact fol_leaf hB5 hz hO5 hKE HG.out (.ends (by rw [HA.out]; simp))
        have HL5 := Lib.hid (HL.out w5 hb15)
        have d40 := bD5.cell 0
        have d41 := bD5.cell 1
        have d42 := bD5.cell 2
        have d43 := bD5.cell 3
        have r41 := bR5.cell 1
        have r42 := bR5.cell 2
        have zD4 := bD5.lt
        have zR4 := bR5.lt
        have h40 := bH5.cell 0
        have zH4 := bH5.lt
        simp at d40 d41 d42 d43 r41 r42 h40
        go_wp2_with fail
        refine HL5.out.mono ?_
        rintro e w6 ⟨rfl, hb6⟩
        have hB6 := hB5.trans (hb6.mono hB5.size)
        have bR6 := bR5.below hb6 bR5.lt
        have b86 := b85.below hb6 b85.lt
        have hO6 := hO5.below hb6
        clear hb6 hb15 bD5 bR5 b85 bH5 hM5 hO5 d40 d41 d42 d43 r41 r42 zD4 zR4 h40 zH4 HL5
        cases lv
        · have r0 := bR6.cell 0
          have r1 := bR6.cell 1
          have r2 := bR6.cell 2
          have r3 := bR6.cell 3
          have r4 := bR6.cell 4
          have s0 := b86.cell 0
          have s1 := b86.cell 1
          have s2 := b86.cell 2
          have s3 := b86.cell 3
          have s4 := b86.cell 4
          have f0 := b86.frozen 0
          have f1 := b86.frozen 1
          have f2 := b86.frozen 2
          have f3 := b86.frozen 3
          have f4 := b86.frozen 4
          have g0 := bR6.frozen 0
          have g1 := bR6.frozen 1
          have g2 := bR6.frozen 2
          have g3 := bR6.frozen 3
          have g4 := bR6.frozen 4
          have zR := bR6.lt
          have z8 := b86.lt
          simp at r0 r1 r2 r3 r4 s0 s1 s2 s3 s4
          go_wp2
          try simp only [Exit.jump]
          have hKE : Keeps (fun i => i = w1.heap.size + 1 ∨ i = w.heap.size + 1) w6 ((((((w6.setCell ⟨w1.heap.size + 1, 0, none⟩ (.int .u8 4)).setCell ⟨w.heap.size + 1, 0, none⟩ (.int .u8 4)).setCell ⟨w.heap.size + 1, 1, none⟩ (.int .i64 p1)).setCell ⟨w.heap.size + 1, 2, none⟩ (.int .i64 q1)).setCell ⟨w.heap.size + 1, 3, none⟩ (.slice A' hs.length c')).setCell ⟨w.heap.size + 1, 4, none⟩ (.int .i64 0)) := ((Keeps.refl (fun i => i = w1.heap.size + 1 ∨ i = w.heap.size + 1) w6).setCell (p := ⟨w1.heap.size + 1, 0, none⟩) (fun _ => .inl rfl) (.int .u8 4)).trans (keep5 (w6.setCell ⟨w1.heap.size + 1, 0, none⟩ (.int .u8 4)) (w.heap.size + 1) (.int .u8 4) (.int .i64 p1) (.int .i64 q1) (.slice A' hs.length c') (.int .i64 0)) (fun i _ h => .inr h)
          have hBL : Blk ((((((w6.setCell ⟨w1.heap.size + 1, 0, none⟩ (.int .u8 4)).setCell ⟨w.heap.size + 1, 0, none⟩ (.int .u8 4)).setCell ⟨w.heap.size + 1, 1, none⟩ (.int .i64 p1)).setCell ⟨w.heap.size + 1, 2, none⟩ (.int .i64 q1)).setCell ⟨w.heap.size + 1, 3, none⟩ (.slice A' hs.length c')).setCell ⟨w.heap.size + 1, 4, none⟩ (.int .i64 0)) (w.heap.size + 1) 36 #[.int .u8 4, .int .i64 p1, .int .i64 q1, .slice A' hs.length c', .int .i64 0] := set5 ((b86.far (p := ⟨w1.heap.size + 1, 0, none⟩) (show w.heap.size + 1 ≠ w1.heap.size + 1 by omega) (.int .u8 4))) (.int .u8 4) (.int .i64 p1) (.int .i64 q1) (.slice A' hs.length c') (.int .i64 0)
          generalize ((((((w6.setCell ⟨w1.heap.size + 1, 0, none⟩ (.int .u8 4)).setCell ⟨w.heap.size + 1, 0, none⟩ (.int .u8 4)).setCell ⟨w.heap.size + 1, 1, none⟩ (.int .i64 p1)).setCell ⟨w.heap.size + 1, 2, none⟩ (.int .i64 q1)).setCell ⟨w.heap.size + 1, 3, none⟩ (.slice A' hs.length c')).setCell ⟨w.heap.size + 1, 4, none⟩ (.int .i64 0)) = WE at hKE hBL ⊢
          refine bodyPost_ret (v := .tuple #[rtVal (4) (p1, q1) (.slice A' hs.length c') 0, .int .i64 0]) ((results_crt (p := 8) (u := 9) Tryz.results10 hBL rfl rowRoute sizeRoute).trans rfl) rfl ?_
          exact fol_leaf hB6 hz hO6 hKE HG.out (.ends (by rw [HA.out]; simp))
        · have r0 := bR6.cell 0
          have r1 := bR6.cell 1
          have r2 := bR6.cell 2
          have r3 := bR6.cell 3
          have r4 := bR6.cell 4
          have s0 := b86.cell 0
          have s1 := b86.cell 1
          have s2 := b86.cell 2
          have s3 := b86.cell 3
          have s4 := b86.cell 4
          have f0 := b86.frozen 0
          have f1 := b86.frozen 1
          have f2 := b86.frozen 2
          have f3 := b86.frozen 3
          have f4 := b86.frozen 4
          have g0 := bR6.frozen 0
          have g1 := bR6.frozen 1
          have g2 := bR6.frozen 2
          have g3 := bR6.frozen 3
          have g4 := bR6.frozen 4
          have zR := bR6.lt
          have z8 := b86.lt
          simp at r0 r1 r2 r3 r4 s0 s1 s2 s3 s4
          go_wp2
          try simp only [Exit.jump]
          have hKE : Keeps (fun i => i = w1.heap.size + 1 ∨ i = w.heap.size + 1) w6 ((((((w6.setCell ⟨w1.heap.size + 1, 0, none⟩ (.int .u8 1)).setCell ⟨w.heap.size + 1, 0, none⟩ (.int .u8 1)).setCell ⟨w.heap.size + 1, 1, none⟩ (.int .i64 p1)).setCell ⟨w.heap.size + 1, 2, none⟩ (.int .i64 q1)).setCell ⟨w.heap.size + 1, 3, none⟩ (.slice A' hs.length c')).setCell ⟨w.heap.size + 1, 4, none⟩ (.int .i64 0)) := ((Keeps.refl (fun i => i = w1.heap.size + 1 ∨ i = w.heap.size + 1) w6).setCell (p := ⟨w1.heap.size + 1, 0, none⟩) (fun _ => .inl rfl) (.int .u8 1)).trans (keep5 (w6.setCell ⟨w1.heap.size + 1, 0, none⟩ (.int .u8 1)) (w.heap.size + 1) (.int .u8 1) (.int .i64 p1) (.int .i64 q1) (.slice A' hs.length c') (.int .i64 0)) (fun i _ h => .inr h)
          have hBL : Blk ((((((w6.setCell ⟨w1.heap.size + 1, 0, none⟩ (.int .u8 1)).setCell ⟨w.heap.size + 1, 0, none⟩ (.int .u8 1)).setCell ⟨w.heap.size + 1, 1, none⟩ (.int .i64 p1)).setCell ⟨w.heap.size + 1, 2, none⟩ (.int .i64 q1)).setCell ⟨w.heap.size + 1, 3, none⟩ (.slice A' hs.length c')).setCell ⟨w.heap.size + 1, 4, none⟩ (.int .i64 0)) (w.heap.size + 1) 36 #[.int .u8 1, .int .i64 p1, .int .i64 q1, .slice A' hs.length c', .int .i64 0] := set5 ((b86.far (p := ⟨w1.heap.size + 1, 0, none⟩) (show w.heap.size + 1 ≠ w1.heap.size + 1 by omega) (.int .u8 1))) (.int .u8 1) (.int .i64 p1) (.int .i64 q1) (.slice A' hs.length c') (.int .i64 0)
          generalize ((((((w6.setCell ⟨w1.heap.size + 1, 0, none⟩ (.int .u8 1)).setCell ⟨w.heap.size + 1, 0, none⟩ (.int .u8 1)).setCell ⟨w.heap.size + 1, 1, none⟩ (.int .i64 p1)).setCell ⟨w.heap.size + 1, 2, none⟩ (.int .i64 q1)).setCell ⟨w.heap.size + 1, 3, none⟩ (.slice A' hs.length c')).setCell ⟨w.heap.size + 1, 4, none⟩ (.int .i64 0)) = WE at hKE hBL ⊢
          refine bodyPost_ret (v := .tuple #[rtVal (1) (p1, q1) (.slice A' hs.length c') 0, .int .i64 0]) ((results_crt (p := 8) (u := 9) Tryz.results10 hBL rfl rowRoute sizeRoute).trans rfl) rfl ?_
          exact fol_leaf hB6 hz hO6 hKE HG.out (.ends (by rw [HA.out]; simp))
      · clear HR4
        have r0 := bR4.cell 0
        have r1 := bR4.cell 1
        have r2 := bR4.cell 2
        have r3 := bR4.cell 3
        have r4 := bR4.cell 4
        have s0 := b84.cell 0
        have s1 := b84.cell 1
        have s2 := b84.cell 2
        have s3 := b84.cell 3
        have s4 := b84.cell 4
        have f0 := b84.frozen 0
        have f1 := b84.frozen 1
        have f2 := b84.frozen 2
        have f3 := b84.frozen 3
        have f4 := b84.frozen 4
        have g0 := bR4.frozen 0
        have g1 := bR4.frozen 1
        have g2 := bR4.frozen 2
        have g3 := bR4.frozen 3
        have g4 := bR4.frozen 4
        have zR := bR4.lt
        have z8 := b84.lt
        simp at r0 r1 r2 r3 r4 s0 s1 s2 s3 s4
        go_wp2_with (at_lookup; refine wpList_look _ rfl _ _ _ _ rfl hq4 ?_)
        try simp only [Exit.jump]
        have hKE : Keeps (fun i => i = w1.heap.size + 1 ∨ i = w.heap.size + 1) w4 ((((((w4.setCell ⟨w1.heap.size + 1, 0, none⟩ (.int .u8 3)).setCell ⟨w.heap.size + 1, 0, none⟩ (.int .u8 3)).setCell ⟨w.heap.size + 1, 1, none⟩ (.int .i64 p1)).setCell ⟨w.heap.size + 1, 2, none⟩ (.int .i64 q1)).setCell ⟨w.heap.size + 1, 3, none⟩ (.slice A' hs.length c')).setCell ⟨w.heap.size + 1, 4, none⟩ (.int .i64 0)) := ((Keeps.refl (fun i => i = w1.heap.size + 1 ∨ i = w.heap.size + 1) w4).setCell (p := ⟨w1.heap.size + 1, 0, none⟩) (fun _ => .inl rfl) (.int .u8 3)).trans (keep5 (w4.setCell ⟨w1.heap.size + 1, 0, none⟩ (.int .u8 3)) (w.heap.size + 1) (.int .u8 3) (.int .i64 p1) (.int .i64 q1) (.slice A' hs.length c') (.int .i64 0)) (fun i _ h => .inr h)
        have hBL : Blk ((((((w4.setCell ⟨w1.heap.size + 1, 0, none⟩ (.int .u8 3)).setCell ⟨w.heap.size + 1, 0, none⟩ (.int .u8 3)).setCell ⟨w.heap.size + 1, 1, none⟩ (.int .i64 p1)).setCell ⟨w.heap.size + 1, 2, none⟩ (.int .i64 q1)).setCell ⟨w.heap.size + 1, 3, none⟩ (.slice A' hs.length c')).setCell ⟨w.heap.size + 1, 4, none⟩ (.int .i64 0)) (w.heap.size + 1) 36 #[.int .u8 3, .int .i64 p1, .int .i64 q1, .slice A' hs.length c', .int .i64 0] := set5 ((b84.far (p := ⟨w1.heap.size + 1, 0, none⟩) (show w.heap.size + 1 ≠ w1.heap.size + 1 by omega) (.int .u8 3))) (.int .u8 3) (.int .i64 p1) (.int .i64 q1) (.slice A' hs.length c') (.int .i64 0)
        generalize ((((((w4.setCell ⟨w1.heap.size + 1, 0, none⟩ (.int .u8 3)).setCell ⟨w.heap.size + 1, 0, none⟩ (.int .u8 3)).setCell ⟨w.heap.size + 1, 1, none⟩ (.int .i64 p1)).setCell ⟨w.heap.size + 1, 2, none⟩ (.int .i64 q1)).setCell ⟨w.heap.size + 1, 3, none⟩ (.slice A' hs.length c')).setCell ⟨w.heap.size + 1, 4, none⟩ (.int .i64 0)) = WE at hKE hBL ⊢
        refine bodyPost_ret (v := .tuple #[rtVal (3) (p1, q1) (.slice A' hs.length c') 0, .int .i64 0]) ((results_crt (p := 8) (u := 9) Tryz.results10 hBL rfl rowRoute sizeRoute).trans rfl) rfl ?_
        exact fol_leaf hB4 hz hO4 hKE HG.out (.ends (by rw [HA.out]; simp))
    · have hkf : decide (k = 0) = false := by simp [hk0]
      replace hto := hto hk0
      clear hlead
      cases dd <;> (
        go_wp2_with (at_lookup; refine wpList_look _ rfl _ _ _ _ rfl hq4 ?_)

        refine HR4.out.mono ?_
        rintro e w5 ⟨rfl, hb5⟩
        have hB5 : Below w.heap.size w w5 := (hB1.trans (hb14.mono hB1.size)).trans (hb5.mono (Nat.le_trans hB1.size hzz))
        have bD5 := bD4.below hb5 bD4.lt
        have bR5 := bR4.below hb5 bR4.lt
        have b85 := b84.below hb5 b84.lt
        have bH5 := bH4.below hb5 bH4.lt
        have hM5 := hM4.below hb5 hM4.lt
        have hO5 := hO4.below hb5
        have hb15 := hb14.trans (hb5.mono hb14.size)
        clear hb5 hb14 bD4 bR4 b84 bH4 hM4 hO4 d40 d41 d42 d43 r41 r42 zD4 zR4 h40 zH4 hq4 HR4
        cases rf
        rotate_left
        · have r0 := bR5.cell 0
          have r1 := bR5.cell 1
          have r2 := bR5.cell 2
          have r3 := bR5.cell 3
          have r4 := bR5.cell 4
          have s0 := b85.cell 0
          have s1 := b85.cell 1
          have s2 := b85.cell 2
          have s3 := b85.cell 3
          have s4 := b85.cell 4
          have f0 := b85.frozen 0
          have f1 := b85.frozen 1
          have f2 := b85.frozen 2
          have f3 := b85.frozen 3
          have f4 := b85.frozen 4
          have g0 := bR5.frozen 0
          have g1 := bR5.frozen 1
          have g2 := bR5.frozen 2
          have g3 := bR5.frozen 3
          have g4 := bR5.frozen 4
          have zR := bR5.lt
          have z8 := b85.lt
          simp at r0 r1 r2 r3 r4 s0 s1 s2 s3 s4
          go_wp2
          try simp only [Exit.jump]
          have hKE : Keeps (fun i => i = w1.heap.size + 1 ∨ i = w.heap.size + 1) w5 ((((((w5.setCell ⟨w1.heap.size + 1, 0, none⟩ (.int .u8 2)).setCell ⟨w.heap.size + 1, 0, none⟩ (.int .u8 2)).setCell ⟨w.heap.size + 1, 1, none⟩ (.int .i64 p1)).setCell ⟨w.heap.size + 1, 2, none⟩ (.int .i64 q1)).setCell ⟨w.heap.size + 1, 3, none⟩ (.slice A' hs.length c')).setCell ⟨w.heap.size + 1, 4, none⟩ (.int .i64 0)) := ((Keeps.refl (fun i => i = w1.heap.size + 1 ∨ i = w.heap.size + 1) w5).setCell (p := ⟨w1.heap.size + 1, 0, none⟩) (fun _ => .inl rfl) (.int .u8 2)).trans (keep5 (w5.setCell ⟨w1.heap.size + 1, 0, none⟩ (.int .u8 2)) (w.heap.size + 1) (.int .u8 2) (.int .i64 p1) (.int .i64 q1) (.slice A' hs.length c') (.int .i64 0)) (fun i _ h => .inr h)
          have hBL : Blk ((((((w5.setCell ⟨w1.heap.size + 1, 0, none⟩ (.int .u8 2)).setCell ⟨w.heap.size + 1, 0, none⟩ (.int .u8 2)).setCell ⟨w.heap.size + 1, 1, none⟩ (.int .i64 p1)).setCell ⟨w.heap.size + 1, 2, none⟩ (.int .i64 q1)).setCell ⟨w.heap.size + 1, 3, none⟩ (.slice A' hs.length c')).setCell ⟨w.heap.size + 1, 4, none⟩ (.int .i64 0)) (w.heap.size + 1) 36 #[.int .u8 2, .int .i64 p1, .int .i64 q1, .slice A' hs.length c', .int .i64 0] := set5 ((b85.far (p := ⟨w1.heap.size + 1, 0, none⟩) (show w.heap.size + 1 ≠ w1.heap.size + 1 by omega) (.int .u8 2))) (.int .u8 2) (.int .i64 p1) (.int .i64 q1) (.slice A' hs.length c') (.int .i64 0)
          generalize ((((((w5.setCell ⟨w1.heap.size + 1, 0, none⟩ (.int .u8 2)).setCell ⟨w.heap.size + 1, 0, none⟩ (.int .u8 2)).setCell ⟨w.heap.size + 1, 1, none⟩ (.int .i64 p1)).setCell ⟨w.heap.size + 1, 2, none⟩ (.int .i64 q1)).setCell ⟨w.heap.size + 1, 3, none⟩ (.slice A' hs.length c')).setCell ⟨w.heap.size + 1, 4, none⟩ (.int .i64 0)) = WE at hKE hBL ⊢
          refine bodyPost_ret (v := .tuple #[rtVal (2) (p1, q1) (.slice A' hs.length c') 0, .int .i64 0]) ((results_crt (p := 8) (u := 9) Tryz.results10 hBL rfl rowRoute sizeRoute).trans rfl) rfl ?_
          exact fol_leaf hB5 hz hO5 hKE HG.out (.ends (by rw [HA.out]; simp [hk0]))
        cases ld
        · have h53 := bH5.cell 3
          have h54 := bH5.cell 4
          have h50 := bH5.cell 0
          have zH5 := bH5.lt
          simp at h50 h53 h54
          have g50 := bR5.frozen 0
          have g51 := bR5.frozen 1
          have g52 := bR5.frozen 2
          have r50 := bR5.cell 0
          have r51 := bR5.cell 1
          have r52 := bR5.cell 2
          have zR5 := bR5.lt
          have hRw5 : w1.heap.size + 1 < w5.heap.size := bR5.lt
          simp at r50 r51 r52
          go_upto_region 14 with fail
          go_region
          have bR9 : Blk (((w5.setCell ⟨w1.heap.size + 1, 0, none⟩ (.int .u8 5)).setCell ⟨w1.heap.size + 1, 1, none⟩ (.int .i64 p2)).setCell ⟨w1.heap.size + 1, 2, none⟩ (.int .i64 q2)).drew (w1.heap.size + 1) 36 #[.int .u8 5, .int .i64 p2, .int .i64 q2, .slice A' hs.length c', .int .i64 0] := by
            have := ((bR5.set 0 (.int .u8 5)).set 1 (.int .i64 p2)).set 2 (.int .i64 q2)
            simp only [List.setIfInBounds_toArray, List.set_cons_succ, List.set_cons_zero] at this
            exact this.drew
          have hK9 : Keeps (fun i => i = w1.heap.size + 1) w5 (((w5.setCell ⟨w1.heap.size + 1, 0, none⟩ (.int .u8 5)).setCell ⟨w1.heap.size + 1, 1, none⟩ (.int .i64 p2)).setCell ⟨w1.heap.size + 1, 2, none⟩ (.int .i64 q2)).drew := ((((Keeps.refl (fun i => i = w1.heap.size + 1) w5).setCell (p := ⟨w1.heap.size + 1, 0, none⟩) (fun _ => rfl) _).setCell (p := ⟨w1.heap.size + 1, 1, none⟩) (fun _ => rfl) _).setCell (p := ⟨w1.heap.size + 1, 2, none⟩) (fun _ => rfl) _).drew
          generalize (((w5.setCell ⟨w1.heap.size + 1, 0, none⟩ _).setCell ⟨w1.heap.size + 1, 1, none⟩ _).setCell ⟨w1.heap.size + 1, 2, none⟩ _).drew = w9 at bR9 hK9 ⊢
          have b89 := b85.keep hK9 (by omega)
          have hO9 := hO5.keep hK9 (by omega)
          have hB9 : Below w.heap.size w w9 := hB5.trans (hK9.below (B := w.heap.size) (fun i h1 h2 => by omega) hB5.size)
          clear hK9 g50 g51 g52 r50 r51 r52 zR5
          have r0 := bR9.cell 0
          have r1 := bR9.cell 1
          have r2 := bR9.cell 2
          have r3 := bR9.cell 3
          have r4 := bR9.cell 4
          have s0 := b89.cell 0
          have s1 := b89.cell 1
          have s2 := b89.cell 2
          have s3 := b89.cell 3
          have s4 := b89.cell 4
          have f0 := b89.frozen 0
          have f1 := b89.frozen 1
          have f2 := b89.frozen 2
          have f3 := b89.frozen 3
          have f4 := b89.frozen 4
          have g0 := bR9.frozen 0
          have g1 := bR9.frozen 1
          have g2 := bR9.frozen 2
          have g3 := bR9.frozen 3
          have g4 := bR9.frozen 4
          have zR := bR9.lt
          have z8 := b89.lt
          simp at r0 r1 r2 r3 r4 s0 s1 s2 s3 s4
          go_wp2
          try simp only [Exit.jump]
          have hKE : Keeps (fun i => i = w1.heap.size + 1 ∨ i = w.heap.size + 1) w9 (((((w9.setCell ⟨w.heap.size + 1, 0, none⟩ (.int .u8 5)).setCell ⟨w.heap.size + 1, 1, none⟩ (.int .i64 p2)).setCell ⟨w.heap.size + 1, 2, none⟩ (.int .i64 q2)).setCell ⟨w.heap.size + 1, 3, none⟩ (.slice A' hs.length c')).setCell ⟨w.heap.size + 1, 4, none⟩ (.int .i64 0)) := (Keeps.refl (fun i => i = w1.heap.size + 1 ∨ i = w.heap.size + 1) w9).trans (keep5 w9 (w.heap.size + 1) (.int .u8 5) (.int .i64 p2) (.int .i64 q2) (.slice A' hs.length c') (.int .i64 0)) (fun i _ h => .inr h)
          have hBL : Blk (((((w9.setCell ⟨w.heap.size + 1, 0, none⟩ (.int .u8 5)).setCell ⟨w.heap.size + 1, 1, none⟩ (.int .i64 p2)).setCell ⟨w.heap.size + 1, 2, none⟩ (.int .i64 q2)).setCell ⟨w.heap.size + 1, 3, none⟩ (.slice A' hs.length c')).setCell ⟨w.heap.size + 1, 4, none⟩ (.int .i64 0)) (w.heap.size + 1) 36 #[.int .u8 5, .int .i64 p2, .int .i64 q2, .slice A' hs.length c', .int .i64 0] := set5 (b89) (.int .u8 5) (.int .i64 p2) (.int .i64 q2) (.slice A' hs.length c') (.int .i64 0)
          generalize (((((w9.setCell ⟨w.heap.size + 1, 0, none⟩ (.int .u8 5)).setCell ⟨w.heap.size + 1, 1, none⟩ (.int .i64 p2)).setCell ⟨w.heap.size + 1, 2, none⟩ (.int .i64 q2)).setCell ⟨w.heap.size + 1, 3, none⟩ (.slice A' hs.length c')).setCell ⟨w.heap.size + 1, 4, none⟩ (.int .i64 0)) = WE at hKE hBL ⊢
          refine bodyPost_ret (v := .tuple #[rtVal (5) (p2, q2) (.slice A' hs.length c') 0, .int .i64 0]) ((results_crt (p := 8) (u := 9) Tryz.results10 hBL rfl rowRoute sizeRoute).trans rfl) rfl ?_
          exact fol_leaf hB9 hz hO9 hKE HG.out (.ends (by rw [HA.out]; simp [hk0]))
        have r53 := bR5.cell 3
        have h50 := bH5.cell 0
        have h51 := bH5.cell 1
        have h52 := bH5.cell 2
        have h53 := bH5.cell 3
        have h54 := bH5.cell 4
        have h55 := bH5.cell 5
        have zR5 := bR5.lt
        have hRw5 : w1.heap.size + 1 < w5.heap.size := bR5.lt
        have zH5 := bH5.lt
        have hl5 := hO5.own_lt
        simp at r53 h50 h51 h52 h53 h54 h55
        obtain ⟨v', w6, hrunA, hO6, hk6⟩ := append_hop hO5 (k, (p1, q1), (p2, q2), o) (by omega) (by omega) 34
        obtain ⟨A2, c2, rfl⟩ := hO6.shape
        rw [len_snoc] at hrunA hO6
        replace hrunA : (Builtin.append_ #[34, 34] 34 #[.slice A' hs.length c', .slice (some ⟨w5.heap.size, 0, none⟩) 1 1]).run Tryz.prog (w5.alloc (.cells #[.int .u8 k, .int .i64 p1, .int .i64 q1, .int .i64 p2, .int .i64 q2, .int .i64 o] 45)) = .ok (.slice A2 (hs.length + 1) c2) w6 := hrunA
        have bD6 := bD5.keep hk6 (fun h => by have := hlow _ h; omega)
        have bR6 := bR5.keep hk6 (fun h => by have := hlow _ h; omega)
        have b86 := b85.keep hk6 (fun h => by have := hlow _ h; omega)
        have bH6 := bH5.keep hk6 (fun h => by have := hlow _ h; omega)
        have hM6 := hM5.keep hk6 (fun h => by have := hlow _ h; omega)
        have hb16 : Below w1.heap.size w1 w6 := hb15.trans (hk6.below (fun i hi h => by have := hlow _ h; omega) hb15.size)
        have hB6 : Below w.heap.size w w6 := hB1.trans (hb16.mono hB1.size)
        have r60 := bR6.frozen 1
        have r61 := bR6.frozen 2
        have r62 := bR6.frozen 3
        have s60 := bR6.cell 1
        have s61 := bR6.cell 2
        have s62 := bR6.cell 3
        have h63 := bH6.cell 3
        have h64 := bH6.cell 4
        have zR6 := bR6.lt
        have zH6 := bH6.lt
        simp at s60 s61 s62 h63 h64
        clear hl5 hk6 hM5 bD5 b85 bH5 hO5 hB5
        go_upto_region 18 with (first | (at_builtin; refine Lib.wpList_append_run _ rfl _ _ _ _ rfl _ _ rfl rfl _ _ hrunA ?_))
        have bR9 : Blk (((w6.setCell ⟨w1.heap.size + 1, 3, none⟩ (.slice A2 (hs.length + 1) c2)).setCell ⟨w1.heap.size + 1, 1, none⟩ (.int .i64 p2)).setCell ⟨w1.heap.size + 1, 2, none⟩ (.int .i64 q2)) (w1.heap.size + 1) 36 #[.int .u8 0, .int .i64 p2, .int .i64 q2, .slice A2 (hs.length + 1) c2, .int .i64 0] := by
          have := ((bR6.set 3 (.slice A2 (hs.length + 1) c2)).set 1 (.int .i64 p2)).set 2 (.int .i64 q2)
          simpa using this
        have hK9 : Keeps (fun i => i = w1.heap.size + 1) w6 (((w6.setCell ⟨w1.heap.size + 1, 3, none⟩ (.slice A2 (hs.length + 1) c2)).setCell ⟨w1.heap.size + 1, 1, none⟩ (.int .i64 p2)).setCell ⟨w1.heap.size + 1, 2, none⟩ (.int .i64 q2)) := (((Keeps.refl (fun i => i = w1.heap.size + 1) w6).setCell (p := ⟨w1.heap.size + 1, 3, none⟩) (fun _ => rfl) _).setCell (p := ⟨w1.heap.size + 1, 1, none⟩) (fun _ => rfl) _).setCell (p := ⟨w1.heap.size + 1, 2, none⟩) (fun _ => rfl) _
        generalize ((w6.setCell ⟨w1.heap.size + 1, 3, none⟩ _).setCell ⟨w1.heap.size + 1, 1, none⟩ _).setCell ⟨w1.heap.size + 1, 2, none⟩ _ = w9 at bR9 hK9 ⊢
        have bD9 := bD6.keep hK9 (by omega)
        have b89 := b86.keep hK9 (by omega)
        have bH9 := bH6.keep hK9 (by omega)
        have hM9 := hM6.keep hK9 (by omega)
        have hO9 := hO6.keep hK9 (by omega)
        have hB9 : Below w.heap.size w w9 := hB6.trans (hK9.below (B := w.heap.size) (fun i h1 h2 => by omega) hB6.size)
        have hb19 := hb16.trans (hK9.below (B := w1.heap.size) (fun i h1 h2 => by omega) hb16.size)
        have hlook := hM9.look (p := (p2, q2)) hto
        have ha : arrive l d s (p1, q1) = none := by rw [HA.out]; simp [hk0]
        have hl : (hopAt l d (p1, q1)).2 = true := by unfold hopAt; rw [hh.out]
        have ht : (hopAt l d (p1, q1)).1.2.1 = (p2, q2) := by unfold hopAt; rw [hh.out]
        have hv : hopV l d (p1, q1) = (k, (p1, q1), (p2, q2), o) := by unfold hopV hopAt; rw [hh.out]
        clear bR5 hb15 bD6 bR6 b86 bH6 hM6 hO6 hb16 hB6 r60 r61 r62 s60 s61 s62 h63 h64 zR6 zH6 hrunA hK9 r53 h50 h51 h52 h53 h54 h55 zR5 zH5
        have h93 := bH9.cell 3
        have h94 := bH9.cell 4
        have zH9 := bH9.lt
        simp at h93 h94
        unfold candVal at hlook
        dsimp only at hlook
        cases hbk : backTo (froms hs ++ [(p1, q1)]) (p2, q2) with
        | some i =>
          rw [hbk] at hlook
          dsimp only at hlook
          have r0 := bR9.cell 0
          have r1 := bR9.cell 1
          have r2 := bR9.cell 2
          have r3 := bR9.cell 3
          have r4 := bR9.cell 4
          have s0 := b89.cell 0
          have s1 := b89.cell 1
          have s2 := b89.cell 2
          have s3 := b89.cell 3
          have s4 := b89.cell 4
          have f0 := b89.frozen 0
          have f1 := b89.frozen 1
          have f2 := b89.frozen 2
          have f3 := b89.frozen 3
          have f4 := b89.frozen 4
          have g0 := bR9.frozen 0
          have g1 := bR9.frozen 1
          have g2 := bR9.frozen 2
          have g3 := bR9.frozen 3
          have g4 := bR9.frozen 4
          have zR := bR9.lt
          have z8 := b89.lt
          simp at r0 r1 r2 r3 r4 s0 s1 s2 s3 s4
          go_wp2_with (at_lookup; refine wpList_look _ rfl _ _ _ _ rfl hlook ?_)
          try simp only [Exit.jump]
          have hKE : Keeps (fun i => i = w1.heap.size + 1 ∨ i = w.heap.size + 1) w9 (((((((w9.setCell ⟨w1.heap.size + 1, 0, none⟩ (.int .u8 6)).setCell ⟨w1.heap.size + 1, 4, none⟩ (.int .i64 ↑i)).setCell ⟨w.heap.size + 1, 0, none⟩ (.int .u8 6)).setCell ⟨w.heap.size + 1, 1, none⟩ (.int .i64 p2)).setCell ⟨w.heap.size + 1, 2, none⟩ (.int .i64 q2)).setCell ⟨w.heap.size + 1, 3, none⟩ (.slice A2 (hs.length + 1) c2)).setCell ⟨w.heap.size + 1, 4, none⟩ (.int .i64 ↑i)) := (((Keeps.refl (fun i => i = w1.heap.size + 1 ∨ i = w.heap.size + 1) w9).setCell (p := ⟨w1.heap.size + 1, 0, none⟩) (fun _ => .inl rfl) (.int .u8 6)).setCell (p := ⟨w1.heap.size + 1, 4, none⟩) (fun _ => .inl rfl) (.int .i64 ↑i)).trans (keep5 ((w9.setCell ⟨w1.heap.size + 1, 0, none⟩ (.int .u8 6)).setCell ⟨w1.heap.size + 1, 4, none⟩ (.int .i64 ↑i)) (w.heap.size + 1) (.int .u8 6) (.int .i64 p2) (.int .i64 q2) (.slice A2 (hs.length + 1) c2) (.int .i64 ↑i)) (fun i _ h => .inr h)
          have hBL : Blk (((((((w9.setCell ⟨w1.heap.size + 1, 0, none⟩ (.int .u8 6)).setCell ⟨w1.heap.size + 1, 4, none⟩ (.int .i64 ↑i)).setCell ⟨w.heap.size + 1, 0, none⟩ (.int .u8 6)).setCell ⟨w.heap.size + 1, 1, none⟩ (.int .i64 p2)).setCell ⟨w.heap.size + 1, 2, none⟩ (.int .i64 q2)).setCell ⟨w.heap.size + 1, 3, none⟩ (.slice A2 (hs.length + 1) c2)).setCell ⟨w.heap.size + 1, 4, none⟩ (.int .i64 ↑i)) (w.heap.size + 1) 36 #[.int .u8 6, .int .i64 p2, .int .i64 q2, .slice A2 (hs.length + 1) c2, .int .i64 ↑i] := set5 (((b89.far (p := ⟨w1.heap.size + 1, 0, none⟩) (show w.heap.size + 1 ≠ w1.heap.size + 1 by omega) (.int .u8 6)).far (p := ⟨w1.heap.size + 1, 4, none⟩) (show w.heap.size + 1 ≠ w1.heap.size + 1 by omega) (.int .i64 ↑i))) (.int .u8 6) (.int .i64 p2) (.int .i64 q2) (.slice A2 (hs.length + 1) c2) (.int .i64 ↑i)
          generalize (((((((w9.setCell ⟨w1.heap.size + 1, 0, none⟩ (.int .u8 6)).setCell ⟨w1.heap.size + 1, 4, none⟩ (.int .i64 ↑i)).setCell ⟨w.heap.size + 1, 0, none⟩ (.int .u8 6)).setCell ⟨w.heap.size + 1, 1, none⟩ (.int .i64 p2)).setCell ⟨w.heap.size + 1, 2, none⟩ (.int .i64 q2)).setCell ⟨w.heap.size + 1, 3, none⟩ (.slice A2 (hs.length + 1) c2)).setCell ⟨w.heap.size + 1, 4, none⟩ (.int .i64 ↑i)) = WE at hKE hBL ⊢
          refine bodyPost_ret (v := .tuple #[rtVal (6) (p2, q2) (.slice A2 (hs.length + 1) c2) ↑i, .int .i64 0]) ((results_crt (p := 8) (u := 9) Tryz.results10 hBL rfl rowRoute sizeRoute).trans rfl) rfl ?_
          exact fol_leaf hB9 hz hO9 hKE HG.out (by have h := Fol.loop ha (ht ▸ hbk); rw [ht, hv] at h; exact h)
        | none =>
          rw [hbk] at hlook
          dsimp only at hlook
          go_wp2_with (at_lookup; refine wpList_look _ rfl _ _ _ _ rfl hlook ?_)
          clear hlook h93 h94 zH9 bH9
          go_step3
          refine ⟨rfl, n - 1, by omega, w1, m1, m2, hs ++ [hopV l d (p1, q1)], (p2, q2), A2, c2, by kernel_rfl, by rw [len_snoc]; omega, Lib.hid ?_⟩
          rw [len_snoc]
          rw [← hv] at hO9
          have hbk' : backTo (froms hs ++ [(p1, q1)]) (hopAt l d (p1, q1)).1.2.1 = none := by rw [ht]; exact hbk
          have hwy := HW.out.on hl hbk'
          rw [ht] at hwy
          exact ⟨HDir.out, hB1, hb19, hz, bD9, bR9, b89, by rw [froms_snoc]; exact hM9, hO9, hwy, fun r hr => HG.out r (Fol.on ha hbk' (by rw [ht]; exact hr))⟩
        )
  -- ENDPASS
  intro hpass
  have HP := Lib.hid hpass
  clear hpass
  go_wp2_with fail
  refine (I1.out _).mono ?_
  rintro e w' ⟨rfl, rfl⟩
  go_wp2_with fail
  refine (I2.out _).mono ?_
  rintro e w' ⟨rfl, rfl⟩
  go_wp2_with fail
  refine (I3.out _).mono ?_
  rintro e w' ⟨rfl, rfl⟩
  go_wp2_with fail
  refine (I4.out _).mono ?_
  rintro e w' ⟨rfl, rfl⟩
  go_wp2_with fail
  have b5 : Blk ((w.alloc (.cells #[.int .i64 p, .int .i64 q] 33)).alloc (.cells #[.int .u8 0, .int .i64 0, .int .i64 0, .slice none 0 0, .int .i64 0] 36)) w.heap.size 33 #[.int .i64 p, .int .i64 q] := (Blk.new w _ _).alloc _
  have b8 : Blk ((w.alloc (.cells #[.int .i64 p, .int .i64 q] 33)).alloc (.cells #[.int .u8 0, .int .i64 0, .int .i64 0, .slice none 0 0, .int .i64 0] 36)) (w.heap.size + 1) 36 #[.int .u8 0, .int .i64 0, .int .i64 0, .slice none 0 0, .int .i64 0] := by
    have := Blk.new (w.alloc (.cells #[.int .i64 p, .int .i64 q] 33)) 36 #[.int .u8 0, .int .i64 0, .int .i64 0, .slice none 0 0, .int .i64 0]
    simpa using this
  have hB0 : Below w.heap.size w ((w.alloc (.cells #[.int .i64 p, .int .i64 q] 33)).alloc (.cells #[.int .u8 0, .int .i64 0, .int .i64 0, .slice none 0 0, .int .i64 0] 36)) := ((Below.refl _ _).alloc (Nat.le_refl _) _).alloc (by simp) _
  generalize (w.alloc (.cells _ 33)).alloc (.cells _ 36) = W0 at b5 b8 hB0 ⊢
  refine (HO.out W0 (hL.up hB0 hB0.size) (by unfold maxLen; omega)).mono ?_
  rintro e w1 ⟨m1, m2, rfl, hD, hb1⟩
  replace b5 := b5.below hb1 b5.lt
  replace b8 := b8.below hb1 b8.lt
  replace hB0 := hB0.trans (hb1.mono hB0.size)
  have p0 := b5.cell 0
  have p1 := b5.cell 1
  have z5 := b5.lt
  simp at p0 p1
  unfold dirVal
  clear hb1 hL HO I1 I2 I3 I4
  go_upto_region 6 with fail
  have hBn : Below w1.heap.size w1 (((w1.alloc (.cells #[.slice A l.length c, .int .i64 d, .map (some m1), .map (some m2)] 49)).alloc (.cells #[.int .u8 0, .int .i64 p, .int .i64 q, .slice none 0 0, .int .i64 0] 36)).alloc (.map #[] 0)) := (((Below.refl _ _).alloc (Nat.le_refl _) _).alloc (by simp) _).alloc (by simp; omega) _
  have bD : Blk (((w1.alloc (.cells #[.slice A l.length c, .int .i64 d, .map (some m1), .map (some m2)] 49)).alloc (.cells #[.int .u8 0, .int .i64 p, .int .i64 q, .slice none 0 0, .int .i64 0] 36)).alloc (.map #[] 0)) w1.heap.size 49 #[.slice A l.length c, .int .i64 d, .map (some m1), .map (some m2)] := ((Blk.new w1 _ _).alloc _).alloc _
  have bR : Blk (((w1.alloc (.cells #[.slice A l.length c, .int .i64 d, .map (some m1), .map (some m2)] 49)).alloc (.cells #[.int .u8 0, .int .i64 p, .int .i64 q, .slice none 0 0, .int .i64 0] 36)).alloc (.map #[] 0)) (w1.heap.size + 1) 36 #[.int .u8 0, .int .i64 p, .int .i64 q, .slice none 0 0, .int .i64 0] := at_al (at_new (by simp))
  have hM : MetOf (((w1.alloc (.cells #[.slice A l.length c, .int .i64 d, .map (some m1), .map (some m2)] 49)).alloc (.cells #[.int .u8 0, .int .i64 p, .int .i64 q, .slice none 0 0, .int .i64 0] 36)).alloc (.map #[] 0)) (w1.heap.size + 1 + 1) [] := MetOf.new_of (at_new (by simp))
  generalize ((w1.alloc (.cells _ 49)).alloc (.cells _ 36)).alloc (.map #[] 0) = W2 at hBn bD bR hM ⊢
  have hz : w.heap.size + 1 < w1.heap.size := b8.lt
  replace b8 := b8.below hBn b8.lt
  clear b5 p0 p1 z5
  go_step3
  rename_i Q1 K1 hK1
  refine hK1 _ _ (HP.out 61 _ _ ⟨w1, m1, m2, [], (p, q), none, 0, by kernel_rfl, by simp, Lib.hid ⟨hD, hB0, hBn, hz, bD, bR, b8, hM, OwnH.nil _ _, Way.start _ _ _, fun _ h => h⟩⟩)
end Go.Proofs.YtlbehpbhmmppiaaGreatDoor
