/- The contract of Follow where the first hop is an heir's and leads to a pair that lives there. Conditions: the list lies in memory; the hops and refusals at the two pairs. -/
import Derived.Test.YtlbehpbhmmppiaaGreatDoorFollowA
import Derived.Test.YtlbehpbhmmppiaaGreatDoorFolA
namespace Go.Proofs.YtlbehpbhmmppiaaGreatDoor
open Go.RowKit Go.Shelf

set_option maxRecDepth 100000 in
set_option maxHeartbeats 4000000 in
theorem follow_hop (A : Option Addr) (c : Nat) (l : List OEnt) (d s : Int) (p q p2 q2 : Int) (hp : 1 ≤ p ∧ p ≤ 1000000) (hq : 1 ≤ q ∧ q ≤ 1000000) (hp2 : 1 ≤ p2 ∧ p2 ≤ 1000000) (_ : 1 ≤ q2 ∧ q2 ≤ 1000000) (hs : 0 ≤ s ∧ s ≤ 1000000) (hd : 0 ≤ d ∧ d ≤ 100000) (w : World) (hL : EntsLie w w.heap.size A (l.map (·.1))) (hlen : l.length ≤ maxLen)
    (kl kl2 : Lit) (hk : keyOf Tryz.prog 33 (candVal (p, q)) = some kl) (hk2 : keyOf Tryz.prog 33 (candVal (p2, q2)) = some kl2) (hne : kl2 ≠ kl)
    (hdead : deadOf l d p = true) (hhop : hopOf (deadOf l d) (cancOf l d) l d (p, q) = ((2, (p2, q2), 0), true)) (href : refusesOf (deadOf l d) l d (p, q) s = false)
    (hdead2 : deadOf l d p2 = false) (hhop2 : hopOf (deadOf l d) (cancOf l d) l d (p2, q2) = ((0, (0, 0), 0), false)) (href2 : refusesOf (deadOf l d) l d (p2, q2) s = false) (hlive2 : livesOf (deadOf l d) l d (p2, q2) = true) :
    Calls Tryz.prog 10 #[.slice A l.length c, candVal (p, q), .int .i64 s, .int .i64 d] w fun e w' =>
      ∃ g cap, e = .returned (.tuple #[routeVal 1 p2 q2 (some ⟨g, 0, none⟩) 1 cap, .int .i64 0]) ∧ w'.cell? ⟨g, 0, none⟩ = some (.int .u8 2) ∧ g < w'.heap.size ∧ Below w.heap.size w w' := by
  have H2 := Lib.hid (And.intro hdead2 (And.intro hhop2 (And.intro href2 hlive2)))
  have HK2 := Lib.hid hk2
  have HNE := Lib.hid hne
  clear hdead2 hhop2 href2 hlive2 hk2 hne
  have i1 := fun W => isId_any p W
  have i2 := fun W => isId_any q W
  have i3 := fun W => isIdOrZero_any s W
  have i4 := fun W => isDay_any d W
  have e1 : isIdB p = true := by simp [isIdB]; omega
  have e2 : isIdB q = true := by simp [isIdB]; omega
  have e3 : isIdZB s = true := by simp [isIdZB, isIdB]; omega
  have e4 : isDayB d = true := by simp [isDayB]; omega
  rw [e1] at i1
  rw [e2] at i2
  rw [e3] at i3
  rw [e4] at i4
  clear e1 e2 e3 e4
  have hmm := @run_makeMap Tryz.prog
  have I1 := Lib.hid i1
  have I2 := Lib.hid i2
  have I3 := Lib.hid i3
  have I4 := Lib.hid i4
  have HO := Lib.hid (on_any A c l d)
  clear i1 i2 i3 i4
  have hk' := hk
  unfold candVal at hk ⊢
  go_enter Tryz.func10, Tryz.ntmps10
  go_wp2_with fail
  refine wp_scope_once 0 rfl ?_
  go_wp2_with fail
  refine (I1.out _).mono ?_
  rintro e w' ⟨rfl, rfl⟩
  go_wp2_with fail
  refine (I2.out _).mono ?_
  rintro e w' ⟨rfl, rfl⟩
  go_wp2_with fail
  refine (I3.out _).mono ?_
  rintro e w' ⟨rfl, rfl⟩
  go_wp2_with fail
  refine (I4.out _).mono ?_
  rintro e w' ⟨rfl, rfl⟩
  go_wp2_with fail
  have b5 : Blk ((w.alloc (.cells #[.int .i64 p, .int .i64 q] 33)).alloc (.cells #[.int .u8 0, .int .i64 0, .int .i64 0, .slice none 0 0, .int .i64 0] 36)) w.heap.size 33 #[.int .i64 p, .int .i64 q] := (Blk.new w _ _).alloc _
  have b8 : Blk ((w.alloc (.cells #[.int .i64 p, .int .i64 q] 33)).alloc (.cells #[.int .u8 0, .int .i64 0, .int .i64 0, .slice none 0 0, .int .i64 0] 36)) (w.heap.size + 1) 36 #[.int .u8 0, .int .i64 0, .int .i64 0, .slice none 0 0, .int .i64 0] := by
    have := Blk.new (w.alloc (.cells #[.int .i64 p, .int .i64 q] 33)) 36 #[.int .u8 0, .int .i64 0, .int .i64 0, .slice none 0 0, .int .i64 0]
    simpa using this
  have hB0 : Below w.heap.size w ((w.alloc (.cells #[.int .i64 p, .int .i64 q] 33)).alloc (.cells #[.int .u8 0, .int .i64 0, .int .i64 0, .slice none 0 0, .int .i64 0] 36)) := ((Below.refl _ _).alloc (Nat.le_refl _) _).alloc (by simp) _
  generalize (w.alloc (.cells _ 33)).alloc (.cells _ 36) = W0 at b5 b8 hB0 ⊢
  refine (HO.out W0 (hL.up hB0 hB0.size) hlen).mono ?_
  rintro e w1 ⟨m1, m2, rfl, hD, hb1⟩
  replace b5 := b5.below hb1 b5.lt
  replace b8 := b8.below hb1 b8.lt
  replace hB0 := hB0.trans (hb1.mono hB0.size)
  have p0 := b5.cell 0
  have p1 := b5.cell 1
  have z5 := b5.lt
  simp at p0 p1
  unfold dirVal
  clear hb1 hL HO I1 I2 I3 I4
  go_upto_region 6 with fail
  have hBn : Below w1.heap.size w1 (((w1.alloc (.cells #[.slice A l.length c, .int .i64 d, .map (some m1), .map (some m2)] 49)).alloc (.cells #[.int .u8 0, .int .i64 p, .int .i64 q, .slice none 0 0, .int .i64 0] 36)).alloc (.map #[] 0)) := (((Below.refl _ _).alloc (Nat.le_refl _) _).alloc (by simp) _).alloc (by simp; omega) _
  have bD : Blk (((w1.alloc (.cells #[.slice A l.length c, .int .i64 d, .map (some m1), .map (some m2)] 49)).alloc (.cells #[.int .u8 0, .int .i64 p, .int .i64 q, .slice none 0 0, .int .i64 0] 36)).alloc (.map #[] 0)) w1.heap.size 49 #[.slice A l.length c, .int .i64 d, .map (some m1), .map (some m2)] := ((Blk.new w1 _ _).alloc _).alloc _
  have bR : Blk (((w1.alloc (.cells #[.slice A l.length c, .int .i64 d, .map (some m1), .map (some m2)] 49)).alloc (.cells #[.int .u8 0, .int .i64 p, .int .i64 q, .slice none 0 0, .int .i64 0] 36)).alloc (.map #[] 0)) (w1.heap.size + 1) 36 #[.int .u8 0, .int .i64 p, .int .i64 q, .slice none 0 0, .int .i64 0] := at_al (at_new (by simp))
  have hM : MetIs (((w1.alloc (.cells #[.slice A l.length c, .int .i64 d, .map (some m1), .map (some m2)] 49)).alloc (.cells #[.int .u8 0, .int .i64 p, .int .i64 q, .slice none 0 0, .int .i64 0] 36)).alloc (.map #[] 0)) (w1.heap.size + 1 + 1) 0 (.map []) := MetIs.new_of (at_new (by simp))
  generalize ((w1.alloc (.cells _ 49)).alloc (.cells _ 36)).alloc (.map #[] 0) = W2 at hBn bD bR hM ⊢
  have hz : w.heap.size + 1 < w1.heap.size := b8.lt
  replace b8 := b8.below hBn b8.lt
  have hB1 := hB0
  clear b5 hB0 p0 p1 z5
  obtain ⟨w2, hrun, hM2, hkk⟩ := hM.store (by unfold maxLen; omega) hk 0 (by decide)
  have hb12 : Below w1.heap.size w1 w2 := hBn.trans (hkk.below (fun i hi e => by omega) hBn.size)
  have bD2 := bD.keep hkk (by omega)
  have bR2 := bR.keep hkk (by omega)
  have b82 := b8.keep hkk (by omega)
  have r1 := bR.cell 1
  have r2 := bR.cell 2
  have r3 := bR.cell 3
  have zR := bR.lt
  have d20 := bD2.cell 0
  have d21 := bD2.cell 1
  have d22 := bD2.cell 2
  have d23 := bD2.cell 3
  have r21 := bR2.cell 1
  have r22 := bR2.cell 2
  have zD2 := bD2.lt
  have zR2 := bR2.lt
  simp at r1 r2 r3 d20 d21 d22 d23 r21 r22
  have HH := Lib.hid (hop_any A c l d (p, q) m1 m2 (deadOf l d) (cancOf l d) (by constructor <;> dsimp only <;> omega) w2 (hD.below hb12))
  have HR := Lib.hid (fun W hW => refusesP_any A c l d (p, q) s m1 m2 (deadOf l d) (cancOf l d) (by constructor <;> dsimp only <;> omega) W (hD.below hW))
  have HHp := Lib.hid hhop
  have HRf := Lib.hid href
  have HLv := Lib.hid (fun W hW => livesA A c l d (p2, q2) kl2 HK2.out m1 m2 (deadOf l d) (cancOf l d) W (hD.below hW))
  have HDd := Lib.hid hdead
  have hq : ∀ W, Below w1.heap.size w1 W → (Instr.lookup 47 (.map (some m1)) (.int .i64 p) false).run Tryz.prog W = .ok (.bool true) W := fun W hW => by
    have := (hD.below hW).dead.look lawInt mapIntRow (keyInt (n := p) (by omega))
    rw [onInt_at, hdead] at this
    exact this
  have HQ := Lib.hid hq
  have hqq : ∀ W, Below w1.heap.size w1 W → (Instr.lookup 47 (.map (some m1)) (.int .i64 p2) false).run Tryz.prog W = .ok (.bool false) W := fun W hW => by
    have := (hD.below hW).dead.look lawInt mapIntRow (keyInt (n := p2) (by omega))
    rw [onInt_at, H2.out.1] at this
    exact this
  have HQ2 := Lib.hid hqq
  have HH2 := Lib.hid (fun W hW => hop_any A c l d (p2, q2) m1 m2 (deadOf l d) (cancOf l d) (by constructor <;> dsimp only <;> omega) W (hD.below hW))
  have HR2 := Lib.hid (fun W hW => refusesP_any A c l d (p2, q2) s m1 m2 (deadOf l d) (cancOf l d) (by constructor <;> dsimp only <;> omega) W (hD.below hW))
  clear hk' hD hM hkk hhop href hdead hBn bD bR b8 hq hqq
  unfold dirVal candVal at HH HR HLv HH2 HR2
  dsimp only at HH HR HLv HH2 HR2
  go_step3
  go_wp2_with (at_mapUpdate; refine wpList_put _ rfl _ _ _ _ rfl hrun ?_)
  refine HH.out.mono ?_
  rintro e w3 ⟨rfl, hb3⟩
  rw [HHp.out]
  have hb13 := hb12.trans (hb3.mono hb12.size)
  have bD3 := bD2.below hb3 bD2.lt
  have hM3 := hM2.below hb3 hM2.lt
  have bR3 := bR2.below hb3 bR2.lt
  have b83 := b82.below hb3 b82.lt
  clear hrun r1 r2 r3 zR d20 d21 d22 d23 r21 r22 zD2 zR2 HH bD2 bR2 b82 hb12 hb3
  have hb14 : Below w1.heap.size w1 (w3.alloc (.cells #[.int .u8 2, .int .i64 p, .int .i64 q, .int .i64 p2, .int .i64 q2, .int .i64 0] 45)) := hb13.alloc hb13.size _
  have bD4 := bD3.alloc (.cells #[.int .u8 2, .int .i64 p, .int .i64 q, .int .i64 p2, .int .i64 q2, .int .i64 0] 45)
  have bR4 := bR3.alloc (.cells #[.int .u8 2, .int .i64 p, .int .i64 q, .int .i64 p2, .int .i64 q2, .int .i64 0] 45)
  have b84 := b83.alloc (.cells #[.int .u8 2, .int .i64 p, .int .i64 q, .int .i64 p2, .int .i64 q2, .int .i64 0] 45)
  have hRH : w1.heap.size + 1 < w3.heap.size := bR3.lt
  have hM4 := hM3.alloc (.cells #[.int .u8 2, .int .i64 p, .int .i64 q, .int .i64 p2, .int .i64 q2, .int .i64 0] 45)
  have bH4 := Blk.new w3 45 #[.int .u8 2, .int .i64 p, .int .i64 q, .int .i64 p2, .int .i64 q2, .int .i64 0]
  unfold hopVal
  dsimp only
  go_upto_region 9 with fail
  generalize w3.alloc (.cells _ 45) = w4 at hb14 bD4 bR4 b84 bH4 hM4 ⊢
  clear bD3 bR3 b83 hb13 hM3 hM2
  have d40 := bD4.cell 0
  have d41 := bD4.cell 1
  have d42 := bD4.cell 2
  have d43 := bD4.cell 3
  have r41 := bR4.cell 1
  have r42 := bR4.cell 2
  have zD4 := bD4.lt
  have zR4 := bR4.lt
  have h40 := bH4.cell 0
  have zH4 := bH4.lt
  simp at d40 d41 d42 d43 r41 r42 h40
  have hq4 := HQ.out w4 hb14
  have HR4 := Lib.hid (HR.out w4 hb14)
  go_wp2_with (at_lookup; refine wpList_look _ rfl _ _ _ _ rfl hq4 ?_)
  refine HR4.out.mono ?_
  rintro e w5 ⟨rfl, hb5⟩
  rw [HRf.out]
  have hzz := hb14.size
  have hB5 : Below w.heap.size w w5 := (hB1.trans (hb14.mono hB1.size)).trans (hb5.mono (Nat.le_trans hB1.size hzz))
  have bD5 := bD4.below hb5 bD4.lt
  have bR5 := bR4.below hb5 bR4.lt
  have b85 := b84.below hb5 b84.lt
  have bH5 := bH4.below hb5 bH4.lt
  have hM5 := hM4.below hb5 hM4.lt
  have hb15 := hb14.trans (hb5.mono hb14.size)
  clear hb5 hb14 bD4 bR4 b84 bH4 hM4 d40 d41 d42 d43 r41 r42 zD4 zR4 h40 zH4 hq4
  have r53 := bR5.cell 3
  have h50 := bH5.cell 0
  have h51 := bH5.cell 1
  have h52 := bH5.cell 2
  have h53 := bH5.cell 3
  have h54 := bH5.cell 4
  have h55 := bH5.cell 5
  have zR5 := bR5.lt
  have hRw5 : w1.heap.size + 1 < w5.heap.size := bR5.lt
  have zH5 := bH5.lt
  have fR := bR5.frozen
  simp at r53 h50 h51 h52 h53 h54 h55
  obtain ⟨i0, hi, hz0, hz1, hz2⟩ := info_parts infoHop
  obtain ⟨v', w6, hrunA, hO, hg6, _, _⟩ := run_append_own_at (P := Tryz.prog) (w5.alloc (.cells #[.int .u8 2, .int .i64 p, .int .i64 q, .int .i64 p2, .int .i64 q2, .int .i64 0] 45)) w5.heap.size 34 34 45 i0 _ 6 48 hopsRow hi hz0 hz1 hz2 rfl (by decide) (.slice none 0 0) 0 [] (World.ownsRow_nil _ _ _ _) ⟨w5.heap.size, 0, none⟩ 1 1 [.int .u8 2, .int .i64 p, .int .i64 q, .int .i64 p2, .int .i64 q2, .int .i64 0] rfl (cells_new _ _ _) (fun u hu => by simp at hu; rcases hu with rfl | rfl | rfl | rfl | rfl | rfl <;> rfl) (by decide) (by decide) (by simp)
  have hK6 : Below w5.heap.size w5 w6 := Below.grown ((Below.refl _ w5).alloc (Nat.le_refl _) _) hg6 (by simp) (fun k h => by cases h)
  obtain ⟨g, cap, rfl, hgz, hgl, hgc⟩ : ∃ g cap, v' = .slice (some ⟨g, 0, none⟩) 1 cap ∧ w5.heap.size ≤ g ∧ g < w6.heap.size ∧ w6.cell? ⟨g, 0, none⟩ = some (.int .u8 2) := by
    rcases hO.2 with ⟨_, h⟩ | ⟨g, cap, cur, rfl, h1, h2, _⟩
    · exact absurd h (by decide)
    · exact ⟨g, cap, rfl, h1, (hO.lt g rfl).2, (hO.cellAt 0 (by decide)).trans rfl⟩
  have bD6 := bD5.below hK6 bD5.lt
  have bR6 := bR5.below hK6 bR5.lt
  have b86 := b85.below hK6 b85.lt
  have bH6 := bH5.below hK6 bH5.lt
  have hM6 := hM5.below hK6 hM5.lt
  have hb16 := hb15.trans (hK6.mono hb15.size)
  have r60 := bR6.frozen 1
  have r61 := bR6.frozen 2
  have r62 := bR6.frozen 3
  have s60 := bR6.cell 1
  have s61 := bR6.cell 2
  have s62 := bR6.cell 3
  have h63 := bH6.cell 3
  have h64 := bH6.cell 4
  have zR6 := bR6.lt
  have zH6 := bH6.lt
  simp at s60 s61 s62 h63 h64
  have hnM : w1.heap.size + 1 + 1 ≠ w1.heap.size + 1 := by omega
  clear hO hg6 fR
  go_upto_region 18 with (first | (at_builtin; refine Lib.wpList_append_run _ rfl _ _ _ _ rfl _ _ rfl rfl _ _ hrunA ?_))
  have bR9 : Blk (((w6.setCell ⟨w1.heap.size + 1, 3, none⟩ (.slice (some ⟨g, 0, none⟩) 1 cap)).setCell ⟨w1.heap.size + 1, 1, none⟩ (.int .i64 p2)).setCell ⟨w1.heap.size + 1, 2, none⟩ (.int .i64 q2)) (w1.heap.size + 1) 36 #[.int .u8 0, .int .i64 p2, .int .i64 q2, .slice (some ⟨g, 0, none⟩) 1 cap, .int .i64 0] := by
    have := ((bR6.set 3 (.slice (some ⟨g, 0, none⟩) 1 cap)).set 1 (.int .i64 p2)).set 2 (.int .i64 q2)
    simpa using this
  have hK9 : Keeps (fun i => i = w1.heap.size + 1) w6 (((w6.setCell ⟨w1.heap.size + 1, 3, none⟩ (.slice (some ⟨g, 0, none⟩) 1 cap)).setCell ⟨w1.heap.size + 1, 1, none⟩ (.int .i64 p2)).setCell ⟨w1.heap.size + 1, 2, none⟩ (.int .i64 q2)) := (((Keeps.refl (fun i => i = w1.heap.size + 1) w6).setCell (p := ⟨w1.heap.size + 1, 3, none⟩) (fun _ => rfl) _).setCell (p := ⟨w1.heap.size + 1, 1, none⟩) (fun _ => rfl) _).setCell (p := ⟨w1.heap.size + 1, 2, none⟩) (fun _ => rfl) _
  generalize ((w6.setCell ⟨w1.heap.size + 1, 3, none⟩ _).setCell ⟨w1.heap.size + 1, 1, none⟩ _).setCell ⟨w1.heap.size + 1, 2, none⟩ _ = w9 at bR9 hK9 ⊢
  have bD9 := bD6.keep hK9 (by omega)
  have b89 := b86.keep hK9 (by omega)
  have bH9 := bH6.keep hK9 (by omega)
  have hM9 : MetIs w9 (w1.heap.size + 1 + 1) 1 ((DataW.map []).put kl (.lit (.int .i64 0))) := hM6.of_block (hK9.block _ hM6.lt (by omega))
  have hb19 := hb16.trans (hK9.below (B := w1.heap.size) (fun i h1 h2 => by omega) hb16.size)
  have hg9 : w9.cell? ⟨g, 0, none⟩ = some (.int .u8 2) := (hK9.cell (b := g) hgl (by have := bR5.lt; omega)).trans hgc
  have hgl9 : g < w9.heap.size := Nat.lt_of_lt_of_le hgl hK9.size
  have hmiss := hM9.miss (zeroInt w9) HK2.out (fun zd => by rw [Maps.atKey_put_other HNE.out]; rfl)
  clear bD5 bR5 b85 bH5 hM5 hb15 hK6 bD6 bR6 b86 bH6 hM6 hb16 r60 r61 r62 s60 s61 s62 h63 h64 zR6 zH6 hrunA hK9 hgc hgl r53 h50 h51 h52 h53 h54 h55 zR5 zH5
  have h93 := bH9.cell 3
  have h94 := bH9.cell 4
  have zH9 := bH9.lt
  simp at h93 h94
  unfold candVal at hmiss
  dsimp only at hmiss
  go_wp2_with (at_lookup; refine wpList_look _ rfl _ _ _ _ rfl hmiss ?_)
  clear hmiss h93 h94 zH9 bH9
  go_step3
  refine ⟨rfl, ?_⟩
  obtain ⟨w10, hrun2, hM10, hk10⟩ := hM9.store (by unfold maxLen; omega) HK2.out 1 (by decide)
  have hb20 : Below w1.heap.size w1 w10 := hb19.trans (hk10.below (fun i hi e => by omega) hb19.size)
  have bD10 := bD9.keep hk10 (by omega)
  have bR10 := bR9.keep hk10 (by omega)
  have b810 := b89.keep hk10 (by omega)
  have hgM : g ≠ w1.heap.size + 1 + 1 := fun e => by
    subst e
    have h := hM9.1
    obtain ⟨es, ck, h1, _⟩ := h
    have h2 := hg9
    simp [World.cell?, h1] at h2
  have hg10 : w10.cell? ⟨g, 0, none⟩ = some (.int .u8 2) := (hk10.cell (b := g) hgl9 hgM).trans hg9
  have hgl10 : g < w10.heap.size := Nat.lt_of_lt_of_le hgl9 hk10.size
  have r1 := bR9.cell 1
  have r2 := bR9.cell 2
  have r3 := bR9.cell 3
  have zR := bR9.lt
  have d20 := bD10.cell 0
  have d21 := bD10.cell 1
  have d22 := bD10.cell 2
  have d23 := bD10.cell 3
  have r21 := bR10.cell 1
  have r22 := bR10.cell 2
  have zD2 := bD10.lt
  have zR2 := bR10.lt
  simp at r1 r2 r3 d20 d21 d22 d23 r21 r22
  have HHx := Lib.hid (HH2.out w10 hb20)
  unfold candVal at hrun2
  dsimp only at hrun2
  clear hk10 hM9 bD9 bR9 b89 hb19 hg9 hgl9 hgM hM10
  go_wp2_with (at_mapUpdate; refine wpList_put _ rfl _ _ _ _ rfl hrun2 ?_)
  refine HHx.out.mono ?_
  rintro e w11 ⟨rfl, hb11⟩
  rw [H2.out.2.1]
  have hb21 := hb20.trans (hb11.mono hb20.size)
  have bD11 := bD10.below hb11 bD10.lt
  have bR11 := bR10.below hb11 bR10.lt
  have b811 := b810.below hb11 b810.lt
  have hg11 := (hb11.cell (p := ⟨g, 0, none⟩) hgl10).trans hg10
  have hgl11 := Nat.lt_of_lt_of_le hgl10 hb11.size
  clear hrun2 r1 r2 r3 zR d20 d21 d22 d23 r21 r22 zD2 zR2 HHx bD10 bR10 b810 hb20 hb11 hg10 hgl10
  have hb22 : Below w1.heap.size w1 (w11.alloc (.cells #[.int .u8 0, .int .i64 p2, .int .i64 q2, .int .i64 0, .int .i64 0, .int .i64 0] 45)) := hb21.alloc hb21.size _
  have bD12 := bD11.alloc (.cells #[.int .u8 0, .int .i64 p2, .int .i64 q2, .int .i64 0, .int .i64 0, .int .i64 0] 45)
  have bR12 := bR11.alloc (.cells #[.int .u8 0, .int .i64 p2, .int .i64 q2, .int .i64 0, .int .i64 0, .int .i64 0] 45)
  have b812 := b811.alloc (.cells #[.int .u8 0, .int .i64 p2, .int .i64 q2, .int .i64 0, .int .i64 0, .int .i64 0] 45)
  have bH12 := Blk.new w11 45 #[.int .u8 0, .int .i64 p2, .int .i64 q2, .int .i64 0, .int .i64 0, .int .i64 0]
  have hnx : Below w11.heap.size w11 (w11.alloc (.cells #[.int .u8 0, .int .i64 p2, .int .i64 q2, .int .i64 0, .int .i64 0, .int .i64 0] 45)) := (Below.refl _ _).alloc (Nat.le_refl _) _
  have hg12 := (hnx.cell (p := ⟨g, 0, none⟩) hgl11).trans hg11
  have hgl12 := Nat.lt_of_lt_of_le hgl11 hnx.size
  have hRg : w1.heap.size + 1 < w11.heap.size := bR11.lt
  unfold hopVal
  dsimp only
  go_upto_region 9 with fail
  generalize w11.alloc (.cells _ 45) = w12 at hb22 bD12 bR12 b812 bH12 hg12 hgl12 hnx ⊢
  clear bD11 bR11 b811 hb21 hnx hg11 hgl11
  have d40 := bD12.cell 0
  have d41 := bD12.cell 1
  have d42 := bD12.cell 2
  have d43 := bD12.cell 3
  have r41 := bR12.cell 1
  have r42 := bR12.cell 2
  have zD4 := bD12.lt
  have zR4 := bR12.lt
  have h40 := bH12.cell 0
  have zH4 := bH12.lt
  simp at d40 d41 d42 d43 r41 r42 h40
  have hq4 := HQ2.out w12 hb22
  have HR4 := Lib.hid (HR2.out w12 hb22)
  go_wp2_with (at_lookup; refine wpList_look _ rfl _ _ _ _ rfl hq4 ?_)
  refine HR4.out.mono ?_
  rintro e w13 ⟨rfl, hb13⟩
  rw [H2.out.2.2.1]
  have hb23 := hb22.trans (hb13.mono hb22.size)
  have bD13 := bD12.below hb13 bD12.lt
  have bR13 := bR12.below hb13 bR12.lt
  have b813 := b812.below hb13 b812.lt
  have bH13 := bH12.below hb13 bH12.lt
  have hg13 := (hb13.cell (p := ⟨g, 0, none⟩) hgl12).trans hg12
  have hgl13 := Nat.lt_of_lt_of_le hgl12 hb13.size
  have HL5 := Lib.hid (HLv.out w13 hb23)
  clear hb13 hb22 bD12 bR12 b812 bH12 d40 d41 d42 d43 r41 r42 zD4 zR4 h40 zH4 hq4 HR4 hg12 hgl12
  have d40 := bD13.cell 0
  have d41 := bD13.cell 1
  have d42 := bD13.cell 2
  have d43 := bD13.cell 3
  have r41 := bR13.cell 1
  have r42 := bR13.cell 2
  have zD4 := bD13.lt
  have zR4 := bR13.lt
  have h40 := bH13.cell 0
  have zH4 := bH13.lt
  simp at d40 d41 d42 d43 r41 r42 h40
  go_wp2_with fail
  refine HL5.out.mono ?_
  rintro e w14 ⟨rfl, hb14⟩
  rw [H2.out.2.2.2]
  have hb24 := hb23.trans (hb14.mono hb23.size)
  have hBE := hB1.trans (hb24.mono hB1.size)
  have bR14 := bR13.below hb14 bR13.lt
  have b814 := b813.below hb14 b813.lt
  have hg14 := (hb14.cell (p := ⟨g, 0, none⟩) hgl13).trans hg13
  have hgl14 := Nat.lt_of_lt_of_le hgl13 hb14.size
  clear hb14 hb23 bD13 bR13 b813 bH13 d40 d41 d42 d43 r41 r42 zD4 zR4 h40 zH4 HL5 hg13 hgl13 hb24
  have hgR : g ≠ w1.heap.size + 1 := by omega
  have hg8 : g ≠ w.heap.size + 1 := by omega
  have r0 := bR14.cell 0
  have r1 := bR14.cell 1
  have r2 := bR14.cell 2
  have r3 := bR14.cell 3
  have r4 := bR14.cell 4
  have g0 := bR14.frozen 0
  have s0 := b814.cell 0
  have s1 := b814.cell 1
  have s2 := b814.cell 2
  have s3 := b814.cell 3
  have s4 := b814.cell 4
  have f0 := b814.frozen 0
  have f1 := b814.frozen 1
  have f2 := b814.frozen 2
  have f3 := b814.frozen 3
  have f4 := b814.frozen 4
  have zR := bR14.lt
  have z8 := b814.lt
  simp at r0 r1 r2 r3 r4 s0 s1 s2 s3 s4
  go_wp2
  simp only [Exit.jump]
  have hKE : Keeps (fun i => i = w1.heap.size + 1 ∨ i = w.heap.size + 1) w14 ((((((w14.setCell ⟨w1.heap.size + 1, 0, none⟩ (.int .u8 1)).setCell ⟨w.heap.size + 1, 0, none⟩ (.int .u8 1)).setCell ⟨w.heap.size + 1, 1, none⟩ (.int .i64 p2)).setCell ⟨w.heap.size + 1, 2, none⟩ (.int .i64 q2)).setCell ⟨w.heap.size + 1, 3, none⟩ (.slice (some ⟨g, 0, none⟩) 1 cap)).setCell ⟨w.heap.size + 1, 4, none⟩ (.int .i64 0)) := ((((((Keeps.refl (fun i => i = w1.heap.size + 1 ∨ i = w.heap.size + 1) w14).setCell (p := ⟨w1.heap.size + 1, 0, none⟩) (fun _ => .inl rfl) (.int .u8 1)).setCell (p := ⟨w.heap.size + 1, 0, none⟩) (fun _ => .inr rfl) (.int .u8 1)).setCell (p := ⟨w.heap.size + 1, 1, none⟩) (fun _ => .inr rfl) (.int .i64 p2)).setCell (p := ⟨w.heap.size + 1, 2, none⟩) (fun _ => .inr rfl) (.int .i64 q2)).setCell (p := ⟨w.heap.size + 1, 3, none⟩) (fun _ => .inr rfl) (.slice (some ⟨g, 0, none⟩) 1 cap)).setCell (p := ⟨w.heap.size + 1, 4, none⟩) (fun _ => .inr rfl) (.int .i64 0)
  have hBL : Blk ((((((w14.setCell ⟨w1.heap.size + 1, 0, none⟩ (.int .u8 1)).setCell ⟨w.heap.size + 1, 0, none⟩ (.int .u8 1)).setCell ⟨w.heap.size + 1, 1, none⟩ (.int .i64 p2)).setCell ⟨w.heap.size + 1, 2, none⟩ (.int .i64 q2)).setCell ⟨w.heap.size + 1, 3, none⟩ (.slice (some ⟨g, 0, none⟩) 1 cap)).setCell ⟨w.heap.size + 1, 4, none⟩ (.int .i64 0)) (w.heap.size + 1) 36 #[.int .u8 1, .int .i64 p2, .int .i64 q2, .slice (some ⟨g, 0, none⟩) 1 cap, .int .i64 0] := by
    have h := (((((b814.far (p := ⟨w1.heap.size + 1, 0, none⟩) (show w.heap.size + 1 ≠ w1.heap.size + 1 by omega) (.int .u8 1)).set 0 (.int .u8 1)).set 1 (.int .i64 p2)).set 2 (.int .i64 q2)).set 3 (.slice (some ⟨g, 0, none⟩) 1 cap)).set 4 (.int .i64 0)
    simp only [List.setIfInBounds_toArray, List.set_cons_succ, List.set_cons_zero] at h
    exact h
  generalize ((((((w14.setCell ⟨w1.heap.size + 1, 0, none⟩ (.int .u8 1)).setCell ⟨w.heap.size + 1, 0, none⟩ (.int .u8 1)).setCell ⟨w.heap.size + 1, 1, none⟩ (.int .i64 p2)).setCell ⟨w.heap.size + 1, 2, none⟩ (.int .i64 q2)).setCell ⟨w.heap.size + 1, 3, none⟩ (.slice (some ⟨g, 0, none⟩) 1 cap)).setCell ⟨w.heap.size + 1, 4, none⟩ (.int .i64 0)) = WE at hKE hBL ⊢
  refine bodyPost_ret (v := .tuple #[routeVal 1 p2 q2 (some ⟨g, 0, none⟩) 1 cap, .int .i64 0]) ((results_crt (p := 8) (u := 9) Tryz.results10 hBL rfl rowRoute sizeRoute).trans rfl) rfl ⟨g, cap, rfl, ?_, ?_, ?_⟩
  · exact (hKE.cell (b := g) hgl14 (by rintro (h | h) <;> omega)).trans hg14
  · exact Nat.lt_of_lt_of_le hgl14 hKE.size
  · exact hBE.trans (hKE.below (B := w.heap.size) (by rintro i h1 (h | h) <;> omega) hBE.size)
end Go.Proofs.YtlbehpbhmmppiaaGreatDoor
