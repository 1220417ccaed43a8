/- The contract of the reference's Changes: the days on which something of a person changes. Conditions: the list lies in memory; at most 60 entries. -/
import Derived.Test.YtmfjmoicnddkcaaGreatDoorLookA
import Derived.Test.YtmfjmoicnddkcaaGreatDoorNamesA
import Derived.Test.YtmfjmoicnddkcaaGreatDoorDwellsA
import Derived.Deep.RegionHeld3
namespace Go.Proofs.YtmfjmoicnddkcaaGreatDoor
open Go.RowKit Go.Sort

theorem look_len (l : List OEnt) (p d : Int) (h60 : l.length ≤ 60) : (lookOf l p d).1.length ≤ 60 ∧ (lookOf l p d).2.1.length ≤ 60 := by
  have h1 := (addS_all (nameE p d) (·.name) (l.map (·.1))).2.2
  have h2 := placesE_len (l.map (·.1)) p d
  have hle : (l.map (·.1)).length = l.length := List.length_map _
  unfold lookOf namesL
  dsimp only
  exact ⟨by omega, by omega⟩

set_option maxRecDepth 100000 in
set_option maxHeartbeats 4000000 in
theorem pChanges_any (A : Option Addr) (c : Nat) (l : List OEnt) (m : List NEnt) (hml : m.map (·.1) = l.map (·.1)) (h60 : l.length ≤ 60) (p : Int) (hp : intB p) (w : World) (hL : EntsLie w w.heap.size A (l.map (·.1))) :
    Calls Tryz.prog 36 #[.slice A l.length c, .int .i64 p] w fun e w' => ∃ A' c', e = .returned (.slice A' (refChangesL l p).length c') ∧ IntsAt w' A' (refChangesL l p) ∧ Below w.heap.size w w' := by
  have H1 := Lib.hid (turns_any A c l p h60 w hL)
  have h2 := fun d W (hW : Below w.heap.size w W) => on_any A c l d W (hL.up hW hW.size) (by unfold maxLen; omega)
  have h3 := fun d b1 b2 W (hD : DirIn W A l b1 b2 (deadOf l d) (cancOf l d)) => lookAt_any A c l m hml h60 p d hp b1 b2 W hD
  have h4 := fun A1 A2 B1 B2 c1 c2 e1 e2 d d' W h1 h2 k1 k2 => lookIs_any A1 A2 B1 B2 c1 c2 e1 e2 (lookOf l p d) (lookOf l p d') W h1 h2 k1 k2 ⟨(look_len l p d h60).1, (look_len l p d h60).2, (look_len l p d' h60).1, (look_len l p d' h60).2⟩
  have HC : Hid (∀ q : List Int, (q.Pairwise (· < ·) ∧ ∀ n, n ∈ q ↔ ∃ y ∈ l.map (·.1), turnB p n y = true) → q.filter (fun d => decide (lookOf l p (d - 1) ≠ lookOf l p d)) = refChangesL l p) := Lib.hid fun q h => changes_eq h
  have HR := Lib.hid (refChanges_len l p h60)
  have HT : Hid (∀ q : List Int, (q.Pairwise (· < ·) ∧ ∀ n, n ∈ q ↔ ∃ y ∈ l.map (·.1), turnB p n y = true) → ∀ x ∈ q, 0 ≤ x ∧ x ≤ 100000) := Lib.hid fun q h x hx => by
    obtain ⟨y, _, h1⟩ := (h.2 x).1 hx
    unfold turnB isDayB at h1
    simp at h1
    omega
  generalize refChangesL l p = R at *
  obtain ⟨LK, hLK⟩ : ∃ f : Int → List ByteArray × List Int × Bool × (Int × Bool) × (Int × Bool), ∀ d, lookOf l p d = f d := ⟨_, fun _ => rfl⟩
  simp only [hLK] at h3 h4 HC
  clear hLK hp hml
  unfold dirVal at h2 h3
  unfold lookVal at h3 h4
  have H2 := Lib.hid h2
  have H3 := Lib.hid h3
  have H4 := Lib.hid h4
  clear h2 h3 h4 hL
  go_enter Tryz.func36, Tryz.ntmps36
  go_wp2_with fail
  refine H1.out.mono ?_
  rintro e w1 ⟨A1, c1, all, rfl, hI1, hq, hal, hb1⟩
  have HE := Lib.hid (HC.out all hq.out)
  have HD := Lib.hid (HT.out all hq.out)
  clear H1 HC HT hq
  go_wp2_with fail
  go_loopw [5, 14] (fun v i wr => ∃ (k : Nat) (q : List Int), k ≤ all.length ∧ i = .int .i64 k ∧ OwnI wr w1.heap.size v q ∧ Hid (q = (all.take k).filter fun d => decide (LK (d - 1) ≠ LK d)) ∧ Below w1.heap.size w1 wr) (fun _ i _ => all.length - (intOf i).toNat)
  case atStart => exact ⟨0, [], Nat.zero_le _, rfl, OwnI.nil _ _, Lib.hid (by simp), Below.refl _ _⟩
  case round =>
    obtain ⟨k, q, hk, rfl, hO, HQ, hB⟩ := hrel
    by_cases hlt : k < all.length
    · obtain ⟨x, hx⟩ : ∃ x, all[k]? = some x := ⟨_, List.getElem?_eq_getElem hlt⟩
      have HS := Lib.hid (filter_next (f := fun d => decide (LK (d - 1) ≠ LK d)) hx)
      obtain ⟨g, hA1, hg, c0⟩ := (hI1.below hB (Nat.le_refl _)) k x hx
      subst hA1
      have hxb := HD.out x (List.mem_of_getElem? hx)
      have hwx : IntKind.i64.wrap (x - 1) = x - 1 := IntWalk.i64_in _ (by omega)
      clear hx hxb
      have hz1 := hb1.size
      have hBw := hb1.trans (hB.mono hb1.size)
      have K1 := Lib.hid (H2.out (x - 1) wr hBw)
      have K2 := Lib.hid (fun W (hW : Below w.heap.size w W) => H2.out x W hW)
      have K5 := Lib.hid (fun A1 A2 B1 B2 c1 c2 e1 e2 W h1 h2 k1 k2 => H4.out A1 A2 B1 B2 c1 c2 e1 e2 (x - 1) x W h1 h2 k1 k2)
      have HV : Hid (∀ bb, decide (LK (x - 1) = LK x) = bb → ((all.take (k + 1)).filter fun d => decide (LK (d - 1) ≠ LK d)) = ((all.take k).filter fun d => decide (LK (d - 1) ≠ LK d)) ++ (if bb = true then [] else [x])) := Lib.hid fun bb hb => by
        rw [HS.out]
        subst hb
        by_cases h : LK (x - 1) = LK x <;> simp [h]
      clear HS
      go_wp2_with fail
      refine K1.out.mono ?_
      rintro e w2 ⟨b1, b2, rfl, hD2, hb2⟩
      have hB2 := hB.trans (hb2.mono hB.size)
      have hBw2 := hBw.trans (hb2.mono hBw.size)
      have hO2 := hO.below hb2
      clear hb2 hB hO hBw K1
      go_wp2_with fail
      refine (K2.out _ hBw2).mono ?_
      rintro e w3 ⟨b3, b4, rfl, hD3, hb3⟩
      have hB3 := hB2.trans (hb3.mono hB2.size)
      have hBw3 := hBw2.trans (hb3.mono hBw2.size)
      have hO3 := hO2.below hb3
      have hD2' := hD2.below hb3
      clear hb3 hB2 hO2 hBw2 K2 hD2 c0
      have kD := (Blk.new w3 69 #[.slice A l.length c, .int .i64 (x - 1), .map (some b1), .map (some b2)]).alloc (.cells #[.slice A l.length c, .int .i64 x, .map (some b3), .map (some b4)] 69)
      have kE := Blk.new (w3.alloc (.cells #[.slice A l.length c, .int .i64 (x - 1), .map (some b1), .map (some b2)] 69)) 69 #[.slice A l.length c, .int .i64 x, .map (some b3), .map (some b4)]
      rw [World.size_alloc] at kE
      have hb4 : Below w3.heap.size w3 ((w3.alloc (.cells #[.slice A l.length c, .int .i64 (x - 1), .map (some b1), .map (some b2)] 69)).alloc (.cells #[.slice A l.length c, .int .i64 x, .map (some b3), .map (some b4)] 69)) := below_al (below_al (Below.refl _ _) _) _
      go_upto_region 6 with fail
      generalize (w3.alloc (.cells _ 69)).alloc (.cells _ 69) = w4 at kD kE hb4 ⊢
      generalize w3.heap.size + 1 = ge at kE ⊢
      have hB4 := hB3.trans (hb4.mono hB3.size)
      have hBw4 := hBw3.trans (hb4.mono hBw3.size)
      have hO4 := hO3.below hb4
      have hDa := hD2'.below hb4
      have hDb := hD3.below hb4
      generalize w3.heap.size = gd at kD ⊢
      clear hb4 hB3 hBw3 hO3 hD2' hD3
      have HS8 : Hid (∀ W, Below w4.heap.size w4 W → W.cell? ⟨gd, 0, none⟩ = some (.slice A l.length c) ∧ W.cell? ⟨gd, 1, none⟩ = some (.int .i64 (x - 1)) ∧ W.cell? ⟨gd, 2, none⟩ = some (.map (some b1)) ∧ W.cell? ⟨gd, 3, none⟩ = some (.map (some b2)) ∧ W.cell? ⟨ge, 0, none⟩ = some (.slice A l.length c) ∧ W.cell? ⟨ge, 1, none⟩ = some (.int .i64 x) ∧ W.cell? ⟨ge, 2, none⟩ = some (.map (some b3)) ∧ W.cell? ⟨ge, 3, none⟩ = some (.map (some b4))) := Lib.hid fun W hW => by
        have k1 := kD.below hW kD.lt
        have k2 := kE.below hW kE.lt
        exact ⟨by rw [k1.cell]; rfl, by rw [k1.cell]; rfl, by rw [k1.cell]; rfl, by rw [k1.cell]; rfl, by rw [k2.cell]; rfl, by rw [k2.cell]; rfl, by rw [k2.cell]; rfl, by rw [k2.cell]; rfl⟩
      have k3 := Lib.hid (fun y β1 β2 W (hW : Below w4.heap.size w4 W) (hD : DirIn w4 A l β1 β2 (deadOf l y) (cancOf l y)) => H3.out y β1 β2 W (hD.below hW))
      clear kD kE
      go_cut [32] (fun s wx => s = .bool (!decide (LK (x - 1) = LK x)) ∧ Below w4.heap.size w4 wx)
      case first =>
        have hBd : Below w4.heap.size w4 w4.drew := (Below.refl _ _).drew
        have d0 := HS8.out _ hBd
        clear hI1 hO4 hg HQ HV HR HE HD
        go_region_held3 (fun W => W.cell? ⟨gd, 0, none⟩ = some (.slice A l.length c) ∧ W.cell? ⟨gd, 1, none⟩ = some (.int .i64 (x - 1)) ∧ W.cell? ⟨gd, 2, none⟩ = some (.map (some b1)) ∧ W.cell? ⟨gd, 3, none⟩ = some (.map (some b2)) ∧ W.cell? ⟨ge, 0, none⟩ = some (.slice A l.length c) ∧ W.cell? ⟨ge, 1, none⟩ = some (.int .i64 x) ∧ W.cell? ⟨ge, 2, none⟩ = some (.map (some b3)) ∧ W.cell? ⟨ge, 3, none⟩ = some (.map (some b4)))
          (exact HS8.out _ (by repeat (first | (with_reducible assumption) | (with_reducible exact Below.refl _ _) | (with_reducible refine below_d1 ?_))))
          (first
            | (go_at_call 61; have hfirst := hN1; refine (k3.out _ _ _ _ (by repeat (first | (with_reducible assumption) | (with_reducible exact Below.refl _ _) | (with_reducible refine below_d1 ?_))) (by with_reducible assumption)).mono ?_; rintro e wQ ⟨Q1, q1, Q2, q2, rfl, hN2, hM2, hbQ⟩; have hBQ := below_two2 (w := w4) hbQ (by repeat (first | (with_reducible assumption) | (with_reducible exact Below.refl _ _) | (with_reducible refine below_d1 ?_))); have hJ1 := hN1.below hbQ (Nat.le_refl _); have hJ2 := hM1.below hbQ (Nat.le_refl _))
            | (go_at_call 61; refine (k3.out _ _ _ _ (by repeat (first | (with_reducible assumption) | (with_reducible exact Below.refl _ _) | (with_reducible refine below_d1 ?_))) (by with_reducible assumption)).mono ?_; rintro e wP ⟨P1, p1, P2, p2, rfl, hN1, hM1, hbP⟩; have hBP := below_two2 (w := w4) hbP (by repeat (first | (with_reducible assumption) | (with_reducible exact Below.refl _ _) | (with_reducible refine below_d1 ?_))))
            | (go_at_call 62; refine (K5.out _ _ _ _ _ _ _ _ _ hJ1 hJ2 hN2 hM2).mono ?_; rintro e wS ⟨rfl, hbS⟩; have hBS := below_two2 (w := w4) hbS (by with_reducible assumption)))
        all_goals
          go_wp2_with fail
          go_meet
          exact ⟨by first | rfl | simp, by with_reducible assumption⟩
      case rest =>
        obtain ⟨rfl, hB5⟩ := hcut
        generalize wc = w5 at hB5 ⊢
        have hB6 := hB4.trans (hB5.mono hB4.size)
        have hO5 := hO4.below hB5
        clear k3 K5 HS8 hB5 hB4 hO4 hBw4 hDa hDb
        generalize hbb : decide (LK (x - 1) = LK x) = bb
        have HS := Lib.hid (HV.out bb hbb)
        clear hbb HV
        cases bb
        · have HN : Hid (q ++ [x] = (all.take (k + 1)).filter fun d => decide (LK (d - 1) ≠ LK d)) := Lib.hid (by rw [HS.out, HQ.out]; simp)
          have hql : q.length ≤ 120 := by
            rw [HQ.out]
            have h1 := List.length_filter_le (fun d => decide (LK (d - 1) ≠ LK d)) (all.take k)
            rw [List.length_take] at h1
            omega
          obtain ⟨v', w6, hrun, hO6, hk6⟩ := append_int hO5 x hB6.size (by omega) 30
          have hown := hO5.own_lt
          obtain ⟨A3, c3, hv3⟩ := hO6.shape
          subst hv3
          obtain ⟨A4, c4, hv4⟩ := hO5.shape
          subst hv4
          have HO : Hid (OwnI w6 w1.heap.size (.slice A3 (q.length + 1) c3) (q ++ [x])) := Lib.hid (by have h := hO6; rw [List.length_append] at h; exact h)
          have HB : Hid (Below w1.heap.size w1 w6) := Lib.hid (hB6.trans (hk6.below (fun i h1 h2 => by have := (hown i h2).1; omega) hB6.size))
          rw [List.length_append] at hrun
          simp only [List.length_cons, List.length_nil] at hrun
          simp only [Nat.zero_add] at hrun
          clear hO5 hO6 hk6 HQ HS hown hql
          go_wp2_with (at_builtin; refine Lib.wpList_append_run _ rfl _ _ _ _ rfl _ _ rfl rfl _ _ hrun ?_)
          go_roundw
          case rel => exact ⟨k + 1, _, by omega, by go_num, HO.out, HN, HB.out⟩
          case measure => simp [intOf]; omega
        · have HN : Hid (q = (all.take (k + 1)).filter fun d => decide (LK (d - 1) ≠ LK d)) := Lib.hid (by rw [HS.out, HQ.out]; simp)
          go_wp2_with fail
          go_roundw
          case rel => exact ⟨k + 1, q, by omega, by go_num, hO5, HN, hB6⟩
          case measure => simp [intOf]; omega
    · obtain rfl : k = all.length := by omega
      have HN : Hid (R = q) := Lib.hid (by rw [← HE.out, HQ.out, List.take_length])
      obtain ⟨A4, c4, hv4⟩ := hO.shape
      subst hv4
      have HI : Hid (IntsAt wr A4 R) := Lib.hid (by rw [HN.out]; exact hO.at)
      have HL : Hid (q.length = R.length) := Lib.hid (by rw [HN.out])
      clear hO
      go_wp2_with fail
      go_ret
      exact ⟨A4, c4, by rw [HL.out]; rfl, HI.out, hb1.trans (hB.mono hb1.size)⟩
end Go.Proofs.YtmfjmoicnddkcaaGreatDoor
namespace Go.Proofs.YtmfjmoicnddkcaaGreatDoor
open Go.RowKit Go.Sort

set_option maxRecDepth 100000 in
set_option maxHeartbeats 4000000 in
theorem refDiffers_any (A : Option Addr) (c : Nat) (l : List OEnt) (h60 : l.length ≤ 60) (p d d' : Int) (w : World) (hL : EntsLie w w.heap.size A (l.map (·.1))) :
    Calls Tryz.prog 63 #[.slice A l.length c, .int .i64 p, .int .i64 d, .int .i64 d'] w fun e w' => e = .returned (.bool (decide (lookOf l p d ≠ lookOf l p d'))) ∧ Below w.heap.size w w' := by
  have hlm : l.length ≤ maxLen := by unfold maxLen; omega
  have hle : (l.map (·.1)).length = l.length := List.length_map _
  have hne : decide (lookOf l p d ≠ lookOf l p d') = !decide (lookOf l p d = lookOf l p d') := by simp
  rw [hne, look_ne]
  clear hne
  unfold lookOf
  dsimp only
  have J1 : ∀ d W, Below w.heap.size w W → Calls Tryz.prog 14 #[.slice A l.length c, .int .i64 p, .int .i64 d] W fun e w' => e = .returned (.bool (deadOf l d p)) ∧ Below W.heap.size W w' := fun d W hW => by
    have h := refDead_any A c (l.map (·.1)) p d W (hL.up hW hW.size) (by rw [hle]; exact hlm)
    rwa [hle, deadE_eq] at h
  have J2 : ∀ d W, Below w.heap.size w W → Calls Tryz.prog 24 #[.slice A l.length c, .int .i64 p, .int .i64 d] W fun e w' => ∃ A' c', e = .returned (.slice A' (placesE (l.map (·.1)) p d).length c') ∧ IntsAt w' A' (placesE (l.map (·.1)) p d) ∧ Below W.heap.size W w' := fun d W hW => by
    have h := refPlacesX_any A c (l.map (·.1)) p d W (hL.up hW hW.size) (by omega)
    rw [hle] at h
    exact h.mono fun _ _ ⟨v, he, hO, hB⟩ => by
      obtain ⟨A', c', rfl⟩ := hO.shape
      exact ⟨A', c', he, hO.at, hB⟩
  have J3 : ∀ d W, Below w.heap.size w W → Calls Tryz.prog 20 #[.slice A l.length c, .int .i64 p, .int .i64 d] W fun e w' => ∃ A' c', e = .returned (.slice A' (namesL (l.map (·.1)) p d).length c') ∧ BStrAt w' A' (namesL (l.map (·.1)) p d) ∧ Below W.heap.size W w' := fun d W hW => by
    have h := refNames_any A c (l.map (·.1)) p d W (hL.up hW hW.size) (by omega)
    rw [hle] at h
    exact h.mono fun _ _ ⟨v, he, hO, hB⟩ => by
      obtain ⟨A', c', rfl⟩ := hO.shape
      exact ⟨A', c', he, hO.at, hB⟩
  have J6 : ∀ d W, Below w.heap.size w W → Calls Tryz.prog 33 #[.slice A l.length c, .int .i64 p, .int .i64 d] W fun e w' => e = .returned (.tuple #[.int .i64 (homeOf (deadOf l d) l d p).1, .bool (homeOf (deadOf l d) l d p).2]) ∧ Below W.heap.size W w' := fun d W hW => by
    have h := refHome_any A c (l.map (·.1)) p d W (hL.up hW hW.size) (by rw [hle]; exact hlm)
    rwa [hle, homeE_eq] at h
  have J7 : ∀ d W, Below w.heap.size w W → Calls Tryz.prog 35 #[.slice A l.length c, .int .i64 p, .int .i64 d] W fun e w' => e = .returned (.tuple #[.int .i64 (heirOf l d p).1, .bool (heirOf l d p).2]) ∧ Below W.heap.size W w' := fun d W hW => by
    have h := refHeir_any A c (l.map (·.1)) p d W (hL.up hW hW.size) (by rw [hle]; exact hlm)
    rwa [hle, heirE_eq] at h
  have hNl : ∀ d, (namesL (l.map (·.1)) p d).length ≤ maxLen := fun d => by have := (addS_all (nameE p d) (·.name) (l.map (·.1))).2.2; unfold namesL; omega
  have hPl : ∀ d, (placesE (l.map (·.1)) p d).length ≤ maxLen := fun d => by have := placesE_len (l.map (·.1)) p d; omega
  have S2 := Lib.hid fun W A1 c1 A2 c2 h1 h2 => sameInts_any A1 A2 c1 c2 (placesE (l.map (·.1)) p d) (placesE (l.map (·.1)) p d') W h1 h2 (hPl d) (hPl d')
  have S3 := Lib.hid fun W A1 c1 A2 c2 h1 h2 => sameStrings_any A1 A2 c1 c2 (namesL (l.map (·.1)) p d) (namesL (l.map (·.1)) p d') W h1 h2 (hNl d) (hNl d')
  have a1 := J1 d
  have b1 := J1 d'
  have a2 := J2 d
  have b2 := J2 d'
  have a3 := J3 d
  have b3 := J3 d'
  have a6 := J6 d
  have b6 := J6 d'
  have a7 := J7 d
  have b7 := J7 d'
  clear J1 J2 J3 J6 J7 hNl hPl hL hlm hle h60
  generalize namesL (l.map (·.1)) p d = NL at *
  generalize namesL (l.map (·.1)) p d' = NM at *
  generalize placesE (l.map (·.1)) p d = PL at *
  generalize placesE (l.map (·.1)) p d' = PM at *
  generalize homeOf (deadOf l d) l d p = h1 at *
  generalize homeOf (deadOf l d') l d' p = h2 at *
  generalize heirOf l d p = k1 at *
  generalize heirOf l d' p = k2 at *
  generalize deadOf l d p = dd at *
  generalize deadOf l d' p = de at *
  obtain ⟨hh, hs⟩ := h1
  obtain ⟨ih, is⟩ := h2
  obtain ⟨kh, ks⟩ := k1
  obtain ⟨jh, js⟩ := k2
  dsimp only at a6 b6 a7 b7 ⊢
  generalize decide (NL = NM) = t1 at S3 ⊢
  generalize decide (PL = PM) = t2 at S2 ⊢
  replace a1 := Lib.hid a1
  replace b1 := Lib.hid b1
  replace a2 := Lib.hid a2
  replace b2 := Lib.hid b2
  replace a3 := Lib.hid a3
  replace b3 := Lib.hid b3
  replace a6 := Lib.hid a6
  replace b6 := Lib.hid b6
  replace a7 := Lib.hid a7
  replace b7 := Lib.hid b7
  have hBo := Below.refl w.heap.size w
  go_enter Tryz.func63, Tryz.ntmps63
  go_wp2_with fail
  refine (a3.out _ hBo).mono ?_
  rintro e w1 ⟨A1, c1, rfl, hI1, hb1⟩
  have hB1 := below_two2 hb1 hBo
  clear hb1 hBo
  go_wp2_with fail
  refine (b3.out _ hB1).mono ?_
  rintro e w2 ⟨A2, c2, rfl, hI2, hb2⟩
  have hB2 := below_two2 hb2 hB1
  have HSx := Lib.hid (S3.out w2 A1 c1 A2 c2 (hI1.below hb2 (Nat.le_refl _)) hI2)
  clear hI1 hI2
  clear hb2 hB1
  go_wp2_with fail
  refine (HSx.out).mono ?_
  rintro e w3 ⟨rfl, hb3⟩
  have hB3 := below_two2 hb3 hB2
  clear HSx
  clear hb3 hB2
  go_wp2_with fail
  refine (a2.out _ hB3).mono ?_
  rintro e w4 ⟨A1, c1, rfl, hI1, hb4⟩
  have hB4 := below_two2 hb4 hB3
  clear hb4 hB3
  go_wp2_with fail
  refine (b2.out _ hB4).mono ?_
  rintro e w5 ⟨A2, c2, rfl, hI2, hb5⟩
  have hB5 := below_two2 hb5 hB4
  have HSx := Lib.hid (S2.out w5 A1 c1 A2 c2 (hI1.below hb5 (Nat.le_refl _)) hI2)
  clear hI1 hI2
  clear hb5 hB4
  go_wp2_with fail
  refine (HSx.out).mono ?_
  rintro e w6 ⟨rfl, hb6⟩
  have hB6 := below_two2 hb6 hB5
  clear HSx
  clear hb6 hB5
  go_wp2_with fail
  refine (a6.out _ hB6).mono ?_
  rintro e w7 ⟨rfl, hb7⟩
  have hB7 := below_two2 hb7 hB6
  clear hb7 hB6
  go_wp2_with fail
  refine (b6.out _ hB7).mono ?_
  rintro e w8 ⟨rfl, hb8⟩
  have hB8 := below_two2 hb8 hB7
  clear hb8 hB7
  go_wp2_with fail
  refine (a7.out _ hB8).mono ?_
  rintro e w9 ⟨rfl, hb9⟩
  have hB9 := below_two2 hb9 hB8
  clear hb9 hB8
  go_wp2_with fail
  refine (b7.out _ hB9).mono ?_
  rintro e w10 ⟨rfl, hb10⟩
  have hB10 := below_two2 hb10 hB9
  clear hb10 hB9
  go_wp2_with fail
  refine (a1.out _ hB10).mono ?_
  rintro e w11 ⟨rfl, hb11⟩
  have hB11 := below_two2 hb11 hB10
  clear hb11 hB10
  go_wp2_with fail
  refine (b1.out _ hB11).mono ?_
  rintro e w12 ⟨rfl, hb12⟩
  have hB12 := below_two2 hb12 hB11
  clear hb12 hB11
  clear S2 S3 a1 b1 a2 b2 a3 b3 a6 b6 a7 b7
  cases t1
  · go_wp2_with fail
    go_ret
    exact ⟨by first | rfl | simp, hB12⟩
  cases t2
  · go_wp2_with fail
    go_ret
    exact ⟨by first | rfl | simp, hB12⟩
  by_cases e2 : hh = ih
  · by_cases e3 : hs = is
    · by_cases e4 : kh = jh
      · by_cases e5 : ks = js
        · by_cases e1 : dd = de
          · subst e1 e2 e3 e4 e5
            go_wp2_with fail
            go_ret
            exact ⟨by first | rfl | simp, hB12⟩
          · subst e2 e3 e4 e5
            go_wp2_with fail
            go_ret
            exact ⟨by first | rfl | simp [e1], hB12⟩
        · subst e2 e3 e4
          go_wp2_with fail
          go_ret
          exact ⟨by first | rfl | simp [e5], hB12⟩
      · subst e2 e3
        go_wp2_with fail
        go_ret
        exact ⟨by first | rfl | simp [e4], hB12⟩
    · subst e2
      go_wp2_with fail
      go_ret
      exact ⟨by first | rfl | simp [e3], hB12⟩
  · go_wp2_with fail
    go_ret
    exact ⟨by first | rfl | simp [e2], hB12⟩
end Go.Proofs.YtmfjmoicnddkcaaGreatDoor
namespace Go.Proofs.YtmfjmoicnddkcaaGreatDoor
open Go.RowKit Go.Sort

set_option maxRecDepth 100000 in
set_option maxHeartbeats 4000000 in
theorem refChanges_any (A : Option Addr) (c : Nat) (l : List OEnt) (h60 : l.length ≤ 60) (p : Int) (w : World) (hL : EntsLie w w.heap.size A (l.map (·.1))) :
    Calls Tryz.prog 37 #[.slice A l.length c, .int .i64 p] w fun e w' => ∃ v, e = .returned v ∧ OwnI w' w.heap.size v (refChangesL l p) ∧ Below w.heap.size w w' := by
  have h1 : ∀ (d e : Int) W, Below w.heap.size w W → _ := fun (d e : Int) W (hW : Below w.heap.size w W) => refDiffers_any A c l h60 p d e W (hL.up hW hW.size)
  have hle : (l.map (·.1)).length = l.length := List.length_map _
  have hR : Hid ((daysL (l.map (·.1))).filter (fun d => isDayB d && decide (lookOf l p (d - 1) ≠ lookOf l p d)) = refChangesL l p) := Lib.hid rfl
  have hl2 := (daysL_all (l.map (·.1))).2.2
  rw [hle] at hl2
  have hgt : ∀ k (hk : k < l.length), ∃ x, (l.map (·.1))[k]? = some x := fun k hk => ⟨_, List.getElem?_eq_getElem (by rw [hle]; exact hk)⟩
  have hlk : ∀ k, (daysL ((l.map (·.1)).take k)).length ≤ 2 * k := fun k => by
    have := (daysL_all ((l.map (·.1)).take k)).2.2
    rw [List.length_take] at this
    omega
  have hnx : ∀ k x, (l.map (·.1))[k]? = some x → daysL ((l.map (·.1)).take (k + 1)) = addI (addI (daysL ((l.map (·.1)).take k)) x.since) x.untl := fun k x hx => daysL_next hx
  have hal : daysL (l.map (·.1)) = daysL ((l.map (·.1)).take l.length) := by rw [← hle, List.take_length]
  obtain ⟨f, hf⟩ : ∃ f : Int → Bool, ∀ d, decide (lookOf l p (d - 1) ≠ lookOf l p d) = f d := ⟨_, fun _ => rfl⟩
  have hd : ∀ (d : Int) W, Below w.heap.size w W → Calls Tryz.prog 63 #[.slice A l.length c, .int .i64 p, .int .i64 (d - 1), .int .i64 d] W fun e w' => e = .returned (.bool (f d)) ∧ Below W.heap.size W w' := fun d W hW => by
    have h := h1 (d - 1) d W hW
    rwa [hf d] at h
  rw [show (fun d => isDayB d && decide (lookOf l p (d - 1) ≠ lookOf l p d)) = (fun d => isDayB d && f d) from funext fun d => by rw [hf d]] at hR
  generalize refChangesL l p = R at *
  have HD := Lib.hid hd
  have HN0 := Lib.hid hnx
  have HL0 := Lib.hid hlk
  have HG := Lib.hid hgt
  have HAL := Lib.hid hal
  have hl3 := Lib.hid hl2
  obtain ⟨DT, hDT⟩ : ∃ g : Nat → List Int, ∀ k, daysL ((l.map (·.1)).take k) = g k := ⟨_, fun _ => rfl⟩
  have HZ : Hid (DT 0 = []) := Lib.hid (by rw [← hDT]; simp [daysL])
  simp only [hDT] at HN0 HL0 HAL
  clear h1 hd hf hnx hlk hgt hal hDT hl2 hle
  go_enter Tryz.func37, Tryz.ntmps37
  go_wp2_with fail
  go_loopw [5, 6] (fun v i wr => ∃ k : Nat, k ≤ l.length ∧ i = .int .i64 k ∧ OwnI wr w.heap.size v (DT k) ∧ Below w.heap.size w wr) (fun _ i _ => l.length - (intOf i).toNat)
  case atStart => exact ⟨0, Nat.zero_le _, rfl, by rw [HZ.out]; exact OwnI.nil _ _, Below.refl _ _⟩
  case round =>
    obtain ⟨k, hk, rfl, hO, hB⟩ := hrel
    by_cases hlt : k < l.length
    · obtain ⟨x, hx⟩ := HG.out k hlt
      have HX := Lib.hid hx
      have HS := Lib.hid (HN0.out k x hx)
      have hql := HL0.out k
      obtain ⟨b, off, rfl, hb, c0, c1, c2, c3, c4, c5, c6, c7, c8, c9⟩ := (hL.below hB).at hx
      clear hx
      generalize DT k = q at hO HS hql
      obtain ⟨A2, cc, rfl⟩ := hO.shape
      have HA := Lib.hid (refAddX_any A2 cc q x.since (by omega) wr hO.at)
      clear hO
      go_wp2_with fail
      refine HA.out.mono ?_
      rintro e w3 ⟨v3, rfl, hO3, hb3⟩
      have hB3 := hB.trans (hb3.mono hB.size)
      have hO4 := hO3.mono hB.size
      clear hb3 hO3 HA c0 c1 c2 c3 c4 c5 c6 c7 c8 c9 hB
      obtain ⟨b', off', hA', hb', c0, c1, c2, c3, c4, c5, c6, c7, c8, c9⟩ := (hL.below hB3).at HX.out
      cases hA'
      have hq2 : (addI q x.since).length ≤ 2 * k + 1 := by have := addI_len q x.since; omega
      obtain ⟨A5, c5', hv5⟩ := hO4.shape
      subst hv5
      have HA := Lib.hid (refAddX_any A5 c5' (addI q x.since) x.untl (by omega) w3 hO4.at)
      clear hO4
      generalize addI q x.since = q2 at *
      go_wp2_with fail
      refine HA.out.mono ?_
      rintro e w5 ⟨v5, rfl, hO5, hb5⟩
      have hB5 := hB3.trans (hb5.mono hB3.size)
      have hO6 : OwnI w5 w.heap.size v5 (DT (k + 1)) := by rw [HS.out]; exact hO5.mono hB3.size
      clear hb5 hO5 HA c0 c1 c2 c3 c4 c5 c6 c7 c8 c9 hB3
      go_wp2_with fail
      go_roundw
      case rel => exact ⟨k + 1, by omega, by go_num, hO6, hB5⟩
      case measure => simp [intOf]; omega
    · obtain rfl : k = l.length := by omega
      rw [← HAL.out] at hO
      have hl4 := hl3.out
      clear HN0 HL0 HG HAL HZ hl3
      generalize daysL (l.map (·.1)) = all at hO hR hl4
      obtain ⟨A1, c1, rfl⟩ := hO.shape
      have hI1 := hO.at
      obtain ⟨w1, rfl⟩ : ∃ w1 : World, w1 = wr := ⟨_, rfl⟩
      have hb1 := hB
      clear hO hB
      go_wp2_with fail
      go_loopw [7, 8] (fun v i wr => ∃ (k : Nat) (q : List Int), k ≤ all.length ∧ i = .int .i64 k ∧ OwnI wr w1.heap.size v q ∧ Hid (q = (all.take k).filter fun d => isDayB d && f d) ∧ Below w1.heap.size w1 wr) (fun _ i _ => all.length - (intOf i).toNat)
      case atStart => exact ⟨0, [], Nat.zero_le _, rfl, OwnI.nil _ _, Lib.hid (by simp), Below.refl _ _⟩
      case round =>
        obtain ⟨k, q, hk, rfl, hO, HQ, hB⟩ := hrel
        by_cases hlt : k < all.length
        · obtain ⟨x, hx⟩ : ∃ x, all[k]? = some x := ⟨_, List.getElem?_eq_getElem hlt⟩
          have HS := Lib.hid (filter_next (f := fun d => isDayB d && f d) hx)
          have HX := Lib.hid hx
          obtain ⟨g, hA1, hg, c0⟩ := (hI1.below hB (Nat.le_refl _)) k x hx
          subst hA1
          clear hx
          by_cases hd : isDayB x = true
          · have hxb : 0 ≤ x ∧ x ≤ 100000 := by unfold isDayB at hd; simp at hd; omega
            have hwx : IntKind.i64.wrap (x - 1) = x - 1 := IntWalk.i64_in _ (by omega)
            have HF := Lib.hid hd
            have hn1 : ¬ x < 0 := by omega
            have hn2 : ¬ 100000 < x := by omega
            have h2 := Lib.hid (fun W (hW : Below w1.heap.size w1 W) => HD.out x W (hb1.trans (hW.mono hb1.size)))
            have HC : Hid (∀ W, Below wr.heap.size wr W → W.cell? ⟨g, k, none⟩ = some (.int .i64 x)) := Lib.hid fun W hW => (hW.cell (p := ⟨g, k, none⟩) hg).trans c0
            generalize hfx : f x = fx at h2
            have HFX := Lib.hid hfx
            clear hfx hd hxb
            go_upto_region 12 with fail
            go_cut [9] (fun s wx => s = .bool fx ∧ Below wr.heap.size wr wx)
            case first =>
              have hBd : Below wr.heap.size wr wr.drew := (Below.refl _ _).drew
              have d0 := HC.out _ hBd
              clear hI1 hO HQ HS HX HFX HF c0
              have hB' := Lib.hid hB
              have HE : Hid (∀ W, Below wr.heap.size wr W → Calls Tryz.prog 63 #[.slice A l.length c, .int .i64 p, .int .i64 (x - 1), .int .i64 x] W fun e w' => e = .returned (.bool fx) ∧ Below W.heap.size W w') := Lib.hid fun W hW => h2.out W (hB'.out.trans (hW.mono hB'.out.size))
              clear h2 hB hB'
              go_region_held3 (fun W => W.cell? ⟨g, k, none⟩ = some (.int .i64 x))
                (exact HC.out _ (by repeat (first | (with_reducible assumption) | (with_reducible exact Below.refl _ _) | (with_reducible refine below_d1 ?_))))
                (first
                  | (go_at_call 63; refine (HE.out _ (by repeat (first | (with_reducible assumption) | (with_reducible exact Below.refl _ _) | (with_reducible refine below_d1 ?_)))).mono ?_; rintro e wP ⟨rfl, hbP⟩; have hBP := below_two2 (w := wr) hbP (by repeat (first | (with_reducible assumption) | (with_reducible exact Below.refl _ _) | (with_reducible refine below_d1 ?_)))))
              all_goals
                go_wp2_with fail
                go_meet
                exact ⟨by first | rfl | simp, by with_reducible assumption⟩
            case rest =>
              obtain ⟨rfl, hB5⟩ := hcut
              generalize wc = w5 at hB5 ⊢
              have hB2 := hB.trans (hB5.mono hB.size)
              have hO2 := hO.below hB5
              have d0 := HC.out _ hB5
              clear h2 HC hB5 hB hO c0
              cases fx
              · have HN : Hid (q = (all.take (k + 1)).filter fun d => isDayB d && f d) := Lib.hid (by rw [HS.out, HF.out, HFX.out, HQ.out]; simp)
                go_wp2_with fail
                go_roundw
                case rel => exact ⟨k + 1, q, by omega, by go_num, hO2, HN, hB2⟩
                case measure => simp [intOf]; omega
              · have HN : Hid (q ++ [x] = (all.take (k + 1)).filter fun d => isDayB d && f d) := Lib.hid (by rw [HS.out, HF.out, HFX.out, HQ.out]; simp)
                have hql : q.length ≤ 120 := by
                  rw [HQ.out]
                  have h1 := List.length_filter_le (fun d => isDayB d && f d) (all.take k)
                  rw [List.length_take] at h1
                  omega
                obtain ⟨v', w6, hrun, hO6, hk6⟩ := append_int hO2 x hB2.size (by omega) 30
                have hown := hO2.own_lt
                obtain ⟨A3, c3, hv3⟩ := hO6.shape
                subst hv3
                obtain ⟨A4, c4, hv4⟩ := hO2.shape
                subst hv4
                have HO : Hid (OwnI w6 w1.heap.size (.slice A3 (q.length + 1) c3) (q ++ [x])) := Lib.hid (by have h := hO6; rw [List.length_append] at h; exact h)
                have HB : Hid (Below w1.heap.size w1 w6) := Lib.hid (hB2.trans (hk6.below (fun i h1 h2 => by have := (hown i h2).1; omega) hB2.size))
                rw [List.length_append] at hrun
                simp only [List.length_cons, List.length_nil] at hrun
                simp only [Nat.zero_add] at hrun
                clear hO2 hO6 hk6 HQ HS hown hql
                go_wp2_with (at_builtin; refine Lib.wpList_append_run _ rfl _ _ _ _ rfl _ _ rfl rfl _ _ hrun ?_)
                go_roundw
                case rel => exact ⟨k + 1, _, by omega, by go_num, HO.out, HN, HB.out⟩
                case measure => simp [intOf]; omega
          · have hF : isDayB x = false := by simpa using hd
            have HN : Hid (q = (all.take (k + 1)).filter fun d => isDayB d && f d) := Lib.hid (by rw [HS.out, hF, HQ.out]; simp)
            have hx2 : x < 0 ∨ 100000 < x := by
              unfold isDayB at hF
              simp at hF
              omega
            clear hd hF HS HQ
            by_cases hneg : x < 0
            · go_wp2_with fail
              go_roundw
              case rel => exact ⟨k + 1, q, by omega, by go_num, hO, HN, hB⟩
              case measure => simp [intOf]; omega
            · have hgr : 100000 < x := by omega
              go_wp2_with fail
              go_roundw
              case rel => exact ⟨k + 1, q, by omega, by go_num, hO, HN, hB⟩
              case measure => simp [intOf]; omega
        · obtain rfl : k = all.length := by omega
          have HN : Hid (R = q) := Lib.hid (by rw [← hR.out, HQ.out, List.take_length])
          clear HQ
          go_wp2_with fail
          go_ret
          exact ⟨_, rfl, by rw [HN.out]; exact hO.mono hb1.size, hb1.trans (hB.mono hb1.size)⟩
end Go.Proofs.YtmfjmoicnddkcaaGreatDoor
