/- PeopleDwells returns true for every list of entries, every pair and day, and leaves its arguments as they were; the package variables that it names start as the program's text lays them (the card ties them). -/
import Derived.Test.YtmfjmoicnddkcaaGreatDoorAgreeW
import Derived.Test.YtmfjmoicnddkcaaGreatDoorAddIA
import Derived.Test.YtmfjmoicnddkcaaGreatDoorRefHeA
import Derived.Test.YtmfjmoicnddkcaaGreatDoorRefDA
import Derived.Test.YtmfjmoicnddkcaaGreatDoorOpenA
namespace Go.Proofs.YtmfjmoicnddkcaaGreatDoor
open Go.ChangeShapes Go.WideShapes Go.ChangeAt Go.RowKit Go.Sort

theorem placesE_mem (L : List Ent) (n d y : Int) : y ∈ placesE L n d ↔ livE L (n, y) d = true := by
  unfold placesE livE
  by_cases h : deadE L n d = true
  · rw [if_pos h]
    simp [h]
  · rw [if_neg h, (addL_all _ _ _).2.1]
    simp [h, List.any_eq_true]
theorem lives_dwells {L : List Ent} {c : Int × Int} {d : Int} (h : livE L c d = true) : c.1 ∈ addL dwellsK (·.person) L := by
  unfold livE at h
  rw [Bool.and_eq_true, List.any_eq_true] at h
  obtain ⟨_, y, hy, h2⟩ := h
  rw [(addL_all _ _ _).2.1]
  refine ⟨y, hy, ?_⟩
  unfold dwellE at h2
  simp only [Bool.and_eq_true, beq_iff_eq] at h2
  exact ⟨by unfold dwellsK; simp [h2.1.1.1], h2.1.1.2⟩
section
variable {l : List OEnt} {d : Int} {r : List (Int × Int)}
theorem places_eq {n : Int} (h : LiveR l d (wantP n) r) : r.map (·.2) = placesE (l.map (·.1)) n d := by
  have hn : ∀ x ∈ r, x.1 = n := fun x hx => by
    have := (live_lives.1 ((h.2 x).1 hx)).1
    simpa [wantP] using this
  refine sorted_eq (lt := (· < ·)) (fun x => by omega) (fun x y => by omega) ?_ ?_ (fun y => ?_)
  · rw [List.pairwise_map]
    exact h.1.imp_of_mem (fun {a b} ha hb hab => by
      have h1 := hn a ha
      have h2 := hn b hb
      unfold ltC at hab
      omega)
  · unfold placesE
    split
    · exact List.Pairwise.nil
    · exact (addL_all _ _ _).1
  · rw [placesE_mem, livE_eq, List.mem_map]
    constructor
    · rintro ⟨x, hx, rfl⟩
      have h1 := (live_lives.1 ((h.2 x).1 hx)).2
      rw [← hn x hx]
      exact h1
    · intro h1
      exact ⟨(n, y), (h.2 _).2 (live_lives.2 ⟨by simp [wantP], h1⟩), rfl⟩
theorem dwellers_eq {n : Int} (h : LiveR l d (wantD n) r) : r.map (·.1) = (addL dwellsK (·.person) (l.map (·.1))).filter fun y => livE (l.map (·.1)) (y, n) d := by
  have hn : ∀ x ∈ r, x.2 = n := fun x hx => by
    have := (live_lives.1 ((h.2 x).1 hx)).1
    simpa [wantD] using this
  refine sorted_eq (lt := (· < ·)) (fun x => by omega) (fun x y => by omega) ?_ ?_ (fun y => ?_)
  · rw [List.pairwise_map]
    exact h.1.imp_of_mem (fun {a b} ha hb hab => by
      have h1 := hn a ha
      have h2 := hn b hb
      unfold ltC at hab
      omega)
  · exact (addL_all _ _ _).1.filter _
  · rw [List.mem_filter, livE_eq, List.mem_map]
    constructor
    · rintro ⟨x, hx, rfl⟩
      have h1 := (live_lives.1 ((h.2 x).1 hx)).2
      have h2 : (x.1, n) = x := by rw [← hn x hx]
      rw [h2]
      exact ⟨lives_dwells (c := x) (d := d) (by rw [livE_eq]; exact h1), h1⟩
    · rintro ⟨_, h1⟩
      exact ⟨(y, n), (h.2 _).2 (live_lives.2 ⟨by simp [wantD], h1⟩), rfl⟩
theorem pairsE_sorted (L : List Ent) (q : List Int) (hq : q.Pairwise (· < ·)) : (pairsE L d q).Pairwise ltC := by
  unfold pairsE
  rw [List.pairwise_flatMap]
  refine ⟨fun n _ => ?_, hq.imp (fun {a b} hab x hx y hy => ?_)⟩
  · rw [List.pairwise_map]
    refine List.Pairwise.imp (R := (· < ·)) (fun {a b} hab => .inr ⟨rfl, hab⟩) ?_
    unfold placesE
    split
    · exact List.Pairwise.nil
    · exact (addL_all _ _ _).1
  · obtain ⟨_, _, rfl⟩ := List.mem_map.1 hx
    obtain ⟨_, _, rfl⟩ := List.mem_map.1 hy
    exact .inl hab
theorem pairsE_mem (L : List Ent) (q : List Int) (x : Int × Int) : x ∈ pairsE L d q ↔ x.1 ∈ q ∧ livE L x d = true := by
  unfold pairsE
  rw [List.mem_flatMap]
  constructor
  · rintro ⟨n, hn, hx⟩
    obtain ⟨p, hp, rfl⟩ := List.mem_map.1 hx
    exact ⟨hn, (placesE_mem L n d p).1 hp⟩
  · rintro ⟨h1, h2⟩
    exact ⟨x.1, h1, List.mem_map.2 ⟨x.2, (placesE_mem L x.1 d x.2).2 h2, rfl⟩⟩
theorem ltC_irr (x : Int × Int) : ¬ ltC x x := by unfold ltC; omega
theorem ltC_as (x y : Int × Int) (h : ltC x y) : ¬ ltC y x := by unfold ltC at *; omega
theorem pairs_eq (h : LiveR l d wantA r) : r = pairsE (l.map (·.1)) d (addL dwellsK (·.person) (l.map (·.1))) := by
  refine sorted_eq ltC_irr ltC_as h.1 (pairsE_sorted _ _ (addL_all _ _ _).1) (fun x => ?_)
  rw [h.2 x, live_lives, pairsE_mem, livE_eq]
  constructor
  · rintro ⟨_, h1⟩
    exact ⟨lives_dwells (c := x) (d := d) (by rw [livE_eq]; exact h1), h1⟩
  · rintro ⟨_, h1⟩
    exact ⟨rfl, h1⟩
theorem pairsE_len (h60 : l.length ≤ 60) : (pairsE (l.map (·.1)) d (addL dwellsK (·.person) (l.map (·.1)))).length ≤ 60 := by
  have hs := pairsE_sorted (d := d) (l.map (·.1)) _ (addL_all dwellsK (·.person) (l.map (·.1))).1
  have h1 := nodup_len (m := liveM (deadOf l d) wantA (flt l 2 d)) (hs.imp (fun {a b} hab e => by subst e; exact ltC_irr _ hab)) (fun x hx => by
    have h2 := ((pairsE_mem _ _ x).1 hx).2
    rw [livE_eq] at h2
    exact live_lives.2 ⟨rfl, h2⟩)
  have h2 := live_len (deadOf l d) wantA (flt l 2 d)
  have h3 : (flt l 2 d).length ≤ l.length := List.length_filter_le _ _
  omega
end
set_option maxRecDepth 100000 in
set_option maxHeartbeats 8000000 in
theorem dwells_walk (A : Option Addr) (c : Nat) (l : List OEnt) (cp : Int × Int) (d : Int) (hc : intB cp.1 ∧ intB cp.2) (w : World) (hL : EntsLie w w.heap.size A (l.map (·.1))) (hm : MaxAt w) :
    Calls Tryz.prog 4 #[.slice A l.length c, candVal cp, .int .i64 d] w fun e w' => e = .returned (.bool true) ∧ Below w.heap.size w w' := by
  have H0 := Lib.hid fun W => refFew_any A l.length c W
  have H3 : Hid (∀ W, Below w.heap.size w W → _) := Lib.hid fun W (hW : Below w.heap.size w W) => alive_any W (hm.below hm.lt hW)
  have hB0 : Below w.heap.size w (w.alloc (.cells #[.int .i64 cp.1, .int .i64 cp.2] 38)) := below_al (Below.refl _ _) _
  have kC := Blk.new w 38 #[.int .i64 cp.1, .int .i64 cp.2]
  by_cases h60 : l.length ≤ 60
  rotate_left
  · have HI : Hid (decide ((l.length : Int) ≤ 60) = false) := Lib.hid (decide_eq_false (by omega))
    clear hL hm kC hc
    obtain ⟨p, q⟩ := cp
    unfold candVal
    go_enter Tryz.func4, Tryz.ntmps4
    go_wp2_with fail
    refine (H0.out _).mono ?_
    rintro e w0 ⟨rfl, rfl⟩
    rw [HI.out]
    generalize w.alloc (.cells _ 38) = w0 at hB0 ⊢
    go_wp2_with fail
    refine (H3.out _ hB0).mono ?_
    rintro e w1 ⟨rfl, hb1⟩
    go_wp2_with fail
    go_ret
    exact ⟨rfl, hB0.trans (hb1.mono hB0.size)⟩
  · have HI : Hid (decide ((l.length : Int) ≤ 60) = true) := Lib.hid (decide_eq_true (by omega))
    have hlm : l.length ≤ maxLen := by unfold maxLen; omega
    have hle : (l.map (·.1)).length = l.length := List.length_map _
    obtain ⟨p, q⟩ := cp
    obtain ⟨PL, hPL⟩ : ∃ x, placesE (l.map (·.1)) p d = x := ⟨_, rfl⟩
    obtain ⟨DL, hDL⟩ : ∃ x, ((addL dwellsK (·.person) (l.map (·.1))).filter fun y => livE (l.map (·.1)) (y, q) d) = x := ⟨_, rfl⟩
    obtain ⟨RL, hRL⟩ : ∃ x, pairsE (l.map (·.1)) d (addL dwellsK (·.person) (l.map (·.1))) = x := ⟨_, rfl⟩
    have hRl : RL.length ≤ 60 := by rw [← hRL]; exact pairsE_len h60
    have K1 : ∀ W, Below w.heap.size w W → Calls Tryz.prog 25 #[.slice A l.length c, candVal (p, q), .int .i64 d] W fun e w' => e = .returned (.bool (livesOf (deadOf l d) l d (p, q))) ∧ Below W.heap.size W w' := fun W hW => pLives_any A c l (p, q) d hc W (hL.up hW hW.size) hlm
    have J1 : ∀ W, Below w.heap.size w W → Calls Tryz.prog 26 #[.slice A l.length c, candVal (p, q), .int .i64 d] W fun e w' => e = .returned (.bool (livesOf (deadOf l d) l d (p, q))) ∧ Below W.heap.size W w' := fun W hW => by
      have h := refLives_any A c (l.map (·.1)) (p, q) d W (hL.up hW hW.size) (by omega)
      rwa [hle, livE_eq] at h
    have K2 : ∀ W, Below w.heap.size w W → Calls Tryz.prog 23 #[.slice A l.length c, .int .i64 p, .int .i64 d] W fun e w' => ∃ A' c', e = .returned (.slice A' PL.length c') ∧ IntsAt w' A' PL ∧ Below W.heap.size W w' := fun W hW =>
      (pPlaces_any A c l h60 p d W (hL.up hW hW.size)).mono fun _ _ ⟨A', c', r, he, hI, hr, _, hB⟩ => by
        have h1 := (places_eq hr.out).trans hPL
        rw [h1] at hI
        exact ⟨A', c', by rw [he, ← h1, List.length_map], hI, hB⟩
    have J2 : ∀ W, Below w.heap.size w W → Calls Tryz.prog 24 #[.slice A l.length c, .int .i64 p, .int .i64 d] W fun e w' => ∃ A' c', e = .returned (.slice A' PL.length c') ∧ IntsAt w' A' PL ∧ Below W.heap.size W w' := fun W hW => by
      have h := refPlacesX_any A c (l.map (·.1)) p d W (hL.up hW hW.size) (by omega)
      rw [hle, hPL] at h
      exact h.mono fun _ _ ⟨v, he, hO, hB⟩ => by
        obtain ⟨A', c', rfl⟩ := hO.shape
        exact ⟨A', c', he, hO.at, hB⟩
    have K3 : ∀ W, Below w.heap.size w W → Calls Tryz.prog 27 #[.slice A l.length c, .int .i64 q, .int .i64 d] W fun e w' => ∃ A' c', e = .returned (.slice A' DL.length c') ∧ IntsAt w' A' DL ∧ Below W.heap.size W w' := fun W hW =>
      (pDwellers_any A c l h60 q d W (hL.up hW hW.size)).mono fun _ _ ⟨A', c', r, he, hI, hr, _, hB⟩ => by
        have h1 := (dwellers_eq hr.out).trans hDL
        rw [h1] at hI
        exact ⟨A', c', by rw [he, ← h1, List.length_map], hI, hB⟩
    have J3 : ∀ W, Below w.heap.size w W → Calls Tryz.prog 28 #[.slice A l.length c, .int .i64 q, .int .i64 d] W fun e w' => ∃ A' c', e = .returned (.slice A' DL.length c') ∧ IntsAt w' A' DL ∧ Below W.heap.size W w' := fun W hW => by
      have h := refDwellers_any A c (l.map (·.1)) q d W (hL.up hW hW.size) (by omega)
      rw [hle, hDL] at h
      exact h.mono fun _ _ ⟨v, he, hO, hB⟩ => by
        obtain ⟨A', c', rfl⟩ := hO.shape
        exact ⟨A', c', he, hO.at, hB⟩
    have K4 : ∀ W, Below w.heap.size w W → Calls Tryz.prog 30 #[.slice A l.length c, .int .i64 d] W fun e w' => ∃ A' c', e = .returned (.slice A' RL.length c') ∧ PairsAt w' A' RL ∧ Below W.heap.size W w' := fun W hW =>
      (pPairs_any A c l h60 d W (hL.up hW hW.size)).mono fun _ _ ⟨A', c', r, he, hI, hr, _, hB⟩ => by
        have h1 := (pairs_eq hr.out).trans hRL
        subst h1
        exact ⟨A', c', he, hI, hB⟩
    have J4 : ∀ W, Below w.heap.size w W → Calls Tryz.prog 31 #[.slice A l.length c, .int .i64 d] W fun e w' => ∃ A' c', e = .returned (.slice A' RL.length c') ∧ PairsAt w' A' RL ∧ Below W.heap.size W w' := fun W hW => by
      have h := refPairs_any A c (l.map (·.1)) d W (hL.up hW hW.size) (by omega) (by rw [hRL]; exact hRl)
      rw [hle, hRL] at h
      exact h
    have K6 : ∀ W, Below w.heap.size w W → Calls Tryz.prog 32 #[.slice A l.length c, .int .i64 p, .int .i64 d] W fun e w' => e = .returned (.tuple #[.int .i64 (homeOf (deadOf l d) l d p).1, .bool (homeOf (deadOf l d) l d p).2]) ∧ Below W.heap.size W w' := fun W hW => pHome_any A c l p d hc.1 W (hL.up hW hW.size) hlm
    have J6 : ∀ W, Below w.heap.size w W → Calls Tryz.prog 33 #[.slice A l.length c, .int .i64 p, .int .i64 d] W fun e w' => e = .returned (.tuple #[.int .i64 (homeOf (deadOf l d) l d p).1, .bool (homeOf (deadOf l d) l d p).2]) ∧ Below W.heap.size W w' := fun W hW => by
      have h := refHome_any A c (l.map (·.1)) p d W (hL.up hW hW.size) (by rw [hle]; exact hlm)
      rwa [hle, homeE_eq] at h
    have K7 : ∀ W, Below w.heap.size w W → Calls Tryz.prog 34 #[.slice A l.length c, .int .i64 p, .int .i64 d] W fun e w' => e = .returned (.tuple #[.int .i64 (heirOf l d p).1, .bool (heirOf l d p).2]) ∧ Below W.heap.size W w' := fun W hW => pHeir_any A c l p d W (hL.up hW hW.size) hlm
    have J7 : ∀ W, Below w.heap.size w W → Calls Tryz.prog 35 #[.slice A l.length c, .int .i64 p, .int .i64 d] W fun e w' => e = .returned (.tuple #[.int .i64 (heirOf l d p).1, .bool (heirOf l d p).2]) ∧ Below W.heap.size W w' := fun W hW => by
      have h := refHeir_any A c (l.map (·.1)) p d W (hL.up hW hW.size) (by rw [hle]; exact hlm)
      rwa [hle, heirE_eq] at h
    have hPl : PL.length ≤ 60 := by rw [← hPL]; have := placesE_len (l.map (·.1)) p d; omega
    have hDl : DL.length ≤ 60 := by
      rw [← hDL]
      have h1 := List.length_filter_le (fun y => livE (l.map (·.1)) (y, q) d) (addL dwellsK (·.person) (l.map (·.1)))
      have h2 := (addL_all dwellsK (·.person) (l.map (·.1))).2.2
      omega
    have S2 := fun W A1 c1 A2 c2 h1 h2 => sameInts_eq A1 A2 c1 c2 PL (by omega) W h1 h2
    have S3 := fun W A1 c1 A2 c2 h1 h2 => sameInts_eq A1 A2 c1 c2 DL (by omega) W h1 h2
    have S4 := fun W A1 c1 A2 c2 h1 h2 => samePairs_eq A1 A2 c1 c2 RL (by omega) W h1 h2
    clear hPL hDL hRL hPl hDl hRl
    dsimp only at hB0 kC
    generalize homeOf (deadOf l d) l d p = home at *
    generalize livesOf (deadOf l d) l d (p, q) = lv at *
    generalize heirOf l d p = heir at *
    obtain ⟨hh, hs⟩ := home
    obtain ⟨kh, ks⟩ := heir
    unfold candVal at *
    dsimp only at K1 J1 K6 J6 K7 J7 ⊢
    replace K1 := Lib.hid K1
    replace J1 := Lib.hid J1
    replace K2 := Lib.hid K2
    replace J2 := Lib.hid J2
    replace K3 := Lib.hid K3
    replace J3 := Lib.hid J3
    replace K4 := Lib.hid K4
    replace J4 := Lib.hid J4
    replace K6 := Lib.hid K6
    replace J6 := Lib.hid J6
    replace K7 := Lib.hid K7
    replace J7 := Lib.hid J7
    replace S2 := Lib.hid S2
    replace S3 := Lib.hid S3
    replace S4 := Lib.hid S4
    clear hL hm hc hlm h60 hle
    go_enter Tryz.func4, Tryz.ntmps4
    go_wp2_with fail
    refine (H0.out _).mono ?_
    rintro e w0 ⟨rfl, rfl⟩
    rw [HI.out]
    clear HI H0
    generalize w.alloc (.cells _ 38) = w0 at hB0 kC ⊢
    have e0 := kC.cell 0
    have e1 := kC.cell 1
    have zC := kC.lt
    simp at e0 e1
    have k1 := Lib.hid (fun W (hW : Below w0.heap.size w0 W) => K1.out W (hB0.trans (hW.mono hB0.size)))
    have j1 := Lib.hid (fun W (hW : Below w0.heap.size w0 W) => J1.out W (hB0.trans (hW.mono hB0.size)))
    have k2 := Lib.hid (fun W (hW : Below w0.heap.size w0 W) => K2.out W (hB0.trans (hW.mono hB0.size)))
    have j2 := Lib.hid (fun W (hW : Below w0.heap.size w0 W) => J2.out W (hB0.trans (hW.mono hB0.size)))
    clear K1 J1 K2 J2
    go_upto_region 3 with fail
    go_cut [41] (fun s wx => s = .bool false ∧ Below w0.heap.size w0 wx)
    case first =>
      have hBd : Below w0.heap.size w0 w0.drew := (Below.refl _ _).drew
      have d0 : w0.drew.cell? ⟨w.heap.size, 0, none⟩ = some (.int .i64 p) := e0
      have d1 : w0.drew.cell? ⟨w.heap.size, 1, none⟩ = some (.int .i64 q) := e1
      go_region_held3 (fun w' => w'.cell? ⟨w.heap.size, 0, none⟩ = some (.int .i64 p) ∧ w'.cell? ⟨w.heap.size, 1, none⟩ = some (.int .i64 q)) (first | exact ⟨d0, d1⟩ | (refine ⟨?_, ?_⟩ <;> with_reducible assumption))
        (first
          | (go_at_call 23; refine (k2.out _ (by with_reducible assumption)).mono ?_; rintro e wP ⟨AP, cP, rfl, hIP, hbP⟩; have hBP := below_two2 (w := w0) hbP (by with_reducible assumption); have dP0 := (hBP.cell (p := ⟨w.heap.size, 0, none⟩) zC).trans e0; have dP1 := (hBP.cell (p := ⟨w.heap.size, 1, none⟩) zC).trans e1; try have hJR := IntsAt.below hIR hbP (Nat.le_refl _))
          | (go_at_call 24; refine (j2.out _ (by with_reducible assumption)).mono ?_; rintro e wR ⟨AR, cR, rfl, hIR, hbR⟩; have hBR := below_two2 (w := w0) hbR (by with_reducible assumption); have dR0 := (hBR.cell (p := ⟨w.heap.size, 0, none⟩) zC).trans e0; have dR1 := (hBR.cell (p := ⟨w.heap.size, 1, none⟩) zC).trans e1; try have hJP := IntsAt.below hIP hbR (Nat.le_refl _))
          | (go_at_call 25; refine (k1.out _ (by with_reducible assumption)).mono ?_; rintro e wL ⟨rfl, hbL⟩; have hBL := below_two2 (w := w0) hbL (by with_reducible assumption); have dL0 := (hBL.cell (p := ⟨w.heap.size, 0, none⟩) zC).trans e0; have dL1 := (hBL.cell (p := ⟨w.heap.size, 1, none⟩) zC).trans e1)
          | (go_at_call 26; refine (j1.out _ (by with_reducible assumption)).mono ?_; rintro e wM ⟨rfl, hbM⟩; have hBM := below_two2 (w := w0) hbM (by with_reducible assumption); have dM0 := (hBM.cell (p := ⟨w.heap.size, 0, none⟩) zC).trans e0; have dM1 := (hBM.cell (p := ⟨w.heap.size, 1, none⟩) zC).trans e1)
          | (go_at_call 15; refine (S2.out _ _ _ _ _ (by with_reducible assumption) (by with_reducible assumption)).mono ?_; rintro e wS ⟨rfl, hbS⟩; have hBS := below_two2 (w := w0) hbS (by with_reducible assumption); have dS0 := (hBS.cell (p := ⟨w.heap.size, 0, none⟩) zC).trans e0; have dS1 := (hBS.cell (p := ⟨w.heap.size, 1, none⟩) zC).trans e1))
      all_goals
        go_wp2_with fail
        go_meet
        exact ⟨by first | rfl | simp, by with_reducible assumption⟩
    case rest =>
      obtain ⟨rfl, hB1⟩ := hcut
      generalize wc = w1 at hB1 ⊢
      have hBw := hB0.trans (hB1.mono hB0.size)
      replace kC := Blk.below kC hB1 (Blk.lt kC)
      clear e0 e1 zC hB1 hB0 k1 j1 k2 j2 S2
      have f0 := Blk.cell kC 0
      have f1 := Blk.cell kC 1
      have zD := Blk.lt kC
      simp at f0 f1
      have k3 := Lib.hid (fun W (hW : Below w1.heap.size w1 W) => K3.out W (hBw.trans (hW.mono hBw.size)))
      have j3 := Lib.hid (fun W (hW : Below w1.heap.size w1 W) => J3.out W (hBw.trans (hW.mono hBw.size)))
      have k4 := Lib.hid (fun W (hW : Below w1.heap.size w1 W) => K4.out W (hBw.trans (hW.mono hBw.size)))
      have j4 := Lib.hid (fun W (hW : Below w1.heap.size w1 W) => J4.out W (hBw.trans (hW.mono hBw.size)))
      clear K3 J3 K4 J4
      go_upto_region 5 with fail
      go_cut [63] (fun s wx => s = .bool false ∧ Below w1.heap.size w1 wx)
      case first =>
        have hBd : Below w1.heap.size w1 w1.drew := (Below.refl _ _).drew
        have d0 : w1.drew.cell? ⟨w.heap.size, 0, none⟩ = some (.int .i64 p) := f0
        have d1 : w1.drew.cell? ⟨w.heap.size, 1, none⟩ = some (.int .i64 q) := f1
        go_region_held3 (fun w' => w'.cell? ⟨w.heap.size, 0, none⟩ = some (.int .i64 p) ∧ w'.cell? ⟨w.heap.size, 1, none⟩ = some (.int .i64 q)) (first | exact ⟨d0, d1⟩ | (refine ⟨?_, ?_⟩ <;> with_reducible assumption))
          (first
            | (go_at_call 27; refine (k3.out _ (by with_reducible assumption)).mono ?_; rintro e wP ⟨AP, cP, rfl, hIP, hbP⟩; have hBP := below_two2 (w := w1) hbP (by with_reducible assumption); have dP0 := (hBP.cell (p := ⟨w.heap.size, 0, none⟩) zD).trans f0; have dP1 := (hBP.cell (p := ⟨w.heap.size, 1, none⟩) zD).trans f1; try have hJR := IntsAt.below hIR hbP (Nat.le_refl _))
            | (go_at_call 28; refine (j3.out _ (by with_reducible assumption)).mono ?_; rintro e wR ⟨AR, cR, rfl, hIR, hbR⟩; have hBR := below_two2 (w := w1) hbR (by with_reducible assumption); have dR0 := (hBR.cell (p := ⟨w.heap.size, 0, none⟩) zD).trans f0; have dR1 := (hBR.cell (p := ⟨w.heap.size, 1, none⟩) zD).trans f1; try have hJP := IntsAt.below hIP hbR (Nat.le_refl _))
            | (go_at_call 15; refine (S3.out _ _ _ _ _ (by with_reducible assumption) (by with_reducible assumption)).mono ?_; rintro e wS ⟨rfl, hbS⟩; have hBS := below_two2 (w := w1) hbS (by with_reducible assumption); have dS0 := (hBS.cell (p := ⟨w.heap.size, 0, none⟩) zD).trans f0; have dS1 := (hBS.cell (p := ⟨w.heap.size, 1, none⟩) zD).trans f1)
            | (go_at_call 30; refine (k4.out _ (by with_reducible assumption)).mono ?_; rintro e wU ⟨AU, cU, rfl, hIU, hbU⟩; have hBU := below_two2 (w := w1) hbU (by with_reducible assumption); have dU0 := (hBU.cell (p := ⟨w.heap.size, 0, none⟩) zD).trans f0; have dU1 := (hBU.cell (p := ⟨w.heap.size, 1, none⟩) zD).trans f1; try have hJV := PairsAt.below hIV hbU)
            | (go_at_call 31; refine (j4.out _ (by with_reducible assumption)).mono ?_; rintro e wV ⟨AV, cV, rfl, hIV, hbV⟩; have hBV := below_two2 (w := w1) hbV (by with_reducible assumption); have dV0 := (hBV.cell (p := ⟨w.heap.size, 0, none⟩) zD).trans f0; have dV1 := (hBV.cell (p := ⟨w.heap.size, 1, none⟩) zD).trans f1; try have hJU := PairsAt.below hIU hbV)
            | (go_at_call 29; refine (S4.out _ _ _ _ _ (by with_reducible assumption) (by with_reducible assumption)).mono ?_; rintro e wT ⟨rfl, hbT⟩; have hBT := below_two2 (w := w1) hbT (by with_reducible assumption); have dT0 := (hBT.cell (p := ⟨w.heap.size, 0, none⟩) zD).trans f0; have dT1 := (hBT.cell (p := ⟨w.heap.size, 1, none⟩) zD).trans f1))
        all_goals
          go_wp2_with fail
          go_meet
          exact ⟨by first | rfl | simp, by with_reducible assumption⟩
      case rest =>
        obtain ⟨rfl, hB2⟩ := hcut
        generalize wc = w2 at hB2 ⊢
        have hB3 := hBw.trans (hB2.mono hBw.size)
        replace kC := Blk.below kC hB2 (Blk.lt kC)
        clear f0 f1 zD hB2 hBw k3 j3 k4 j4 S3 S4
        have e0 := Blk.cell kC 0
        have zC := Blk.lt kC
        simp at e0
        go_wp2_with fail
        refine (K6.out _ hB3).mono ?_
        rintro e w3 ⟨rfl, hb3⟩
        have hB4 := hB3.trans (hb3.mono hB3.size)
        replace kC := Blk.below kC hb3 (Blk.lt kC)
        clear hb3 hB3 e0 zC
        have e0 := Blk.cell kC 0
        have zC := Blk.lt kC
        simp at e0
        go_wp2_with fail
        refine (J6.out _ hB4).mono ?_
        rintro e w4 ⟨rfl, hb4⟩
        have hB5 := hB4.trans (hb4.mono hB4.size)
        replace kC := Blk.below kC hb4 (Blk.lt kC)
        clear hb4 hB4 e0 zC
        have e0 := Blk.cell kC 0
        have zC := Blk.lt kC
        simp at e0
        go_wp2_with fail
        refine (K7.out _ hB5).mono ?_
        rintro e w5 ⟨rfl, hb5⟩
        have hB6 := hB5.trans (hb5.mono hB5.size)
        replace kC := Blk.below kC hb5 (Blk.lt kC)
        clear hb5 hB5 e0 zC
        have e0 := Blk.cell kC 0
        have zC := Blk.lt kC
        simp at e0
        go_wp2_with fail
        refine (J7.out _ hB6).mono ?_
        rintro e w6 ⟨rfl, hb6⟩
        have hB7 := hB6.trans (hb6.mono hB6.size)
        clear hb6 hB6 e0 zC
        go_wp2_with fail
        refine (H3.out _ hB7).mono ?_
        rintro e w7 ⟨rfl, hb7⟩
        go_wp2_with fail
        go_ret
        exact ⟨by first | rfl | simp, hB7.trans (hb7.mono hB7.size)⟩
end Go.Proofs.YtmfjmoicnddkcaaGreatDoor
namespace Go.Proofs.YtmfjmoicnddkcaaGreatDoor
open Go.ChangeShapes Go.WideShapes Go.ChangeAt Go.RowKit

set_option maxRecDepth 100000 in
theorem dwells_contract (H : Type) (enc : TypeId × Value → H) (W : World) (base : Nat) (args : Array Value) (ds gs : List (DataW H)) (before : List MemPlace)
    (hval : ∀ (j : Nat) t v, Tryz.f4.params[j]? = some t → args[j]? = some v → Value.okWide Tryz.prog W .any base t v)
    (hW : DataW.Whole enc Tryz.prog Tryz.f4.params.toList Rows.peopleDwellsSpec.vars false W args.toList ds gs before)
    (hsh : W.ShapedOpen Tryz.prog) :
    Calls Tryz.prog 4 args W fun e W' => ∃ v, e = .returned v ∧ Rows.peopleDwellsSpec.post enc Tryz.prog Tryz.f4 false true false false W args v W' := by
  have hW' := hW
  have hlt : ∀ p ∈ before, p.block < W.heap.size := fun p hp => hW.lt p hp
  obtain ⟨p, q, hA, hV, rfl, hfz, hnd⟩ := hW
  have hA0 : DataW.TrodAll enc Tryz.prog W 0 (fun _ => true) true [22, 38, 3] args.toList ds p := hA
  obtain ⟨v0, vs0, d0, ds0, p0, q0, hargs, rfl, rfl, h0, r0⟩ := trodAll_cons hA0
  obtain ⟨v1, vs1, d1, ds1, p1, q1, rfl, rfl, rfl, h1, r1⟩ := trodAll_cons r0
  obtain ⟨v2, vs2, d2, ds2, p2, q2, rfl, rfl, rfl, h2, r2⟩ := trodAll_cons r1
  obtain ⟨rfl, rfl, rfl⟩ := trodAll_nil r2
  obtain rfl : args = #[v0, v1, v2] := by cases args; simp_all
  obtain ⟨rfl, rfl⟩ := trodVars_none hV
  have hsl := slice_of_ok (hval 0 22 v0 rfl rfl)
  obtain ⟨A, c, l, rfl, hlc, hcm, hL, hgo, hd⟩ := open_ents (fun x hx => hlt x (by simp [hx])) h0 hsl
  obtain ⟨cp, rfl, hcp, hcq⟩ := cand_of_ok (hval 1 38 v1 rfl rfl) h1
  obtain ⟨d, rfl, rfl, rfl, hwd⟩ := open_int Tryz.underlying3 (hval 2 3 v2 rfl rfl) h2
  obtain ⟨m, rfl⟩ := to_oents l hgo
  have hlm : (m.map (·.1)).length = m.length := List.length_map _
  have hw := dwells_walk A c m cp d ⟨hcp, hcq⟩ W hL (laysCut.s1_3 W hsh)
  rw [← hlm] at hw
  refine hw.mono fun e W' ⟨he, hb⟩ => ?_
  subst he
  exact law_post rfl (fun t ht => by
    have ht' : t ∈ [(22 : TypeId), 38, 3] := ht
    simp at ht'
    rcases ht' with rfl | rfl | rfl
    · exact ents_readable
    · exact cand_readable
    · exact int_readable) rfl hW' rfl hb

theorem dwells_laid_met (os : Os) : laidMetH Tryz.prog Rows.peopleDwellsRow.laid ((doorW os).forCall (fun _ _ => 0) ⟨#[], #[.slice none 0 0, .agg #[.int .i64 0, .int .i64 0], .int .i64 0], []⟩).memory :=
  laidMetH_of_parts3 (fuel := 8) (laidMet_of_run' 8 (by kernel_rfl) (by kernel_rfl)) (by kernel_rfl) (by kernel_rfl)
theorem dwells_reads (os : Os) {H : Type} (enc : TypeId × Value → H) : ∃ places, DataW.whole enc Tryz.prog ((doorW os).forCall (fun _ _ => 0) ⟨#[], #[.slice none 0 0, .agg #[.int .i64 0, .int .i64 0], .int .i64 0], []⟩).memory Tryz.f4.params.toList Rows.peopleDwellsSpec.vars false #[Value.slice none 0 0, Value.agg #[.int .i64 0, .int .i64 0], Value.int .i64 0].toList 8 = some ([.nil, .agg [.lit (.int .i64 0), .lit (.int .i64 0)], .lit (.int .i64 0)], [], places) :=
  ⟨[], by kernel_rfl⟩

set_option maxRecDepth 100000 in
theorem dwells_lifted (os : Os) (started : os.Started) (H : Type) (enc : TypeId × Value → H) (F : Stop.Interp) :
    ReturnsInHanded {} Tryz.checked os 4 .any ((OpenSpec.ofChange Rows.peopleDwellsSpec).preRow enc Tryz.prog Tryz.f4 Rows.peopleDwellsRow.domain false Rows.peopleDwellsRow.laid) (((OpenSpec.ofChange Rows.peopleDwellsSpec).at F).post enc Tryz.prog Tryz.f4 false true false false) := by
  obtain ⟨places, hx⟩ := dwells_reads os enc
  refine returnsInHanded_of_row (C := Tryz.checked) (s := OpenSpec.ofChange Rows.peopleDwellsSpec) ownKnobA started (by kernel_rfl) Tryz.func4
    (witness_row_at (enc := enc) (C := Tryz.checked) false (doorW os) #[.slice none 0 0, .agg #[.int .i64 0, .int .i64 0], .int .i64 0] rfl (by kernel_rfl) (by kernel_rfl) (by kernel_rfl)
      (OpenSpec.preRow_of_cond 8 hx (by kernel_rfl) (fun k hk => by cases hk) (by kernel_rfl) (dwells_laid_met os))) ?_
  intro W base args ds gs before hval hW _ _ _ _ hsh _
  exact dwells_contract H enc W base args ds gs before hval hW hsh

theorem dwells_said : Rows.PeopleDwellsSaid :=
  OpenClaim.holds_of_cond 4 Tryz.f4 rfl rfl rfl rfl rfl rfl rfl ⟨rfl, rfl, rfl, rfl, rfl⟩ rfl rfl rfl rfl rfl (by kernel_rfl) Tryz.func4 (by kernel_rfl)
    (of_decide_eq_true (by kernel_rfl)) (by unfold Func.isWrapper; first | (rw [if_pos (by decide +kernel)]; kernel_rfl) | (rw [if_neg (by decide +kernel)]; exact ⟨rfl, rfl⟩))
    (fun os started H enc _ F => by rw [OpenClaim.pre_eq_preRow]; exact dwells_lifted os started H enc F)

theorem dwells_plain (f : FuncId) (fn : Func) (hf : Tryz.pinned.checked.prog.funcNamed "restante/restantelaw03.PeopleDwells" = some f) (hfn : Tryz.pinned.checked.prog.funcs[f]? = some fn) :
    true = Tryz.pinned.checked.prog.looks [] ∧ ∀ (j : Nat) t, fn.params[j]? = some t → Tryz.pinned.checked.prog.wantsStandIn t = false := by
  obtain rfl : f = 4 := Option.some.inj ((show Tryz.prog.funcNamed "restante/restantelaw03.PeopleDwells" = some 4 by kernel_rfl).symm.trans hf) |>.symm
  obtain rfl : fn = Tryz.f4 := (Option.some.inj (Tryz.func4.symm.trans hfn)).symm
  refine ⟨by kernel_rfl, fun j t ht => ?_⟩
  rw [Tryz.params4] at ht
  have ht' := Array.mem_of_getElem? ht
  simp at ht'
  rcases ht' with rfl | rfl | rfl
  · exact (show Tryz.prog.wantsStandIn 22 = false by kernel_rfl)
  · exact (show Tryz.prog.wantsStandIn 38 = false by kernel_rfl)
  · exact (show Tryz.prog.wantsStandIn 3 = false by kernel_rfl)

theorem peopleDwells_card : Rows.PeopleDwellsCardSaid :=
  Claim7.holds_tied_plain_at .later [] _ _ _ _ dwells_said (fun _ h => by cases h) (by kernel_rfl) (fun _ h => by cases h) peopleDwells_row_tie rfl ⟨rfl, rfl⟩ (by kernel_rfl) rfl dwells_plain (by kernel_rfl)
#print axioms peopleDwells_card
end Go.Proofs.YtmfjmoicnddkcaaGreatDoor
