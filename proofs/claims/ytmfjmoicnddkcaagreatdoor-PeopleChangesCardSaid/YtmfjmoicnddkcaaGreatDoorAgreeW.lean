/- PeopleAgree returns true for every list of entries, every pair and day, and leaves its arguments as they were; the package variables that it names start as the program's text lays them. -/
import Derived.Test.YtmfjmoicnddkcaaGreatDoorAliveA
import Derived.Test.YtmfjmoicnddkcaaGreatDoorOpenA
import Derived.Test.YtmfjmoicnddkcaaGreatDoorPHouseA
import Derived.Test.YtmfjmoicnddkcaaGreatDoorSetPA
import Derived.Test.YtmfjmoicnddkcaaGreatDoorFolA
namespace Go.Proofs.YtmfjmoicnddkcaaGreatDoor
open Go.ChangeShapes Go.WideShapes Go.ChangeAt Go.RowKit Go.Sort

/-- A pair lives: some entry says so, and the person is alive. -/
theorem lives_iff {l : List OEnt} {d : Int} {c : Int × Int} : livesOf (deadOf l d) l d c = true ↔ (∃ x ∈ flt l 2 d, (x.1.person, x.1.place) = c) ∧ deadOf l d c.1 = false := by
  unfold livesOf liveB
  rw [List.any_eq_true]
  constructor
  · rintro ⟨x, hx, h⟩
    simp only [Bool.and_eq_true, decide_eq_true_eq, Bool.not_eq_true'] at h
    obtain ⟨h1, h2⟩ := h
    exact ⟨⟨x, hx, h1⟩, by rw [← h1]; exact h2⟩
  · rintro ⟨⟨x, hx, h1⟩, h2⟩
    refine ⟨x, hx, ?_⟩
    simp only [Bool.and_eq_true, decide_eq_true_eq, Bool.not_eq_true']
    exact ⟨h1, by rw [← h1] at h2; exact h2⟩
theorem live_lives {l : List OEnt} {d : Int} {want : Int × Int → Bool} {c : Int × Int} : c ∈ liveM (deadOf l d) want (flt l 2 d) ↔ want c = true ∧ livesOf (deadOf l d) l d c = true := by
  rw [live_mem, lives_iff]
  constructor
  · rintro ⟨h1, h2, h3⟩
    exact ⟨h2, h1, h3⟩
  · rintro ⟨h2, h1, h3⟩
    exact ⟨h1, h2, h3⟩
theorem lives_int {l : List OEnt} {d : Int} {c : Int × Int} (h : livesOf (deadOf l d) l d c = true) : intB c.1 ∧ intB c.2 := by
  obtain ⟨⟨x, _, rfl⟩, _⟩ := lives_iff.1 h
  exact ⟨x.2.1, x.2.2.2.2⟩
theorem last_true {p : Int} {l : List OEnt} (h : (lastOf (·.place) p l).2 = true) : ∃ x ∈ l, (x.1.person, x.1.place) = (p, (lastOf (·.place) p l).1) := by
  refine foldP (fun s : Int × Bool => s.2 = true → ∃ x ∈ l, (x.1.person, x.1.place) = (p, s.1)) (fun (s : Int × Bool) (x : OEnt) => if x.1.person = p then (x.1.place, true) else s) l (0, false) (fun h => by cases h) (fun s x hx hs => ?_) h
  split
  · rename_i h1
    exact fun _ => ⟨x, hx, by rw [h1]⟩
  · exact hs
theorem last_false {f : Ent → Int} {p : Int} : ∀ {l : List OEnt} {s : Int × Bool}, (l.foldl (fun (s : Int × Bool) (x : OEnt) => if x.1.person = p then (f x.1, true) else s) s).2 = false → s.2 = false ∧ ∀ x ∈ l, x.1.person ≠ p
  | [], s, h => ⟨h, fun x hx => by simp at hx⟩
  | y :: l, s, h => by
    rw [List.foldl_cons] at h
    obtain ⟨h1, h2⟩ := last_false h
    by_cases hy : y.1.person = p
    · rw [if_pos hy] at h1
      cases h1
    · rw [if_neg hy] at h1
      refine ⟨h1, fun x hx => ?_⟩
      rcases List.mem_cons.1 hx with rfl | hx
      · exact hy
      · exact h2 x hx
theorem home_lives {l : List OEnt} {d p : Int} (h : (homeOf (deadOf l d) l d p).2 = true) : livesOf (deadOf l d) l d (p, (homeOf (deadOf l d) l d p).1) = true := by
  unfold homeOf at *
  by_cases hd : deadOf l d p = true
  · rw [if_pos hd] at h
    cases h
  · rw [if_neg hd] at h ⊢
    exact lives_iff.2 ⟨last_true h, Bool.eq_false_iff.2 hd⟩
theorem home_none {l : List OEnt} {d p : Int} (h : (homeOf (deadOf l d) l d p).2 = false) : (homeOf (deadOf l d) l d p).1 = 0 ∧ ∀ y, livesOf (deadOf l d) l d (p, y) = false := by
  unfold homeOf at *
  by_cases hd : deadOf l d p = true
  · rw [if_pos hd]
    refine ⟨rfl, fun y => Bool.eq_false_iff.2 (fun h => ?_)⟩
    have := (lives_iff.1 h).2
    rw [hd] at this
    cases this
  · rw [if_neg hd] at h ⊢
    refine ⟨lastOf_zero h, fun y => Bool.eq_false_iff.2 (fun hl => ?_)⟩
    obtain ⟨⟨x, hx, h1⟩, _⟩ := lives_iff.1 hl
    have h2 := (last_false (f := fun x => x.place) h).2 x hx
    exact h2 (by simpa using congrArg Prod.fst h1)

theorem placesQ_any (A : Option Addr) (c : Nat) (l : List OEnt) (h60 : l.length ≤ 60) (n d : Int) (w : World) (hL : EntsLie w w.heap.size A (l.map (·.1))) :
    Calls Tryz.prog 23 #[.slice A l.length c, .int .i64 n, .int .i64 d] w fun e w' => ∃ A' c' q, e = .returned (.slice A' q.length c') ∧ IntsAt w' A' q ∧ Hid (∀ y, y ∈ q ↔ livesOf (deadOf l d) l d (n, y) = true) ∧ q.length ≤ 60 ∧ Below w.heap.size w w' :=
  (pPlaces_any A c l h60 n d w hL).mono fun _ _ ⟨A', c', r, he, hI, hr, hl, hB⟩ =>
    ⟨A', c', r.map (·.2), by rw [List.length_map]; exact he, hI, Lib.hid (fun y => by
      rw [List.mem_map]
      constructor
      · rintro ⟨x, hx, rfl⟩
        obtain ⟨h1, h2⟩ := live_lives.1 ((hr.out.2 x).1 hx)
        have h3 : x.1 = n := by simpa [wantP] using h1
        rw [← h3]
        exact h2
      · intro h
        exact ⟨(n, y), (hr.out.2 _).2 (live_lives.2 ⟨by simp [wantP], h⟩), rfl⟩), by rw [List.length_map]; exact hl, hB⟩
theorem dwellersQ_any (A : Option Addr) (c : Nat) (l : List OEnt) (h60 : l.length ≤ 60) (n d : Int) (w : World) (hL : EntsLie w w.heap.size A (l.map (·.1))) :
    Calls Tryz.prog 27 #[.slice A l.length c, .int .i64 n, .int .i64 d] w fun e w' => ∃ A' c' q, e = .returned (.slice A' q.length c') ∧ IntsAt w' A' q ∧ Hid (∀ y, y ∈ q ↔ livesOf (deadOf l d) l d (y, n) = true) ∧ q.length ≤ 60 ∧ Below w.heap.size w w' :=
  (pDwellers_any A c l h60 n d w hL).mono fun _ _ ⟨A', c', r, he, hI, hr, hl, hB⟩ =>
    ⟨A', c', r.map (·.1), by rw [List.length_map]; exact he, hI, Lib.hid (fun y => by
      rw [List.mem_map]
      constructor
      · rintro ⟨x, hx, rfl⟩
        obtain ⟨h1, h2⟩ := live_lives.1 ((hr.out.2 x).1 hx)
        have h3 : x.2 = n := by simpa [wantD] using h1
        rw [← h3]
        exact h2
      · intro h
        exact ⟨(y, n), (hr.out.2 _).2 (live_lives.2 ⟨by simp [wantD], h⟩), rfl⟩), by rw [List.length_map]; exact hl, hB⟩
theorem pairsQ_any (A : Option Addr) (c : Nat) (l : List OEnt) (h60 : l.length ≤ 60) (d : Int) (w : World) (hL : EntsLie w w.heap.size A (l.map (·.1))) :
    Calls Tryz.prog 30 #[.slice A l.length c, .int .i64 d] w fun e w' => ∃ A' c' r, e = .returned (.slice A' r.length c') ∧ PairsAt w' A' r ∧ Hid (∀ x, x ∈ r ↔ livesOf (deadOf l d) l d x = true) ∧ r.length ≤ 60 ∧ Below w.heap.size w w' :=
  (pPairs_any A c l h60 d w hL).mono fun _ _ ⟨A', c', r, he, hP, hr, hl, hB⟩ =>
    ⟨A', c', r, he, hP, Lib.hid (fun x => by rw [hr.out.2 x, live_lives]; simp [wantA]), hl, hB⟩
theorem mem_next {α : Type} {q : List α} {k : Nat} {x : α} (hx : q[k]? = some x) (y : α) : y ∈ q.take (k + 1) ↔ y ∈ q.take k ∨ y = x := by
  rw [List.take_add_one, hx]
  simp

set_option maxRecDepth 100000 in
set_option maxHeartbeats 8000000 in
theorem agrees_walk (A : Option Addr) (c : Nat) (l : List OEnt) (cp : Int × Int) (d : Int) (hc : intB cp.1 ∧ intB cp.2) (w : World) (hL : EntsLie w w.heap.size A (l.map (·.1))) (hm : MaxAt w) :
    Calls Tryz.prog 5 #[.slice A l.length c, candVal cp, .int .i64 d] w fun e w' => e = .returned (.bool true) ∧ Below w.heap.size w w' := by
  have H0 := Lib.hid fun W => refFew_any A l.length c W
  have H3 : Hid (∀ W, Below w.heap.size w W → _) := Lib.hid fun W (hW : Below w.heap.size w W) => alive_any W (hm.below hm.lt hW)
  have hB0 : Below w.heap.size w (w.alloc (.cells #[.int .i64 cp.1, .int .i64 cp.2] 38)) := below_al (Below.refl _ _) _
  have kC := Blk.new w 38 #[.int .i64 cp.1, .int .i64 cp.2]
  by_cases h60 : l.length ≤ 60
  rotate_left
  · have HI : Hid (decide ((l.length : Int) ≤ 60) = false) := Lib.hid (decide_eq_false (by omega))
    clear hL hm kC hc
    obtain ⟨p, q⟩ := cp
    unfold candVal
    go_enter Tryz.func5, Tryz.ntmps5
    go_wp2_with fail
    refine (H0.out _).mono ?_
    rintro e w0 ⟨rfl, rfl⟩
    rw [HI.out]
    generalize w.alloc (.cells _ 38) = w0 at hB0 ⊢
    go_wp2_with fail
    refine (H3.out _ hB0).mono ?_
    rintro e w1 ⟨rfl, hb1⟩
    go_wp2_with fail
    go_ret
    exact ⟨rfl, hB0.trans (hb1.mono hB0.size)⟩
  · have HI : Hid (decide ((l.length : Int) ≤ 60) = true) := Lib.hid (decide_eq_true (by omega))
    have hlm : l.length ≤ maxLen := by unfold maxLen; omega
    have K1 : Hid (∀ x : Int × Int, intB x.1 ∧ intB x.2 → ∀ W, Below w.heap.size w W → _) := Lib.hid fun (x : Int × Int) (hx : intB x.1 ∧ intB x.2) W (hW : Below w.heap.size w W) => pLives_any A c l x d hx W (hL.up hW hW.size) hlm
    have K2 : Hid (∀ W, Below w.heap.size w W → _) := Lib.hid fun W (hW : Below w.heap.size w W) => placesQ_any A c l h60 cp.1 d W (hL.up hW hW.size)
    have K3 : Hid (∀ W, Below w.heap.size w W → _) := Lib.hid fun W (hW : Below w.heap.size w W) => dwellersQ_any A c l h60 cp.2 d W (hL.up hW hW.size)
    have K4 : Hid (∀ W, Below w.heap.size w W → _) := Lib.hid fun W (hW : Below w.heap.size w W) => pairsQ_any A c l h60 d W (hL.up hW hW.size)
    have K5 : Hid (∀ n : Int, intB n → ∀ W, Below w.heap.size w W → _) := Lib.hid fun (n : Int) (hn : intB n) W (hW : Below w.heap.size w W) => pDead_any A c l n d hn W (hL.up hW hW.size) hlm
    have K6 : Hid (∀ W, Below w.heap.size w W → _) := Lib.hid fun W (hW : Below w.heap.size w W) => pHome_any A c l cp.1 d hc.1 W (hL.up hW hW.size) hlm
    have M1 : Hid (∀ x, livesOf (deadOf l d) l d x = true → (intB x.1 ∧ intB x.2) ∧ deadOf l d x.1 = false) := Lib.hid fun x h => ⟨lives_int h, (lives_iff.1 h).2⟩
    have M2 : Hid ((homeOf (deadOf l d) l d cp.1).2 = true → livesOf (deadOf l d) l d (cp.1, (homeOf (deadOf l d) l d cp.1).1) = true) := Lib.hid home_lives
    have M3 : Hid ((homeOf (deadOf l d) l d cp.1).2 = false → (homeOf (deadOf l d) l d cp.1).1 = 0 ∧ ∀ y, livesOf (deadOf l d) l d (cp.1, y) = false) := Lib.hid home_none
    have HC := Lib.hid hc
    obtain ⟨p, q⟩ := cp
    dsimp only at hB0 kC K2 K3 K6 M2 M3 HC
    generalize homeOf (deadOf l d) l d p = home at *
    generalize livesOf (deadOf l d) l d = lives at *
    generalize deadOf l d = dead at *
    obtain ⟨hh, hs⟩ := home
    dsimp only at M2 M3 K6
    clear hL hm hc hlm h60
    unfold candVal at *
    dsimp only at K1 ⊢
    go_enter Tryz.func5, Tryz.ntmps5
    go_wp2_with fail
    refine (H0.out _).mono ?_
    rintro e w0 ⟨rfl, rfl⟩
    rw [HI.out]
    clear HI H0
    generalize w.alloc (.cells _ 38) = w0 at hB0 kC ⊢
    have e0 := kC.cell 0
    have e1 := kC.cell 1
    have zC := kC.lt
    simp at e0 e1
    have h1 := Lib.hid (K1.out (p, q) HC.out w0 hB0)
    dsimp only at h1
    generalize hlv : lives (p, q) = lv at h1
    have HLV := Lib.hid hlv
    clear hlv
    go_wp2_with fail
    refine h1.out.mono ?_
    rintro e w1 ⟨rfl, hb1⟩
    have hB1 := hB0.trans (hb1.mono hB0.size)
    replace kC := Blk.below kC hb1 (Blk.lt kC)
    clear hb1 hB0 e0 e1 zC h1
    have e0 := Blk.cell kC 0
    have e1 := Blk.cell kC 1
    have zC := Blk.lt kC
    simp at e0 e1
    go_wp2_with fail
    refine (K2.out _ hB1).mono ?_
    rintro e w2 ⟨A2, c2, q2, rfl, hI2, hq2, hl2, hb2⟩
    have hB2 := hB1.trans (hb2.mono hB1.size)
    replace kC := Blk.below kC hb2 (Blk.lt kC)
    clear hb2 hB1 e0 e1 zC
    have e0 := Blk.cell kC 0
    have e1 := Blk.cell kC 1
    have zC := Blk.lt kC
    simp at e0 e1
    have HL2 : Hid (lv = decide (q ∈ q2)) := Lib.hid (by rw [Bool.eq_iff_iff, decide_eq_true_iff, hq2.out q, HLV.out])
    clear hq2
    go_wp2_with fail
    go_loopw [8, 33] (fun b i wr => ∃ (k : Nat) (bb : Bool), k ≤ q2.length ∧ i = .int .i64 k ∧ b = .bool bb ∧ wr = w2 ∧ Hid (bb = decide (q ∈ q2.take k))) (fun _ i _ => q2.length - (intOf i).toNat)
    case atStart => exact ⟨0, false, Nat.zero_le _, rfl, rfl, rfl, Lib.hid (by simp)⟩
    case round =>
      obtain ⟨k, bb, hk, rfl, rfl, rfl, H⟩ := hrel
      by_cases hlt : k < q2.length
      · obtain ⟨x, hx⟩ : ∃ x, q2[k]? = some x := ⟨_, List.getElem?_eq_getElem hlt⟩
        obtain ⟨g, hA2, hg, c0⟩ := hI2 k x hx
        subst hA2
        have HM := Lib.hid (mem_next hx q)
        clear hx
        cases bb
        · by_cases he : x = q
          · subst he
            have HN : Hid (true = decide (x ∈ q2.take (k + 1))) := Lib.hid (by symm; rw [decide_eq_true_iff, HM.out]; exact .inr rfl)
            clear HM H
            go_wp2_with fail
            go_roundw
            case rel => exact ⟨k + 1, true, by omega, by go_num, by first | rfl | simp, by first | rfl | trivial, HN⟩
            case measure => simp [intOf]; omega
          · have HN : Hid (false = decide (q ∈ q2.take (k + 1))) := Lib.hid (by
              symm
              rw [decide_eq_false_iff_not, HM.out]
              have := of_decide_eq_false H.out.symm
              exact fun h => h.elim this (fun h => he h.symm))
            clear HM H
            go_wp2_with fail
            go_roundw
            case rel => exact ⟨k + 1, false, by omega, by go_num, by first | rfl | simp [he], by first | rfl | trivial, HN⟩
            case measure => simp [intOf]; omega
        · have HN : Hid (true = decide (q ∈ q2.take (k + 1))) := Lib.hid (by symm; rw [decide_eq_true_iff, HM.out]; exact .inl (of_decide_eq_true H.out.symm))
          clear HM H
          go_wp2_with fail
          go_roundw
          case rel => exact ⟨k + 1, true, by omega, by go_num, by first | rfl | simp, by first | rfl | trivial, HN⟩
          case measure => simp [intOf]; omega
      · obtain rfl : k = q2.length := by omega
        obtain rfl : lv = bb := by rw [HL2.out, H.out, List.take_length]
        clear H hI2 HL2
        go_wp2_with fail
        refine (K3.out _ hB2).mono ?_
        rintro e w3 ⟨A3, c3, q3, rfl, hI3, hq3, hl3, hb3⟩
        have hB3 := hB2.trans (hb3.mono hB2.size)
        replace kC := Blk.below kC hb3 (Blk.lt kC)
        clear hb3 hB2 e0 e1 zC hl2
        have e0 := Blk.cell kC 0
        have e1 := Blk.cell kC 1
        have zC := Blk.lt kC
        simp at e0 e1
        have HL3 : Hid (lv = decide (p ∈ q3)) := Lib.hid (by rw [Bool.eq_iff_iff, decide_eq_true_iff, hq3.out p, HLV.out])
        clear hq3
        go_wp2_with fail
        go_loopw [9, 51] (fun b i wr => ∃ (k : Nat) (bb : Bool), k ≤ q3.length ∧ i = .int .i64 k ∧ b = .bool bb ∧ wr = w3 ∧ Hid (bb = decide (p ∈ q3.take k))) (fun _ i _ => q3.length - (intOf i).toNat)
        case atStart => exact ⟨0, false, Nat.zero_le _, rfl, rfl, rfl, Lib.hid (by simp)⟩
        case round =>
          obtain ⟨k, bb, hk, rfl, rfl, rfl, H⟩ := hrel
          by_cases hlt : k < q3.length
          · obtain ⟨x, hx⟩ : ∃ x, q3[k]? = some x := ⟨_, List.getElem?_eq_getElem hlt⟩
            obtain ⟨g, hAg, hg, c0⟩ := hI3 k x hx
            subst hAg
            have HM := Lib.hid (mem_next hx p)
            clear hx
            cases bb
            · by_cases he : x = p
              · subst he
                have HN : Hid (true = decide (x ∈ q3.take (k + 1))) := Lib.hid (by symm; rw [decide_eq_true_iff, HM.out]; exact .inr rfl)
                clear HM H
                go_wp2_with fail
                go_roundw
                case rel => exact ⟨k + 1, true, by omega, by go_num, by first | rfl | simp, by first | rfl | trivial, HN⟩
                case measure => simp [intOf]; omega
              · have HN : Hid (false = decide (p ∈ q3.take (k + 1))) := Lib.hid (by
                  symm
                  rw [decide_eq_false_iff_not, HM.out]
                  have := of_decide_eq_false H.out.symm
                  exact fun h => h.elim this (fun h => he h.symm))
                clear HM H
                go_wp2_with fail
                go_roundw
                case rel => exact ⟨k + 1, false, by omega, by go_num, by first | rfl | simp [he], by first | rfl | trivial, HN⟩
                case measure => simp [intOf]; omega
            · have HN : Hid (true = decide (p ∈ q3.take (k + 1))) := Lib.hid (by symm; rw [decide_eq_true_iff, HM.out]; exact .inl (of_decide_eq_true H.out.symm))
              clear HM H
              go_wp2_with fail
              go_roundw
              case rel => exact ⟨k + 1, true, by omega, by go_num, by first | rfl | simp, by first | rfl | trivial, HN⟩
              case measure => simp [intOf]; omega
          · obtain rfl : k = q3.length := by omega
            obtain rfl : lv = bb := by rw [HL3.out, H.out, List.take_length]
            clear H hI3 HL3
            go_wp2_with fail
            refine (K4.out _ hB3).mono ?_
            rintro e w4 ⟨A4, c4, r, rfl, hP4, hr, hl4, hb4⟩
            have hB4 := hB3.trans (hb4.mono hB3.size)
            replace kC := Blk.below kC hb4 (Blk.lt kC)
            clear hb4 hB3 e0 e1 zC hl3
            have HL4 : Hid (lv = decide ((p, q) ∈ r)) := Lib.hid (by rw [Bool.eq_iff_iff, decide_eq_true_iff, hr.out (p, q), HLV.out])
            go_wp2_with fail
            go_loopw [10, 67] (fun b i wr => ∃ (k : Nat) (bb : Bool), k ≤ r.length ∧ i = .int .i64 k ∧ b = .bool bb ∧ Below w4.heap.size w4 wr ∧ Hid (bb = decide ((p, q) ∈ r.take k))) (fun _ i _ => r.length - (intOf i).toNat)
            case atStart => exact ⟨0, false, Nat.zero_le _, rfl, rfl, Below.refl _ _, Lib.hid (by simp)⟩
            case round =>
              obtain ⟨k, bb, hk, rfl, rfl, hB, H⟩ := hrel
              have hBw := hB4.trans (hB.mono hB4.size)
              have kCw := Blk.below kC hB (Blk.lt kC)
              by_cases hlt : k < r.length
              · obtain ⟨x, hx⟩ : ∃ x, r[k]? = some x := ⟨_, List.getElem?_eq_getElem hlt⟩
                obtain ⟨g, hAg, hg, c0, c1⟩ := (hP4.below hB) k x hx
                subst hAg
                have HM := Lib.hid (mem_next hx (p, q))
                have hxl : lives x = true := (hr.out x).1 (List.mem_of_getElem? hx)
                obtain ⟨hxi, hxd⟩ := M1.out x hxl
                clear hx
                have hBx := below_al hBw (.cells #[.int .i64 x.1, .int .i64 x.2] 38)
                have hBy := hB.alloc hB.size (.cells #[.int .i64 x.1, .int .i64 x.2] 38)
                have kX := Blk.new wr 38 #[.int .i64 x.1, .int .i64 x.2]
                have kCx := kCw.alloc (.cells #[.int .i64 x.1, .int .i64 x.2] 38)
                have h1 := K1.out x hxi _ hBx
                rw [hxl] at h1
                have HK1 := Lib.hid h1
                have HK5 : Hid (∀ W, Below w.heap.size w W → _) := Lib.hid (K5.out x.1 hxi.1)
                rw [hxd] at HK5
                have hne := eqCand x (p, q)
                have hng := fun a b => noGuardCand .eql a b x (p, q)
                unfold candVal at hne hng
                dsimp only at hne hng
                have HE : Hid (decide (x = (p, q)) = true ↔ x = (p, q)) := Lib.hid decide_eq_true_iff
                generalize decide (x = (p, q)) = eb at hne HE
                have z5 := kCw.lt
                have d0 := kCw.cell 0
                have d1 := kCw.cell 1
                simp at d0 d1
                clear h1 hxl hxd hxi kCw hBw
                have HN : Hid ((bb || eb) = decide ((p, q) ∈ r.take (k + 1))) := Lib.hid (by
                  rw [Bool.eq_iff_iff, decide_eq_true_iff, HM.out, Bool.or_eq_true, HE.out, H.out, decide_eq_true_iff]
                  exact ⟨fun h => h.elim .inl (fun h => .inr h.symm), fun h => h.elim .inl (fun h => .inr h.symm)⟩)
                clear HM H HE
                cases bb
                all_goals
                  go_wp2_with fail
                  refine HK1.out.mono ?_
                  rintro e w5 ⟨rfl, hb5⟩
                  have hB5 := hBx.trans (hb5.mono hBx.size)
                  have hB5y := hBy.trans (hb5.mono hBy.size)
                  have kX5 := Blk.below kX hb5 (Blk.lt kX)
                  have x50 := Blk.cell kX5 0
                  have z50 := Blk.lt kX5
                  simp at x50
                  go_wp2_with fail
                  refine (HK5.out w5 hB5).mono ?_
                  rintro e w6 ⟨rfl, hb6⟩
                  have hB6y := hB5y.trans (hb6.mono hB5y.size)
                  go_wp2_with fail
                  go_roundw
                  case rel => exact ⟨k + 1, _, by omega, by go_num, by first | rfl | simp, hB6y, by first | exact HN | simpa using HN⟩
                  case measure => simp [intOf]; omega
              · obtain rfl : k = r.length := by omega
                obtain rfl : lv = bb := by rw [HL4.out, H.out, List.take_length]
                have e0 := Blk.cell kCw 0
                have e1 := Blk.cell kCw 1
                have zC := Blk.lt kCw
                simp at e0 e1
                clear H hP4 HL4 hB hB4 kC hr K4 K3 K5 HLV
                go_wp2_with fail
                refine (K6.out _ hBw).mono ?_
                rintro e w5 ⟨rfl, hb5⟩
                have hB5 := hBw.trans (hb5.mono hBw.size)
                have kC5 := Blk.below kCw hb5 (Blk.lt kCw)
                clear hb5 hBw e0 e1 zC kCw K6
                have e0 := Blk.cell kC5 0
                have zC := Blk.lt kC5
                simp at e0
                cases hs
                · obtain ⟨hz, hno⟩ := M3.out rfl
                  subst hz
                  have HNo := Lib.hid hno
                  clear hno M2 M3
                  go_wp2_with fail
                  refine (K2.out _ hB5).mono ?_
                  rintro e w6 ⟨A6, c6, q6, rfl, _, hq6, _, hb6⟩
                  obtain rfl : q6 = [] := by
                    cases q6 with
                    | nil => rfl
                    | cons y t =>
                      have h := (hq6.out y).1 (List.mem_cons_self ..)
                      rw [HNo.out y] at h
                      cases h
                  have hB6 := hB5.trans (hb6.mono hB5.size)
                  clear hq6 HNo hb6
                  go_wp2_with fail
                  refine (H3.out _ hB6).mono ?_
                  rintro e w7 ⟨rfl, hb7⟩
                  go_wp2_with fail
                  go_ret
                  exact ⟨by first | rfl | simp, hB6.trans (hb7.mono hB6.size)⟩
                · have hl := M2.out rfl
                  have h1 := K1.out (p, hh) (M1.out _ hl).1 w5 hB5
                  rw [hl] at h1
                  dsimp only at h1
                  have HK1 := Lib.hid h1
                  clear h1 hl M2 M3
                  go_wp2_with fail
                  refine HK1.out.mono ?_
                  rintro e w6 ⟨rfl, hb6⟩
                  have hB6 := hB5.trans (hb6.mono hB5.size)
                  go_wp2_with fail
                  refine (H3.out _ hB6).mono ?_
                  rintro e w7 ⟨rfl, hb7⟩
                  go_wp2_with fail
                  go_ret
                  exact ⟨by first | rfl | simp, hB6.trans (hb7.mono hB6.size)⟩
end Go.Proofs.YtmfjmoicnddkcaaGreatDoor
