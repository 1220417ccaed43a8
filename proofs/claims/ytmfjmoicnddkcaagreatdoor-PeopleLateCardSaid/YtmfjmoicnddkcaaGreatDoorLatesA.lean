/- PeopleLate returns true for every two lists of entries, every pair and day, and leaves its arguments as they were; the package variables that it names start as the program's text lays them (the card ties them). -/
import Derived.Test.YtmfjmoicnddkcaaGreatDoorAliveA
import Derived.Test.YtmfjmoicnddkcaaGreatDoorOpenA
import Derived.Test.YtmfjmoicnddkcaaGreatDoorAppendA
import Derived.Test.YtmfjmoicnddkcaaGreatDoorFolC
import Derived.Test.YtmfjmoicnddkcaaGreatDoorSameA
namespace Go.Proofs.YtmfjmoicnddkcaaGreatDoor
open Go.ChangeShapes Go.WideShapes Go.ChangeAt Go.RowKit Go.Sort

/-- Two runs of the relation of following, both at the same arguments, give the same route and the same error. -/
theorem fol_same {l : List OEnt} {d s : Int} {cp : Int × Int} {r r' : Rt} {x x' : Int} {P : Prop} (h : (x = 0 ∧ Fol l d s [] cp r) ∨ (x = 1 ∧ r = ⟨0, (0, 0), [], 0⟩)) (h' : (x' = 0 ∧ Fol l d s [] cp r') ∨ (x' = 1 ∧ r' = ⟨0, (0, 0), [], 0⟩)) (hx : x = 0 ↔ P) (hx' : x' = 0 ↔ P) : x = x' ∧ r = r' := by
  rcases h with ⟨rfl, h⟩ | ⟨rfl, h⟩ <;> rcases h' with ⟨rfl, h'⟩ | ⟨rfl, h'⟩
  · exact ⟨rfl, h.unique h'⟩
  · exact absurd (hx'.2 (hx.1 rfl)) (by decide)
  · exact absurd (hx.2 (hx'.1 rfl)) (by decide)
  · exact ⟨rfl, h.trans h'.symm⟩
theorem fol_len {l : List OEnt} {d s : Int} {cp : Int × Int} {r : Rt} {x : Int} (h : (x = 0 ∧ Fol l d s [] cp r) ∨ (x = 1 ∧ r = ⟨0, (0, 0), [], 0⟩)) (h60 : l.length ≤ 60) : r.hops.length ≤ 1000 := by
  rcases h with ⟨_, h⟩ | ⟨_, rfl⟩
  · have := (h.ended (Way.start l d cp)).len
    omega
  · simp
/-- The entries that come in after a day. -/
def lateL (l : List Ent) (d : Int) : List Ent := l.filter fun x => decide (d < x.day)
theorem late_step {l : List Ent} {d : Int} {k : Nat} {x : Ent} (hx : l[k]? = some x) : lateL (l.take (k + 1)) d = if d < x.day then lateL (l.take k) d ++ [x] else lateL (l.take k) d := by
  unfold lateL
  rw [List.take_add_one, hx, List.filter_append]
  by_cases h : d < x.day
  · rw [if_pos h]; simp [h]
  · rw [if_neg h]; simp [h]
theorem late_len (l : List Ent) (d : Int) : (lateL l d).length ≤ l.length := List.length_filter_le _ _
theorem knw_late (l m : List Ent) (d : Int) : knw (l ++ lateL m d) d = knw l d := by
  unfold knw
  induction l with
  | nil =>
    rw [List.nil_append]
    cases h : lateL m d with
    | nil => rfl
    | cons x t =>
      have hx : x ∈ lateL m d := by rw [h]; exact List.mem_cons_self ..
      have h2 := (List.mem_filter.1 hx).2
      simp at h2
      rw [List.takeWhile_cons_of_neg (by simpa using h2)]
      rfl
  | cons x l ih =>
    rw [List.cons_append]
    by_cases h : x.day ≤ d
    · rw [List.takeWhile_cons_of_pos (by simpa using h), List.takeWhile_cons_of_pos (by simpa using h), ih]
    · rw [List.takeWhile_cons_of_neg (by simpa using h), List.takeWhile_cons_of_neg (by simpa using h)]
/-- What was known, with its bounds. -/
def knwO (l : List OEnt) (d : Int) : List OEnt := l.takeWhile fun x => decide (x.1.day ≤ d)
theorem knwO_map (l : List OEnt) (d : Int) : (knwO l d).map (·.1) = knw (l.map (·.1)) d := by
  unfold knwO knw
  induction l with
  | nil => rfl
  | cons x l ih =>
    rw [List.map_cons]
    by_cases h : x.1.day ≤ d
    · rw [List.takeWhile_cons_of_pos (by simpa using h), List.takeWhile_cons_of_pos (by simpa using h), List.map_cons, ih]
    · rw [List.takeWhile_cons_of_neg (by simpa using h), List.takeWhile_cons_of_neg (by simpa using h)]
      rfl
theorem knwO_len (l : List OEnt) (d : Int) : (knwO l d).length ≤ l.length := (List.takeWhile_sublist _).length_le
theorem knwO_mem {l : List OEnt} {d : Int} {x : OEnt} (h : x ∈ knwO l d) : x ∈ l := (List.takeWhile_sublist _).subset h

/-- Known at a list, with the bounds of what it gives. -/
theorem knownO_any (A : Option Addr) (c : Nat) (l : List Ent) (Q : List OEnt) (d : Int) (hQ : knw l d = Q.map (·.1)) (w : World) (hL : EntsLie w w.heap.size A l) (hl : l.length ≤ 1000) (hc : l.length ≤ c) :
    Calls Tryz.prog 38 #[.slice A l.length c, .int .i64 d] w fun e w' => ∃ A' c', e = .returned (.slice A' Q.length c') ∧ EntsLie w' w'.heap.size A' (Q.map (·.1)) ∧ Below w.heap.size w w' :=
  (Known_any A c l d w hL (by unfold maxLen; omega) (by omega) hc).mono fun _ _ ⟨v, he, hO, hB⟩ => by
    obtain ⟨A', c', rfl, _, h2, _⟩ := hO.shape
    rw [hQ, List.length_map] at he
    rw [hQ] at h2
    exact ⟨A', c', he, h2, hB⟩
theorem sameO_any (A A2 : Option Addr) (c c2 : Nat) (Q : List OEnt) (w : World) (hL : EntsLie w w.heap.size A (Q.map (·.1))) (hM : EntsLie w w.heap.size A2 (Q.map (·.1))) (hl : Q.length ≤ 1000) :
    Calls Tryz.prog 39 #[.slice A Q.length c, .slice A2 Q.length c2] w fun e w' => e = .returned (.bool true) ∧ Below w.heap.size w w' := by
  have h := refSame_any A A2 c c2 (Q.map (·.1)) (Q.map (·.1)) w.heap.size w hL hM (by rw [List.length_map]; unfold maxLen; omega) (by rw [List.length_map]; unfold maxLen; omega)
  rw [List.length_map] at h
  exact h.mono fun _ _ ⟨he, n, hn⟩ => by
    rw [decide_eq_true rfl] at he
    subst hn
    exact ⟨he, below_dr (Below.refl _ _) n⟩

set_option maxRecDepth 100000 in
set_option maxHeartbeats 8000000 in
theorem lates_walk (A : Option Addr) (c : Nat) (l : List OEnt) (Am : Option Addr) (cm : Nat) (m : List Ent) (cp : Int × Int) (d : Int) (hI : ∀ x ∈ l, intB x.1.place ∧ intB x.1.at') (w : World) (hL : EntsLie w w.heap.size A (l.map (·.1))) (hM : EntsLie w w.heap.size Am m) (hc : l.length ≤ c) (hm : MaxAt w) :
    Calls Tryz.prog 8 #[.slice A l.length c, .slice Am m.length cm, candVal cp, .int .i64 d] w fun e w' => e = .returned (.bool true) ∧ Below w.heap.size w w' := by
  have H0 := Lib.hid fun W => refFew_any A l.length c W
  have H1 := Lib.hid fun W => refFew_any Am m.length cm W
  have H3 : Hid (∀ W, Below w.heap.size w W → _) := Lib.hid fun W (hW : Below w.heap.size w W) => alive_any W (hm.below hm.lt hW)
  have hB0 : Below w.heap.size w (w.alloc (.cells #[.int .i64 cp.1, .int .i64 cp.2] 38)) := below_al (Below.refl _ _) _
  have kC := Blk.new w 38 #[.int .i64 cp.1, .int .i64 cp.2]
  by_cases h60 : l.length ≤ 60
  rotate_left
  · have HI : Hid (decide ((l.length : Int) ≤ 60) = false) := Lib.hid (decide_eq_false (by omega))
    clear hI hL hm hM
    obtain ⟨p, q⟩ := cp
    unfold candVal
    go_enter Tryz.func8, Tryz.ntmps8
    go_wp2_with fail
    refine (H0.out _).mono ?_
    rintro e w0 ⟨rfl, rfl⟩
    rw [HI.out]
    generalize w.alloc (.cells _ 38) = w0 at hB0 ⊢
    go_wp2_with fail
    refine (H3.out _ hB0).mono ?_
    rintro e w1 ⟨rfl, hb1⟩
    go_wp2_with fail
    go_ret
    exact ⟨rfl, hB0.trans (hb1.mono hB0.size)⟩
  by_cases h61 : m.length ≤ 60
  rotate_left
  · have HI : Hid (decide ((l.length : Int) ≤ 60) = true) := Lib.hid (decide_eq_true (by omega))
    have HJ : Hid (decide ((m.length : Int) ≤ 60) = false) := Lib.hid (decide_eq_false (by omega))
    clear hI hL hm hM
    obtain ⟨p, q⟩ := cp
    unfold candVal
    go_enter Tryz.func8, Tryz.ntmps8
    go_wp2_with fail
    refine (H0.out _).mono ?_
    rintro e w0 ⟨rfl, rfl⟩
    rw [HI.out]
    go_wp2_with fail
    refine (H1.out _).mono ?_
    rintro e w0 ⟨rfl, rfl⟩
    rw [HJ.out]
    generalize w.alloc (.cells _ 38) = w0 at hB0 ⊢
    go_wp2_with fail
    refine (H3.out _ hB0).mono ?_
    rintro e w1 ⟨rfl, hb1⟩
    go_wp2_with fail
    go_ret
    exact ⟨rfl, hB0.trans (hb1.mono hB0.size)⟩
  · have HI : Hid (decide ((l.length : Int) ≤ 60) = true) := Lib.hid (decide_eq_true (by omega))
    have HJ : Hid (decide ((m.length : Int) ≤ 60) = true) := Lib.hid (decide_eq_true (by omega))
    have HQL : Hid ((knwO l d).length ≤ 60) := Lib.hid (Nat.le_trans (knwO_len l d) h60)
    have HIQ : Hid (∀ x ∈ knwO l d, intB x.1.place ∧ intB x.1.at') := Lib.hid (fun x hx => hI x (knwO_mem hx))
    have HKQ : Hid (knw (l.map (·.1)) d = (knwO l d).map (·.1)) := Lib.hid (knwO_map l d).symm
    have HKK : Hid (knw (l.map (·.1) ++ lateL m d) d = (knwO l d).map (·.1)) := Lib.hid ((knw_late _ m d).trans (knwO_map l d).symm)
    have HLL : Hid ((l.map (·.1) ++ lateL m d).length ≤ 120) := Lib.hid (by rw [List.length_append, List.length_map]; have := late_len m d; omega)
    have HLM : Hid ((l.map (·.1)).length = l.length) := Lib.hid (List.length_map _)
    have HM := Lib.hid hM
    have HL := Lib.hid hL
    generalize knwO l d = Q at HQL HIQ HKQ HKK
    obtain ⟨p, q⟩ := cp
    dsimp only at hB0 kC
    unfold candVal
    dsimp only
    clear hI hm hM hL
    go_enter Tryz.func8, Tryz.ntmps8
    go_wp2_with fail
    refine (H0.out _).mono ?_
    rintro e w0 ⟨rfl, rfl⟩
    rw [HI.out]
    go_wp2_with fail
    refine (H1.out _).mono ?_
    rintro e w0 ⟨rfl, rfl⟩
    rw [HJ.out]
    clear HI HJ H0 H1
    generalize w.alloc (.cells _ 38) = w0 at hB0 kC ⊢
    obtain ⟨v', w1, hrun, hO, hG, _⟩ := append_ents (OwnE.empty w0 w0.heap.size (Nat.le_refl _)) (HL.out.below (hB0.alloc hB0.size (.cells #[] 26))) c (by simp; unfold maxLen; omega) (by simp; omega) (by simp) 22
    have hB1 : Below w0.heap.size w0 w1 := Below.grown ((Below.refl w0.heap.size w0).alloc (Nat.le_refl _) (.cells #[] 26)) hG (by simp) (fun k h => by simp [Value.ownBlock] at h; omega)
    rw [List.nil_append] at hO
    rw [HLM.out] at hrun
    have HO := Lib.hid hO
    clear hO hG
    go_wp2_with (at_builtin; refine Lib.wpList_append_run _ rfl _ _ _ _ rfl _ _ rfl rfl _ _ hrun ?_)
    clear hrun
    go_loopw [9, 32] (fun v i wr => ∃ k : Nat, k ≤ m.length ∧ i = .int .i64 k ∧ Hid (OwnE wr w0.heap.size v (l.map (·.1) ++ lateL (m.take k) d)) ∧ Below w0.heap.size w0 wr) (fun _ i _ => m.length - (intOf i).toNat)
    case atStart => exact ⟨0, Nat.zero_le _, rfl, Lib.hid (by simpa [lateL] using HO.out), hB1⟩
    case round =>
      obtain ⟨k, hk, rfl, HOk, hB⟩ := hrel
      by_cases hlt : k < m.length
      · obtain ⟨x, hx⟩ : ∃ x, m[k]? = some x := ⟨_, List.getElem?_eq_getElem hlt⟩
        have HT := Lib.hid (late_step (d := d) hx)
        have hBw := hB0.trans (hB.mono hB0.size)
        obtain ⟨b, off, rfl, hb, c0, c1, c2, c3, c4, c5, c6, c7, c8, c9⟩ := (HM.out.below hBw).at hx
        clear hx
        have hbr : b < wr.heap.size := by have := hBw.size; omega
        have hB2 := hB.alloc hB.size (.cells (entCells x).toArray 26)
        have hE0 := EntAt.new wr x
        simp only [entCells] at hE0
        by_cases hd : d < x.day
        · have hls : (l.map (·.1) ++ lateL (m.take k) d).length ≤ 120 := by
            have := late_len (m.take k) d
            rw [List.length_append, List.length_map]
            rw [List.length_take] at this
            omega
          have hN1 := hB2.alloc hB2.size (.cells (entCells x).toArray 26)
          obtain ⟨v', w2, hrun, hO1, hG, hloc⟩ := append_ents ((HOk.out.alloc (.cells (entCells x).toArray 26)).alloc (.cells (entCells x).toArray 26)) (EntsLie.one (wr.alloc (.cells (entCells x).toArray 26)) x _ rfl) 1 (by simp only [List.length_cons, List.length_nil]; unfold maxLen; omega) (by simp only [List.length_cons, List.length_nil]; omega) hN1.size 22
          have hend : OwnE w2 w0.heap.size v' (l.map (·.1) ++ lateL (m.take (k + 1)) d) ∧ Below w0.heap.size w0 w2 := ⟨by rw [HT.out, if_pos hd, ← List.append_assoc]; exact hO1, hN1.trans ((Keeps.of_grown (S := fun i => w0.heap.size ≤ i) hG (fun i e _ => (HOk.out.shape).elim fun _ h => h.elim fun _ h => (h.2.2.2 i e).1)).below (fun i h1 h2 => by omega) hN1.size)⟩
          have HE := Lib.hid hend
          obtain ⟨Ak, ck, rfl, _⟩ := HOk.out.shape
          clear hend hO1 hG hloc hN1 HO
          simp only [entCells, List.length_cons, List.length_nil, World.size_alloc] at hrun
          go_wp2_with (at_builtin; refine Lib.wpList_append_run _ rfl _ _ _ _ rfl _ _ rfl rfl _ _ hrun ?_)
          go_roundw
          case rel => exact ⟨k + 1, by omega, by go_num, Lib.hid HE.out.1, HE.out.2⟩
          case measure => simp [intOf]; omega
        · have HN : Hid (OwnE (wr.alloc (.cells (entCells x).toArray 26)) w0.heap.size u9 (l.map (·.1) ++ lateL (m.take (k + 1)) d)) := Lib.hid (by rw [HT.out, if_neg hd]; exact HOk.out.alloc _)
          have hd' : x.day ≤ d := by omega
          simp only [entCells] at HN hB2
          clear HO hd
          go_wp2_with fail
          go_roundw
          case rel => exact ⟨k + 1, by omega, by go_num, HN, hB2⟩
          case measure => simp [intOf]; omega
      · obtain rfl : k = m.length := by omega
        have HK : Hid (OwnE wr w0.heap.size u9 (l.map (·.1) ++ lateL m d)) := Lib.hid (by have := HOk.out; rwa [List.take_length] at this)
        obtain ⟨Ak, ck, rfl, hck, hLk, _⟩ := HK.out.shape
        replace kC := Blk.below kC hB (Blk.lt kC)
        have hBw := hB0.trans (hB.mono hB0.size)
        have hK1 := knownO_any A c (l.map (·.1)) Q d HKQ.out wr (HL.out.up hBw hBw.size) (by rw [HLM.out]; omega) (by rw [HLM.out]; exact hc)
        rw [HLM.out] at hK1
        have HK1 := Lib.hid hK1
        have HK2 : Hid (∀ W, Below wr.heap.size wr W → _) := Lib.hid fun W (hW : Below wr.heap.size wr W) => knownO_any Ak ck (l.map (·.1) ++ lateL m d) Q d HKK.out W (hLk.up hW hW.size) (by have := HLL.out; omega) hck
        generalize (l.map (·.1) ++ lateL m d).length = nK at *
        clear HOk HK hB hLk hK1 HO HKQ HKK HLL hB1 HM HL HLM
        go_wp2_with fail
        refine HK1.out.mono ?_
        rintro e w2 ⟨A2, c2, rfl, hL2, hb2⟩
        replace kC := Blk.below kC hb2 (Blk.lt kC)
        have hB2 := hBw.trans (hb2.mono hBw.size)
        have HK3 := Lib.hid (HK2.out w2 hb2)
        clear HK1 HK2 hb2 hBw
        go_wp2_with fail
        refine HK3.out.mono ?_
        rintro e w3 ⟨A3, c3, rfl, hL3, hb3⟩
        replace kC := Blk.below kC hb3 (Blk.lt kC)
        have hB3 := hB2.trans (hb3.mono hB2.size)
        have hL23 := hL2.up hb3 hb3.size
        have HS := Lib.hid (sameO_any A2 A3 c2 c3 Q w3 hL23 hL3 (by have := HQL.out; omega))
        clear HK3 hb3 hB2 hL2
        go_wp2_with fail
        refine HS.out.mono ?_
        rintro e w4 ⟨rfl, hb4⟩
        replace kC := Blk.below kC hb4 (Blk.lt kC)
        have hB4 := hB3.trans (hb4.mono hB3.size)
        have hL4 := hL23.up hb4 hb4.size
        have hL5 := hL3.up hb4 hb4.size
        have hF1 := follows_any A2 c2 Q d 0 (p, q) HIQ.out HQL.out w4 hL4
        have H2 : Hid (∀ W, Below w4.heap.size w4 W → _) := Lib.hid fun W (hW : Below w4.heap.size w4 W) => follows_any A3 c3 Q d 0 (p, q) HIQ.out HQL.out W (hL5.up hW hW.size)
        unfold candVal rtVal at hF1 H2
        dsimp only at hF1 H2
        have HF1 := Lib.hid hF1
        clear HS hb4 hB3 hL23 hL3 hL4 hL5 hF1
        have e0 := Blk.cell kC 0
        have e1 := Blk.cell kC 1
        have zC := Blk.lt kC
        simp at e0 e1
        go_wp2_with fail
        refine HF1.out.mono ?_
        rintro e w5 ⟨hb5, ⟨k, ⟨f1, f2⟩, hops, back⟩, hv, x, rfl, hO, hF, hx⟩
        have hR1 := hO
        dsimp only at hR1 ⊢
        obtain ⟨A5, c5, rfl⟩ := hR1.shape
        replace hR1 := hR1.rows
        have HF := Lib.hid hF
        have HX := Lib.hid hx
        have hB5 := hB4.trans (hb5.mono hB4.size)
        replace kC := Blk.below kC hb5 (Blk.lt kC)
        have H2' : Hid (∀ W, Below w5.heap.size w5 W → _) := Lib.hid fun W (hW : Below w5.heap.size w5 W) => H2.out W (hb5.trans (hW.mono hb5.size))
        clear hb5 e0 e1 zC H2 HF1 hO hF hx hB4
        have e0 := Blk.cell kC 0
        have e1 := Blk.cell kC 1
        have zC := Blk.lt kC
        simp at e0 e1
        have hB6 := hB5.alloc hB5.size (.cells #[.int .u8 k, .int .i64 f1, .int .i64 f2, .slice A5 hops.length c5, .int .i64 back] 52)
        have kR := Blk.new w5 52 #[.int .u8 k, .int .i64 f1, .int .i64 f2, .slice A5 hops.length c5, .int .i64 back]
        have kC2 := kC.alloc (.cells #[.int .u8 k, .int .i64 f1, .int .i64 f2, .slice A5 hops.length c5, .int .i64 back] 52)
        replace hR1 := hR1.below ((Below.refl w5.heap.size w5).alloc (Nat.le_refl _) (.cells #[.int .u8 k, .int .i64 f1, .int .i64 f2, .slice A5 hops.length c5, .int .i64 back] 52))
        have hH2 := H2'.out _ ((Below.refl w5.heap.size w5).alloc (Nat.le_refl _) (.cells #[.int .u8 k, .int .i64 f1, .int .i64 f2, .slice A5 hops.length c5, .int .i64 back] 52))
        have HH2 := Lib.hid hH2
        clear H2' hH2
        go_upto_region 14 with fail
        generalize hgr : w5.heap.size = gr at kR ⊢
        generalize w5.alloc (.cells _ 52) = w6 at hB6 kR kC2 hR1 HH2 ⊢
        clear kC hB5 e0 e1 zC hgr
        have e0 := Blk.cell kC2 0
        have e1 := Blk.cell kC2 1
        have zC := Blk.lt kC2
        simp at e0 e1
        go_wp2_with fail
        refine HH2.out.mono ?_
        rintro e w7 ⟨hb7, ⟨k', ⟨f1', f2'⟩, hops', back'⟩, hv', x', rfl, hO', hF', hx'⟩
        have hR2 := hO'
        dsimp only at hR2 ⊢
        obtain ⟨A7, c7, rfl⟩ := hR2.shape
        replace hR2 := hR2.rows
        obtain ⟨hxx, hrr⟩ := fol_same HF.out hF' HX.out hx'
        subst hxx
        cases hrr
        have HLen : Hid (hops.length ≤ 1000) := Lib.hid (fol_len HF.out HQL.out)
        have hB7 := hB6.trans (hb7.mono hB6.size)
        replace kR := Blk.below kR hb7 (Blk.lt kR)
        replace hR1 := hR1.below hb7
        clear hb7 e0 e1 zC kC2 hO' hF' hx' hB6 HF HX HQL HH2
        have hB8 := hB7.alloc hB7.size (.cells #[.int .u8 k, .int .i64 f1, .int .i64 f2, .slice A7 hops.length c7, .int .i64 back] 52)
        have kS := Blk.new w7 52 #[.int .u8 k, .int .i64 f1, .int .i64 f2, .slice A7 hops.length c7, .int .i64 back]
        have kR2 := kR.alloc (.cells #[.int .u8 k, .int .i64 f1, .int .i64 f2, .slice A7 hops.length c7, .int .i64 back] 52)
        replace hR1 := hR1.below ((Below.refl w7.heap.size w7).alloc (Nat.le_refl _) (.cells #[.int .u8 k, .int .i64 f1, .int .i64 f2, .slice A7 hops.length c7, .int .i64 back] 52))
        replace hR2 := hR2.below ((Below.refl w7.heap.size w7).alloc (Nat.le_refl _) (.cells #[.int .u8 k, .int .i64 f1, .int .i64 f2, .slice A7 hops.length c7, .int .i64 back] 52))
        go_upto_region 15 with fail
        generalize hgs : w7.heap.size = gs at kS ⊢
        generalize w7.alloc (.cells _ 52) = w8 at hB8 kS kR2 hR1 hR2 ⊢
        clear kR hB7 hgs
        go_wp2_with fail
        refine (H3.out _ hB8).mono ?_
        rintro e w9 ⟨rfl, hb9⟩
        have hB9 := hB8.trans (hb9.mono hB8.size)
        replace kR2 := Blk.below kR2 hb9 (Blk.lt kR2)
        replace kS := Blk.below kS hb9 (Blk.lt kS)
        replace hR1 := hR1.below hb9
        replace hR2 := hR2.below hb9
        clear hb9 hB8
        have r0 := kR2.cell 0
        have r1 := kR2.cell 1
        have r2 := kR2.cell 2
        have r3 := kR2.cell 3
        have r4 := kR2.cell 4
        have s0 := kS.cell 0
        have s1 := kS.cell 1
        have s2 := kS.cell 2
        have s3 := kS.cell 3
        have s4 := kS.cell 4
        have zR := kR2.lt
        have zS := kS.lt
        simp at r0 r1 r2 r3 r4 s0 s1 s2 s3 s4
        have hS := sameRoute_eq k back (f1, f2) hops A5 A7 c5 c7 HLen.out w9 hR1 hR2
        unfold rtVal at hS
        dsimp only at hS
        have HS := Lib.hid hS
        clear hS hR1 hR2 kS kR2
        go_wp2_with fail
        refine HS.out.mono ?_
        rintro e w10 ⟨rfl, hb10⟩
        go_wp2_with fail
        go_ret
        exact ⟨by first | rfl | simp, hB9.trans (hb10.mono hB9.size)⟩
end Go.Proofs.YtmfjmoicnddkcaaGreatDoor
namespace Go.Proofs.YtmfjmoicnddkcaaGreatDoor
open Go.ChangeShapes Go.WideShapes Go.ChangeAt Go.RowKit

set_option maxRecDepth 100000 in
theorem lates_contract (H : Type) (enc : TypeId × Value → H) (W : World) (base : Nat) (args : Array Value) (ds gs : List (DataW H)) (before : List MemPlace)
    (hval : ∀ (j : Nat) t v, Tryz.f8.params[j]? = some t → args[j]? = some v → Value.okWide Tryz.prog W .any base t v)
    (hW : DataW.Whole enc Tryz.prog Tryz.f8.params.toList Rows.peopleLateSpec.vars false W args.toList ds gs before)
    (hsh : W.ShapedOpen Tryz.prog) :
    Calls Tryz.prog 8 args W fun e W' => ∃ v, e = .returned v ∧ Rows.peopleLateSpec.post enc Tryz.prog Tryz.f8 false true false false W args v W' := by
  have hW' := hW
  have hlt : ∀ p ∈ before, p.block < W.heap.size := fun p hp => hW.lt p hp
  obtain ⟨p, q, hA, hV, rfl, hfz, hnd⟩ := hW
  have hA0 : DataW.TrodAll enc Tryz.prog W 0 (fun _ => true) true [22, 22, 38, 3] args.toList ds p := hA
  obtain ⟨v0, vs0, d0, ds0, p0, q0, hargs, rfl, rfl, h0, r0⟩ := trodAll_cons hA0
  obtain ⟨v1, vs1, d1, ds1, p1, q1, rfl, rfl, rfl, h1, r1⟩ := trodAll_cons r0
  obtain ⟨v2, vs2, d2, ds2, p2, q2, rfl, rfl, rfl, h2, r2⟩ := trodAll_cons r1
  obtain ⟨v3, vs3, d3, ds3, p3, q3, rfl, rfl, rfl, h3, r3⟩ := trodAll_cons r2
  obtain ⟨rfl, rfl, rfl⟩ := trodAll_nil r3
  obtain rfl : args = #[v0, v1, v2, v3] := by cases args; simp_all
  obtain ⟨rfl, rfl⟩ := trodVars_none hV
  have hsl := slice_of_ok (hval 0 22 v0 rfl rfl)
  have hsm := slice_of_ok (hval 1 22 v1 rfl rfl)
  obtain ⟨A, c, l, rfl, hlc, hcm, hL, hgo, _⟩ := open_ents (fun x hx => hlt x (by simp [hx])) h0 hsl
  obtain ⟨A2, c2, l2, rfl, hlc2, hcm2, hL2, _, _⟩ := open_ents (fun x hx => hlt x (by simp [hx])) h1 hsm
  obtain ⟨cp, rfl, hcp, _⟩ := cand_of_ok (hval 2 38 v2 rfl rfl) h2
  obtain ⟨d, rfl, rfl, rfl, hwd⟩ := open_int Tryz.underlying3 (hval 3 3 v3 rfl rfl) h3
  obtain ⟨m, rfl⟩ := to_oents l hgo
  have hlm : (m.map (·.1)).length = m.length := List.length_map _
  have hw := lates_walk A c m A2 c2 l2 cp d (fun x hx => ⟨(hgo x.1 (List.mem_map_of_mem hx)).2.2.2.2.1, (hgo x.1 (List.mem_map_of_mem hx)).2.2.2.2.2⟩) W hL hL2 (by rw [← hlm]; exact hlc) (laysCut.s1_3 W hsh)
  rw [← hlm] at hw
  refine hw.mono fun e W' ⟨he, hb⟩ => ?_
  subst he
  exact law_post rfl (fun t ht => by
    have ht' : t ∈ [(22 : TypeId), 22, 38, 3] := ht
    simp at ht'
    rcases ht' with rfl | rfl | rfl
    · exact ents_readable
    · exact cand_readable
    · exact int_readable) rfl hW' rfl hb

theorem lates_laid_met (os : Os) : laidMetH Tryz.prog Rows.peopleLateRow.laid ((doorW os).forCall (fun _ _ => 0) ⟨#[], #[.slice none 0 0, .slice none 0 0, .agg #[.int .i64 0, .int .i64 0], .int .i64 0], []⟩).memory :=
  laidMetH_of_parts3 (fuel := 8) (laidMet_of_run' 8 (by kernel_rfl) (by kernel_rfl)) (by kernel_rfl) (by kernel_rfl)
theorem lates_reads (os : Os) {H : Type} (enc : TypeId × Value → H) : ∃ places, DataW.whole enc Tryz.prog ((doorW os).forCall (fun _ _ => 0) ⟨#[], #[.slice none 0 0, .slice none 0 0, .agg #[.int .i64 0, .int .i64 0], .int .i64 0], []⟩).memory Tryz.f8.params.toList Rows.peopleLateSpec.vars false #[Value.slice none 0 0, Value.slice none 0 0, Value.agg #[.int .i64 0, .int .i64 0], Value.int .i64 0].toList 8 = some ([.nil, .nil, .agg [.lit (.int .i64 0), .lit (.int .i64 0)], .lit (.int .i64 0)], [], places) :=
  ⟨[], by kernel_rfl⟩

set_option maxRecDepth 100000 in
theorem lates_lifted (os : Os) (started : os.Started) (H : Type) (enc : TypeId × Value → H) (F : Stop.Interp) :
    ReturnsInHanded {} Tryz.checked os 8 .any ((OpenSpec.ofChange Rows.peopleLateSpec).preRow enc Tryz.prog Tryz.f8 Rows.peopleLateRow.domain false Rows.peopleLateRow.laid) (((OpenSpec.ofChange Rows.peopleLateSpec).at F).post enc Tryz.prog Tryz.f8 false true false false) := by
  obtain ⟨places, hx⟩ := lates_reads os enc
  refine returnsInHanded_of_row (C := Tryz.checked) (s := OpenSpec.ofChange Rows.peopleLateSpec) ownKnobA started (by kernel_rfl) Tryz.func8
    (witness_row_at (enc := enc) (C := Tryz.checked) false (doorW os) #[.slice none 0 0, .slice none 0 0, .agg #[.int .i64 0, .int .i64 0], .int .i64 0] rfl (by kernel_rfl) (by kernel_rfl) (by kernel_rfl)
      (OpenSpec.preRow_of_cond 8 hx (by kernel_rfl) (fun k hk => by cases hk) (by kernel_rfl) (lates_laid_met os))) ?_
  intro W base args ds gs before hval hW _ _ _ _ hsh _
  exact lates_contract H enc W base args ds gs before hval hW hsh

theorem lates_said : Rows.PeopleLateSaid :=
  OpenClaim.holds_of_cond 8 Tryz.f8 rfl rfl rfl rfl rfl rfl rfl ⟨rfl, rfl, rfl, rfl, rfl⟩ rfl rfl rfl rfl rfl (by kernel_rfl) Tryz.func8 (by kernel_rfl)
    (of_decide_eq_true (by kernel_rfl)) (by unfold Func.isWrapper; first | (rw [if_pos (by decide +kernel)]; kernel_rfl) | (rw [if_neg (by decide +kernel)]; exact ⟨rfl, rfl⟩))
    (fun os started H enc _ F => by rw [OpenClaim.pre_eq_preRow]; exact lates_lifted os started H enc F)

theorem lates_plain (f : FuncId) (fn : Func) (hf : Tryz.pinned.checked.prog.funcNamed "restante/restantelaw03.PeopleLate" = some f) (hfn : Tryz.pinned.checked.prog.funcs[f]? = some fn) :
    true = Tryz.pinned.checked.prog.looks [] ∧ ∀ (j : Nat) t, fn.params[j]? = some t → Tryz.pinned.checked.prog.wantsStandIn t = false := by
  obtain rfl : f = 8 := Option.some.inj ((show Tryz.prog.funcNamed "restante/restantelaw03.PeopleLate" = some 8 by kernel_rfl).symm.trans hf) |>.symm
  obtain rfl : fn = Tryz.f8 := (Option.some.inj (Tryz.func8.symm.trans hfn)).symm
  refine ⟨by kernel_rfl, fun j t ht => ?_⟩
  rw [Tryz.params8] at ht
  have ht' := Array.mem_of_getElem? ht
  simp at ht'
  rcases ht' with rfl | rfl | rfl
  · exact (show Tryz.prog.wantsStandIn 22 = false by kernel_rfl)
  · exact (show Tryz.prog.wantsStandIn 38 = false by kernel_rfl)
  · exact (show Tryz.prog.wantsStandIn 3 = false by kernel_rfl)

theorem peopleLate_card : Rows.PeopleLateCardSaid :=
  Claim7.holds_tied_plain_at .later [] _ _ _ _ lates_said (fun _ h => by cases h) (by kernel_rfl) (fun _ h => by cases h) peopleLate_row_tie rfl ⟨rfl, rfl⟩ (by kernel_rfl) rfl lates_plain (by kernel_rfl)
#print axioms peopleLate_card
end Go.Proofs.YtmfjmoicnddkcaaGreatDoor
