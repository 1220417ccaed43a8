/- The closures that places, Dwellers and Pairs hand to pairs; which pairs are wanted. No conditions. The contract of pairs for the closure of P: the pairs whose person lives at the place, that are wanted, in ascending order. Conditions: the directory lies in memory; at most 60 entries. The contract of pairs for the closure of D: the pairs whose person lives at the place, that are wanted, in ascending order. Conditions: the directory lies in memory; at most 60 entries. The contract of pairs for the closure of A: the pairs whose person lives at the place, that are wanted, in ascending order. Conditions: the directory lies in memory; at most 60 entries. The contracts of Places, Dwellers and Pairs of package people: which pairs live at the places, in ascending order. Conditions: the list lies in memory; at most 60 entries. -/
import Derived.Test.YtmfjmoicnddkcaaGreatDoorSetKA
import Derived.Test.YtmfjmoicnddkcaaGreatDoorSetSA
import Derived.Test.YtmfjmoicnddkcaaGreatDoorIntA
import Derived.Test.YtmfjmoicnddkcaaGreatDoorOnA
namespace Go.Proofs.YtmfjmoicnddkcaaGreatDoor
open Go.RowKit Go.Shelf

def wantP (n : Int) (c : Int × Int) : Bool := decide (c.1 = n)
def wantD (n : Int) (c : Int × Int) : Bool := decide (c.2 = n)
def wantA (_ : Int × Int) : Bool := true
/-- The pairs of some entries that are wanted and whose person is alive. -/
def liveM (dead : Int → Bool) (want : Int × Int → Bool) (l : List OEnt) : List (Int × Int) := (l.map fun x => (x.1.person, x.1.place)).filter fun c => want c && !dead c.1
theorem live_skip {dead : Int → Bool} {want : Int × Int → Bool} {l : List OEnt} {x : OEnt} (h : (want (x.1.person, x.1.place) && !dead x.1.person) = false) : liveM dead want (l ++ [x]) = liveM dead want l := by
  unfold liveM
  rw [List.map_append, List.filter_append]
  simp only [List.map_cons, List.map_nil, List.filter_cons, List.filter_nil, h]
  simp
theorem live_take {dead : Int → Bool} {want : Int × Int → Bool} {l : List OEnt} {x : OEnt} (h : (want (x.1.person, x.1.place) && !dead x.1.person) = true) : liveM dead want (l ++ [x]) = liveM dead want l ++ [(x.1.person, x.1.place)] := by
  unfold liveM
  rw [List.map_append, List.filter_append]
  simp only [List.map_cons, List.map_nil, List.filter_cons, List.filter_nil, h]
  simp
theorem live_len (dead : Int → Bool) (want : Int × Int → Bool) (l : List OEnt) : (liveM dead want l).length ≤ l.length := by
  have := List.length_filter_le (fun c => want c && !dead c.1) (l.map fun x => (x.1.person, x.1.place))
  rwa [List.length_map] at this
theorem live_int (dead : Int → Bool) (want : Int × Int → Bool) (l : List OEnt) : IntsC (liveM dead want l) := fun c hc => by
  obtain ⟨x, _, rfl⟩ := List.mem_map.1 (List.mem_filter.1 hc).1
  exact ⟨x.2.1, x.2.2.2.2⟩
theorem live_mem {dead : Int → Bool} {want : Int × Int → Bool} {l : List OEnt} {c : Int × Int} : c ∈ liveM dead want l ↔ (∃ x ∈ l, (x.1.person, x.1.place) = c) ∧ want c = true ∧ dead c.1 = false := by
  unfold liveM
  rw [List.mem_filter, List.mem_map]
  simp
theorem keysP_at {cs : List (Int × Int)} {c : Int × Int} {kl : Lit} (hk : keyOf Tryz.prog 38 (candVal c) = some kl) : keysP (cs ++ [c]) kl = true :=
  keysP_iff.2 ⟨c, by simp, hk⟩
theorem keysP_other {cs : List (Int × Int)} {c : Int × Int} {kl k : Lit} (hk : keyOf Tryz.prog 38 (candVal c) = some kl) (h : k ≠ kl) : keysP (cs ++ [c]) k = keysP cs k := by
  rw [Bool.eq_iff_iff, keysP_iff, keysP_iff]
  constructor
  · rintro ⟨x, hx, hx2⟩
    rcases List.mem_append.1 hx with hx | hx
    · exact ⟨x, hx, hx2⟩
    · simp at hx
      subst hx
      exact absurd (Option.some.inj (hx2.symm.trans hk)) h
  · rintro ⟨x, hx, hx2⟩
    exact ⟨x, List.mem_append_left _ hx, hx2⟩
set_option maxRecDepth 100000 in
set_option maxHeartbeats 1000000 in
theorem places1_any (c : Int × Int) (n : Int) (g : Nat) (w : World) (hg : Blk w g 3 #[.int .i64 n]) :
    Calls Tryz.prog 78 #[candVal c, .pointer (some ⟨g, 0, none⟩)] w fun e w' => e = .returned (.bool (wantP n c)) ∧ Below w.heap.size w w' := by
  obtain ⟨a, b⟩ := c
  have c0 := hg.cell 0
  simp at c0
  have hz := hg.lt
  unfold candVal wantP
  dsimp only
  by_cases h : a = n
  · subst h
    go_enter Tryz.func78, Tryz.ntmps78
    go_wp2
    go_ret
    exact ⟨by simp, (Below.refl _ _).alloc (Nat.le_refl _) _⟩
  · rw [decide_eq_false h]
    go_enter Tryz.func78, Tryz.ntmps78
    go_wp2
    go_ret
    exact ⟨by simp [h], (Below.refl _ _).alloc (Nat.le_refl _) _⟩

set_option maxRecDepth 100000 in
set_option maxHeartbeats 1000000 in
theorem dwellers1_any (c : Int × Int) (n : Int) (g : Nat) (w : World) (hg : Blk w g 3 #[.int .i64 n]) :
    Calls Tryz.prog 55 #[candVal c, .pointer (some ⟨g, 0, none⟩)] w fun e w' => e = .returned (.bool (wantD n c)) ∧ Below w.heap.size w w' := by
  obtain ⟨a, b⟩ := c
  have c0 := hg.cell 0
  simp at c0
  have hz := hg.lt
  unfold candVal wantD
  dsimp only
  by_cases h : b = n
  · subst h
    go_enter Tryz.func55, Tryz.ntmps55
    go_wp2
    go_ret
    exact ⟨by simp, (Below.refl _ _).alloc (Nat.le_refl _) _⟩
  · rw [decide_eq_false h]
    go_enter Tryz.func55, Tryz.ntmps55
    go_wp2
    go_ret
    exact ⟨by simp [h], (Below.refl _ _).alloc (Nat.le_refl _) _⟩

set_option maxRecDepth 100000 in
set_option maxHeartbeats 1000000 in
theorem pairs1_any (c : Int × Int) (w : World) :
    Calls Tryz.prog 57 #[candVal c] w fun e w' => e = .returned (.bool (wantA c)) ∧ Below w.heap.size w w' := by
  obtain ⟨a, b⟩ := c
  unfold candVal wantA
  go_enter Tryz.func57, Tryz.ntmps57
  go_wp2
  go_ret
  exact ⟨rfl, by first | exact Below.refl _ _ | exact (Below.refl _ _).alloc (Nat.le_refl _) _⟩
end Go.Proofs.YtmfjmoicnddkcaaGreatDoor
namespace Go.Proofs.YtmfjmoicnddkcaaGreatDoor
open Go.RowKit Go.Shelf
attribute [local go_sem] Oper.semAt_some

set_option maxRecDepth 100000 in
set_option maxHeartbeats 2000000 in
theorem pairsP_any (A : Option Addr) (c : Nat) (l : List OEnt) (h60 : l.length ≤ 60) (d : Int) (n : Int) (b1 b2 g : Nat) (dead canc : Int → Bool) (w : World) (hD : DirIn w A l b1 b2 dead canc) (hg : Blk w g 3 #[.int .i64 n]) :
    Calls Tryz.prog 54 #[dirVal A l.length c d (some b1) (some b2), .func (.func 78) #[] #[.pointer (some ⟨g, 0, none⟩)]] w fun e w' =>
      ∃ A' c' r, e = .returned (.slice A' r.length c') ∧ PairsAt w' A' r ∧ Hid (r.Pairwise ltC ∧ ∀ x, x ∈ r ↔ x ∈ liveM dead (wantP n) (flt l 2 d)) ∧ r.length ≤ 60 ∧ Below w.heap.size w w' := by
  have hf1 : (flt l 2 d).length ≤ l.length := List.length_filter_le _ _
  have hlen := hD.len
  have hmm := @run_makeMap Tryz.prog
  unfold dirVal
  refine (callsIn_wide (n := 9)).1 (callsIn_of_wp_marks Tryz.func54 rfl trivial ?_ rfl)
  simp only [Tryz.ntmps54, List.size_toArray, List.length_cons, List.length_nil, Nat.reduceAdd, Nat.reduceSub, Array.replicate_succ, Array.replicate_zero, List.push_toArray, List.append_toArray, List.nil_append, List.cons_append]
  gi_wp2_with (refine ⟨trivial, ?_⟩; gi_at_call 51; refine (each_any _ A l.length c d 2 (some b1) (some b2) _).mono ?_; rintro e w' ⟨rfl, rfl⟩)
  simp only [Nat.add_assoc, Nat.reduceAdd]
  refine wpIn_gen6 ?_
  intro W0 hB0 hz0 k0 k1 k2 k3 k4 k5
  have hgl := hg.lt
  refine wpIn_eachL (by omega) 6 w.heap.size (w.heap.size + 4) (w.heap.size + 5) A c l 2 d (some b1) (some b2) rfl (by omega) hlen k4 k5 (hD.list.below hB0)
    (fun pre W => (Blk W w.heap.size 69 #[.slice A l.length c, .int .i64 d, .map (some b1), .map (some b2)] ∧ Blk W (w.heap.size + 1) 82 #[.func (.func 78) #[] #[.pointer (some ⟨g, 0, none⟩)]] ∧ Blk W (w.heap.size + 3) 106 #[.map (some (w.heap.size + 2))] ∧ SetT 38 W (w.heap.size + 2) pre.length (keysP (liveM dead (wantP n) pre))) ∧ (Below w.heap.size w W ∧ W0.heap.size ≤ W.heap.size))
    (fun _ _ _ => False) ?_ (fun _ _ _ _ _ hs _ _ => hs) ⟨⟨k0, k1, k3, (SetT.new_of k2).congr (fun k => keysP_nil k)⟩, hB0, Nat.le_refl _⟩ (fun pre W hs => hs.2.2) ?_ ?_ ?_ ?_
  · exact .and (.and (Own.from (blk_own _ _ _) _) (.and (Own.from (blk_own _ _ _) _) (.and (Own.from (blk_own _ _ _) _) (setT_own (show w.heap.size + 2 < W0.heap.size by omega) _ (fun (pre : List OEnt) => pre.length) (fun (pre : List OEnt) => keysP (liveM dead (wantP n) pre)))))) (.and (ownFrom_below (Nat.le_refl _) (by omega)) (size_own _ _))
  · intro lp x W K hK
    unfold entVal entCells at *
    simp only [List.setIfInBounds_toArray, List.set_cons_succ, List.set_cons_zero] at hK ⊢
    gi_wp2
    exact hK
  · rintro lp pre x Bx W hBx hx ⟨⟨bD, bF, bM, s1⟩, hB, hz⟩ hlt
    obtain ⟨c0, c1, c2, c3, c4, c5, c6, c7, c8, c9, _⟩ := hx.cells
    have e0 := bF.cell 0
    have d2 := bD.cell 2
    have m0 := bM.cell 0
    have z1 := bF.lt
    have z2 := Blk.lt hx
    have z3 := bD.lt
    have z4 := bM.lt
    simp at e0 d2 m0
    gi_wp2_with fail
    have hgW := hg.below hB hgl
    have hnew : Blk (W.alloc (.cells #[.int .i64 x.1.person, .int .i64 x.1.place] 38)) W.heap.size 38 #[.int .i64 x.1.person, .int .i64 x.1.place] := at_new rfl
    have aD := bD.alloc (.cells #[.int .i64 x.1.person, .int .i64 x.1.place] 38)
    have aF := bF.alloc (.cells #[.int .i64 x.1.person, .int .i64 x.1.place] 38)
    have aM := bM.alloc (.cells #[.int .i64 x.1.person, .int .i64 x.1.place] 38)
    have aS := s1.alloc (.cells #[.int .i64 x.1.person, .int .i64 x.1.place] 38)
    refine ⟨trivial, ?_⟩
    refine (CallsIn.inRound lp (callsIn_wide.2 (places1_any (x.1.person, x.1.place) n g _ (hgW.alloc (.cells #[.int .i64 x.1.person, .int .i64 x.1.place] 38))))).mono ?_
    rintro e w1 ⟨rfl, hb1⟩
    replace hnew := hnew.below hb1 hnew.lt
    replace aD := aD.below hb1 aD.lt
    replace aF := aF.below hb1 aF.lt
    replace aM := aM.below hb1 aM.lt
    replace aS := aS.below hb1 aS.lt
    have hB1 : Below w.heap.size w w1 := below_two2 hb1 (below_al hB _)
    have hz1 : W0.heap.size ≤ w1.heap.size := Nat.le_trans hz (Nat.le_trans (by simp) hb1.size)
    have hKO : KeepsOthers W w1 := (KeepsOthers.alloc W (.cells #[.int .i64 x.1.person, .int .i64 x.1.place] 38)).trans (keepsO_new hb1)
    have hKM : Keeps (mineS w.heap.size (w.heap.size + 4) (w.heap.size + 5)) W w1 := ((Keeps.refl _ W).alloc (.cells #[.int .i64 x.1.person, .int .i64 x.1.place] 38)).trans (Keeps.of_new (S := mineS w.heap.size (w.heap.size + 4) (w.heap.size + 5)) hb1) (fun _ _ h => h)
    have hDW := hD.below hB1
    have hq1 := hDW.dead.look lawInt mapIntRow (keyInt x.2.1)
    rw [onInt_at] at hq1
    clear hb1 c0 c1 c2 c3 c4 c5 c6 c7 c8 c9 e0 d2 m0
    have d2 := aD.cell 2
    have m0 := aM.cell 0
    have n0 := hnew.cell 0
    have n1 := hnew.cell 1
    simp at d2 m0 n0 n1
    obtain ⟨kl, hk⟩ := keyCand (c := (x.1.person, x.1.place)) ⟨x.2.1, x.2.2.2.2⟩
    have hkeep : ((wantP n) (x.1.person, x.1.place) && !dead x.1.person) = false → SetT 38 w1 (w.heap.size + 2) (pre ++ [x]).length (keysP (liveM dead (wantP n) (pre ++ [x]))) := fun h => (aS.mono (by simp)).congr (fun k => by rw [live_skip h])
    have hgoes : ((wantP n) (x.1.person, x.1.place) && !dead x.1.person) = true → (∀ q : Lit → Bool, q = keysP (liveM dead (wantP n) (pre ++ [x])) → q kl = true ∧ ∀ k, k ≠ kl → q k = keysP (liveM dead (wantP n) pre) k) := fun h q hq => by
      subst hq
      rw [live_take h]
      exact ⟨keysP_at hk, fun k hne => keysP_other hk hne⟩
    have HK := Lib.hid hkeep
    have HG := Lib.hid hgoes
    clear hkeep hgoes
    cases hdec : (wantP n) (x.1.person, x.1.place)
    · have hs := HK.out (by rw [hdec]; rfl)
      clear HK HG hk
      gi_wp2
      exact ⟨hKO.from _, hKM, ⟨aD, aF, aM, hs⟩, hB1, hz1⟩
    · cases hdd : dead x.1.person
      · rw [hdd] at hq1
        unfold candVal at hk
        obtain ⟨w2, hrun, hset, hk2⟩ := aS.store lawCand mapCandRow (by omega) hk
        obtain ⟨hg1, hg2⟩ := HG.out (by rw [hdec, hdd]; rfl) _ rfl
        have hs := hset _ hg1 hg2
        have HS : Hid (SetT 38 w2 (w.heap.size + 2) (pre ++ [x]).length (keysP (liveM dead (wantP n) (pre ++ [x])))) := Lib.hid (by rw [List.length_append]; exact hs)
        dsimp only at hrun
        clear HK HG hk hs hset hg1 hg2
        gi_wp2_with (gi_at_mapUpdate; refine wpListIn_put _ rfl _ _ _ _ rfl hrun ?_)
        exact ⟨hKO.from _ |>.trans (keepsFrom_of hk2 (fun i hi e => by omega)), hKM.trans hk2 (fun i _ h => by subst h; exact ⟨by omega, by omega, by omega⟩), ⟨aD.keep hk2 (by omega), aF.keep hk2 (by omega), aM.keep hk2 (by omega), HS.out⟩, hB1.trans (hk2.below (fun k hk e => by omega) hB1.size), Nat.le_trans hz1 hk2.size⟩
      · rw [hdd] at hq1
        have hs := HK.out (by rw [hdd]; simp)
        clear HK HG hk
        gi_wp2
        exact ⟨hKO.from _, hKM, ⟨aD, aF, aM, hs⟩, hB1, hz1⟩
  · rintro D W hD' ⟨⟨bD, bF, bM, s1⟩, hB, hz⟩ hK
    have e0 := bM.cell 0
    simp at e0
    have hl60 := live_len dead (wantP n) (flt l 2 d)
    have HP := Lib.hid (sortedPairsG_any W _ _ (by omega) _ (by omega) (live_int dead (wantP n) (flt l 2 d)) s1)
    clear s1
    gi_wp2_with fail
    refine ⟨trivial, ?_⟩
    refine (callsIn_wide.2 HP.out).mono ?_
    rintro e w1 ⟨A1, c1, r, rfl, hP, hr, hl, hb1⟩
    have hK1 := (hb1.block D (Array.getElem?_eq_some_iff.1 hK).1).trans hK
    have hB1 : Below w.heap.size w w1 := hB.trans (hb1.mono hB.size)
    clear HP
    gi_wp2
    all_goals
      refine ⟨by simp, .inl ⟨_, _, rfl, run_takeDeferred hK1, ?_⟩⟩
      exact ⟨_, results_tmp rfl _ _ _, A1, c1, r, by first | rfl | simp, hP.put hK1 rfl, hr, by omega, below_end hB1 hK1 (by omega)⟩
  · rintro D co pre W _ _ h _
    exact h.elim
end Go.Proofs.YtmfjmoicnddkcaaGreatDoor
namespace Go.Proofs.YtmfjmoicnddkcaaGreatDoor
open Go.RowKit Go.Shelf
attribute [local go_sem] Oper.semAt_some

set_option maxRecDepth 100000 in
set_option maxHeartbeats 2000000 in
theorem pairsD_any (A : Option Addr) (c : Nat) (l : List OEnt) (h60 : l.length ≤ 60) (d : Int) (n : Int) (b1 b2 g : Nat) (dead canc : Int → Bool) (w : World) (hD : DirIn w A l b1 b2 dead canc) (hg : Blk w g 3 #[.int .i64 n]) :
    Calls Tryz.prog 54 #[dirVal A l.length c d (some b1) (some b2), .func (.func 55) #[] #[.pointer (some ⟨g, 0, none⟩)]] w fun e w' =>
      ∃ A' c' r, e = .returned (.slice A' r.length c') ∧ PairsAt w' A' r ∧ Hid (r.Pairwise ltC ∧ ∀ x, x ∈ r ↔ x ∈ liveM dead (wantD n) (flt l 2 d)) ∧ r.length ≤ 60 ∧ Below w.heap.size w w' := by
  have hf1 : (flt l 2 d).length ≤ l.length := List.length_filter_le _ _
  have hlen := hD.len
  have hmm := @run_makeMap Tryz.prog
  unfold dirVal
  refine (callsIn_wide (n := 9)).1 (callsIn_of_wp_marks Tryz.func54 rfl trivial ?_ rfl)
  simp only [Tryz.ntmps54, List.size_toArray, List.length_cons, List.length_nil, Nat.reduceAdd, Nat.reduceSub, Array.replicate_succ, Array.replicate_zero, List.push_toArray, List.append_toArray, List.nil_append, List.cons_append]
  gi_wp2_with (refine ⟨trivial, ?_⟩; gi_at_call 51; refine (each_any _ A l.length c d 2 (some b1) (some b2) _).mono ?_; rintro e w' ⟨rfl, rfl⟩)
  simp only [Nat.add_assoc, Nat.reduceAdd]
  refine wpIn_gen6 ?_
  intro W0 hB0 hz0 k0 k1 k2 k3 k4 k5
  have hgl := hg.lt
  refine wpIn_eachL (by omega) 6 w.heap.size (w.heap.size + 4) (w.heap.size + 5) A c l 2 d (some b1) (some b2) rfl (by omega) hlen k4 k5 (hD.list.below hB0)
    (fun pre W => (Blk W w.heap.size 69 #[.slice A l.length c, .int .i64 d, .map (some b1), .map (some b2)] ∧ Blk W (w.heap.size + 1) 82 #[.func (.func 55) #[] #[.pointer (some ⟨g, 0, none⟩)]] ∧ Blk W (w.heap.size + 3) 106 #[.map (some (w.heap.size + 2))] ∧ SetT 38 W (w.heap.size + 2) pre.length (keysP (liveM dead (wantD n) pre))) ∧ (Below w.heap.size w W ∧ W0.heap.size ≤ W.heap.size))
    (fun _ _ _ => False) ?_ (fun _ _ _ _ _ hs _ _ => hs) ⟨⟨k0, k1, k3, (SetT.new_of k2).congr (fun k => keysP_nil k)⟩, hB0, Nat.le_refl _⟩ (fun pre W hs => hs.2.2) ?_ ?_ ?_ ?_
  · exact .and (.and (Own.from (blk_own _ _ _) _) (.and (Own.from (blk_own _ _ _) _) (.and (Own.from (blk_own _ _ _) _) (setT_own (show w.heap.size + 2 < W0.heap.size by omega) _ (fun (pre : List OEnt) => pre.length) (fun (pre : List OEnt) => keysP (liveM dead (wantD n) pre)))))) (.and (ownFrom_below (Nat.le_refl _) (by omega)) (size_own _ _))
  · intro lp x W K hK
    unfold entVal entCells at *
    simp only [List.setIfInBounds_toArray, List.set_cons_succ, List.set_cons_zero] at hK ⊢
    gi_wp2
    exact hK
  · rintro lp pre x Bx W hBx hx ⟨⟨bD, bF, bM, s1⟩, hB, hz⟩ hlt
    obtain ⟨c0, c1, c2, c3, c4, c5, c6, c7, c8, c9, _⟩ := hx.cells
    have e0 := bF.cell 0
    have d2 := bD.cell 2
    have m0 := bM.cell 0
    have z1 := bF.lt
    have z2 := Blk.lt hx
    have z3 := bD.lt
    have z4 := bM.lt
    simp at e0 d2 m0
    gi_wp2_with fail
    have hgW := hg.below hB hgl
    have hnew : Blk (W.alloc (.cells #[.int .i64 x.1.person, .int .i64 x.1.place] 38)) W.heap.size 38 #[.int .i64 x.1.person, .int .i64 x.1.place] := at_new rfl
    have aD := bD.alloc (.cells #[.int .i64 x.1.person, .int .i64 x.1.place] 38)
    have aF := bF.alloc (.cells #[.int .i64 x.1.person, .int .i64 x.1.place] 38)
    have aM := bM.alloc (.cells #[.int .i64 x.1.person, .int .i64 x.1.place] 38)
    have aS := s1.alloc (.cells #[.int .i64 x.1.person, .int .i64 x.1.place] 38)
    refine ⟨trivial, ?_⟩
    refine (CallsIn.inRound lp (callsIn_wide.2 (dwellers1_any (x.1.person, x.1.place) n g _ (hgW.alloc (.cells #[.int .i64 x.1.person, .int .i64 x.1.place] 38))))).mono ?_
    rintro e w1 ⟨rfl, hb1⟩
    replace hnew := hnew.below hb1 hnew.lt
    replace aD := aD.below hb1 aD.lt
    replace aF := aF.below hb1 aF.lt
    replace aM := aM.below hb1 aM.lt
    replace aS := aS.below hb1 aS.lt
    have hB1 : Below w.heap.size w w1 := below_two2 hb1 (below_al hB _)
    have hz1 : W0.heap.size ≤ w1.heap.size := Nat.le_trans hz (Nat.le_trans (by simp) hb1.size)
    have hKO : KeepsOthers W w1 := (KeepsOthers.alloc W (.cells #[.int .i64 x.1.person, .int .i64 x.1.place] 38)).trans (keepsO_new hb1)
    have hKM : Keeps (mineS w.heap.size (w.heap.size + 4) (w.heap.size + 5)) W w1 := ((Keeps.refl _ W).alloc (.cells #[.int .i64 x.1.person, .int .i64 x.1.place] 38)).trans (Keeps.of_new (S := mineS w.heap.size (w.heap.size + 4) (w.heap.size + 5)) hb1) (fun _ _ h => h)
    have hDW := hD.below hB1
    have hq1 := hDW.dead.look lawInt mapIntRow (keyInt x.2.1)
    rw [onInt_at] at hq1
    clear hb1 c0 c1 c2 c3 c4 c5 c6 c7 c8 c9 e0 d2 m0
    have d2 := aD.cell 2
    have m0 := aM.cell 0
    have n0 := hnew.cell 0
    have n1 := hnew.cell 1
    simp at d2 m0 n0 n1
    obtain ⟨kl, hk⟩ := keyCand (c := (x.1.person, x.1.place)) ⟨x.2.1, x.2.2.2.2⟩
    have hkeep : ((wantD n) (x.1.person, x.1.place) && !dead x.1.person) = false → SetT 38 w1 (w.heap.size + 2) (pre ++ [x]).length (keysP (liveM dead (wantD n) (pre ++ [x]))) := fun h => (aS.mono (by simp)).congr (fun k => by rw [live_skip h])
    have hgoes : ((wantD n) (x.1.person, x.1.place) && !dead x.1.person) = true → (∀ q : Lit → Bool, q = keysP (liveM dead (wantD n) (pre ++ [x])) → q kl = true ∧ ∀ k, k ≠ kl → q k = keysP (liveM dead (wantD n) pre) k) := fun h q hq => by
      subst hq
      rw [live_take h]
      exact ⟨keysP_at hk, fun k hne => keysP_other hk hne⟩
    have HK := Lib.hid hkeep
    have HG := Lib.hid hgoes
    clear hkeep hgoes
    cases hdec : (wantD n) (x.1.person, x.1.place)
    · have hs := HK.out (by rw [hdec]; rfl)
      clear HK HG hk
      gi_wp2
      exact ⟨hKO.from _, hKM, ⟨aD, aF, aM, hs⟩, hB1, hz1⟩
    · cases hdd : dead x.1.person
      · rw [hdd] at hq1
        unfold candVal at hk
        obtain ⟨w2, hrun, hset, hk2⟩ := aS.store lawCand mapCandRow (by omega) hk
        obtain ⟨hg1, hg2⟩ := HG.out (by rw [hdec, hdd]; rfl) _ rfl
        have hs := hset _ hg1 hg2
        have HS : Hid (SetT 38 w2 (w.heap.size + 2) (pre ++ [x]).length (keysP (liveM dead (wantD n) (pre ++ [x])))) := Lib.hid (by rw [List.length_append]; exact hs)
        dsimp only at hrun
        clear HK HG hk hs hset hg1 hg2
        gi_wp2_with (gi_at_mapUpdate; refine wpListIn_put _ rfl _ _ _ _ rfl hrun ?_)
        exact ⟨hKO.from _ |>.trans (keepsFrom_of hk2 (fun i hi e => by omega)), hKM.trans hk2 (fun i _ h => by subst h; exact ⟨by omega, by omega, by omega⟩), ⟨aD.keep hk2 (by omega), aF.keep hk2 (by omega), aM.keep hk2 (by omega), HS.out⟩, hB1.trans (hk2.below (fun k hk e => by omega) hB1.size), Nat.le_trans hz1 hk2.size⟩
      · rw [hdd] at hq1
        have hs := HK.out (by rw [hdd]; simp)
        clear HK HG hk
        gi_wp2
        exact ⟨hKO.from _, hKM, ⟨aD, aF, aM, hs⟩, hB1, hz1⟩
  · rintro D W hD' ⟨⟨bD, bF, bM, s1⟩, hB, hz⟩ hK
    have e0 := bM.cell 0
    simp at e0
    have hl60 := live_len dead (wantD n) (flt l 2 d)
    have HP := Lib.hid (sortedPairsG_any W _ _ (by omega) _ (by omega) (live_int dead (wantD n) (flt l 2 d)) s1)
    clear s1
    gi_wp2_with fail
    refine ⟨trivial, ?_⟩
    refine (callsIn_wide.2 HP.out).mono ?_
    rintro e w1 ⟨A1, c1, r, rfl, hP, hr, hl, hb1⟩
    have hK1 := (hb1.block D (Array.getElem?_eq_some_iff.1 hK).1).trans hK
    have hB1 : Below w.heap.size w w1 := hB.trans (hb1.mono hB.size)
    clear HP
    gi_wp2
    all_goals
      refine ⟨by simp, .inl ⟨_, _, rfl, run_takeDeferred hK1, ?_⟩⟩
      exact ⟨_, results_tmp rfl _ _ _, A1, c1, r, by first | rfl | simp, hP.put hK1 rfl, hr, by omega, below_end hB1 hK1 (by omega)⟩
  · rintro D co pre W _ _ h _
    exact h.elim
end Go.Proofs.YtmfjmoicnddkcaaGreatDoor
namespace Go.Proofs.YtmfjmoicnddkcaaGreatDoor
open Go.RowKit Go.Shelf
attribute [local go_sem] Oper.semAt_some

set_option maxRecDepth 100000 in
set_option maxHeartbeats 2000000 in
theorem pairsA_any (A : Option Addr) (c : Nat) (l : List OEnt) (h60 : l.length ≤ 60) (d : Int) (b1 b2 : Nat) (dead canc : Int → Bool) (w : World) (hD : DirIn w A l b1 b2 dead canc) :
    Calls Tryz.prog 54 #[dirVal A l.length c d (some b1) (some b2), .func (.func 57) #[] #[]] w fun e w' =>
      ∃ A' c' r, e = .returned (.slice A' r.length c') ∧ PairsAt w' A' r ∧ Hid (r.Pairwise ltC ∧ ∀ x, x ∈ r ↔ x ∈ liveM dead wantA (flt l 2 d)) ∧ r.length ≤ 60 ∧ Below w.heap.size w w' := by
  have hf1 : (flt l 2 d).length ≤ l.length := List.length_filter_le _ _
  have hlen := hD.len
  have hmm := @run_makeMap Tryz.prog
  unfold dirVal
  refine (callsIn_wide (n := 9)).1 (callsIn_of_wp_marks Tryz.func54 rfl trivial ?_ rfl)
  simp only [Tryz.ntmps54, List.size_toArray, List.length_cons, List.length_nil, Nat.reduceAdd, Nat.reduceSub, Array.replicate_succ, Array.replicate_zero, List.push_toArray, List.append_toArray, List.nil_append, List.cons_append]
  gi_wp2_with (refine ⟨trivial, ?_⟩; gi_at_call 51; refine (each_any _ A l.length c d 2 (some b1) (some b2) _).mono ?_; rintro e w' ⟨rfl, rfl⟩)
  simp only [Nat.add_assoc, Nat.reduceAdd]
  refine wpIn_gen6 ?_
  intro W0 hB0 hz0 k0 k1 k2 k3 k4 k5
  refine wpIn_eachL (by omega) 6 w.heap.size (w.heap.size + 4) (w.heap.size + 5) A c l 2 d (some b1) (some b2) rfl (by omega) hlen k4 k5 (hD.list.below hB0)
    (fun pre W => (Blk W w.heap.size 69 #[.slice A l.length c, .int .i64 d, .map (some b1), .map (some b2)] ∧ Blk W (w.heap.size + 1) 82 #[.func (.func 57) #[] #[]] ∧ Blk W (w.heap.size + 3) 106 #[.map (some (w.heap.size + 2))] ∧ SetT 38 W (w.heap.size + 2) pre.length (keysP (liveM dead wantA pre))) ∧ (Below w.heap.size w W ∧ W0.heap.size ≤ W.heap.size))
    (fun _ _ _ => False) ?_ (fun _ _ _ _ _ hs _ _ => hs) ⟨⟨k0, k1, k3, (SetT.new_of k2).congr (fun k => keysP_nil k)⟩, hB0, Nat.le_refl _⟩ (fun pre W hs => hs.2.2) ?_ ?_ ?_ ?_
  · exact .and (.and (Own.from (blk_own _ _ _) _) (.and (Own.from (blk_own _ _ _) _) (.and (Own.from (blk_own _ _ _) _) (setT_own (show w.heap.size + 2 < W0.heap.size by omega) _ (fun (pre : List OEnt) => pre.length) (fun (pre : List OEnt) => keysP (liveM dead wantA pre)))))) (.and (ownFrom_below (Nat.le_refl _) (by omega)) (size_own _ _))
  · intro lp x W K hK
    unfold entVal entCells at *
    simp only [List.setIfInBounds_toArray, List.set_cons_succ, List.set_cons_zero] at hK ⊢
    gi_wp2
    exact hK
  · rintro lp pre x Bx W hBx hx ⟨⟨bD, bF, bM, s1⟩, hB, hz⟩ hlt
    obtain ⟨c0, c1, c2, c3, c4, c5, c6, c7, c8, c9, _⟩ := hx.cells
    have e0 := bF.cell 0
    have d2 := bD.cell 2
    have m0 := bM.cell 0
    have z1 := bF.lt
    have z2 := Blk.lt hx
    have z3 := bD.lt
    have z4 := bM.lt
    simp at e0 d2 m0
    gi_wp2_with fail
    have hnew : Blk (W.alloc (.cells #[.int .i64 x.1.person, .int .i64 x.1.place] 38)) W.heap.size 38 #[.int .i64 x.1.person, .int .i64 x.1.place] := at_new rfl
    have aD := bD.alloc (.cells #[.int .i64 x.1.person, .int .i64 x.1.place] 38)
    have aF := bF.alloc (.cells #[.int .i64 x.1.person, .int .i64 x.1.place] 38)
    have aM := bM.alloc (.cells #[.int .i64 x.1.person, .int .i64 x.1.place] 38)
    have aS := s1.alloc (.cells #[.int .i64 x.1.person, .int .i64 x.1.place] 38)
    refine ⟨trivial, ?_⟩
    refine (CallsIn.inRound lp (callsIn_wide.2 (pairs1_any (x.1.person, x.1.place) _))).mono ?_
    rintro e w1 ⟨rfl, hb1⟩
    replace hnew := hnew.below hb1 hnew.lt
    replace aD := aD.below hb1 aD.lt
    replace aF := aF.below hb1 aF.lt
    replace aM := aM.below hb1 aM.lt
    replace aS := aS.below hb1 aS.lt
    have hB1 : Below w.heap.size w w1 := below_two2 hb1 (below_al hB _)
    have hz1 : W0.heap.size ≤ w1.heap.size := Nat.le_trans hz (Nat.le_trans (by simp) hb1.size)
    have hKO : KeepsOthers W w1 := (KeepsOthers.alloc W (.cells #[.int .i64 x.1.person, .int .i64 x.1.place] 38)).trans (keepsO_new hb1)
    have hKM : Keeps (mineS w.heap.size (w.heap.size + 4) (w.heap.size + 5)) W w1 := ((Keeps.refl _ W).alloc (.cells #[.int .i64 x.1.person, .int .i64 x.1.place] 38)).trans (Keeps.of_new (S := mineS w.heap.size (w.heap.size + 4) (w.heap.size + 5)) hb1) (fun _ _ h => h)
    have hDW := hD.below hB1
    have hq1 := hDW.dead.look lawInt mapIntRow (keyInt x.2.1)
    rw [onInt_at] at hq1
    clear hb1 c0 c1 c2 c3 c4 c5 c6 c7 c8 c9 e0 d2 m0
    have d2 := aD.cell 2
    have m0 := aM.cell 0
    have n0 := hnew.cell 0
    have n1 := hnew.cell 1
    simp at d2 m0 n0 n1
    obtain ⟨kl, hk⟩ := keyCand (c := (x.1.person, x.1.place)) ⟨x.2.1, x.2.2.2.2⟩
    have hkeep : (wantA (x.1.person, x.1.place) && !dead x.1.person) = false → SetT 38 w1 (w.heap.size + 2) (pre ++ [x]).length (keysP (liveM dead wantA (pre ++ [x]))) := fun h => (aS.mono (by simp)).congr (fun k => by rw [live_skip h])
    have hgoes : (wantA (x.1.person, x.1.place) && !dead x.1.person) = true → (∀ q : Lit → Bool, q = keysP (liveM dead wantA (pre ++ [x])) → q kl = true ∧ ∀ k, k ≠ kl → q k = keysP (liveM dead wantA pre) k) := fun h q hq => by
      subst hq
      rw [live_take h]
      exact ⟨keysP_at hk, fun k hne => keysP_other hk hne⟩
    have HK := Lib.hid hkeep
    have HG := Lib.hid hgoes
    clear hkeep hgoes
    cases hdec : wantA (x.1.person, x.1.place)
    · have hs := HK.out (by rw [hdec]; rfl)
      clear HK HG hk
      gi_wp2
      exact ⟨hKO.from _, hKM, ⟨aD, aF, aM, hs⟩, hB1, hz1⟩
    · cases hdd : dead x.1.person
      · rw [hdd] at hq1
        unfold candVal at hk
        obtain ⟨w2, hrun, hset, hk2⟩ := aS.store lawCand mapCandRow (by omega) hk
        obtain ⟨hg1, hg2⟩ := HG.out (by rw [hdec, hdd]; rfl) _ rfl
        have hs := hset _ hg1 hg2
        have HS : Hid (SetT 38 w2 (w.heap.size + 2) (pre ++ [x]).length (keysP (liveM dead wantA (pre ++ [x])))) := Lib.hid (by rw [List.length_append]; exact hs)
        dsimp only at hrun
        clear HK HG hk hs hset hg1 hg2
        gi_wp2_with (gi_at_mapUpdate; refine wpListIn_put _ rfl _ _ _ _ rfl hrun ?_)
        exact ⟨hKO.from _ |>.trans (keepsFrom_of hk2 (fun i hi e => by omega)), hKM.trans hk2 (fun i _ h => by subst h; exact ⟨by omega, by omega, by omega⟩), ⟨aD.keep hk2 (by omega), aF.keep hk2 (by omega), aM.keep hk2 (by omega), HS.out⟩, hB1.trans (hk2.below (fun k hk e => by omega) hB1.size), Nat.le_trans hz1 hk2.size⟩
      · rw [hdd] at hq1
        have hs := HK.out (by rw [hdd]; simp)
        clear HK HG hk
        gi_wp2
        exact ⟨hKO.from _, hKM, ⟨aD, aF, aM, hs⟩, hB1, hz1⟩
  · rintro D W hD' ⟨⟨bD, bF, bM, s1⟩, hB, hz⟩ hK
    have e0 := bM.cell 0
    simp at e0
    have hl60 := live_len dead wantA (flt l 2 d)
    have HP := Lib.hid (sortedPairsG_any W _ _ (by omega) _ (by omega) (live_int dead wantA (flt l 2 d)) s1)
    clear s1
    gi_wp2_with fail
    refine ⟨trivial, ?_⟩
    refine (callsIn_wide.2 HP.out).mono ?_
    rintro e w1 ⟨A1, c1, r, rfl, hP, hr, hl, hb1⟩
    have hK1 := (hb1.block D (Array.getElem?_eq_some_iff.1 hK).1).trans hK
    have hB1 : Below w.heap.size w w1 := hB.trans (hb1.mono hB.size)
    clear HP
    gi_wp2
    all_goals
      refine ⟨by simp, .inl ⟨_, _, rfl, run_takeDeferred hK1, ?_⟩⟩
      exact ⟨_, results_tmp rfl _ _ _, A1, c1, r, by first | rfl | simp, hP.put hK1 rfl, hr, by omega, below_end hB1 hK1 (by omega)⟩
  · rintro D co pre W _ _ h _
    exact h.elim
end Go.Proofs.YtmfjmoicnddkcaaGreatDoor
namespace Go.Proofs.YtmfjmoicnddkcaaGreatDoor
open Go.RowKit Go.Shelf

theorem OwnI.alloc {w : World} {base : Nat} {v : Value} {l : List Int} (h : OwnI w base v l) (o : Obj) : OwnI (w.alloc o) base v l := h.keep ((Keeps.refl (fun _ => False) w).alloc o) (fun _ _ h => h)
theorem take_map {f : Int × Int → Int} {r : List (Int × Int)} {k : Nat} {x : Int × Int} (hx : r[k]? = some x) : (r.take (k + 1)).map f = (r.take k).map f ++ [f x] := by
  rw [List.take_add_one, hx]
  simp
/-- Who lives where, of those that are wanted. -/
def LiveR (l : List OEnt) (d : Int) (want : Int × Int → Bool) (r : List (Int × Int)) : Prop := r.Pairwise ltC ∧ ∀ x, x ∈ r ↔ x ∈ liveM (deadOf l d) want (flt l 2 d)

set_option maxRecDepth 100000 in
set_option maxHeartbeats 4000000 in
theorem placesDir_any (A : Option Addr) (c : Nat) (l : List OEnt) (h60 : l.length ≤ 60) (d n : Int) (b1 b2 : Nat) (canc : Int → Bool) (w : World) (hD : DirIn w A l b1 b2 (deadOf l d) canc) :
    Calls Tryz.prog 52 #[dirVal A l.length c d (some b1) (some b2), .int .i64 n] w fun e w' =>
      ∃ A' c' r, e = .returned (.slice A' r.length c') ∧ IntsAt w' A' (r.map (·.2)) ∧ Hid (LiveR l d (wantP n) r) ∧ r.length ≤ 60 ∧ Below w.heap.size w w' := by
  have hB0 : Below w.heap.size w ((w.alloc (.cells #[.slice A l.length c, .int .i64 d, .map (some b1), .map (some b2)] 69)).alloc (.cells #[.int .i64 n] 3)) := below_al (below_al (Below.refl _ _) _) _
  have kC : Blk ((w.alloc (.cells #[.slice A l.length c, .int .i64 d, .map (some b1), .map (some b2)] 69)).alloc (.cells #[.int .i64 n] 3)) (w.heap.size + 1) 3 #[.int .i64 n] := at_new (by simp)
  have HP := Lib.hid (pairsP_any A c l h60 d n b1 b2 (w.heap.size + 1) (deadOf l d) canc _ (hD.below hB0) kC)
  clear hD kC
  unfold dirVal at HP ⊢
  go_enter Tryz.func52, Tryz.ntmps52
  go_wp2_with fail
  refine HP.out.mono ?_
  rintro e w1 ⟨A1, c1, r, rfl, hP, hr, hl, hb1⟩
  have hB1 : Below w.heap.size w w1 := below_two2 hb1 hB0
  clear HP hb1 hB0
  go_wp2_with fail
  go_loopw [5, 12] (fun v i wr => ∃ k : Nat, k ≤ r.length ∧ i = .int .i64 k ∧ ∃ q : List Int, OwnI wr w1.heap.size v q ∧ Hid (q = (r.take k).map (·.2)) ∧ Below w1.heap.size w1 wr) (fun _ i _ => r.length - (intOf i).toNat)
  case atStart => exact ⟨0, Nat.zero_le _, rfl, [], OwnI.nil _ _, Lib.hid (by simp), Below.refl _ _⟩
  case round =>
    obtain ⟨k, hk, rfl, q, hO, HQ, hB⟩ := hrel
    by_cases hlt : k < r.length
    · obtain ⟨x, hx⟩ : ∃ x, r[k]? = some x := ⟨_, List.getElem?_eq_getElem hlt⟩
      obtain ⟨g, hA1, hg, c0, c1⟩ := (hP.below hB) k x hx
      subst hA1
      have HN : Hid (q ++ [x.2] = (r.take (k + 1)).map (·.2)) := Lib.hid (by rw [HQ.out, take_map hx])
      have hql : q.length ≤ 60 := by rw [HQ.out, List.length_map, List.length_take]; omega
      have hB2 := hB.alloc hB.size (.cells #[.int .i64 x.1, .int .i64 x.2] 38)
      have kX := Blk.new wr 38 #[.int .i64 x.1, .int .i64 x.2]
      obtain ⟨v', w2, hrun, hO2, hk2⟩ := append_int (hO.alloc (.cells #[.int .i64 x.1, .int .i64 x.2] 38)) x.2 hB2.size (by omega) 30
      have hown := hO.own_lt
      obtain ⟨A3, c3, hv⟩ := hO2.shape
      subst hv
      obtain ⟨A4, c4, hv4⟩ := hO.shape
      subst hv4
      have HO : Hid (OwnI w2 w1.heap.size (.slice A3 (q.length + 1) c3) (q ++ [x.2])) := Lib.hid (by have h := hO2; rw [List.length_append] at h; exact h)
      have HB : Hid (Below w1.heap.size w1 w2) := Lib.hid (hB2.trans (hk2.below (fun i h1 h2 => by have := (hown i h2).1; omega) hB2.size))
      rw [List.length_append] at hrun
      simp only [World.size_alloc, List.length_cons, List.length_nil] at hrun
      simp only [Nat.zero_add] at hrun
      have x0 := kX.cell 0
      have x1 := kX.cell 1
      simp at x0 x1
      clear hO hO2 hk2 HQ hx hown kX hB2
      go_wp2_with (at_builtin; refine Lib.wpList_append_run _ rfl _ _ _ _ rfl _ _ rfl rfl _ _ hrun ?_)
      go_roundw
      case rel => exact ⟨k + 1, by omega, by go_num, _, HO.out, HN, HB.out⟩
      case measure => simp [intOf]; omega
    · obtain rfl : k = r.length := by omega
      obtain ⟨A4, c4, hv⟩ := hO.shape
      subst hv
      have HR : Hid (q = r.map (·.2)) := Lib.hid (by have h := HQ.out; rwa [List.take_length] at h)
      have HL : Hid (q.length = r.length) := Lib.hid (by rw [HR.out, List.length_map])
      have HO : Hid (IntsAt wr A4 (r.map (·.2))) := Lib.hid (by rw [← HR.out]; exact hO.at)
      clear hO
      go_wp2_with fail
      go_ret
      exact ⟨A4, c4, r, by rw [← HL.out]; rfl, HO.out, hr, hl, hB1.trans (hB.mono hB1.size)⟩

set_option maxRecDepth 100000 in
set_option maxHeartbeats 4000000 in
theorem pPlaces_any (A : Option Addr) (c : Nat) (l : List OEnt) (h60 : l.length ≤ 60) (n d : Int) (w : World) (hL : EntsLie w w.heap.size A (l.map (·.1))) :
    Calls Tryz.prog 23 #[.slice A l.length c, .int .i64 n, .int .i64 d] w fun e w' => ∃ A' c' r, e = .returned (.slice A' r.length c') ∧ IntsAt w' A' (r.map (·.2)) ∧ Hid (LiveR l d (wantP n) r) ∧ r.length ≤ 60 ∧ Below w.heap.size w w' := by
  have H1 := Lib.hid (on_any A c l d w hL (by unfold maxLen; omega))
  have H2 := Lib.hid (fun W b1 b2 (hD : DirIn W A l b1 b2 (deadOf l d) (cancOf l d)) => placesDir_any A c l h60 d n b1 b2 (cancOf l d) W hD)
  unfold dirVal at H1 H2
  go_enter Tryz.func23, Tryz.ntmps23
  go_wp2_with fail
  refine H1.out.mono ?_
  rintro e w1 ⟨b1, b2, rfl, hD, hb1⟩
  have H3 := Lib.hid (H2.out w1 b1 b2 hD)
  clear hD
  go_wp2_with fail
  refine H3.out.mono ?_
  rintro e w2 ⟨A2, c2, r, rfl, hI, hr, hl, hb2⟩
  go_wp2_with fail
  go_ret
  exact ⟨A2, c2, r, rfl, hI, hr, hl, hb1.trans (hb2.mono hb1.size)⟩

set_option maxRecDepth 100000 in
set_option maxHeartbeats 4000000 in
theorem pPairs_any (A : Option Addr) (c : Nat) (l : List OEnt) (h60 : l.length ≤ 60) (d : Int) (w : World) (hL : EntsLie w w.heap.size A (l.map (·.1))) :
    Calls Tryz.prog 30 #[.slice A l.length c, .int .i64 d] w fun e w' => ∃ A' c' r, e = .returned (.slice A' r.length c') ∧ PairsAt w' A' r ∧ Hid (LiveR l d wantA r) ∧ r.length ≤ 60 ∧ Below w.heap.size w w' := by
  have H1 := Lib.hid (on_any A c l d w hL (by unfold maxLen; omega))
  have H2 := Lib.hid (fun W b1 b2 (hD : DirIn W A l b1 b2 (deadOf l d) (cancOf l d)) => pairsA_any A c l h60 d b1 b2 (deadOf l d) (cancOf l d) W hD)
  unfold dirVal at H1 H2
  go_enter Tryz.func30, Tryz.ntmps30
  go_wp2_with fail
  refine H1.out.mono ?_
  rintro e w1 ⟨b1, b2, rfl, hD, hb1⟩
  have H3 := Lib.hid (H2.out w1 b1 b2 hD)
  clear hD
  go_wp2_with fail
  refine H3.out.mono ?_
  rintro e w2 ⟨A2, c2, r, rfl, hI, hr, hl, hb2⟩
  go_wp2_with fail
  go_ret
  exact ⟨A2, c2, r, rfl, hI, hr, hl, hb1.trans (hb2.mono hb1.size)⟩

set_option maxRecDepth 100000 in
set_option maxHeartbeats 4000000 in
theorem pDwellers_any (A : Option Addr) (c : Nat) (l : List OEnt) (h60 : l.length ≤ 60) (n d : Int) (w : World) (hL : EntsLie w w.heap.size A (l.map (·.1))) :
    Calls Tryz.prog 27 #[.slice A l.length c, .int .i64 n, .int .i64 d] w fun e w' => ∃ A' c' r, e = .returned (.slice A' r.length c') ∧ IntsAt w' A' (r.map (·.1)) ∧ Hid (LiveR l d (wantD n) r) ∧ r.length ≤ 60 ∧ Below w.heap.size w w' := by
  have hB0 : Below w.heap.size w (w.alloc (.cells #[.int .i64 n] 3)) := below_al (Below.refl _ _) _
  have kC := Blk.new w 3 #[.int .i64 n]
  have H1 := Lib.hid (on_any A c l d _ (hL.up hB0 hB0.size) (by unfold maxLen; omega))
  have H2 := Lib.hid (fun W b1 b2 g (hD : DirIn W A l b1 b2 (deadOf l d) (cancOf l d)) (hg : Blk W g 3 #[.int .i64 n]) => pairsD_any A c l h60 d n b1 b2 g (deadOf l d) (cancOf l d) W hD hg)
  clear hL
  unfold dirVal at H1 H2
  go_enter Tryz.func27, Tryz.ntmps27
  go_wp2_with fail
  refine H1.out.mono ?_
  rintro e w0 ⟨b1, b2, rfl, hD, hb0⟩
  have kC0 := kC.below hb0 kC.lt
  have HP := Lib.hid (H2.out w0 b1 b2 w.heap.size hD kC0)
  have hB0' := hB0.trans (hb0.mono hB0.size)
  clear hD hb0 hB0 kC kC0 H1 H2
  go_wp2_with fail
  refine HP.out.mono ?_
  rintro e w1 ⟨A1, c1, r, rfl, hP, hr, hl, hb1⟩
  have hB1 : Below w.heap.size w w1 := below_two2 hb1 hB0'
  clear HP hb1 hB0'
  go_wp2_with fail
  go_loopw [7, 16] (fun v i wr => ∃ k : Nat, k ≤ r.length ∧ i = .int .i64 k ∧ ∃ q : List Int, OwnI wr w1.heap.size v q ∧ Hid (q = (r.take k).map (·.1)) ∧ Below w1.heap.size w1 wr) (fun _ i _ => r.length - (intOf i).toNat)
  case atStart => exact ⟨0, Nat.zero_le _, rfl, [], OwnI.nil _ _, Lib.hid (by simp), Below.refl _ _⟩
  case round =>
    obtain ⟨k, hk, rfl, q, hO, HQ, hB⟩ := hrel
    by_cases hlt : k < r.length
    · obtain ⟨x, hx⟩ : ∃ x, r[k]? = some x := ⟨_, List.getElem?_eq_getElem hlt⟩
      obtain ⟨g, hA1, hg, c0, c1⟩ := (hP.below hB) k x hx
      subst hA1
      have HN : Hid (q ++ [x.1] = (r.take (k + 1)).map (·.1)) := Lib.hid (by rw [HQ.out, take_map hx])
      have hql : q.length ≤ 60 := by rw [HQ.out, List.length_map, List.length_take]; omega
      have hB2 := hB.alloc hB.size (.cells #[.int .i64 x.1, .int .i64 x.2] 38)
      have kX := Blk.new wr 38 #[.int .i64 x.1, .int .i64 x.2]
      obtain ⟨v', w2, hrun, hO2, hk2⟩ := append_int (hO.alloc (.cells #[.int .i64 x.1, .int .i64 x.2] 38)) x.1 hB2.size (by omega) 30
      have hown := hO.own_lt
      obtain ⟨A3, c3, hv⟩ := hO2.shape
      subst hv
      obtain ⟨A4, c4, hv4⟩ := hO.shape
      subst hv4
      have HO : Hid (OwnI w2 w1.heap.size (.slice A3 (q.length + 1) c3) (q ++ [x.1])) := Lib.hid (by have h := hO2; rw [List.length_append] at h; exact h)
      have HB : Hid (Below w1.heap.size w1 w2) := Lib.hid (hB2.trans (hk2.below (fun i h1 h2 => by have := (hown i h2).1; omega) hB2.size))
      rw [List.length_append] at hrun
      simp only [World.size_alloc, List.length_cons, List.length_nil] at hrun
      simp only [Nat.zero_add] at hrun
      have x0 := kX.cell 0
      have x1 := kX.cell 1
      simp at x0 x1
      clear hO hO2 hk2 HQ hx hown kX hB2
      go_wp2_with (at_builtin; refine Lib.wpList_append_run _ rfl _ _ _ _ rfl _ _ rfl rfl _ _ hrun ?_)
      go_roundw
      case rel => exact ⟨k + 1, by omega, by go_num, _, HO.out, HN, HB.out⟩
      case measure => simp [intOf]; omega
    · obtain rfl : k = r.length := by omega
      obtain ⟨A4, c4, hv⟩ := hO.shape
      subst hv
      have HR : Hid (q = r.map (·.1)) := Lib.hid (by have h := HQ.out; rwa [List.take_length] at h)
      have HL : Hid (q.length = r.length) := Lib.hid (by rw [HR.out, List.length_map])
      have HO : Hid (IntsAt wr A4 (r.map (·.1))) := Lib.hid (by rw [← HR.out]; exact hO.at)
      clear hO
      go_wp2_with fail
      go_ret
      exact ⟨A4, c4, r, by rw [← HL.out]; rfl, HO.out, hr, hl, hB1.trans (hB.mono hB1.size)⟩
end Go.Proofs.YtmfjmoicnddkcaaGreatDoor
