/- The contract of on: what a list says on a day. Conditions: the list lies in memory. Candidates as keys of maps. Conditions: their numbers are ints. Words for maps to bool that hold only true: what a lookup returns, what a store of true leaves. No conditions. The contract of pairs for the closure of lives: the map holds at most the one pair. Conditions: the directory lies in memory; the pair is a key; sortedPairs keeps the contract hS. -/
import Derived.Test.YtlbehpbhmmppiaaGreatDoorLoopA
import Derived.DeepKeys5
namespace Go.Proofs.YtlbehpbhmmppiaaGreatDoor
open Go.RowKit Go.Shelf
attribute [local go_sem] Oper.semAt_some

/-- 'for x := range d.each(kind)', where x is boxed in the slot sl. -/
theorem wpIn_eachL {n : Nat} {g : Operand} {p : Nat} {assign body : Code} {Q : Exit → Act → World → Prop} {a : Act} {w : World} (h2 : 2 ≤ n) (sl n₀ Bd Bk : Nat) (A : Option Addr) (c : Nat) (l : List OEnt) (kd d : Int) (m1 m2 : Option Nat)
    (hg : a.eval g = .func (.func 56) #[] #[.pointer (some ⟨Bd, 0, none⟩), .pointer (some ⟨Bk, 0, none⟩)])
    (hn₀ : n₀ ≤ w.heap.size) (hl : l.length ≤ maxLen) (hBd : Blk w Bd 49 (dirCells A l.length c d m1 m2)) (hBk : Blk w Bk 5 #[.int .u8 kd]) (hL : EntsLie w n₀ A (l.map (·.1)))
    (I : List OEnt → World → Prop) (Ix : Code → List OEnt → World → Prop) (hI : OwnFrom w.heap.size I) (hIx : ∀ c, OwnFrom w.heap.size (Ix c)) (h0 : I [] w) (hIs : ∀ pre W, I pre W → w.heap.size ≤ W.heap.size)
    (hassign : ∀ (lp : Nat) (x : OEnt) (W : World) (K : Act → World → Prop), K { tmps := (a.tmps.setIfInBounds p (entVal x.1)).setIfInBounds sl (.pointer (some ⟨W.heap.size, 0, none⟩)), defers := [] } (W.alloc (.cells (entCells x.1).toArray 41)) →
      assign.wpIn (Fence.wide.inRound lp) (n - 1 - 1) Tryz.prog (Exit.then K (fun _ _ _ => False)) { tmps := a.tmps.setIfInBounds p (entVal x.1), defers := [] } W)
    (hbody : ∀ (lp : Nat) (pre : List OEnt) (x : OEnt) (Bx : Nat) (W : World), w.heap.size ≤ Bx → EntAt W Bx x.1 → I pre W → pre.length < (flt l kd d).length →
      body.wpIn (Fence.wide.inRound lp) (n - 1 - 1) Tryz.prog (ownPostG w.heap.size (Keeps (mineS n₀ Bd Bk)) I Ix (pre ++ [x]) W) { tmps := (a.tmps.setIfInBounds p (entVal x.1)).setIfInBounds sl (.pointer (some ⟨Bx, 0, none⟩)), defers := [] } W)
    (hdone : ∀ (D : Nat) (W : World), w.heap.size ≤ D → I (flt l kd d) W → W.heap[D]? = some (.deferred (some [])) → Q .normal { a with defers := { target := .collected D, args := #[] } :: a.defers } W)
    (hstop : ∀ (D : Nat) (co : Code) (pre : List OEnt) (W : World), w.heap.size ≤ D → pre <+: flt l kd d → Ix co pre W → W.heap[D]? = some (.deferred (some [])) → co.wpIn Fence.wide n Tryz.prog Q { a with defers := { target := .collected D, args := #[] } :: a.defers } W) :
    (Code.rangeFunc g #[p] assign body).wpIn Fence.wide n Tryz.prog Q a w := by
  have h1 : 1 ≤ n := by omega
  refine wpIn_rangeFunc_ownH (F := Fence.wide) rfl h1 hg trivial (enters_of Tryz.func56 (by kernel_rfl) rfl)
    (each_stops (n - 1) n₀ Bd Bk A c l kd d m1 m2 w hn₀ hl hBd hBk hL) mineS_t (mineS_b hn₀ hBd.lt hBk.lt) (Below.refl _ _) (fun _ => rfl)
    I Ix hI hIx h0
    (fun x a' W => ∃ Bx, w.heap.size ≤ Bx ∧ EntAt W Bx x.1 ∧ a' = { tmps := (a.tmps.setIfInBounds p (entVal x.1)).setIfInBounds sl (.pointer (some ⟨Bx, 0, none⟩)), defers := [] })
    (fun x a' _ X Y row hs hgr hr => by obtain ⟨Bx, k1, k2, k3⟩ := hs; exact ⟨Bx, k1, blk_own Bx _ (fun (_ : Unit) => (entCells x.1).toArray) () X Y row k2 hgr (fun r e => (hr r e).2), k3⟩)
    ?_ ?_ ?_ hstop
  · intro lp pre x W K hi hK
    have hz : ((#[p] : Array Tmp).zip #[entVal x.1]).foldl (fun t (p, v) => t.setIfInBounds p v) a.tmps = a.tmps.setIfInBounds p (entVal x.1) := by simp
    rw [hz]
    exact hassign lp x W K (hK _ _ ((KeepsOthers.alloc _ _).from _) ((Keeps.refl _ _).alloc _) (hI.alloc _ hi) ⟨W.heap.size, hIs pre W hi, EntAt.new W _, rfl⟩)
  · rintro lp pre x a' W _ _ hi ⟨Bx, k1, k2, rfl⟩ hlen
    exact hbody lp pre x Bx W k1 k2 hi hlen
  · rintro D ys W hD rfl hi hK
    exact hdone D W hD hi hK

/-- The persons that are dead, the orders that are cancelled. -/
def deadOf (l : List OEnt) (d : Int) : Int → Bool := fun p => (flt l 3 d).any (fun x => x.1.person == p)
def cancOf (l : List OEnt) (d : Int) : Int → Bool := fun p => (flt l 6 d).any (fun x => x.1.order == p)

theorem results_cr {P : Program} {fn : Func} {p : Tmp} {ty : TypeId} (h : fn.results = #[.cell p ty]) {tmps : Array Value} {w : World} {g : Nat} {t : TypeId} {cs : Array Value}
    (hg : Blk w g t cs) (hp : tmps.getD p undef = .pointer (some ⟨g, 0, none⟩)) (hu : (P.underlying ty).map isAgg = some true) (hi : (P.info? ty).map (·.size) = some cs.size) :
    (results fn tmps).run P w = .ok (.agg cs) w := by
  cases hu' : P.underlying ty with
  | none => rw [hu'] at hu; cases hu
  | some d =>
    rw [hu'] at hu
    have hd : isAgg d = true := by simpa using hu
    exact results_cell_row h tmps w g t cs (0, 0) d hp hg hu' (by cases d <;> first | rfl | cases hd) hi
theorem rowDir : (Tryz.prog.underlying 49).map isAgg = some true := by kernel_rfl
theorem sizeDir : (Tryz.prog.info? 49).map (·.size) = some 4 := by kernel_rfl
theorem heap_own {β : Type} {B D : Nat} {o : Obj} (hD : D < B) : OwnFrom B (fun (_ : β) W => D < W.heap.size ∧ W.heap[D]? = some o) := fun _ _ _ _ hs hg hr =>
  ⟨Nat.lt_of_lt_of_le hs.1 hg.size, (hg.block D hs.1 (fun e => by have := (hr _ e.symm).1; omega)).trans hs.2⟩
theorem keepsFrom_of {S : Nat → Prop} {B : Nat} {W W' : World} (h : Keeps S W W') (hS : ∀ i, B ≤ i → ¬ S i) : KeepsFrom B W W' :=
  ⟨h.size, fun k _ hk h0 _ => (h.block k (Array.getElem?_eq_some_iff.1 h0).1 (hS k hk)).trans h0⟩

theorem SetAt.new_of {K : TypeId} {W : World} {b : Nat} (hb : W.heap[b]? = some (.map #[] 0)) : SetAt K W b 0 (fun _ => false) := by
  obtain ⟨D, ⟨es, ck, h1, h2⟩, h3⟩ := SetAt.made K W
  rw [World.alloc_heap_new] at h1
  exact ⟨D, ⟨es, ck, hb.trans h1, h2⟩, h3⟩

set_option maxRecDepth 100000 in
set_option maxHeartbeats 4000000 in
theorem on_any (A : Option Addr) (c : Nat) (l : List OEnt) (d : Int) (w : World) (hL : EntsLie w w.heap.size A (l.map (·.1))) (hlen : l.length ≤ maxLen) :
    Calls Tryz.prog 14 #[.slice A l.length c, .int .i64 d] w fun e w' => ∃ b1 b2, e = .returned (dirVal A l.length c d (some b1) (some b2)) ∧ DirIn w' A l b1 b2 (deadOf l d) (cancOf l d) ∧ Below w.heap.size w w' := by
  refine (callsIn_wide (n := 9)).1 (callsIn_of_wp_marks Tryz.func14 rfl trivial ?_ rfl)
  simp only [Tryz.ntmps14, List.size_toArray, List.length_cons, List.length_nil, Nat.reduceAdd, Nat.reduceSub, Array.replicate_succ, Array.replicate_zero, List.push_toArray, List.append_toArray, List.nil_append, List.cons_append]
  have hmm := @run_makeMap Tryz.prog
  have hf1 : (flt l 3 d).length ≤ l.length := List.length_filter_le _ _
  have hf2 : (flt l 6 d).length ≤ l.length := List.length_filter_le _ _
  gi_wp2_with (refine ⟨trivial, ?_⟩; gi_at_call 32; refine (each_any _ A l.length c d 3 (some (w.heap.size + 1)) (some (w.heap.size + 2)) _).mono ?_; rintro e w' ⟨rfl, rfl⟩)
  simp only [Nat.add_assoc, Nat.reduceAdd]
  refine wpIn_gen6 ?_
  intro W0 hB0 hz0 k0 k1 k2 k3 k4 k5
  have m1 : SetAt 3 W0 (w.heap.size + 1) 0 (fun _ => false) := SetAt.new_of k1
  have m2 : SetAt 3 W0 (w.heap.size + 2) 0 (fun _ => false) := SetAt.new_of k2
  refine wpIn_eachL (by omega) 6 w.heap.size (w.heap.size + 4) (w.heap.size + 5) A c l 3 d (some (w.heap.size + 1)) (some (w.heap.size + 2)) rfl (by omega) hlen k4 k5 (hL.below hB0)
    (fun pre W => (Blk W w.heap.size 49 #[.slice none 0 0, .int .i64 0, .map none, .map none] ∧ Blk W (w.heap.size + 3) 49 #[.slice A l.length c, .int .i64 d, .map (some (w.heap.size + 1)), .map (some (w.heap.size + 2))] ∧ SetAt 3 W (w.heap.size + 1) pre.length (onInt (fun p => pre.any (fun x => x.1.person == p))) ∧ SetAt 3 W (w.heap.size + 2) 0 (fun _ => false)) ∧ (Below w.heap.size w W ∧ W0.heap.size ≤ W.heap.size))
    (fun _ _ _ => False) ?_ (fun _ _ _ _ _ hs _ _ => hs) ⟨⟨k0, k3, m1.congr (fun k => by unfold onInt; split <;> rfl), m2⟩, hB0, Nat.le_refl _⟩ (fun pre W hs => hs.2.2) ?_ ?_ ?_ ?_
  · exact .and (.and (Own.from (blk_own _ _ _) _) (.and (Own.from (blk_own _ _ _) _) (.and (set_own (show w.heap.size + 1 < W0.heap.size by omega) _ (fun (pre : List OEnt) => pre.length) (fun (pre : List OEnt) => onInt (fun p => pre.any (fun x => x.1.person == p)))) (set_own (show w.heap.size + 2 < W0.heap.size by omega) _ (fun _ => 0) (fun _ _ => false))))) (.and (ownFrom_below (Nat.le_refl _) (by omega)) (size_own _ _))
  · intro lp x W K hK
    unfold entVal entCells at *
    simp only [List.setIfInBounds_toArray, List.set_cons_succ, List.set_cons_zero] at hK ⊢
    gi_wp2
    exact hK
  · rintro lp pre x Bx W hBx hx ⟨⟨bR, bD, s1, s2⟩, hB, hz⟩ hlt
    obtain ⟨c0, c1, c2, c3, c4, c5, c6, c7, c8, c9, _⟩ := hx.cells
    have e2 := bD.cell 2
    simp at e2
    obtain ⟨w1, hrun, hset, hk1⟩ := s1.store lawInt mapIntRow (by omega) (keyInt x.2.1) true
    gi_wp2_with (gi_at_mapUpdate; refine wpListIn_put _ rfl _ _ _ _ rfl hrun ?_)
    refine ⟨keepsFrom_of hk1 (fun i hi e => by omega), hk1.mono (fun i _ h => by subst h; exact ⟨by omega, by omega, by omega⟩), ⟨bR.keep hk1 (by omega), bD.keep hk1 (by omega), ?_, s2.keep hk1 (by omega)⟩, hB.trans (hk1.below (fun k hk e => by omega) hB.size), Nat.le_trans hz hk1.size⟩
    have := hset (onInt (fun p => (pre ++ [x]).any (fun x => x.1.person == p))) (by rw [onInt_at]; simp) (fun k hk => onInt_other (fun n hn => by simp [List.any_append, Ne.symm hn]) k hk)
    rw [List.length_append]
    exact this
  · rintro D W hD' ⟨⟨bR, bD, s1, s2⟩, hB, hz⟩ hK
    have d0 := bD.cell 0
    have d1 := bD.cell 1
    have d2 := bD.cell 2
    have d3 := bD.cell 3
    simp at d0 d1 d2 d3
    have hDl : D < W.heap.size := (Array.getElem?_eq_some_iff.1 hK).1
    gi_wp2_with (refine ⟨trivial, ?_⟩; gi_at_call 32; refine (each_any _ A l.length c d 6 (some (w.heap.size + 1)) (some (w.heap.size + 2)) _).mono ?_; rintro e w' ⟨rfl, rfl⟩)
    have s1' := s1.mono (n' := l.length) hf1
    have hK1 : (W.alloc (.cells (dirCells A l.length c d (some (w.heap.size + 1)) (some (w.heap.size + 2))) 49)).alloc (.cells #[.int .u8 6] 5) |>.heap[D]? = some (.deferred (some [])) := at_al (at_al hK)
    have kd := at_al (o' := .cells #[.int .u8 6] 5) (at_new (W := W) (o := .cells (dirCells A l.length c d (some (w.heap.size + 1)) (some (w.heap.size + 2))) 49) rfl)
    have kk := at_new (W := W.alloc (.cells (dirCells A l.length c d (some (w.heap.size + 1)) (some (w.heap.size + 2))) 49)) (o := .cells #[.int .u8 6] 5) (k := W.heap.size + 1) (by simp)
    have hB2 : Below w.heap.size w ((W.alloc (.cells (dirCells A l.length c d (some (w.heap.size + 1)) (some (w.heap.size + 2))) 49)).alloc (.cells #[.int .u8 6] 5)) := below_al (below_al hB _) _
    have hz2 : ((W.alloc (.cells (dirCells A l.length c d (some (w.heap.size + 1)) (some (w.heap.size + 2))) 49)).alloc (.cells #[.int .u8 6] 5)).heap.size = W.heap.size + 2 := by simp
    have bR2 := (bR.alloc (.cells (dirCells A l.length c d (some (w.heap.size + 1)) (some (w.heap.size + 2))) 49)).alloc (.cells #[.int .u8 6] 5)
    have bD2 := (bD.alloc (.cells (dirCells A l.length c d (some (w.heap.size + 1)) (some (w.heap.size + 2))) 49)).alloc (.cells #[.int .u8 6] 5)
    have t1 := (s1'.alloc (.cells (dirCells A l.length c d (some (w.heap.size + 1)) (some (w.heap.size + 2))) 49)).alloc (.cells #[.int .u8 6] 5)
    have t2 := (s2.alloc (.cells (dirCells A l.length c d (some (w.heap.size + 1)) (some (w.heap.size + 2))) 49)).alloc (.cells #[.int .u8 6] 5)
    generalize (W.alloc (.cells (dirCells A l.length c d (some (w.heap.size + 1)) (some (w.heap.size + 2))) 49)).alloc (.cells #[.int .u8 6] 5) = V at hK1 kd kk hB2 hz2 bR2 bD2 t1 t2 ⊢
    have hDV : D < V.heap.size := by omega
    refine wpIn_eachL (by omega) 7 w.heap.size W.heap.size (W.heap.size + 1) A c l 6 d (some (w.heap.size + 1)) (some (w.heap.size + 2)) rfl (by omega) hlen kd kk (hL.below hB2)
      (fun pre U => (Blk U w.heap.size 49 #[.slice none 0 0, .int .i64 0, .map none, .map none] ∧ Blk U (w.heap.size + 3) 49 #[.slice A l.length c, .int .i64 d, .map (some (w.heap.size + 1)), .map (some (w.heap.size + 2))] ∧ SetAt 3 U (w.heap.size + 1) l.length (onInt (deadOf l d)) ∧ SetAt 3 U (w.heap.size + 2) pre.length (onInt (fun p => pre.any (fun x => x.1.order == p))) ∧ (D < U.heap.size ∧ U.heap[D]? = some (.deferred (some [])))) ∧ (Below w.heap.size w U ∧ V.heap.size ≤ U.heap.size))
      (fun _ _ _ => False) ?_ (fun _ _ _ _ _ hs _ _ => hs) ⟨⟨bR2, bD2, t1, t2.congr (fun k => by unfold onInt; split <;> rfl), hDV, hK1⟩, hB2, Nat.le_refl _⟩ (fun pre W hs => hs.2.2) ?_ ?_ ?_ ?_
    · exact .and (.and (Own.from (blk_own _ _ _) _) (.and (Own.from (blk_own _ _ _) _) (.and (set_own (show w.heap.size + 1 < V.heap.size by omega) _ (fun _ => l.length) (fun _ => onInt (deadOf l d))) (.and (set_own (show w.heap.size + 2 < V.heap.size by omega) _ (fun (pre : List OEnt) => pre.length) (fun (pre : List OEnt) => onInt (fun p => pre.any (fun x => x.1.order == p)))) (heap_own hDV))))) (.and (ownFrom_below (Nat.le_refl _) (by omega)) (size_own _ _))
    · intro lp x W K hK
      unfold entVal entCells at *
      simp only [List.setIfInBounds_toArray, List.set_cons_succ, List.set_cons_zero] at hK ⊢
      gi_wp2
      exact hK
    · rintro lp pre x Bx U hBx hx ⟨⟨bR, bD, s1, s2, hDU, hKU⟩, hB, hz⟩ hlt
      obtain ⟨c0, c1, c2, c3, c4, c5, c6, c7, c8, c9, _⟩ := hx.cells
      have e3 := bD.cell 3
      simp at e3
      obtain ⟨w1, hrun, hset, hk1⟩ := s2.store lawInt mapIntRow (by omega) (keyInt x.2.2.1) true
      gi_wp2_with (gi_at_mapUpdate; refine wpListIn_put _ rfl _ _ _ _ rfl hrun ?_)
      refine ⟨keepsFrom_of hk1 (fun i hi e => by omega), hk1.mono (fun i _ h => by subst h; exact ⟨by omega, by omega, by omega⟩), ⟨bR.keep hk1 (by omega), bD.keep hk1 (by omega), s1.keep hk1 (by omega), ?_, Nat.lt_of_lt_of_le hDU hk1.size, (hk1.block D hDU (by omega)).trans hKU⟩, hB.trans (hk1.below (fun k hk e => by omega) hB.size), Nat.le_trans hz hk1.size⟩
      have := hset (onInt (fun p => (pre ++ [x]).any (fun x => x.1.order == p))) (by rw [onInt_at]; simp) (fun k hk => onInt_other (fun n hn => by simp [List.any_append, Ne.symm hn]) k hk)
      rw [List.length_append]
      exact this
    · rintro D2 U hD2 ⟨⟨bR, bD, s1, s2, hDU, hKU⟩, hB, hz⟩ hK2
      have d0 := bD.cell 0
      have d1 := bD.cell 1
      have d2 := bD.cell 2
      have d3 := bD.cell 3
      have r0 := bR.cell 0
      have r1 := bR.cell 1
      have r2 := bR.cell 2
      have r3 := bR.cell 3
      have f0 := bR.frozen 0
      have f1 := bR.frozen 1
      have f2 := bR.frozen 2
      have f3 := bR.frozen 3
      simp at d0 d1 d2 d3 r0 r1 r2 r3
      gi_wp2
      have bE := (((bR.set 0 (.slice A l.length c)).set 1 (.int .i64 d)).set 2 (.map (some (w.heap.size + 1)))).set 3 (.map (some (w.heap.size + 2)))
      have u1 := (((s1.set (a := ⟨w.heap.size, 0, none⟩) (by simp) (.slice A l.length c)).set (a := ⟨w.heap.size, 1, none⟩) (by simp) (.int .i64 d)).set (a := ⟨w.heap.size, 2, none⟩) (by simp) (.map (some (w.heap.size + 1)))).set (a := ⟨w.heap.size, 3, none⟩) (by simp) (.map (some (w.heap.size + 2)))
      have u2 := (((s2.set (a := ⟨w.heap.size, 0, none⟩) (by simp) (.slice A l.length c)).set (a := ⟨w.heap.size, 1, none⟩) (by simp) (.int .i64 d)).set (a := ⟨w.heap.size, 2, none⟩) (by simp) (.map (some (w.heap.size + 1)))).set (a := ⟨w.heap.size, 3, none⟩) (by simp) (.map (some (w.heap.size + 2)))
      have hB4 : Below w.heap.size w ((((U.setCell ⟨w.heap.size, 0, none⟩ (.slice A l.length c)).setCell ⟨w.heap.size, 1, none⟩ (.int .i64 d)).setCell ⟨w.heap.size, 2, none⟩ (.map (some (w.heap.size + 1)))).setCell ⟨w.heap.size, 3, none⟩ (.map (some (w.heap.size + 2)))) := by (repeat (first | (with_reducible exact Below.refl _ _) | (with_reducible assumption) | (with_reducible refine below_al ?_ _) | (with_reducible refine below_se' ?_ ?_ _; · (first | omega | (simp <;> omega))) | (with_reducible refine below_dr ?_ _) | (with_reducible refine below_d1 ?_) | (exact Below.refl _ _) | assumption))
      have hO4 : KeepsOthers U ((((U.setCell ⟨w.heap.size, 0, none⟩ (.slice A l.length c)).setCell ⟨w.heap.size, 1, none⟩ (.int .i64 d)).setCell ⟨w.heap.size, 2, none⟩ (.map (some (w.heap.size + 1)))).setCell ⟨w.heap.size, 3, none⟩ (.map (some (w.heap.size + 2)))) := by (repeat (first | exact KeepsOthers.refl _ | refine KeepsOthers.trans ?_ (KeepsOthers.setCell _ _ _)))
      simp only [List.setIfInBounds_toArray, List.set_cons_zero, List.set_cons_succ] at bE
      generalize (((U.setCell ⟨w.heap.size, 0, none⟩ (.slice A l.length c)).setCell ⟨w.heap.size, 1, none⟩ (.int .i64 d)).setCell ⟨w.heap.size, 2, none⟩ (.map (some (w.heap.size + 1)))).setCell ⟨w.heap.size, 3, none⟩ (.map (some (w.heap.size + 2))) = X at bE u1 u2 hB4 hO4 ⊢
      have hX2 := hO4.same D2 _ hK2 rfl
      have hX1 := hO4.same D _ hKU rfl
      have hX1' : (X.putObj D2 (.deferred none)).heap[D]? = some (.deferred (some [])) := (World.putObj_heap_other (by omega)).trans hX1
      have hne : ∀ b, b < W0.heap.size → ((X.putObj D2 (.deferred none)).putObj D (.deferred none)).heap[b]? = X.heap[b]? := fun b hb => (World.putObj_heap_other (by omega)).trans (World.putObj_heap_other (by omega))
      have hB5 : Below w.heap.size w ((X.putObj D2 (.deferred none)).putObj D (.deferred none)) := below_end (below_end hB4 hX2 (by omega)) hX1' (by omega)
      refine ⟨by simp, .inl ⟨_, _, rfl, run_takeDeferred (w := X) hX2, by simp, .inl ⟨_, _, rfl, run_takeDeferred (w := X.putObj D2 (.deferred none)) hX1', ?_⟩⟩⟩
      exact ⟨_, results_cr rfl (show Blk _ _ _ _ from (hne _ (by omega)).trans bE) rfl rowDir sizeDir, w.heap.size + 1, w.heap.size + 2, rfl, ⟨hL.up hB5 hB5.size, hlen, u1.of_block (hne _ (by omega)), (u2.mono hf2).of_block (hne _ (by omega))⟩, hB5⟩
    · rintro D co pre W _ _ h _
      exact h.elim
  · rintro D co pre W _ _ h _
    exact h.elim
end Go.Proofs.YtlbehpbhmmppiaaGreatDoor
namespace Go.Proofs.YtlbehpbhmmppiaaGreatDoor
open Go.RowKit

theorem laidOutP : laidOutB Tryz.prog = true := by kernel_rfl
theorem lawCand : Maps.Keyed Tryz.prog 33 :=
  Maps.Keyed.of_law (deep_law_laid laidOutP (m := 2) (by omega) (of_decide_eq_true (by kernel_rfl)) (by kernel_rfl) (by kernel_rfl))
theorem mapCandRow : Tryz.prog.underlying 51 = some (.map 33 4) := by kernel_rfl
theorem candStruct : Tryz.prog.underlying 33 = some (.struct (Tryz.prog.fieldsOf 33)) := by kernel_rfl
theorem candFields : (Tryz.prog.fieldsOf 33).toList.map (fun f => (f.type, f.offset)) = [(3, 0), (3, 1)] := by kernel_rfl
theorem cellsCand : Tryz.prog.cellsOf 33 = 2 := by kernel_rfl
end Go.Proofs.YtlbehpbhmmppiaaGreatDoor
namespace Go.Proofs.YtlbehpbhmmppiaaGreatDoor
open Go.RowKit Go.Shelf

/-- Block b is a map to bool with keys of type K, of at most n entries, whose keys are those of p; each has true. -/
def SetT (K : TypeId) (w : World) (b n : Nat) (p : Lit → Bool) : Prop :=
  ∃ D : DataW Unit, w.ownsMap Tryz.prog K (plainElem Tryz.prog 4) b n D ∧ Maps.IsMap D ∧ ∀ k d, D.atKey k d = if p k = true then .lit (.bool true) else d

section
variable {K : TypeId} {w w' : World} {b n : Nat} {p : Lit → Bool}
theorem SetT.set (h : SetT K w b n p) : SetAt K w b n p := by
  obtain ⟨D, h1, h2, h3⟩ := h
  exact ⟨D, h1, h2, fun k => by rw [h3]; cases p k <;> rfl⟩
theorem SetT.lt (h : SetT K w b n p) : b < w.heap.size := h.set.lt
theorem SetT.of_block (h : SetT K w b n p) (hb : w'.heap[b]? = w.heap[b]?) : SetT K w' b n p := by
  obtain ⟨D, ⟨es, ck, h1, h2⟩, h3⟩ := h
  exact ⟨D, ⟨es, ck, hb.trans h1, h2⟩, h3⟩
theorem SetT.alloc (h : SetT K w b n p) (o : Obj) : SetT K (w.alloc o) b n p := h.of_block (Below.heap_alloc w o b h.lt)
theorem SetT.below {B : Nat} (h : SetT K w b n p) (hb : Below B w w') (hB : b < B) : SetT K w' b n p := h.of_block (hb.block b hB)
theorem SetT.keep {S : Nat → Prop} (h : SetT K w b n p) (hk : Keeps S w w') (hn : ¬ S b) : SetT K w' b n p := h.of_block (hk.block b h.lt hn)
theorem SetT.mono (h : SetT K w b n p) {n' : Nat} (hn : n ≤ n') : SetT K w b n' p := by
  obtain ⟨D, h1, h2⟩ := h; exact ⟨D, h1.mono hn, h2⟩
theorem SetT.congr {q : Lit → Bool} (h : SetT K w b n p) (hq : ∀ k, q k = p k) : SetT K w b n q := by
  obtain rfl : q = p := funext hq
  exact h
theorem SetT.new_of {W : World} {b : Nat} (hb : W.heap[b]? = some (.map #[] 0)) : SetT K W b 0 (fun _ => false) := by
  have h : W.ownsMap Tryz.prog K (plainElem Tryz.prog 4) b 0 (.map [] : DataW Unit) := by
    obtain ⟨es, ck, h1, h2⟩ := World.ownsMap_made (H := Unit) W Tryz.prog K (plainElem Tryz.prog 4)
    rw [World.alloc_heap_new] at h1
    exact ⟨es, ck, hb.trans h1, h2⟩
  exact ⟨.map [], h, Maps.isMap_empty, fun _ _ => rfl⟩
theorem SetT.store (h : SetT K w b n p) (law : Maps.Keyed Tryz.prog K) {t : TypeId} (ht : Tryz.prog.underlying t = some (.map K 4)) (hn : n < maxLen) {key : Value} {kl : Lit} (hkey : keyOf Tryz.prog K key = some kl) :
    ∃ w', (Instr.mapUpdate t (.map (some b)) key (.bool true)).run Tryz.prog w = .ok () w' ∧ (∀ q : Lit → Bool, q kl = true → (∀ k, k ≠ kl → q k = p k) → SetT K w' b (n + 1) q) ∧ Keeps (fun i => i = b) w w' := by
  obtain ⟨D, h, hm, hp⟩ := h
  obtain ⟨w', hrun, h1, h2⟩ := h.update law ht hn hkey (plainElem_bool boolRow true)
  refine ⟨w', hrun, fun q hq1 hq2 => ⟨_, h1, hm.put _ _, fun k d => ?_⟩, Keeps.of_grown h2 (fun k e _ => by cases e; rfl)⟩
  by_cases hk : k = kl
  · subst hk
    rw [Maps.atKey_put_same hm (law.key hkey), hq1]; rfl
  · rw [Maps.atKey_put_other hk, hp k, hq2 k hk]
end
theorem setT_own {β : Type} {B b : Nat} (hb : b < B) (K : TypeId) (n : β → Nat) (p : β → Lit → Bool) : OwnFrom B (fun s W => SetT K W b (n s) (p s)) := fun s X Y row hs hg hrow =>
  hs.of_block (hg.block b hs.lt (fun e' => by have := (hrow b e'.symm).1; omega))
end Go.Proofs.YtlbehpbhmmppiaaGreatDoor
namespace Go.Proofs.YtlbehpbhmmppiaaGreatDoor
open Go.RowKit Go.Shelf
attribute [local go_sem] Oper.semAt_some

theorem below_two2 {w X w2 : World} (h2 : Below X.heap.size X w2) (h1 : Below w.heap.size w X) : Below w.heap.size w w2 := h1.trans (h2.mono h1.size)
def liveB (dead : Int → Bool) (at' : Int × Int) (x : Ent) : Bool := decide ((x.person, x.place) = at') && !dead x.person
def livesOf (dead : Int → Bool) (l : List OEnt) (d : Int) (at' : Int × Int) : Bool := (flt l 2 d).any fun x => liveB dead at' x.1
/-- A map that holds at most the key kl. -/
noncomputable def onKey (kl : Lit) (q : Bool) (k : Lit) : Bool := @decide (k = kl) (Classical.propDecidable _) && q
theorem onKey_at (kl : Lit) (q : Bool) : onKey kl q kl = q := by simp [onKey]
theorem onKey_other {kl k : Lit} (h : k ≠ kl) (q q' : Bool) : onKey kl q k = onKey kl q' k := by simp [onKey, h]
theorem onKey_false (kl k : Lit) : onKey kl false k = false := by simp [onKey]

set_option maxRecDepth 100000 in
set_option maxHeartbeats 2000000 in
theorem pairs_any (A : Option Addr) (c : Nat) (l : List OEnt) (d : Int) (at' : Int × Int) (kl : Lit) (hk : keyOf Tryz.prog 33 (candVal at') = some kl) (b1 b2 g : Nat) (dead canc : Int → Bool) (w : World) (hD : DirIn w A l b1 b2 dead canc)
    (hg : Blk w g 33 #[.int .i64 at'.1, .int .i64 at'.2])
    (hS : ∀ W b n q, SetT 33 W b n (onKey kl q) → n ≤ maxLen → Calls Tryz.prog 33 #[.map (some b)] W fun e w' => (∃ A c, e = .returned (.slice A (if q = true then 1 else 0) c)) ∧ Below W.heap.size W w') :
    Calls Tryz.prog 48 #[dirVal A l.length c d (some b1) (some b2), .func (.func 49) #[] #[.pointer (some ⟨g, 0, none⟩)]] w fun e w' =>
      (∃ A c, e = .returned (.slice A (if livesOf dead l d at' = true then 1 else 0) c)) ∧ Below w.heap.size w w' := by
  have hf1 : (flt l 2 d).length ≤ l.length := List.length_filter_le _ _
  have hlen := hD.len
  have hmm := @run_makeMap Tryz.prog
  unfold dirVal
  refine (callsIn_wide (n := 9)).1 (callsIn_of_wp_marks Tryz.func48 rfl trivial ?_ rfl)
  simp only [Tryz.ntmps48, List.size_toArray, List.length_cons, List.length_nil, Nat.reduceAdd, Nat.reduceSub, Array.replicate_succ, Array.replicate_zero, List.push_toArray, List.append_toArray, List.nil_append, List.cons_append]
  gi_wp2_with (refine ⟨trivial, ?_⟩; gi_at_call 32; refine (each_any _ A l.length c d 2 (some b1) (some b2) _).mono ?_; rintro e w' ⟨rfl, rfl⟩)
  simp only [Nat.add_assoc, Nat.reduceAdd]
  refine wpIn_gen6 ?_
  intro W0 hB0 hz0 k0 k1 k2 k3 k4 k5
  have hgl := hg.lt
  refine wpIn_eachL (by omega) 6 w.heap.size (w.heap.size + 4) (w.heap.size + 5) A c l 2 d (some b1) (some b2) rfl (by omega) hlen k4 k5 (hD.list.below hB0)
    (fun pre W => (Blk W w.heap.size 49 #[.slice A l.length c, .int .i64 d, .map (some b1), .map (some b2)] ∧ Blk W (w.heap.size + 1) 69 #[.func (.func 49) #[] #[.pointer (some ⟨g, 0, none⟩)]] ∧ Blk W (w.heap.size + 3) 51 #[.map (some (w.heap.size + 2))] ∧ SetT 33 W (w.heap.size + 2) pre.length (onKey kl (pre.any (fun x => liveB dead at' x.1)))) ∧ (Below w.heap.size w W ∧ W0.heap.size ≤ W.heap.size))
    (fun _ _ _ => False) ?_ (fun _ _ _ _ _ hs _ _ => hs) ⟨⟨k0, k1, k3, (SetT.new_of k2).congr (fun k => onKey_false kl k)⟩, hB0, Nat.le_refl _⟩ (fun pre W hs => hs.2.2) ?_ ?_ ?_ ?_
  · exact .and (.and (Own.from (blk_own _ _ _) _) (.and (Own.from (blk_own _ _ _) _) (.and (Own.from (blk_own _ _ _) _) (setT_own (show w.heap.size + 2 < W0.heap.size by omega) _ (fun (pre : List OEnt) => pre.length) (fun (pre : List OEnt) => onKey kl (pre.any (fun x => liveB dead at' x.1))))))) (.and (ownFrom_below (Nat.le_refl _) (by omega)) (size_own _ _))
  · intro lp x W K hK
    unfold entVal entCells at *
    simp only [List.setIfInBounds_toArray, List.set_cons_succ, List.set_cons_zero] at hK ⊢
    gi_wp2
    exact hK
  · rintro lp pre x Bx W hBx hx ⟨⟨bD, bF, bM, s1⟩, hB, hz⟩ hlt
    obtain ⟨c0, c1, c2, c3, c4, c5, c6, c7, c8, c9, _⟩ := hx.cells
    have e0 := bF.cell 0
    have d2 := bD.cell 2
    have m0 := bM.cell 0
    have z1 := bF.lt
    have z2 := Blk.lt hx
    have z3 := bD.lt
    have z4 := bM.lt
    simp at e0 d2 m0
    gi_wp2_with fail
    have hgW := hg.below hB hgl
    have hnew : Blk (W.alloc (.cells #[.int .i64 x.1.person, .int .i64 x.1.place] 33)) W.heap.size 33 #[.int .i64 x.1.person, .int .i64 x.1.place] := at_new rfl
    have aD := bD.alloc (.cells #[.int .i64 x.1.person, .int .i64 x.1.place] 33)
    have aF := bF.alloc (.cells #[.int .i64 x.1.person, .int .i64 x.1.place] 33)
    have aM := bM.alloc (.cells #[.int .i64 x.1.person, .int .i64 x.1.place] 33)
    have aS := s1.alloc (.cells #[.int .i64 x.1.person, .int .i64 x.1.place] 33)
    refine ⟨trivial, ?_⟩
    refine (CallsIn.inRound lp (callsIn_wide.2 (lives1_any (x.1.person, x.1.place) at' g _ (hgW.alloc (.cells #[.int .i64 x.1.person, .int .i64 x.1.place] 33))))).mono ?_
    rintro e w1 ⟨rfl, hb1⟩
    replace hnew := hnew.below hb1 hnew.lt
    replace aD := aD.below hb1 aD.lt
    replace aF := aF.below hb1 aF.lt
    replace aM := aM.below hb1 aM.lt
    replace aS := aS.below hb1 aS.lt
    have hB1 : Below w.heap.size w w1 := below_two2 hb1 (below_al hB _)
    have hz1 : W0.heap.size ≤ w1.heap.size := Nat.le_trans hz (Nat.le_trans (by simp) hb1.size)
    have hKO : KeepsOthers W w1 := (KeepsOthers.alloc W (.cells #[.int .i64 x.1.person, .int .i64 x.1.place] 33)).trans (keepsO_new hb1)
    have hKM : Keeps (mineS w.heap.size (w.heap.size + 4) (w.heap.size + 5)) W w1 := ((Keeps.refl _ W).alloc (.cells #[.int .i64 x.1.person, .int .i64 x.1.place] 33)).trans (Keeps.of_new (S := mineS w.heap.size (w.heap.size + 4) (w.heap.size + 5)) hb1) (fun _ _ h => h)
    have hDW := hD.below hB1
    have hq1 := hDW.dead.look lawInt mapIntRow (keyInt x.2.1)
    rw [onInt_at] at hq1
    clear hb1 c0 c1 c2 c3 c4 c5 c6 c7 c8 c9 e0 d2 m0 hgW
    have d2 := aD.cell 2
    have m0 := aM.cell 0
    have n0 := hnew.cell 0
    have n1 := hnew.cell 1
    simp at d2 m0 n0 n1
    have hsn : (pre ++ [x]).any (fun x => liveB dead at' x.1) = (pre.any (fun x => liveB dead at' x.1) || liveB dead at' x.1) := by simp [List.any_append]
    have hkeep : liveB dead at' x.1 = false → SetT 33 w1 (w.heap.size + 2) (pre ++ [x]).length (onKey kl ((pre ++ [x]).any (fun x => liveB dead at' x.1))) := fun h => (aS.mono (by simp)).congr (fun k => by rw [hsn, h, Bool.or_false])
    cases hdec : decide ((x.1.person, x.1.place) = at')
    · have hs := hkeep (by simp [liveB, hdec])
      gi_wp2
      exact ⟨hKO.from _, hKM, ⟨aD, aF, aM, hs⟩, hB1, hz1⟩
    · have hat : (x.1.person, x.1.place) = at' := of_decide_eq_true hdec
      cases hdd : dead x.1.person
      · rw [hdd] at hq1
        rw [← hat] at hk
        unfold candVal at hk
        obtain ⟨w2, hrun, hset, hk2⟩ := aS.store lawCand mapCandRow (by omega) hk
        dsimp only at hrun
        gi_wp2_with (gi_at_mapUpdate; refine wpListIn_put _ rfl _ _ _ _ rfl hrun ?_)
        refine ⟨hKO.from _ |>.trans (keepsFrom_of hk2 (fun i hi e => by omega)), hKM.trans hk2 (fun i _ h => by subst h; exact ⟨by omega, by omega, by omega⟩), ⟨aD.keep hk2 (by omega), aF.keep hk2 (by omega), aM.keep hk2 (by omega), ?_⟩, hB1.trans (hk2.below (fun k hk e => by omega) hB1.size), Nat.le_trans hz1 hk2.size⟩
        have h1 : liveB dead at' x.1 = true := by simp [liveB, hdec, hdd]
        have := hset (onKey kl ((pre ++ [x]).any (fun x => liveB dead at' x.1))) (by rw [onKey_at, hsn, h1, Bool.or_true]) (fun k hk => onKey_other hk _ _)
        rw [List.length_append]
        exact this
      · rw [hdd] at hq1
        have hs := hkeep (by simp [liveB, hdd])
        gi_wp2
        exact ⟨hKO.from _, hKM, ⟨aD, aF, aM, hs⟩, hB1, hz1⟩
  · rintro D W hD' ⟨⟨bD, bF, bM, s1⟩, hB, hz⟩ hK
    have e0 := bM.cell 0
    simp at e0
    gi_wp2_with fail
    refine ⟨trivial, ?_⟩
    refine (callsIn_wide.2 (hS W _ _ _ s1 (by omega))).mono ?_
    rintro e w1 ⟨⟨A1, c1, he⟩, hb1⟩
    obtain ⟨nn, hnn⟩ : ∃ nn, nn = if livesOf dead l d at' = true then 1 else 0 := ⟨_, rfl⟩
    replace he : e = .returned (.slice A1 nn c1) := by rw [hnn]; exact he
    subst he
    have hK1 := (hb1.block D (Array.getElem?_eq_some_iff.1 hK).1).trans hK
    have hB1 : Below w.heap.size w w1 := hB.trans (hb1.mono hB.size)
    gi_wp2
    all_goals
      refine ⟨by simp, .inl ⟨_, _, rfl, run_takeDeferred hK1, ?_⟩⟩
      exact ⟨_, results_tmp rfl _ _ _, ⟨A1, c1, by first | rfl | (rw [hnn]; rfl)⟩, below_end hB1 hK1 (by omega)⟩
  · rintro D co pre W _ _ h _
    exact h.elim
end Go.Proofs.YtlbehpbhmmppiaaGreatDoor
