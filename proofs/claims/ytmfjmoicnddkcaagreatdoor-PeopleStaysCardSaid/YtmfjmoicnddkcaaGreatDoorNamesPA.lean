/- The contracts of Persons, Names and Called of package people: who has which names, in ascending order. Conditions: the list lies in memory; at most 60 entries; the names have the lengths that strings have. The contracts of names of the directory and of Names of package people. Conditions: the list lies in memory; at most 60 entries; the names have the lengths that strings have. The contract of Called of package people: who has a name, in ascending order. Conditions: the list lies in memory; at most 60 entries. -/
import Derived.Test.YtmfjmoicnddkcaaGreatDoorEachNA
import Derived.Test.YtmfjmoicnddkcaaGreatDoorSetBA
import Derived.Test.YtmfjmoicnddkcaaGreatDoorOnA
namespace Go.Proofs.YtmfjmoicnddkcaaGreatDoor
open Go.RowKit Go.Shelf
attribute [local go_sem] Oper.semAt_some

theorem mapStrRow : Tryz.prog.underlying 100 = some (.map 9 4) := by kernel_rfl
def nameK (x : Ent) : Bool := x.kind == 1
theorem any_next {α : Type} {f : α → Bool} {l : List α} {k : Nat} {x : α} (hx : l[k]? = some x) : (l.take (k + 1)).any f = ((l.take k).any f || f x) := by
  rw [List.take_add_one, hx, List.any_append]
  simp

set_option maxRecDepth 100000 in
set_option maxHeartbeats 4000000 in
theorem pPersons_any (A : Option Addr) (c : Nat) (l : List OEnt) (h60 : l.length ≤ 60) (w : World) (hL : EntsLie w w.heap.size A (l.map (·.1))) :
    Calls Tryz.prog 16 #[.slice A l.length c] w fun e w' => ∃ A' c' q, e = .returned (.slice A' q.length c') ∧ IntsAt w' A' q ∧ Hid (q.Pairwise (· < ·) ∧ ∀ n, n ∈ q ↔ ∃ y ∈ l.map (·.1), nameK y = true ∧ y.person = n) ∧ q.length ≤ 60 ∧ Below w.heap.size w w' := by
  have hmm := @run_makeMap Tryz.prog
  have hle : (l.map (·.1)).length = l.length := List.length_map _
  go_enter Tryz.func16, Tryz.ntmps16
  go_wp2_with fail
  have k0 : (w.alloc (.map #[] 0)).heap[w.heap.size]? = some (.map #[] 0) := World.alloc_heap_new w _
  have hS0 : SetT 3 (w.alloc (.map #[] 0)) w.heap.size 0 (onInt fun _ => false) := (SetT.new_of k0).congr (fun k => by unfold onInt; split <;> rfl)
  have hB0 : Below w.heap.size w (w.alloc (.map #[] 0)) := below_al (Below.refl _ _) _
  generalize w.alloc (.map #[] 0) = w0 at hS0 hB0 ⊢
  clear k0
  go_loopw [9] (fun i wr => ∃ k : Nat, k ≤ l.length ∧ i = .int .i64 k ∧ SetT 3 wr w.heap.size k (onInt fun n => (l.take k).any fun x => nameK x.1 && x.1.person == n) ∧ Below w.heap.size w wr) (fun i _ => l.length - (intOf i).toNat)
  case atStart => exact ⟨0, Nat.zero_le _, rfl, hS0.congr (fun k => by simp), hB0⟩
  case round =>
    obtain ⟨k, hk, rfl, hS, hB⟩ := hrel
    by_cases hlt : k < l.length
    · obtain ⟨x, hx⟩ : ∃ x, l[k]? = some x := ⟨_, List.getElem?_eq_getElem hlt⟩
      have HA : Hid (∀ n, ((l.take (k + 1)).any fun x => nameK x.1 && x.1.person == n) = (((l.take k).any fun x => nameK x.1 && x.1.person == n) || (nameK x.1 && x.1.person == n))) := Lib.hid fun n => any_next hx
      obtain ⟨b, off, rfl, hb, c0, c1, c2, c3, c4, c5, c6, c7, c8, c9⟩ := (hL.below hB).at (k := k) (x := x.1) (by rw [List.getElem?_map, hx]; rfl)
      clear hx
      have hB1 := hB.alloc hB.size (.cells (entCells x.1).toArray 26)
      have hS1 := hS.alloc (.cells (entCells x.1).toArray 26)
      have hE := EntAt.new wr x.1
      by_cases hk1 : x.1.kind = 1
      · obtain ⟨w2, hrun, hset, hk2⟩ := hS1.store lawInt mapIntRow (by unfold maxLen; omega) (keyInt x.2.1)
        have HN : Hid (SetT 3 w2 w.heap.size (k + 1) (onInt fun n => (l.take (k + 1)).any fun x => nameK x.1 && x.1.person == n)) := Lib.hid (hset _ (by rw [onInt_at, HA.out]; simp [nameK, hk1]) (onInt_other (fun n hn => by rw [HA.out]; simp [Ne.symm hn])))
        have HB : Hid (Below w.heap.size w w2) := Lib.hid (hB1.trans (hk2.below (fun k hk e => by omega) hB1.size))
        rw [hk1] at c1
        simp only [entCells, hk1] at hrun
        clear hS hS1 hset hk2 hk1 HA hE
        go_wp2_with (at_mapUpdate; refine wpList_put _ rfl _ _ _ _ rfl hrun ?_)
        go_roundw
        case rel => exact ⟨k + 1, by omega, by go_num, HN.out, HB.out⟩
        case measure => simp [intOf]; omega
      · have HN : Hid (SetT 3 (wr.alloc (.cells (entCells x.1).toArray 26)) w.heap.size (k + 1) (onInt fun n => (l.take (k + 1)).any fun x => nameK x.1 && x.1.person == n)) := Lib.hid ((hS1.mono (Nat.le_succ k)).congr (fun kl => by unfold onInt; split <;> first | rfl | exact (HA.out _).trans (by simp [nameK, hk1])))
        simp only [entCells] at HN hB1
        clear hS hS1 HA hE
        go_wp2_with fail
        go_roundw
        case rel => exact ⟨k + 1, by omega, by go_num, HN.out, hB1⟩
        case measure => simp [intOf]; omega
    · obtain rfl : k = l.length := by omega
      have hS1 := hS.alloc (.cells #[.map (some w.heap.size)] 67)
      have hB1 := hB.alloc hB.size (.cells #[.map (some w.heap.size)] 67)
      have kM := Blk.new wr 67 #[.map (some w.heap.size)]
      have H1 := Lib.hid (keysI_any w.heap.size wr)
      have H2 := Lib.hid (sortedI_any wr.heap.size w.heap.size l.length (by omega) _ _ kM hS1)
      have HM : Hid (∀ n, (l.take l.length).any (fun x => nameK x.1 && x.1.person == n) = true ↔ ∃ y ∈ l.map (·.1), nameK y = true ∧ y.person = n) := Lib.hid fun n => by
        rw [List.take_length, List.any_eq_true]
        constructor
        · rintro ⟨x, hx, h⟩
          simp only [Bool.and_eq_true, beq_iff_eq] at h
          exact ⟨x.1, List.mem_map_of_mem hx, h.1, h.2⟩
        · rintro ⟨y, hy, h1, h2⟩
          obtain ⟨x, hx, rfl⟩ := List.mem_map.1 hy
          exact ⟨x, hx, by simp [h1, h2]⟩
      clear hS hS1 kM
      go_wp2_with fail
      refine H1.out.mono ?_
      rintro e w2 ⟨rfl, rfl⟩
      go_wp2_with fail
      refine H2.out.mono ?_
      rintro e w3 ⟨v, q, rfl, hO, hq, hl, hb3⟩
      obtain ⟨A3, c3, rfl⟩ := hO.shape
      have HI := Lib.hid hO.at
      have HQ : Hid (q.Pairwise (· < ·) ∧ ∀ n, n ∈ q ↔ ∃ y ∈ l.map (·.1), nameK y = true ∧ y.person = n) := Lib.hid ⟨hq.out.1, fun n => (hq.out.2 n).trans (HM.out n)⟩
      clear hO hq
      go_wp2_with fail
      go_ret
      exact ⟨A3, c3, q, rfl, HI.out, HQ, by omega, hB1.trans (hb3.mono hB1.size)⟩
end Go.Proofs.YtmfjmoicnddkcaaGreatDoor
namespace Go.Proofs.YtmfjmoicnddkcaaGreatDoor
open Go.RowKit Go.Shelf Go.Sort
attribute [local go_sem] Oper.semAt_some

/-- The strings q lie behind A. -/
def StrsAt (w : World) (A : Option Addr) (q : List (List UInt8)) : Prop := ∀ k s, q[k]? = some s → ∃ g, A = some ⟨g, 0, none⟩ ∧ g < w.heap.size ∧ w.cell? ⟨g, k, none⟩ = some (encStr s)
theorem StrsAt.up {w w' : World} {A : Option Addr} {q : List (List UInt8)} (h : StrsAt w A q) {B : Nat} (hb : Below B w w') (hB : w.heap.size ≤ B) : StrsAt w' A q := fun k x hx => by
  obtain ⟨g, h1, h2, h3⟩ := h k x hx
  exact ⟨g, h1, Nat.lt_of_lt_of_le h2 hb.size, (hb.cell (p := ⟨g, k, none⟩) (Nat.lt_of_lt_of_le h2 hB)).trans h3⟩
theorem StrsAt.below {w w' : World} {A : Option Addr} {q : List (List UInt8)} (h : StrsAt w A q) (hb : Below w.heap.size w w') : StrsAt w' A q := h.up hb (Nat.le_refl _)
theorem StrsAt.put {w : World} {A : Option Addr} {q : List (List UInt8)} (h : StrsAt w A q) {D : Nat} {o o' : Obj} (hD : w.heap[D]? = some o) (ho : o.isCells = false) : StrsAt (w.putObj D o') A q := fun k x hx => by
  obtain ⟨g, h1, h2, h3⟩ := h k x hx
  have hne : D ≠ g := fun e => by
    subst e
    simp only [World.cell?, hD] at h3
    cases o <;> simp [Obj.isCells] at ho h3
  have hb : (w.putObj D o').heap[g]? = w.heap[g]? := World.putObj_heap_other (fun e => hne (by first | exact e | exact e.symm))
  exact ⟨g, h1, by simpa [World.putObj] using h2, (World.cell?_of_block hb).trans h3⟩
theorem OwnT.shape {w : World} {base : Nat} {v : Value} {l : List (List UInt8)} (h : OwnT w base v l) : ∃ A c, v = .slice A l.length c := by
  rcases h.2 with ⟨rfl, h0⟩ | ⟨g, cap, cur, rfl, _⟩
  · exact ⟨none, 0, by rw [h0]⟩
  · exact ⟨_, cap, rfl⟩
theorem OwnT.at {w : World} {base : Nat} {A : Option Addr} {c : Nat} {l : List (List UInt8)} (h : OwnT w base (.slice A l.length c) l) : StrsAt w A l := fun k x hx => by
  have hl := World.ownsRow.lt h
  unfold OwnT at h
  have hk := (List.getElem?_eq_some_iff.1 hx).1
  rcases h.2 with ⟨h1, h2⟩ | ⟨g, cap, cur, h1, hb, hg, _⟩
  · omega
  · simp only [Value.slice.injEq] at h1
    obtain ⟨rfl, _, rfl⟩ := h1
    refine ⟨g, rfl, (hl g rfl).2, ?_⟩
    rw [h.cellAt k (by omega), List.getElem?_map, hx]
    rfl
theorem onStr_at (f : List UInt8 → Bool) (s : List UInt8) : onStr f (.string s) = f s := rfl
theorem onStr_other {f g : List UInt8 → Bool} {a : List UInt8} (h : ∀ s, s ≠ a → f s = g s) : ∀ k : Lit, k ≠ .string a → onStr f k = onStr g k := fun k hk => by
  unfold onStr
  split
  · rename_i b
    exact h b (fun e => hk (by rw [e]))
  · rfl
def nameE (p d : Int) (y : Ent) : Bool := y.kind == 1 && y.person == p && hld y d
def nmOf (y : Ent) : List UInt8 := y.name.data.toList

set_option maxRecDepth 100000 in
set_option maxHeartbeats 2000000 in
theorem namesDir_any (A : Option Addr) (c : Nat) (l : List OEnt) (m : List NEnt) (hml : m.map (·.1) = l.map (·.1)) (h60 : l.length ≤ 60) (d n : Int) (b1 b2 : Nat) (dead canc : Int → Bool) (w : World) (hD : DirIn w A l b1 b2 dead canc) :
    Calls Tryz.prog 49 #[dirVal A l.length c d (some b1) (some b2), .int .i64 n] w fun e w' =>
      ∃ A' c' q, e = .returned (.slice A' q.length c') ∧ StrsAt w' A' q ∧ Hid (q.Pairwise (· < ·) ∧ ∀ s, s ∈ q ↔ ∃ y ∈ l.map (·.1), nameE n d y = true ∧ nmOf y = s) ∧ q.length ≤ 60 ∧ Below w.heap.size w w' := by
  have hL := hD.list
  have hl60 : m.length ≤ 60 := by have := congrArg List.length hml; simp at this; omega
  have hlen : m.length ≤ maxLen := by unfold maxLen; omega
  have hln : l.length = m.length := by have := congrArg List.length hml; simp at this; omega
  rw [hln]
  rw [← hml] at hL ⊢
  clear hD hln hml h60
  have hf1 : (fltN m 1 d).length ≤ m.length := List.length_filter_le _ _
  have hmm := @run_makeMap Tryz.prog
  unfold dirVal
  refine (callsIn_wide (n := 9)).1 (callsIn_of_wp_marks Tryz.func49 rfl trivial ?_ rfl)
  simp only [Tryz.ntmps49, List.size_toArray, List.length_cons, List.length_nil, Nat.reduceAdd, Nat.reduceSub, Array.replicate_succ, Array.replicate_zero, List.push_toArray, List.append_toArray, List.nil_append, List.cons_append]
  gi_wp2_with (refine ⟨trivial, ?_⟩; gi_at_call 51; refine (each_any _ A m.length c d 1 (some b1) (some b2) _).mono ?_; rintro e w' ⟨rfl, rfl⟩)
  simp only [Nat.add_assoc, Nat.reduceAdd]
  refine wpIn_gen6 ?_
  intro W0 hB0 hz0 k0 k1 k2 k3 k4 k5
  refine wpIn_eachLN (by omega) 6 w.heap.size (w.heap.size + 4) (w.heap.size + 5) A c m 1 d (some b1) (some b2) rfl (by omega) hlen k4 k5 (hL.below hB0)
    (fun pre W => (Blk W w.heap.size 69 #[.slice A m.length c, .int .i64 d, .map (some b1), .map (some b2)] ∧ Blk W (w.heap.size + 1) 3 #[.int .i64 n] ∧ Blk W (w.heap.size + 3) 100 #[.map (some (w.heap.size + 2))] ∧ SetT 9 W (w.heap.size + 2) pre.length (onStr fun s => pre.any fun x => x.1.person == n && decide (nmOf x.1 = s))) ∧ (Below w.heap.size w W ∧ W0.heap.size ≤ W.heap.size))
    (fun _ _ _ => False) ?_ (fun _ _ _ _ _ hs _ _ => hs) ⟨⟨k0, k1, k3, (SetT.new_of k2).congr (fun k => by unfold onStr; split <;> rfl)⟩, hB0, Nat.le_refl _⟩ (fun pre W hs => hs.2.2) ?_ ?_ ?_ ?_
  · exact .and (.and (Own.from (blk_own _ _ _) _) (.and (Own.from (blk_own _ _ _) _) (.and (Own.from (blk_own _ _ _) _) (setT_own (show w.heap.size + 2 < W0.heap.size by omega) _ (fun (pre : List NEnt) => pre.length) (fun (pre : List NEnt) => onStr fun s => pre.any fun x => x.1.person == n && decide (nmOf x.1 = s)))))) (.and (ownFrom_below (Nat.le_refl _) (by omega)) (size_own _ _))
  · intro lp x W K hK
    unfold entVal entCells at *
    simp only [List.setIfInBounds_toArray, List.set_cons_succ, List.set_cons_zero] at hK ⊢
    gi_wp2
    exact hK
  · rintro lp pre x Bx W hBx hx ⟨⟨bD, bP, bM, s1⟩, hB, hz⟩ hlt
    obtain ⟨c0, c1, c2, c3, c4, c5, c6, c7, c8, c9, _⟩ := hx.cells
    have e0 := bP.cell 0
    have m0 := bM.cell 0
    have z1 := bP.lt
    have z2 := Blk.lt hx
    have z4 := bM.lt
    simp at e0 m0
    have HA : Hid (∀ s, ((pre ++ [x]).any fun x => x.1.person == n && decide (nmOf x.1 = s)) = ((pre.any fun x => x.1.person == n && decide (nmOf x.1 = s)) || (x.1.person == n && decide (nmOf x.1 = s)))) := Lib.hid fun s => by rw [List.any_append]; simp
    by_cases hp : x.1.person = n
    · obtain ⟨w1, hrun, hset, hk1⟩ := s1.store lawString mapStrRow (by unfold maxLen; omega) (keyString x.2.2)
      have HS : Hid (SetT 9 w1 (w.heap.size + 2) (pre ++ [x]).length (onStr fun s => (pre ++ [x]).any fun x => x.1.person == n && decide (nmOf x.1 = s))) := Lib.hid (by
        have h := hset (onStr fun s => (pre ++ [x]).any fun x => x.1.person == n && decide (nmOf x.1 = s)) (by rw [onStr_at, HA.out]; simp [hp, nmOf]) (onStr_other (fun s hs => by rw [HA.out]; simp [nmOf, Ne.symm hs]))
        rw [List.length_append]
        exact h)
      have HK := Lib.hid hk1
      rw [hp] at c4
      clear hset HA hp hk1
      gi_wp2_with (gi_at_mapUpdate; refine wpListIn_put _ rfl _ _ _ _ rfl hrun ?_)
      have hk1 := HK.out
      exact ⟨keepsFrom_of hk1 (fun i hi e => by omega), hk1.mono (fun i _ h => by subst h; exact ⟨by omega, by omega, by omega⟩), ⟨bD.keep hk1 (by omega), bP.keep hk1 (by omega), bM.keep hk1 (by omega), HS.out⟩, hB.trans (hk1.below (fun k hk e => by omega) hB.size), Nat.le_trans hz hk1.size⟩
    · have HS : Hid (SetT 9 W (w.heap.size + 2) (pre ++ [x]).length (onStr fun s => (pre ++ [x]).any fun x => x.1.person == n && decide (nmOf x.1 = s))) := Lib.hid ((s1.mono (by simp)).congr (fun k => by unfold onStr; split <;> first | rfl | exact (HA.out _).trans (by simp [hp])))
      clear HA
      gi_wp2
      exact ⟨KeepsFrom.refl _ _, Keeps.refl _ _, ⟨bD, bP, bM, HS.out⟩, hB, hz⟩
  · rintro D W hD' ⟨⟨bD, bP, bM, s1⟩, hB, hz⟩ hK
    have e0 := bM.cell 0
    simp at e0
    have H1 := Lib.hid (keysS_any (w.heap.size + 2) W)
    have H2 := Lib.hid (sortedS_any W.heap.size (w.heap.size + 2) _ (by omega) _ _ (Blk.new W 100 #[.map (some (w.heap.size + 2))]) (s1.alloc (.cells #[.map (some (w.heap.size + 2))] 100)))
    have hDl : D < W.heap.size := (Array.getElem?_eq_some_iff.1 hK).1
    have HM : Hid (∀ s, (fltN m 1 d).any (fun x => x.1.person == n && decide (nmOf x.1 = s)) = true ↔ ∃ y ∈ m.map (·.1), nameE n d y = true ∧ nmOf y = s) := Lib.hid fun s => by
      rw [List.any_eq_true]
      constructor
      · rintro ⟨x, hx, h⟩
        have h2 := List.mem_filter.1 hx
        simp only [Bool.and_eq_true, beq_iff_eq, decide_eq_true_eq] at h h2
        exact ⟨x.1, List.mem_map_of_mem h2.1, by unfold nameE; simp [h2.2.1, h2.2.2, h.1], h.2⟩
      · rintro ⟨y, hy, h1, h2⟩
        obtain ⟨x, hx, rfl⟩ := List.mem_map.1 hy
        unfold nameE at h1
        simp only [Bool.and_eq_true, beq_iff_eq] at h1
        exact ⟨x, List.mem_filter.2 ⟨hx, by simp [h1.1.1, h1.2]⟩, by simp [h1.1.2, h2]⟩
    clear s1
    gi_wp2_with fail
    refine ⟨trivial, ?_⟩
    refine (callsIn_wide.2 H1.out).mono ?_
    rintro e w1 ⟨rfl, rfl⟩
    gi_wp2_with fail
    refine ⟨trivial, ?_⟩
    refine (callsIn_wide.2 H2.out).mono ?_
    rintro e w1 ⟨v, q, rfl, hO, hq, hl, hb1⟩
    obtain ⟨A1, c1, rfl⟩ := hO.shape
    have hS1 := hO.at
    have hK0 : (W.alloc (.cells #[.map (some (w.heap.size + 2))] 100)).heap[D]? = some (.deferred (some [])) := at_al hK
    have hK1 := (hb1.block D (by simp; omega)).trans hK0
    have hB1 : Below w.heap.size w w1 := below_two2 hb1 (below_al hB _)
    have HQ : Hid (q.Pairwise (· < ·) ∧ ∀ s, s ∈ q ↔ ∃ y ∈ m.map (·.1), nameE n d y = true ∧ nmOf y = s) := Lib.hid ⟨hq.out.1, fun s => (hq.out.2 s).trans (HM.out s)⟩
    clear hO hq H1 H2 HM
    gi_wp2
    all_goals
      refine ⟨by simp, .inl ⟨_, _, rfl, run_takeDeferred hK1, ?_⟩⟩
      exact ⟨_, results_tmp rfl _ _ _, A1, c1, q, by first | rfl | simp, hS1.put hK1 rfl, HQ, by omega, below_end hB1 hK1 (by omega)⟩
  · rintro D co pre W _ _ h _
    exact h.elim

set_option maxRecDepth 100000 in
set_option maxHeartbeats 4000000 in
theorem pNames_any (A : Option Addr) (c : Nat) (l : List OEnt) (m : List NEnt) (hml : m.map (·.1) = l.map (·.1)) (h60 : l.length ≤ 60) (n d : Int) (w : World) (hL : EntsLie w w.heap.size A (l.map (·.1))) :
    Calls Tryz.prog 19 #[.slice A l.length c, .int .i64 n, .int .i64 d] w fun e w' => ∃ A' c' q, e = .returned (.slice A' q.length c') ∧ StrsAt w' A' q ∧ Hid (q.Pairwise (· < ·) ∧ ∀ s, s ∈ q ↔ ∃ y ∈ l.map (·.1), nameE n d y = true ∧ nmOf y = s) ∧ q.length ≤ 60 ∧ Below w.heap.size w w' := by
  have H1 := Lib.hid (on_any A c l d w hL (by unfold maxLen; omega))
  have H2 := Lib.hid (fun W b1 b2 (hD : DirIn W A l b1 b2 (deadOf l d) (cancOf l d)) => namesDir_any A c l m hml h60 d n b1 b2 (deadOf l d) (cancOf l d) W hD)
  unfold dirVal at H1 H2
  go_enter Tryz.func19, Tryz.ntmps19
  go_wp2_with fail
  refine H1.out.mono ?_
  rintro e w1 ⟨b1, b2, rfl, hD, hb1⟩
  have H3 := Lib.hid (H2.out w1 b1 b2 hD)
  clear hD
  go_wp2_with fail
  refine H3.out.mono ?_
  rintro e w2 ⟨A2, c2, r, rfl, hI, hr, hl, hb2⟩
  go_wp2_with fail
  go_ret
  exact ⟨A2, c2, r, rfl, hI, hr, hl, hb1.trans (hb2.mono hb1.size)⟩
end Go.Proofs.YtmfjmoicnddkcaaGreatDoor
namespace Go.Proofs.YtmfjmoicnddkcaaGreatDoor
open Go.RowKit Go.Shelf Go.Sort
attribute [local go_sem] Oper.semAt_some

theorem strEq_false {a b : ByteArray} (h : a ≠ b) : (a.toList == b.toList) = false := by
  rw [beq_eq_false_iff_ne]
  intro e
  rw [ByteArray.toList_eq, ByteArray.toList_eq] at e
  apply h
  obtain ⟨a⟩ := a
  obtain ⟨b⟩ := b
  simpa using e
theorem intsAt_put {w : World} {A : Option Addr} {q : List Int} (h : IntsAt w A q) {D : Nat} {o o' : Obj} (hD : w.heap[D]? = some o) (ho : o.isCells = false) : IntsAt (w.putObj D o') A q := fun k x hx => by
  obtain ⟨g, h1, h2, h3⟩ := h k x hx
  have hne : D ≠ g := fun e => by
    subst e
    simp only [World.cell?, hD] at h3
    cases o <;> simp [Obj.isCells] at ho h3
  have hb : (w.putObj D o').heap[g]? = w.heap[g]? := World.putObj_heap_other (fun e => hne (by first | exact e | exact e.symm))
  exact ⟨g, h1, by simpa [World.putObj] using h2, (World.cell?_of_block hb).trans h3⟩
def callE (nm : ByteArray) (d : Int) (y : Ent) : Bool := y.kind == 1 && decide (y.name = nm) && hld y d

set_option maxRecDepth 100000 in
set_option maxHeartbeats 2000000 in
theorem pCalled_any (A : Option Addr) (c : Nat) (l : List OEnt) (h60 : l.length ≤ 60) (nm : ByteArray) (d : Int) (w : World) (hL : EntsLie w w.heap.size A (l.map (·.1))) :
    Calls Tryz.prog 21 #[.slice A l.length c, .string nm, .int .i64 d] w fun e w' =>
      ∃ A' c' q, e = .returned (.slice A' q.length c') ∧ IntsAt w' A' q ∧ Hid (q.Pairwise (· < ·) ∧ ∀ n, n ∈ q ↔ ∃ y ∈ l.map (·.1), callE nm d y = true ∧ y.person = n) ∧ q.length ≤ 60 ∧ Below w.heap.size w w' := by
  have hlen : l.length ≤ maxLen := by unfold maxLen; omega
  have hf1 : (flt l 1 d).length ≤ l.length := List.length_filter_le _ _
  have hmm := @run_makeMap Tryz.prog
  refine (callsIn_wide (n := 9)).1 (callsIn_of_wp_marks Tryz.func21 rfl trivial ?_ rfl)
  simp only [Tryz.ntmps21, List.size_toArray, List.length_cons, List.length_nil, Nat.reduceAdd, Nat.reduceSub, Array.replicate_succ, Array.replicate_zero, List.push_toArray, List.append_toArray, List.nil_append, List.cons_append]
  gi_wp2_with fail
  have q0 : (((w.alloc (.cells #[.string nm] 9)).alloc (.map #[] 0)).alloc (.cells #[.map (some (w.heap.size + 1))] 67)).heap[w.heap.size]? = some (.cells #[.string nm] 9 (0, 0)) := at_al (at_al (at_new rfl))
  have q1 : (((w.alloc (.cells #[.string nm] 9)).alloc (.map #[] 0)).alloc (.cells #[.map (some (w.heap.size + 1))] 67)).heap[w.heap.size + 1]? = some (.map #[] 0) := at_al (at_new (by simp))
  have q2 : (((w.alloc (.cells #[.string nm] 9)).alloc (.map #[] 0)).alloc (.cells #[.map (some (w.heap.size + 1))] 67)).heap[w.heap.size + 2]? = some (.cells #[.map (some (w.heap.size + 1))] 67 (0, 0)) := at_new (by simp)
  have hBa : Below w.heap.size w (((w.alloc (.cells #[.string nm] 9)).alloc (.map #[] 0)).alloc (.cells #[.map (some (w.heap.size + 1))] 67)) := below_al (below_al (below_al (Below.refl _ _) _) _) _
  generalize ((w.alloc (.cells #[.string nm] 9)).alloc (.map #[] 0)).alloc (.cells #[.map (some (w.heap.size + 1))] 67) = Wa at q0 q1 q2 hBa ⊢
  have bN : Blk Wa w.heap.size 9 #[.string nm] := q0
  have bM : Blk Wa (w.heap.size + 2) 67 #[.map (some (w.heap.size + 1))] := q2
  have s0 : SetT 3 Wa (w.heap.size + 1) 0 (onInt fun _ => false) := (SetT.new_of q1).congr (fun k => by unfold onInt; split <;> rfl)
  refine ⟨trivial, ?_⟩
  refine (callsIn_wide.2 (on_any A c l d Wa (hL.up hBa hBa.size) hlen)).mono ?_
  rintro e w1 ⟨b1, b2, rfl, hD, hb1⟩
  have hB1 := below_two2 hb1 hBa
  replace bN := bN.below hb1 bN.lt
  replace bM := bM.below hb1 bM.lt
  replace s0 := s0.below hb1 s0.lt
  clear q0 q1 q2 hBa hb1
  unfold dirVal
  gi_wp2_with fail
  refine ⟨trivial, ?_⟩
  have hE := each_any 8 A l.length c d 1 (some b1) (some b2) w1
  unfold dirVal at hE
  refine hE.mono ?_
  rintro e w' ⟨rfl, rfl⟩
  have kd : ((w1.alloc (.cells (dirCells A l.length c d (some b1) (some b2)) 69)).alloc (.cells #[.int .u8 1] 5)).heap[w1.heap.size]? = some (.cells (dirCells A l.length c d (some b1) (some b2)) 69 (0, 0)) := at_al (at_new rfl)
  have kk : ((w1.alloc (.cells (dirCells A l.length c d (some b1) (some b2)) 69)).alloc (.cells #[.int .u8 1] 5)).heap[w1.heap.size + 1]? = some (.cells #[.int .u8 1] 5 (0, 0)) := at_new (by simp)
  have hB2 : Below w.heap.size w ((w1.alloc (.cells (dirCells A l.length c d (some b1) (some b2)) 69)).alloc (.cells #[.int .u8 1] 5)) := below_al (below_al hB1 _) _
  have hz2 : ((w1.alloc (.cells (dirCells A l.length c d (some b1) (some b2)) 69)).alloc (.cells #[.int .u8 1] 5)).heap.size = w1.heap.size + 2 := by simp
  have z1 := bM.lt
  replace bN := (bN.alloc (.cells (dirCells A l.length c d (some b1) (some b2)) 69)).alloc (.cells #[.int .u8 1] 5)
  replace bM := (bM.alloc (.cells (dirCells A l.length c d (some b1) (some b2)) 69)).alloc (.cells #[.int .u8 1] 5)
  replace s0 := (s0.alloc (.cells (dirCells A l.length c d (some b1) (some b2)) 69)).alloc (.cells #[.int .u8 1] 5)
  have hsz : w.heap.size ≤ w1.heap.size := hB1.size
  generalize (w1.alloc (.cells (dirCells A l.length c d (some b1) (some b2)) 69)).alloc (.cells #[.int .u8 1] 5) = V at kd kk hB2 hz2 bN bM s0 ⊢
  clear hD hB1
  gi_wp2_with fail
  refine wpIn_eachL (n := 9) (by omega) 8 w.heap.size w1.heap.size (w1.heap.size + 1) A c l 1 d (some b1) (some b2) rfl (by omega) hlen kd kk (hL.below hB2)
    (fun pre W => (Blk W w.heap.size 9 #[.string nm] ∧ Blk W (w.heap.size + 2) 67 #[.map (some (w.heap.size + 1))] ∧ SetT 3 W (w.heap.size + 1) pre.length (onInt fun n => pre.any fun x => decide (x.1.name = nm) && x.1.person == n)) ∧ (Below w.heap.size w W ∧ V.heap.size ≤ W.heap.size))
    (fun _ _ _ => False) ?_ (fun _ _ _ _ _ hs _ _ => hs) ⟨⟨bN, bM, s0.congr (fun k => by unfold onInt; split <;> rfl)⟩, hB2, Nat.le_refl _⟩ (fun pre W hs => hs.2.2) ?_ ?_ ?_ ?_
  · exact .and (.and (Own.from (blk_own _ _ _) _) (.and (Own.from (blk_own _ _ _) _) (setT_own (show w.heap.size + 1 < V.heap.size by omega) _ (fun (pre : List OEnt) => pre.length) (fun (pre : List OEnt) => onInt fun n => pre.any fun x => decide (x.1.name = nm) && x.1.person == n)))) (.and (ownFrom_below (Nat.le_refl _) (by omega)) (size_own _ _))
  · intro lp x W K hK
    unfold entVal entCells at *
    simp only [List.setIfInBounds_toArray, List.set_cons_succ, List.set_cons_zero] at hK ⊢
    gi_wp2
    exact hK
  · rintro lp pre x Bx W hBx hx ⟨⟨bN, bM, s1⟩, hB, hz⟩ hlt
    obtain ⟨c0, c1, c2, c3, c4, c5, c6, c7, c8, c9, _⟩ := hx.cells
    have e0 := bN.cell 0
    have m0 := bM.cell 0
    have y1 := bN.lt
    have y2 := Blk.lt hx
    have y4 := bM.lt
    simp at e0 m0
    have HA : Hid (∀ n, ((pre ++ [x]).any fun x => decide (x.1.name = nm) && x.1.person == n) = ((pre.any fun x => decide (x.1.name = nm) && x.1.person == n) || (decide (x.1.name = nm) && x.1.person == n))) := Lib.hid fun s => by rw [List.any_append]; simp
    by_cases hp : x.1.name = nm
    · obtain ⟨w2, hrun, hset, hk1⟩ := s1.store lawInt mapIntRow (by unfold maxLen; omega) (keyInt x.2.1)
      have HS : Hid (SetT 3 w2 (w.heap.size + 1) (pre ++ [x]).length (onInt fun n => (pre ++ [x]).any fun x => decide (x.1.name = nm) && x.1.person == n)) := Lib.hid (by
        have h := hset (onInt fun n => (pre ++ [x]).any fun x => decide (x.1.name = nm) && x.1.person == n) (by rw [onInt_at, HA.out]; simp [hp]) (onInt_other (fun n hn => by rw [HA.out]; simp [Ne.symm hn]))
        rw [List.length_append]
        exact h)
      have HK := Lib.hid hk1
      rw [hp] at c9
      clear hset HA hp hk1
      gi_wp2_with (gi_at_mapUpdate; refine wpListIn_put _ rfl _ _ _ _ rfl hrun ?_)
      have hk1 := HK.out
      exact ⟨keepsFrom_of hk1 (fun i hi e => by omega), hk1.mono (fun i _ h => by subst h; exact ⟨by omega, by omega, by omega⟩), ⟨bN.keep hk1 (by omega), bM.keep hk1 (by omega), HS.out⟩, hB.trans (hk1.below (fun k hk e => by omega) hB.size), Nat.le_trans hz hk1.size⟩
    · have HS : Hid (SetT 3 W (w.heap.size + 1) (pre ++ [x]).length (onInt fun n => (pre ++ [x]).any fun x => decide (x.1.name = nm) && x.1.person == n)) := Lib.hid ((s1.mono (by simp)).congr (fun k => by unfold onInt; split <;> first | rfl | exact (HA.out _).trans (by simp [hp])))
      have hq := strEq_false hp
      clear HA
      gi_wp2
      exact ⟨KeepsFrom.refl _ _, Keeps.refl _ _, ⟨bN, bM, HS.out⟩, hB, hz⟩
  · rintro D W hD' ⟨⟨bN, bM, s1⟩, hB, hz⟩ hK
    have e0 := bM.cell 0
    simp at e0
    have H1 := Lib.hid (keysI_any (w.heap.size + 1) W)
    have H2 := Lib.hid (sortedI_any W.heap.size (w.heap.size + 1) _ (by omega) _ _ (Blk.new W 67 #[.map (some (w.heap.size + 1))]) (s1.alloc (.cells #[.map (some (w.heap.size + 1))] 67)))
    have hDl : D < W.heap.size := (Array.getElem?_eq_some_iff.1 hK).1
    have HM : Hid (∀ n, (flt l 1 d).any (fun x => decide (x.1.name = nm) && x.1.person == n) = true ↔ ∃ y ∈ l.map (·.1), callE nm d y = true ∧ y.person = n) := Lib.hid fun n => by
      rw [List.any_eq_true]
      constructor
      · rintro ⟨x, hx, h⟩
        have h2 := List.mem_filter.1 hx
        simp only [Bool.and_eq_true, beq_iff_eq, decide_eq_true_eq] at h h2
        exact ⟨x.1, List.mem_map_of_mem h2.1, by unfold callE; simp [h2.2.1, h2.2.2, h.1], h.2⟩
      · rintro ⟨y, hy, h1, h2⟩
        obtain ⟨x, hx, rfl⟩ := List.mem_map.1 hy
        unfold callE at h1
        simp only [Bool.and_eq_true, beq_iff_eq, decide_eq_true_eq] at h1
        exact ⟨x, List.mem_filter.2 ⟨hx, by simp [h1.1.1, h1.2]⟩, by simp [h1.1.2, h2]⟩
    clear s1
    gi_wp2_with fail
    refine ⟨trivial, ?_⟩
    refine (callsIn_wide.2 H1.out).mono ?_
    rintro e w2 ⟨rfl, rfl⟩
    gi_wp2_with fail
    refine ⟨trivial, ?_⟩
    refine (callsIn_wide.2 H2.out).mono ?_
    rintro e w2 ⟨v, q, rfl, hO, hq, hl, hb1⟩
    obtain ⟨A1, c1, rfl⟩ := hO.shape
    have hS1 := hO.at
    have hK0 : (W.alloc (.cells #[.map (some (w.heap.size + 1))] 67)).heap[D]? = some (.deferred (some [])) := at_al hK
    have hK1 := (hb1.block D (by simp; omega)).trans hK0
    have hB1 : Below w.heap.size w w2 := below_two2 hb1 (below_al hB _)
    have HQ : Hid (q.Pairwise (· < ·) ∧ ∀ n, n ∈ q ↔ ∃ y ∈ l.map (·.1), callE nm d y = true ∧ y.person = n) := Lib.hid ⟨hq.out.1, fun s => (hq.out.2 s).trans (HM.out s)⟩
    clear hO hq H1 H2 HM
    gi_wp2
    all_goals
      refine ⟨by simp, .inl ⟨_, _, rfl, run_takeDeferred hK1, ?_⟩⟩
      exact ⟨_, results_tmp rfl _ _ _, A1, c1, q, by first | rfl | simp, intsAt_put hS1 hK1 rfl, HQ, by omega, below_end hB1 hK1 (by omega)⟩
  · rintro D co pre W _ _ h _
    exact h.elim
end Go.Proofs.YtmfjmoicnddkcaaGreatDoor
