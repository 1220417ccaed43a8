/- What the reference's Dead, cancelled, Home, Reached, target and applies return, in words of their own. No conditions. Contracts of the reference's Holds, Dead and cancelled. Conditions: the list lies in memory. Contracts of the reference's Home, Reached and target. Conditions: the list lies in memory. What the reference's functions of orders return, in words of their own; that they return what the walk's words say. No conditions. The contract of the reference's applies. Conditions: the list lies in memory. -/
import Derived.Test.YtlbehpbhmmppiaaGreatDoorWordsA
import Derived.Test.YtlbehpbhmmppiaaGreatDoorLoopA
import Derived.Test.YtlbehpbhmmppiaaGreatDoorCheckA
import Derived.Test.YtlbehpbhmmppiaaGreatDoorHopA
import Derived.Test.YtlbehpbhmmppiaaGreatDoorOnA
namespace Go.Proofs.YtlbehpbhmmppiaaGreatDoor
open Go.RowKit

def deadE (l : List Ent) (p d : Int) : Bool := l.any fun x => x.kind == 3 && x.person == p && hld x d
def cancE (l : List Ent) (o d : Int) : Bool := l.any fun x => x.kind == 6 && x.order == o && hld x d
def homeE (l : List Ent) (p d : Int) : Int × Bool :=
  if deadE l p d = true then (0, false) else match l.reverse.find? (fun x => x.kind == 2 && x.person == p && hld x d) with | some x => (x.place, true) | none => (0, false)
def reachE (l : List Ent) (p d : Int) : (Int × Int) × Bool := if deadE l p d = true then ((p, 0), true) else ((p, (homeE l p d).1), (homeE l p d).2)
def targetE (l : List Ent) (x : Ent) (d : Int) : (Int × Int) × Bool := if x.at' ≠ 0 then ((x.other, x.at'), true) else reachE l x.other d
def applE (l : List Ent) (x : Ent) (c : Int × Int) (d : Int) : Bool :=
  (x.kind == 5 && x.person == c.1 && (x.place == 0 || x.place == c.2)) && (!deadE l c.1 d && hld x d && !cancE l x.order d && (!(targetE l x d).2 || !decide ((targetE l x d).1 = c)))
end Go.Proofs.YtlbehpbhmmppiaaGreatDoor
namespace Go.Proofs.YtlbehpbhmmppiaaGreatDoor
open Go.RowKit

theorem any_take_next {f : Ent → Bool} {l : List Ent} {k : Nat} {x : Ent} (hx : l[k]? = some x) (h : (l.take k).any f = false) : (l.take (k + 1)).any f = f x := by
  rw [List.take_add_one, hx, List.any_append, h]; simp
theorem any_of_in {f : Ent → Bool} {l : List Ent} {k : Nat} {x : Ent} (hx : l[k]? = some x) (h : f x = true) : l.any f = true :=
  List.any_eq_true.2 ⟨x, List.mem_of_getElem? hx, h⟩

set_option maxHeartbeats 1000000 in
theorem refHolds_any (x : Ent) (d : Int) (w : World) :
    Calls Tryz.prog 72 #[entVal x, .int .i64 d] w fun e w' => e = .returned (.bool (hld x d)) ∧ Below w.heap.size w w' := by
  unfold entVal
  go_enter Tryz.func72, Tryz.ntmps72
  go_wp2
  all_goals
    go_ret
    exact ⟨ret_bool (by rw [Bool.eq_iff_iff]; simp_all [hld]; try omega), (Below.refl _ _).alloc (Nat.le_refl _) _⟩

set_option maxHeartbeats 2000000 in
theorem refDead_any (A : Option Addr) (c : Nat) (l : List Ent) (p d : Int) (w : World) (hL : EntsLie w w.heap.size A l) (hl : l.length ≤ maxLen) :
    Calls Tryz.prog 42 #[.slice A l.length c, .int .i64 p, .int .i64 d] w fun e w' => e = .returned (.bool (deadE l p d)) ∧ Below w.heap.size w w' := by
  unfold maxLen at hl
  go_enter Tryz.func42, Tryz.ntmps42
  go_wp2_with fail
  go_loopw [7] (fun i wr => ∃ k : Nat, k ≤ l.length ∧ i = .int .i64 k ∧ Below w.heap.size w wr ∧ Hid ((l.take k).any (fun x => x.kind == 3 && x.person == p && hld x d) = false)) (fun i _ => l.length - (intOf i).toNat)
  case atStart => exact ⟨0, Nat.zero_le _, rfl, Below.refl _ _, Lib.hid rfl⟩
  case round =>
    obtain ⟨k, hk, rfl, hB, H⟩ := hrel
    by_cases hlt : k < l.length
    · obtain ⟨x, hx⟩ : ∃ x, l[k]? = some x := ⟨_, List.getElem?_eq_getElem hlt⟩
      have hS := Lib.hid (any_take_next hx H.out)
      have hT : Hid ((x.kind == 3 && x.person == p && hld x d) = true → deadE l p d = true) := Lib.hid (any_of_in (f := fun x => x.kind == 3 && x.person == p && hld x d) hx)
      have HX := Lib.hid hx
      obtain ⟨b, off, rfl, hb, c0, c1, c2, c3, c4, c5, c6, c7, c8, c9⟩ := (hL.below hB).at hx
      clear hx
      go_wp2_with fail
      refine (refHolds_any x d _).mono ?_
      rintro e w2 ⟨rfl, hb2⟩
      have hB2 := hB.trans (hb2.mono hB.size)
      obtain ⟨b', off', hA, hb', d0, d1, d2, d3, d4, d5, d6, d7, d8, d9⟩ := (hL.below hB2).at HX.out
      cases hA
      clear c0 c1 c2 c3 c4 c5 c6 c7 c8 c9 hb2 hB hb'
      by_cases hk1 : x.kind = 3
      · rw [hk1] at d1
        by_cases hk2 : x.person = p
        · rw [hk2] at d4
          cases hh : hld x d
          · have HN : Hid ((l.take (k + 1)).any (fun x => x.kind == 3 && x.person == p && hld x d) = false) := Lib.hid (by rw [hS.out]; simp [hh])
            clear hk1 hk2 hh
            go_wp2
            go_roundw
            case rel => exact ⟨k + 1, by omega, by go_num, hB2, HN⟩
            case measure => simp [intOf]; omega
          · have HT := Lib.hid (hT.out (by simp [hk1, hk2, hh]))
            clear hk1 hk2 hh
            go_wp2
            go_ret
            exact ⟨ret_bool HT.out.symm, hB2⟩
        · have HN : Hid ((l.take (k + 1)).any (fun x => x.kind == 3 && x.person == p && hld x d) = false) := Lib.hid (by rw [hS.out]; simp [hk2])
          clear hk1
          go_wp2
          go_roundw
          case rel => exact ⟨k + 1, by omega, by go_num, hB2, HN⟩
          case measure => simp [intOf]; omega
      · have HN : Hid ((l.take (k + 1)).any (fun x => x.kind == 3 && x.person == p && hld x d) = false) := Lib.hid (by rw [hS.out]; simp [hk1])
        go_wp2
        go_roundw
        case rel => exact ⟨k + 1, by omega, by go_num, hB2, HN⟩
        case measure => simp [intOf]; omega
    · have HN : Hid (deadE l p d = false) := Lib.hid (by have h := H.out; rw [List.take_of_length_le (by omega)] at h; exact h)
      go_wp2
      go_ret
      exact ⟨ret_bool HN.out.symm, hB⟩

set_option maxHeartbeats 2000000 in
theorem refCancelled_any (A : Option Addr) (c : Nat) (l : List Ent) (o d : Int) (w : World) (hL : EntsLie w w.heap.size A l) (hl : l.length ≤ maxLen) :
    Calls Tryz.prog 119 #[.slice A l.length c, .int .i64 o, .int .i64 d] w fun e w' => e = .returned (.bool (cancE l o d)) ∧ Below w.heap.size w w' := by
  unfold maxLen at hl
  go_enter Tryz.func119, Tryz.ntmps119
  go_wp2_with fail
  go_loopw [7] (fun i wr => ∃ k : Nat, k ≤ l.length ∧ i = .int .i64 k ∧ Below w.heap.size w wr ∧ Hid ((l.take k).any (fun x => x.kind == 6 && x.order == o && hld x d) = false)) (fun i _ => l.length - (intOf i).toNat)
  case atStart => exact ⟨0, Nat.zero_le _, rfl, Below.refl _ _, Lib.hid rfl⟩
  case round =>
    obtain ⟨k, hk, rfl, hB, H⟩ := hrel
    by_cases hlt : k < l.length
    · obtain ⟨x, hx⟩ : ∃ x, l[k]? = some x := ⟨_, List.getElem?_eq_getElem hlt⟩
      have hS := Lib.hid (any_take_next hx H.out)
      have hT : Hid ((x.kind == 6 && x.order == o && hld x d) = true → cancE l o d = true) := Lib.hid (any_of_in (f := fun x => x.kind == 6 && x.order == o && hld x d) hx)
      have HX := Lib.hid hx
      obtain ⟨b, off, rfl, hb, c0, c1, c2, c3, c4, c5, c6, c7, c8, c9⟩ := (hL.below hB).at hx
      clear hx
      go_wp2_with fail
      refine (refHolds_any x d _).mono ?_
      rintro e w2 ⟨rfl, hb2⟩
      have hB2 := hB.trans (hb2.mono hB.size)
      obtain ⟨b', off', hA, hb', d0, d1, d2, d3, d4, d5, d6, d7, d8, d9⟩ := (hL.below hB2).at HX.out
      cases hA
      clear c0 c1 c2 c3 c4 c5 c6 c7 c8 c9 hb2 hB hb'
      by_cases hk1 : x.kind = 6
      · rw [hk1] at d1
        by_cases hk2 : x.order = o
        · rw [hk2] at d8
          cases hh : hld x d
          · have HN : Hid ((l.take (k + 1)).any (fun x => x.kind == 6 && x.order == o && hld x d) = false) := Lib.hid (by rw [hS.out]; simp [hh])
            clear hk1 hk2 hh
            go_wp2
            go_roundw
            case rel => exact ⟨k + 1, by omega, by go_num, hB2, HN⟩
            case measure => simp [intOf]; omega
          · have HT := Lib.hid (hT.out (by simp [hk1, hk2, hh]))
            clear hk1 hk2 hh
            go_wp2
            go_ret
            exact ⟨ret_bool HT.out.symm, hB2⟩
        · have HN : Hid ((l.take (k + 1)).any (fun x => x.kind == 6 && x.order == o && hld x d) = false) := Lib.hid (by rw [hS.out]; simp [hk2])
          clear hk1
          go_wp2
          go_roundw
          case rel => exact ⟨k + 1, by omega, by go_num, hB2, HN⟩
          case measure => simp [intOf]; omega
      · have HN : Hid ((l.take (k + 1)).any (fun x => x.kind == 6 && x.order == o && hld x d) = false) := Lib.hid (by rw [hS.out]; simp [hk1])
        go_wp2
        go_roundw
        case rel => exact ⟨k + 1, by omega, by go_num, hB2, HN⟩
        case measure => simp [intOf]; omega
    · have HN : Hid (cancE l o d = false) := Lib.hid (by have h := H.out; rw [List.take_of_length_le (by omega)] at h; exact h)
      go_wp2
      go_ret
      exact ⟨ret_bool HN.out.symm, hB⟩

end Go.Proofs.YtlbehpbhmmppiaaGreatDoor
namespace Go.Proofs.YtlbehpbhmmppiaaGreatDoor
open Go.RowKit

theorem rev_at {α : Type} {l : List α} {k : Nat} {x : α} (hx : l[k]? = some x) : l.reverse = (l.drop (k + 1)).reverse ++ x :: (l.take k).reverse := by
  obtain ⟨hk, he⟩ := List.getElem?_eq_some_iff.1 hx
  have h : l.take k ++ x :: l.drop (k + 1) = l := by
    rw [← he, ← List.drop_eq_getElem_cons hk, List.take_append_drop]
  conv => lhs; rw [← h]
  simp [List.reverse_append]
theorem any_drop_prev {α : Type} {f : α → Bool} {l : List α} {k : Nat} {x : α} (hx : l[k]? = some x) (h : (l.drop (k + 1)).any f = false) : (l.drop k).any f = f x := by
  obtain ⟨hk, he⟩ := List.getElem?_eq_some_iff.1 hx
  rw [List.drop_eq_getElem_cons hk, List.any_cons, h, he]; simp
theorem rfind_none {α : Type} {f : α → Bool} {l : List α} (h : l.any f = false) : l.reverse.find? f = none :=
  List.find?_eq_none.2 fun y hy => List.any_eq_false.1 h y (List.mem_reverse.1 hy)
theorem rfind_at {α : Type} {f : α → Bool} {l : List α} {k : Nat} {x : α} (hx : l[k]? = some x) (h : (l.drop (k + 1)).any f = false) (hf : f x = true) : l.reverse.find? f = some x := by
  rw [rev_at hx, List.find?_append, rfind_none h]
  simp [hf]

set_option maxHeartbeats 2000000 in
theorem refHome_any (A : Option Addr) (c : Nat) (l : List Ent) (p d : Int) (w : World) (hL : EntsLie w w.heap.size A l) (hl : l.length ≤ maxLen) :
    Calls Tryz.prog 43 #[.slice A l.length c, .int .i64 p, .int .i64 d] w fun e w' => e = .returned (.tuple #[.int .i64 (homeE l p d).1, .bool (homeE l p d).2]) ∧ Below w.heap.size w w' := by
  have hd := refDead_any A c l p d w hL hl
  unfold maxLen at hl
  go_enter Tryz.func43, Tryz.ntmps43
  go_wp2_with fail
  refine hd.mono ?_
  rintro e w1 ⟨rfl, hb1⟩
  clear hd
  cases hdd : deadE l p d
  · have HE : Hid (homeE l p d = match l.reverse.find? (fun x => x.kind == 2 && x.person == p && hld x d) with | some x => (x.place, true) | none => (0, false)) := Lib.hid (by unfold homeE; rw [hdd, if_neg (by simp)]; try rfl)
    clear hdd
    go_wp2_with fail
    go_loopw [9] (fun i wr => ∃ m : Nat, m ≤ l.length ∧ ((m = 0 ∧ i = .int .i64 (-1)) ∨ ∃ k : Nat, m = k + 1 ∧ i = .int .i64 k) ∧ Below w.heap.size w wr ∧ Hid ((l.drop m).any (fun x => x.kind == 2 && x.person == p && hld x d) = false)) (fun i _ => (intOf i + 1).toNat)
    case atStart =>
      refine ⟨l.length, Nat.le_refl _, ?_, hb1, Lib.hid (by simp)⟩
      rcases hlz : l.length with _ | k
      · exact .inl ⟨rfl, by go_num⟩
      · exact .inr ⟨k, rfl, by go_num⟩
    case round =>
      obtain ⟨m, hm, hi, hB, H⟩ := hrel
      rcases hi with ⟨rfl, rfl⟩ | ⟨k, rfl, rfl⟩
      · have HN : Hid (homeE l p d = (0, false)) := Lib.hid (by rw [HE.out, rfind_none (by simpa using H.out)])
        go_wp2
        go_ret2
        exact ⟨by rw [HN.out]; rfl, hB⟩
      · obtain ⟨x, hx⟩ : ∃ x, l[k]? = some x := ⟨_, List.getElem?_eq_getElem (by omega)⟩
        have hS := Lib.hid (any_drop_prev hx H.out)
        have hT : Hid ((x.kind == 2 && x.person == p && hld x d) = true → homeE l p d = (x.place, true)) := Lib.hid (fun h => by rw [HE.out, rfind_at (f := fun x => x.kind == 2 && x.person == p && hld x d) hx H.out h])
        have HX := Lib.hid hx
        obtain ⟨b, off, rfl, hb, c0, c1, c2, c3, c4, c5, c6, c7, c8, c9⟩ := (hL.below hB).at hx
        clear hx
        go_wp2_with fail
        refine (refHolds_any x d _).mono ?_
        rintro e w2 ⟨rfl, hb2⟩
        have hB2 := hB.trans (hb2.mono hB.size)
        obtain ⟨b', off', hA, hb', d0, d1, d2, d3, d4, d5, d6, d7, d8, d9⟩ := (hL.below hB2).at HX.out
        cases hA
        clear c0 c1 c2 c3 c4 c5 c6 c7 c8 c9 hb2 hB hb'
        have hrel : Hid ((l.drop k).any (fun x => x.kind == 2 && x.person == p && hld x d) = false) → ∃ m : Nat, m ≤ l.length ∧ ((m = 0 ∧ Value.int .i64 ((k : Int) - 1) = .int .i64 (-1)) ∨ ∃ k' : Nat, m = k' + 1 ∧ Value.int .i64 ((k : Int) - 1) = .int .i64 k') ∧ Below w.heap.size w w2 ∧ Hid ((l.drop m).any (fun x => x.kind == 2 && x.person == p && hld x d) = false) := fun h => by
          refine ⟨k, by omega, ?_, hB2, h⟩
          rcases k with _ | k
          · exact .inl ⟨rfl, by simp⟩
          · exact .inr ⟨k, rfl, by congr 1; omega⟩
        by_cases hk1 : x.kind = 2
        · rw [hk1] at d1
          by_cases hk2 : x.person = p
          · rw [hk2] at d4
            cases hh : hld x d
            · have HN := hrel (Lib.hid (by rw [hS.out]; simp [hh]))
              have HNN := Lib.hid HN
              clear hk1 hk2 hh hrel HN
              go_wp2
              go_roundw
              case rel => exact HNN.out
              case measure => simp [intOf]
            · have HT := Lib.hid (hT.out (by simp [hk1, hk2, hh]))
              clear hk1 hk2 hh hrel
              go_wp2
              go_ret2
              exact ⟨by rw [HT.out]; rfl, hB2⟩
          · have HN := Lib.hid (hrel (Lib.hid (by rw [hS.out]; simp [hk2])))
            clear hk1 hrel
            go_wp2
            go_roundw
            case rel => exact HN.out
            case measure => simp [intOf]
        · have HN := Lib.hid (hrel (Lib.hid (by rw [hS.out]; simp [hk1])))
          clear hrel
          go_wp2
          go_roundw
          case rel => exact HN.out
          case measure => simp [intOf]
  · have HE : Hid (homeE l p d = (0, false)) := Lib.hid (by unfold homeE; rw [hdd, if_pos rfl])
    clear hdd
    go_wp2_with fail
    go_loopw [9] (fun i wr => ∃ m : Nat, m ≤ l.length ∧ ((m = 0 ∧ i = .int .i64 (-1)) ∨ ∃ k : Nat, m = k + 1 ∧ i = .int .i64 k) ∧ Below w.heap.size w wr) (fun i _ => (intOf i + 1).toNat)
    case atStart =>
      refine ⟨l.length, Nat.le_refl _, ?_, hb1⟩
      rcases hlz : l.length with _ | k
      · exact .inl ⟨rfl, by go_num⟩
      · exact .inr ⟨k, rfl, by go_num⟩
    case round =>
      obtain ⟨m, hm, hi, hB⟩ := hrel
      rcases hi with ⟨rfl, rfl⟩ | ⟨k, rfl, rfl⟩
      · go_wp2
        go_ret2
        exact ⟨by rw [HE.out]; rfl, hB⟩
      · go_wp2
        go_ret2
        exact ⟨by rw [HE.out]; rfl, hB⟩

set_option maxRecDepth 100000 in
set_option maxHeartbeats 2000000 in
theorem refReached_any (A : Option Addr) (c : Nat) (l : List Ent) (p d : Int) (w : World) (hL : EntsLie w w.heap.size A l) (hl : l.length ≤ maxLen) :
    Calls Tryz.prog 23 #[.slice A l.length c, .int .i64 p, .int .i64 d] w fun e w' => e = .returned (.tuple #[candVal (reachE l p d).1, .bool (reachE l p d).2]) ∧ Below w.heap.size w w' := by
  have hB0 : Below w.heap.size w (w.alloc (.cells #[.int .i64 0, .int .i64 0] 33)) := below_al (Below.refl _ _) _
  have hd := refDead_any A c l p d _ (hL.up hB0 hB0.size) hl
  have hh : ∀ W, Below w.heap.size w W → _ := fun W (hW : Below w.heap.size w W) => refHome_any A c l p d W (hL.up hW hW.size) hl
  unfold reachE
  generalize homeE l p d = hv at *
  obtain ⟨hv1, hv2⟩ := hv
  generalize deadE l p d = dd at *
  unfold candVal
  go_enter Tryz.func23, Tryz.ntmps23
  go_wp2_with fail
  refine hd.mono ?_
  rintro e w1 ⟨rfl, hb1⟩
  have hB1 : Below w.heap.size w w1 := hB0.trans (hb1.mono hB0.size)
  have kC : Blk w1 w.heap.size 33 #[.int .i64 0, .int .i64 0] := Blk.below (at_new rfl) hb1 (by simp)
  clear hd hb1 hB0
  cases dd
  · go_wp2_with fail
    refine (hh w1 hB1).mono ?_
    rintro e w2 ⟨rfl, hb2⟩
    have hB2 : Below w.heap.size w w2 := hB1.trans (hb2.mono hB1.size)
    replace kC := kC.below hb2 kC.lt
    clear hh hb2 hB1
    have e0 := kC.cell 0
    have e1 := kC.cell 1
    have f0 := kC.frozen 0
    have f1 := kC.frozen 1
    simp at e0 e1
    have kE : Blk ((w2.setCell ⟨w.heap.size, 0, none⟩ (.int .i64 p)).setCell ⟨w.heap.size, 1, none⟩ (.int .i64 hv1)) w.heap.size 33 #[.int .i64 p, .int .i64 hv1] := (kC.set 0 (.int .i64 p)).set 1 (.int .i64 hv1)
    go_wp2_with fail
    refine bodyPost_ret (results_crt rfl kE rfl rowCand sizeCand) rfl ?_
    exact ⟨rfl, by (repeat (first | (with_reducible exact Below.refl _ _) | (with_reducible assumption) | (with_reducible refine below_al ?_ _) | (with_reducible refine below_se' ?_ ?_ _; · (first | omega | (simp <;> omega))) | (with_reducible refine below_dr ?_ _) | (with_reducible refine below_d1 ?_) | (exact Below.refl _ _) | assumption))⟩
  · clear hh
    have e0 := kC.cell 0
    have e1 := kC.cell 1
    have f0 := kC.frozen 0
    have f1 := kC.frozen 1
    simp at e0 e1
    have kE : Blk ((w1.setCell ⟨w.heap.size, 0, none⟩ (.int .i64 p)).setCell ⟨w.heap.size, 1, none⟩ (.int .i64 0)) w.heap.size 33 #[.int .i64 p, .int .i64 0] := (kC.set 0 (.int .i64 p)).set 1 (.int .i64 0)
    go_wp2_with fail
    refine bodyPost_ret (results_crt rfl kE rfl rowCand sizeCand) rfl ?_
    exact ⟨rfl, by (repeat (first | (with_reducible exact Below.refl _ _) | (with_reducible assumption) | (with_reducible refine below_al ?_ _) | (with_reducible refine below_se' ?_ ?_ _; · (first | omega | (simp <;> omega))) | (with_reducible refine below_dr ?_ _) | (with_reducible refine below_d1 ?_) | (exact Below.refl _ _) | assumption))⟩

set_option maxRecDepth 100000 in
set_option maxHeartbeats 2000000 in
theorem refTarget_any (A : Option Addr) (c : Nat) (l : List Ent) (x : Ent) (d : Int) (w : World) (hL : EntsLie w w.heap.size A l) (hl : l.length ≤ maxLen) :
    Calls Tryz.prog 21 #[.slice A l.length c, entVal x, .int .i64 d] w fun e w' => e = .returned (.tuple #[candVal (targetE l x d).1, .bool (targetE l x d).2]) ∧ Below w.heap.size w w' := by
  have hh : ∀ W, Below w.heap.size w W → _ := fun W (hW : Below w.heap.size w W) => refReached_any A c l x.other d W (hL.up hW hW.size) hl
  unfold targetE
  generalize reachE l x.other d = hv at *
  obtain ⟨⟨hv1, hv2⟩, hv3⟩ := hv
  unfold entVal candVal at *
  by_cases ha : x.at' = 0
  · rw [ha, if_neg (by simp)]
    clear ha
    go_enter Tryz.func21, Tryz.ntmps21
    go_wp2_with fail
    have hB0 : Below w.heap.size w ((w.alloc (.cells #[.int .i64 x.day, .int .u8 x.kind, .int .i64 x.since, .int .i64 x.untl, .int .i64 x.person, .int .i64 x.place, .int .i64 x.other, .int .i64 0, .int .i64 x.order, .string x.name] 41)).alloc (.cells #[.int .i64 0, .int .i64 0] 33)) := by (repeat (first | (with_reducible exact Below.refl _ _) | (with_reducible assumption) | (with_reducible refine below_al ?_ _) | (with_reducible refine below_se' ?_ ?_ _; · (first | omega | (simp <;> omega))) | (with_reducible refine below_dr ?_ _) | (with_reducible refine below_d1 ?_) | (exact Below.refl _ _) | assumption))
    have kC : Blk ((w.alloc (.cells #[.int .i64 x.day, .int .u8 x.kind, .int .i64 x.since, .int .i64 x.untl, .int .i64 x.person, .int .i64 x.place, .int .i64 x.other, .int .i64 0, .int .i64 x.order, .string x.name] 41)).alloc (.cells #[.int .i64 0, .int .i64 0] 33)) (w.heap.size + 1) 33 #[.int .i64 0, .int .i64 0] := at_new (by simp)
    generalize ((w.alloc (.cells _ 41)).alloc (.cells _ 33)) = W0 at hB0 kC ⊢
    refine (hh W0 hB0).mono ?_
    rintro e w1 ⟨rfl, hb1⟩
    have hB1 : Below w.heap.size w w1 := hB0.trans (hb1.mono hB0.size)
    replace kC := kC.below hb1 kC.lt
    clear hh hb1 hB0
    have e0 := kC.cell 0
    have e1 := kC.cell 1
    have f0 := kC.frozen 0
    have f1 := kC.frozen 1
    simp at e0 e1
    have kE : Blk ((w1.setCell ⟨w.heap.size + 1, 0, none⟩ (.int .i64 hv1)).setCell ⟨w.heap.size + 1, 1, none⟩ (.int .i64 hv2)) (w.heap.size + 1) 33 #[.int .i64 hv1, .int .i64 hv2] := (kC.set 0 (.int .i64 hv1)).set 1 (.int .i64 hv2)
    go_wp2_with fail
    refine bodyPost_ret (results_crt rfl kE rfl rowCand sizeCand) rfl ?_
    exact ⟨rfl, by (repeat (first | (with_reducible exact Below.refl _ _) | (with_reducible assumption) | (with_reducible refine below_al ?_ _) | (with_reducible refine below_se' ?_ ?_ _; · (first | omega | (simp <;> omega))) | (with_reducible refine below_dr ?_ _) | (with_reducible refine below_d1 ?_) | (exact Below.refl _ _) | assumption))⟩
  · rw [if_pos ha]
    clear hh
    have hA := ha
    go_enter Tryz.func21, Tryz.ntmps21
    go_wp2_with fail
    refine bodyPost_ret (results_crt rfl (at_new (by simp)) rfl rowCand sizeCand) rfl ?_
    exact ⟨rfl, by (repeat (first | (with_reducible exact Below.refl _ _) | (with_reducible assumption) | (with_reducible refine below_al ?_ _) | (with_reducible refine below_se' ?_ ?_ _; · (first | omega | (simp <;> omega))) | (with_reducible refine below_dr ?_ _) | (with_reducible refine below_d1 ?_) | (exact Below.refl _ _) | assumption))⟩
end Go.Proofs.YtlbehpbhmmppiaaGreatDoor
namespace Go.Proofs.YtlbehpbhmmppiaaGreatDoor
open Go.RowKit

def orderE (l : List Ent) (c : Int × Int) (d : Int) : Ent × Bool :=
  match l.reverse.find? (fun x => applE l x c d && x.place != 0) with
  | some x => (x, true)
  | none => match l.reverse.find? (fun x => applE l x c d) with | some x => (x, true) | none => (zeroEnt, false)
def refusE (l : List Ent) (c : Int × Int) (s d : Int) : Bool := !deadE l c.1 d && l.any fun x => x.kind == 7 && refuseB c.1 c.2 s x && hld x d

theorem find?_false : ∀ l : List Ent, l.find? (fun _ => false) = none
  | [] => rfl
  | _ :: l => find?_false l
section
variable (l : List OEnt) (d : Int)
theorem flt_any (kd : Int) (f : Ent → Bool) : (flt l kd d).any (fun x => f x.1) = (l.map (·.1)).any fun x => (x.kind == kd && f x) && hld x d := by
  unfold flt
  rw [List.any_filter, List.any_map]
  congr 1
  funext x
  show (_ && _) = ((_ && _) && _)
  cases (x.1.kind == kd) <;> cases hld x.1 d <;> simp
theorem deadE_eq (p : Int) : deadE (l.map (·.1)) p d = deadOf l d p := (flt_any l d 3 (fun x => x.person == p)).symm
theorem cancE_eq (o : Int) : cancE (l.map (·.1)) o d = cancOf l d o := (flt_any l d 6 (fun x => x.order == o)).symm
theorem last_find (f : Ent → Int) (p kd : Int) : ∀ r : List OEnt, lastOf f p (flt r.reverse kd d) = match (r.map (·.1)).find? (fun x => x.kind == kd && x.person == p && hld x d) with | some x => (f x, true) | none => (0, false)
  | [] => rfl
  | x :: r => by
    have ih := last_find f p kd r
    have hs : flt (x :: r).reverse kd d = flt r.reverse kd d ++ (if (x.1.kind == kd && hld x.1 d) = true then [x] else []) := by
      unfold flt
      rw [List.reverse_cons, List.filter_append]
      simp [List.filter_cons]
    rw [hs, List.map_cons, List.find?_cons]
    by_cases h1 : (x.1.kind == kd && hld x.1 d) = true
    · rw [if_pos h1, lastOf_snoc]
      simp only [Bool.and_eq_true] at h1
      by_cases h2 : x.1.person = p
      · rw [if_pos h2]
        simp [h1, h2]
      · rw [if_neg h2, ih]
        have h3 : (x.1.person == p) = false := by simpa using h2
        simp [h3]
    · rw [if_neg h1, List.append_nil, ih]
      have h3 : (x.1.kind == kd && x.1.person == p && hld x.1 d) = false := by
        cases h4 : (x.1.kind == kd) <;> cases h5 : hld x.1 d <;> simp [h4, h5] at h1 ⊢
      rw [h3]
theorem homeE_eq (p : Int) : homeE (l.map (·.1)) p d = homeOf (deadOf l d) l d p := by
  unfold homeE homeOf
  rw [deadE_eq]
  by_cases h : deadOf l d p = true
  · rw [if_pos h, if_pos h]
  · rw [if_neg h, if_neg h]
    have := last_find d (·.place) p 2 l.reverse
    rw [List.reverse_reverse] at this
    rw [this, List.map_reverse]
    try rfl
theorem reachE_eq (p : Int) : reachE (l.map (·.1)) p d = reachedOf (deadOf l d) l d p := by
  unfold reachE reachedOf
  rw [homeE_eq, deadE_eq]
  by_cases h : deadOf l d p = true
  · rw [if_pos h]
    simp [homeOf, h]
  · rw [if_neg h]
    simp [h]
theorem targetE_eq (x : Ent) : targetE (l.map (·.1)) x d = targetOf (deadOf l d) l d x := by
  unfold targetE targetOf
  rw [reachE_eq]
theorem refusE_eq (c : Int × Int) (s : Int) : refusE (l.map (·.1)) c s d = refusesOf (deadOf l d) l d c s := by
  unfold refusE refusesOf
  rw [deadE_eq, ← flt_any l d 7 (refuseB c.1 c.2 s)]
  cases deadOf l d c.1 <;> simp
theorem applE_eq (x : Ent) (c : Int × Int) (hd : deadOf l d c.1 = false) : applE (l.map (·.1)) x c d = ((x.kind == 5 && hld x d) && appliesOf (deadOf l d) (cancOf l d) l d x c) := by
  unfold applE appliesOf
  rw [deadE_eq, hd, cancE_eq, targetE_eq]
  by_cases h1 : x.person = c.1
  · by_cases h2 : x.place = 0
    · cases cancOf l d x.order <;> cases hld x d <;> cases (x.kind == 5) <;> simp [h1, h2]
    · by_cases h3 : x.place = c.2
      · cases cancOf l d x.order <;> cases hld x d <;> cases (x.kind == 5) <;> simp [h1, h3]
      · have h2' : (x.place == 0) = false := by simpa using h2
        have h3' : (x.place == c.2) = false := by simpa using h3
        rw [if_pos (.inr (.inl ⟨h2, h3⟩)), h2', h3']
        simp
  · have h1' : (x.person == c.1) = false := by simpa using h1
    rw [if_pos (.inl h1), h1']
    simp
/-- Two searches from the end, and one fold. -/
theorem fold_find (ap : Ent → Bool) : ∀ r : List OEnt, (flt r.reverse 5 d).foldl (fun (s : Ent × Bool) (x : OEnt) => if (x.1.place ≠ 0 ∨ s.1.place = 0) ∧ ap x.1 = true then (x.1, true) else s) (zeroEnt, false) =
    match (r.map (·.1)).find? (fun x => ((x.kind == 5 && hld x d) && ap x) && x.place != 0) with
    | some x => (x, true)
    | none => match (r.map (·.1)).find? (fun x => (x.kind == 5 && hld x d) && ap x) with | some x => (x, true) | none => (zeroEnt, false)
  | [] => rfl
  | x :: r => by
    have ih := fold_find ap r
    have hs : flt (x :: r).reverse 5 d = flt r.reverse 5 d ++ (if (x.1.kind == 5 && hld x.1 d) = true then [x] else []) := by
      unfold flt
      rw [List.reverse_cons, List.filter_append]
      simp [List.filter_cons]
    rw [hs, List.map_cons, List.find?_cons, List.find?_cons]
    cases h1 : (x.1.kind == 5 && hld x.1 d)
    · rw [if_neg (by simp), List.append_nil, ih]
      simp
    · rw [if_pos rfl, List.foldl_append]
      simp only [List.foldl_cons, List.foldl_nil]
      rw [ih]
      cases h2 : ap x.1
      · simp
      · by_cases h3 : x.1.place = 0
        · have h3' : (x.1.place != 0) = false := by simpa using h3
          simp only [h3', Bool.and_false, Bool.true_and]
          cases hf : (r.map (·.1)).find? (fun x => ((x.kind == 5 && hld x d) && ap x) && x.place != 0) with
          | some y =>
            have hy := List.find?_some hf
            simp only [Bool.and_eq_true, bne_iff_ne, ne_eq] at hy
            rw [if_neg]
            rintro ⟨h4 | h4, _⟩
            · exact h4 h3
            · exact hy.2 h4
          | none =>
            have hn := List.find?_eq_none.1 hf
            cases hg : (r.map (·.1)).find? (fun x => (x.kind == 5 && hld x d) && ap x) with
            | some y =>
              have hy := List.find?_some hg
              have hm := hn y (List.mem_of_find?_eq_some hg)
              have hp : y.place = 0 := by
                by_cases hp : y.place = 0
                · exact hp
                · exact absurd (by simp only [hy, Bool.true_and, bne_iff_ne, ne_eq]; exact hp) hm
              rw [if_pos ⟨.inr hp, True.intro⟩]
            | none => rw [if_pos ⟨.inr rfl, True.intro⟩]
        · have h3' : (x.1.place != 0) = true := by simpa using h3
          rw [if_pos ⟨.inl h3, rfl⟩, h3']
          rfl
theorem orderE_eq (c : Int × Int) : orderE (l.map (·.1)) c d = orderOf (deadOf l d) (cancOf l d) l d c := by
  unfold orderE orderOf
  cases hd : deadOf l d c.1
  · rw [if_neg (by simp)]
    have h1 : ∀ x, applE (l.map (·.1)) x c d = ((x.kind == 5 && hld x d) && appliesOf (deadOf l d) (cancOf l d) l d x c) := fun x => applE_eq l d x c hd
    simp only [h1]
    have := fold_find d (fun x => appliesOf (deadOf l d) (cancOf l d) l d x c) l.reverse
    rw [List.reverse_reverse, List.map_reverse] at this
    unfold ordPre stepO
    exact this.symm
  · rw [if_pos rfl]
    have h1 : ∀ x, applE (l.map (·.1)) x c d = false := fun x => by unfold applE; rw [deadE_eq, hd]; simp
    simp only [h1, Bool.false_and]
    rw [find?_false]
end
end Go.Proofs.YtlbehpbhmmppiaaGreatDoor
namespace Go.Proofs.YtlbehpbhmmppiaaGreatDoor
open Go.RowKit

set_option maxRecDepth 100000 in
set_option maxHeartbeats 4000000 in
theorem refApplies_any (A : Option Addr) (c : Nat) (l : List Ent) (x : Ent) (cp : Int × Int) (d : Int) (w : World) (hL : EntsLie w w.heap.size A l) (hl : l.length ≤ maxLen) :
    Calls Tryz.prog 100 #[.slice A l.length c, entVal x, candVal cp, .int .i64 d] w fun e w' => e = .returned (.bool (applE l x cp d)) ∧ Below w.heap.size w w' := by
  obtain ⟨p, q⟩ := cp
  have h1 : ∀ W, Below w.heap.size w W → _ := fun W (hW : Below w.heap.size w W) => refDead_any A c l p d W (hL.up hW hW.size) hl
  have h2 := fun W => refHolds_any x d W
  have h3 : ∀ W, Below w.heap.size w W → _ := fun W (hW : Below w.heap.size w W) => refCancelled_any A c l x.order d W (hL.up hW hW.size) hl
  have h4 : ∀ W, Below w.heap.size w W → _ := fun W (hW : Below w.heap.size w W) => refTarget_any A c l x d W (hL.up hW hW.size) hl
  unfold applE
  generalize hld x d = ho at *
  generalize cancE l x.order d = cx at *
  generalize deadE l p d = dd at *
  generalize targetE l x d = tv at *
  obtain ⟨tv1, tv3⟩ := tv
  have hne := neCand tv1 (p, q)
  have hng := fun a b => noGuardCand .neq a b tv1 (p, q)
  obtain ⟨tv1, tv2⟩ := tv1
  generalize decide (((tv1, tv2) : Int × Int) = (p, q)) = same at *
  obtain ⟨day, kind, since, untl, person, place, other, at', order, name⟩ := x
  unfold entVal candVal at *
  dsimp only at h2 h3 h4 hne hng ⊢
  by_cases hk : kind = 5
  · subst hk
    by_cases hp : person = p
    · subst hp
      by_cases hg : place = 0 ∨ (place ≠ 0 ∧ place = q)
      · rcases hg with rfl | ⟨hz, rfl⟩
        all_goals
          go_enter Tryz.func100, Tryz.ntmps100
          go_wp2_with fail
          refine (h1 _ (by (repeat (first | (with_reducible exact Below.refl _ _) | (with_reducible assumption) | (with_reducible refine below_al ?_ _) | (with_reducible refine below_se' ?_ ?_ _; · (first | omega | (simp <;> omega))) | (with_reducible refine below_dr ?_ _) | (with_reducible refine below_d1 ?_) | (exact Below.refl _ _) | assumption)))).mono ?_
          rintro e w1 ⟨rfl, hb1⟩
          have hB1 : Below w.heap.size w w1 := Below.trans (by (repeat (first | (with_reducible exact Below.refl _ _) | (with_reducible assumption) | (with_reducible refine below_al ?_ _) | (with_reducible refine below_se' ?_ ?_ _; · (first | omega | (simp <;> omega))) | (with_reducible refine below_dr ?_ _) | (with_reducible refine below_d1 ?_) | (exact Below.refl _ _) | assumption))) (hb1.mono (by simp <;> omega))
          have kX := Blk.below (Blk.alloc (Blk.new w _ _) _) hb1 (by simp <;> omega)
          have kC := Blk.below (Blk.new (w.alloc _) _ _) hb1 (by simp <;> omega)
          simp only [World.size_alloc] at kC
          clear h1 hb1
          obtain ⟨c0, c1, c2, c3, c4, c5, c6, c7, c8, c9, _⟩ := EntAt.cells (x := ⟨_, _, _, _, _, _, _, _, _, _⟩) kX
          dsimp only at c0 c1 c2 c3 c4 c5 c6 c7 c8 c9
          go_wp2_with fail
          refine (h2 _).mono ?_
          rintro e w2 ⟨rfl, hb2⟩
          have hB2 := hB1.trans (hb2.mono hB1.size)
          replace kX := Blk.below kX hb2 (Blk.lt kX)
          replace kC := Blk.below kC hb2 (Blk.lt kC)
          clear h2 hb2 hB1 c0 c1 c2 c3 c4 c5 c6 c7 c8 c9
          obtain ⟨c0, c1, c2, c3, c4, c5, c6, c7, c8, c9, _⟩ := EntAt.cells (x := ⟨_, _, _, _, _, _, _, _, _, _⟩) kX
          dsimp only at c0 c1 c2 c3 c4 c5 c6 c7 c8 c9
          go_wp2_with fail
          refine (h3 _ hB2).mono ?_
          rintro e w3 ⟨rfl, hb3⟩
          have hB3 := hB2.trans (hb3.mono hB2.size)
          replace kX := Blk.below kX hb3 (Blk.lt kX)
          replace kC := Blk.below kC hb3 (Blk.lt kC)
          clear h3 hb3 hB2 c0 c1 c2 c3 c4 c5 c6 c7 c8 c9
          obtain ⟨c0, c1, c2, c3, c4, c5, c6, c7, c8, c9, _⟩ := EntAt.cells (x := ⟨_, _, _, _, _, _, _, _, _, _⟩) kX
          dsimp only at c0 c1 c2 c3 c4 c5 c6 c7 c8 c9
          go_wp2_with fail
          refine (h4 _ hB3).mono ?_
          rintro e w4 ⟨rfl, hb4⟩
          have hB4 := hB3.trans (hb4.mono hB3.size)
          replace kC := Blk.below kC hb4 (Blk.lt kC)
          clear h4 hb4 hB3 c0 c1 c2 c3 c4 c5 c6 c7 c8 c9 kX
          have e0 := Blk.cell kC 0
          have e1 := Blk.cell kC 1
          simp at e0 e1
          have hzz := Blk.lt kC
          cases dd
          · cases ho
            · go_wp2_with fail
              refine bodyPost_ret (results_tmp rfl _ _ _) rfl ?_
              exact ⟨by first | rfl | simp, by (repeat (first | (with_reducible exact Below.refl _ _) | (with_reducible assumption) | (with_reducible refine below_al ?_ _) | (with_reducible refine below_se' ?_ ?_ _; · (first | omega | (simp <;> omega))) | (with_reducible refine below_dr ?_ _) | (with_reducible refine below_d1 ?_) | (exact Below.refl _ _) | assumption))⟩
            · cases cx
              · cases tv3
                · go_wp2_with fail
                  refine bodyPost_ret (results_tmp rfl _ _ _) rfl ?_
                  exact ⟨by first | rfl | simp, by (repeat (first | (with_reducible exact Below.refl _ _) | (with_reducible assumption) | (with_reducible refine below_al ?_ _) | (with_reducible refine below_se' ?_ ?_ _; · (first | omega | (simp <;> omega))) | (with_reducible refine below_dr ?_ _) | (with_reducible refine below_d1 ?_) | (exact Below.refl _ _) | assumption))⟩
                · go_wp2_with fail
                  refine bodyPost_ret (results_tmp rfl _ _ _) rfl ?_
                  exact ⟨by first | rfl | simp, by (repeat (first | (with_reducible exact Below.refl _ _) | (with_reducible assumption) | (with_reducible refine below_al ?_ _) | (with_reducible refine below_se' ?_ ?_ _; · (first | omega | (simp <;> omega))) | (with_reducible refine below_dr ?_ _) | (with_reducible refine below_d1 ?_) | (exact Below.refl _ _) | assumption))⟩
              · go_wp2_with fail
                refine bodyPost_ret (results_tmp rfl _ _ _) rfl ?_
                exact ⟨by first | rfl | simp, by (repeat (first | (with_reducible exact Below.refl _ _) | (with_reducible assumption) | (with_reducible refine below_al ?_ _) | (with_reducible refine below_se' ?_ ?_ _; · (first | omega | (simp <;> omega))) | (with_reducible refine below_dr ?_ _) | (with_reducible refine below_d1 ?_) | (exact Below.refl _ _) | assumption))⟩
          · go_wp2_with fail
            refine bodyPost_ret (results_tmp rfl _ _ _) rfl ?_
            exact ⟨by first | rfl | simp, by (repeat (first | (with_reducible exact Below.refl _ _) | (with_reducible assumption) | (with_reducible refine below_al ?_ _) | (with_reducible refine below_se' ?_ ?_ _; · (first | omega | (simp <;> omega))) | (with_reducible refine below_dr ?_ _) | (with_reducible refine below_d1 ?_) | (exact Below.refl _ _) | assumption))⟩
      · have hz : ¬ place = 0 := fun h => hg (.inl h)
        have hq : ¬ place = q := fun h => hg (.inr ⟨hz, h⟩)
        have hz' : (place != 0) = true := by simpa using hz
        have hq' : (place != q) = true := by simpa using hq
        clear hg h1 h2 h3 h4 hne hng
        go_enter Tryz.func100, Tryz.ntmps100
        go_wp2_with fail
        refine bodyPost_ret (results_tmp rfl _ _ _) rfl ?_
        exact ⟨by simp [hz, hq], by (repeat (first | (with_reducible exact Below.refl _ _) | (with_reducible assumption) | (with_reducible refine below_al ?_ _) | (with_reducible refine below_se' ?_ ?_ _; · (first | omega | (simp <;> omega))) | (with_reducible refine below_dr ?_ _) | (with_reducible refine below_d1 ?_) | (exact Below.refl _ _) | assumption))⟩
    · clear h1 h2 h3 h4 hne hng
      go_enter Tryz.func100, Tryz.ntmps100
      go_wp2_with fail
      refine bodyPost_ret (results_tmp rfl _ _ _) rfl ?_
      exact ⟨by simp [hp], by (repeat (first | (with_reducible exact Below.refl _ _) | (with_reducible assumption) | (with_reducible refine below_al ?_ _) | (with_reducible refine below_se' ?_ ?_ _; · (first | omega | (simp <;> omega))) | (with_reducible refine below_dr ?_ _) | (with_reducible refine below_d1 ?_) | (exact Below.refl _ _) | assumption))⟩
  · clear h1 h2 h3 h4 hne hng
    go_enter Tryz.func100, Tryz.ntmps100
    go_wp2_with fail
    refine bodyPost_ret (results_tmp rfl _ _ _) rfl ?_
    exact ⟨by simp [hk], by (repeat (first | (with_reducible exact Below.refl _ _) | (with_reducible assumption) | (with_reducible refine below_al ?_ _) | (with_reducible refine below_se' ?_ ?_ _; · (first | omega | (simp <;> omega))) | (with_reducible refine below_dr ?_ _) | (with_reducible refine below_d1 ?_) | (exact Below.refl _ _) | assumption))⟩
end Go.Proofs.YtlbehpbhmmppiaaGreatDoor
