/- The contract of is of a look: whether two looks are the same. Conditions: both lie in memory; their lengths are at most 60. -/
import Derived.Test.YtmfjmoicnddkcaaGreatDoorAddBA
import Derived.Test.YtmfjmoicnddkcaaGreatDoorNamesPA
import Derived.Test.YtmfjmoicnddkcaaGreatDoorCheckA
import Derived.Test.YtmfjmoicnddkcaaGreatDoorOnA
import Derived.BigQuiet
import Derived.Test.YtmfjmoicnddkcaaGreatDoorWordsA
import Derived.Test.YtmfjmoicnddkcaaGreatDoorAddIA
import Derived.Test.YtmfjmoicnddkcaaGreatDoorRefHeA
import Derived.Test.YtmfjmoicnddkcaaGreatDoorRefDA
import Derived.Test.YtmfjmoicnddkcaaGreatDoorPHouseA
import Derived.Test.YtmfjmoicnddkcaaGreatDoorNamesA
import Derived.Test.YtmfjmoicnddkcaaGreatDoorDwellsA
import Derived.Deep.RegionHeld3
namespace Go.Proofs.YtmfjmoicnddkcaaGreatDoor
open Go.RowKit

set_option maxRecDepth 100000 in
set_option maxHeartbeats 4000000 in
theorem equalInts_any (A A2 : Option Addr) (c c2 : Nat) (l m : List Int) (w : World) (hL : IntsAt w A l) (hM : IntsAt w A2 m) (hl : l.length ≤ maxLen) (hm : m.length ≤ maxLen) :
    Calls Tryz.prog 83 #[.slice A l.length c, .slice A2 m.length c2] w fun e w' => e = .returned (.bool (decide (l = m))) ∧ Below w.heap.size w w' := by
  have hl63 : (l.length : Int) ≤ 9223372036854775807 := by unfold maxLen at hl; omega
  have hm63 : (m.length : Int) ≤ 9223372036854775807 := by unfold maxLen at hm; omega
  clear hl hm
  by_cases hlen : l.length = m.length
  · rw [← hlen]
    have HL := Lib.hid hlen
    clear hlen
    go_enter Tryz.func83, Tryz.ntmps83
    go_wp2_with fail
    go_loopw [13] (fun i wr => ∃ k : Nat, k ≤ l.length ∧ i = .int .i64 k ∧ (∃ n, wr = w.drewN n) ∧ Hid (l.take k = m.take k)) (fun i _ => l.length - (intOf i).toNat)
    case atStart => exact ⟨0, Nat.zero_le _, rfl, ⟨0, rfl⟩, Lib.hid rfl⟩
    case round =>
      obtain ⟨k, hk, rfl, ⟨n, rfl⟩, H⟩ := hrel
      by_cases hlt : k < l.length
      · obtain ⟨x, hx⟩ : ∃ x, l[k]? = some x := ⟨_, List.getElem?_eq_getElem hlt⟩
        obtain ⟨y, hy⟩ : ∃ y, m[k]? = some y := ⟨_, List.getElem?_eq_getElem (by have := HL.out; omega)⟩
        have HS : Hid (x = y → l.take (k + 1) = m.take (k + 1)) := Lib.hid (fun e => by rw [List.take_add_one, List.take_add_one, hx, hy, H.out, e])
        have HD : Hid (x ≠ y → l ≠ m) := Lib.hid (fun e h => by rw [h, hy] at hx; exact e (Option.some.inj hx).symm)
        obtain ⟨b, rfl, hb, c0⟩ := hL k x hx
        obtain ⟨b', rfl, hb', e0⟩ := hM k y hy
        clear hx hy hL hM
        by_cases hxy : x = y
        · have HT := Lib.hid (HS.out hxy)
          subst hxy
          clear HS HD
          go_wp2_with fail
          go_quiet (fail)
          go_wp2_with fail
          go_roundw
          case rel => exact ⟨k + 1, by omega, by go_num, by first | exact ⟨_, rfl⟩ | exact ⟨_, drewN_two _ _ _⟩, HT⟩
          case measure => simp [intOf]; omega
        · have HT := Lib.hid (HD.out hxy)
          clear HS HD
          go_wp2_with fail
          go_quiet (fail)
          go_wp2_with fail
          go_ret
          exact ⟨ret_bool (decide_eq_false HT.out).symm, by first | exact below_dr (Below.refl _ _) _ | (rw [drewN_two]; exact below_dr (Below.refl _ _) _)⟩
      · have HT : Hid (l = m) := Lib.hid (by have h := H.out; rw [List.take_of_length_le (by omega), List.take_of_length_le (by have := HL.out; omega)] at h; exact h)
        go_wp2_with fail
        go_ret
        exact ⟨ret_bool (decide_eq_true HT.out).symm, below_dr (Below.refl _ _) _⟩
  · have HT : Hid (l ≠ m) := Lib.hid (fun h => hlen (by rw [h]))
    have h1 : ((l.length : Int) != (m.length : Int)) = true := by simp; omega
    have h2 : (l.length != m.length) = true := by simp; omega
    clear hL hM
    go_enter Tryz.func83, Tryz.ntmps83
    go_wp2_with fail
    go_ret
    exact ⟨ret_bool (decide_eq_false HT.out).symm, Below.refl _ _⟩

set_option maxRecDepth 100000 in
set_option maxHeartbeats 4000000 in
theorem equalStrs_any (A A2 : Option Addr) (c c2 : Nat) (l m : List ByteArray) (w : World) (hL : BStrAt w A l) (hM : BStrAt w A2 m) (hl : l.length ≤ maxLen) (hm : m.length ≤ maxLen) :
    Calls Tryz.prog 82 #[.slice A l.length c, .slice A2 m.length c2] w fun e w' => e = .returned (.bool (decide (l = m))) ∧ Below w.heap.size w w' := by
  have hl63 : (l.length : Int) ≤ 9223372036854775807 := by unfold maxLen at hl; omega
  have hm63 : (m.length : Int) ≤ 9223372036854775807 := by unfold maxLen at hm; omega
  clear hl hm
  by_cases hlen : l.length = m.length
  · rw [← hlen]
    have HL := Lib.hid hlen
    clear hlen
    go_enter Tryz.func82, Tryz.ntmps82
    go_wp2_with fail
    go_loopw [13] (fun i wr => ∃ k : Nat, k ≤ l.length ∧ i = .int .i64 k ∧ (∃ n, wr = w.drewN n) ∧ Hid (l.take k = m.take k)) (fun i _ => l.length - (intOf i).toNat)
    case atStart => exact ⟨0, Nat.zero_le _, rfl, ⟨0, rfl⟩, Lib.hid rfl⟩
    case round =>
      obtain ⟨k, hk, rfl, ⟨n, rfl⟩, H⟩ := hrel
      by_cases hlt : k < l.length
      · obtain ⟨x, hx⟩ : ∃ x, l[k]? = some x := ⟨_, List.getElem?_eq_getElem hlt⟩
        obtain ⟨y, hy⟩ : ∃ y, m[k]? = some y := ⟨_, List.getElem?_eq_getElem (by have := HL.out; omega)⟩
        have HS : Hid (x = y → l.take (k + 1) = m.take (k + 1)) := Lib.hid (fun e => by rw [List.take_add_one, List.take_add_one, hx, hy, H.out, e])
        have HD : Hid (x ≠ y → l ≠ m) := Lib.hid (fun e h => by rw [h, hy] at hx; exact e (Option.some.inj hx).symm)
        obtain ⟨b, rfl, hb, c0⟩ := hL k x hx
        obtain ⟨b', rfl, hb', e0⟩ := hM k y hy
        clear hx hy hL hM
        by_cases hxy : x = y
        · have HT := Lib.hid (HS.out hxy)
          subst hxy
          clear HS HD
          go_wp2_with fail
          go_quiet (fail)
          go_wp2_with fail
          go_roundw
          case rel => exact ⟨k + 1, by omega, by go_num, by first | exact ⟨_, rfl⟩ | exact ⟨_, drewN_two _ _ _⟩, HT⟩
          case measure => simp [intOf]; omega
        · have HT := Lib.hid (HD.out hxy)
          have hq2 := strEq_false hxy
          clear HS HD
          go_wp2_with fail
          go_quiet (fail)
          go_wp2_with fail
          go_ret
          exact ⟨ret_bool (decide_eq_false HT.out).symm, by first | exact below_dr (Below.refl _ _) _ | (rw [drewN_two]; exact below_dr (Below.refl _ _) _)⟩
      · have HT : Hid (l = m) := Lib.hid (by have h := H.out; rw [List.take_of_length_le (by omega), List.take_of_length_le (by have := HL.out; omega)] at h; exact h)
        go_wp2_with fail
        go_ret
        exact ⟨ret_bool (decide_eq_true HT.out).symm, below_dr (Below.refl _ _) _⟩
  · have HT : Hid (l ≠ m) := Lib.hid (fun h => hlen (by rw [h]))
    have h1 : ((l.length : Int) != (m.length : Int)) = true := by simp; omega
    have h2 : (l.length != m.length) = true := by simp; omega
    clear hL hM
    go_enter Tryz.func82, Tryz.ntmps82
    go_wp2_with fail
    go_ret
    exact ⟨ret_bool (decide_eq_false HT.out).symm, Below.refl _ _⟩

set_option maxRecDepth 100000 in
set_option maxHeartbeats 4000000 in
theorem sameInts_any (A A2 : Option Addr) (c c2 : Nat) (l m : List Int) (w : World) (hL : IntsAt w A l) (hM : IntsAt w A2 m) (hl : l.length ≤ maxLen) (hm : m.length ≤ maxLen) :
    Calls Tryz.prog 15 #[.slice A l.length c, .slice A2 m.length c2] w fun e w' => e = .returned (.bool (decide (l = m))) ∧ Below w.heap.size w w' := by
  have hl63 : (l.length : Int) ≤ 9223372036854775807 := by unfold maxLen at hl; omega
  have hm63 : (m.length : Int) ≤ 9223372036854775807 := by unfold maxLen at hm; omega
  clear hl hm
  by_cases hlen : l.length = m.length
  · rw [← hlen]
    have HL := Lib.hid hlen
    clear hlen
    go_enter Tryz.func15, Tryz.ntmps15
    go_wp2_with fail
    go_loopw [5] (fun i wr => ∃ k : Nat, k ≤ l.length ∧ i = .int .i64 k ∧ (∃ n, wr = w.drewN n) ∧ Hid (l.take k = m.take k)) (fun i _ => l.length - (intOf i).toNat)
    case atStart => exact ⟨0, Nat.zero_le _, rfl, ⟨0, rfl⟩, Lib.hid rfl⟩
    case round =>
      obtain ⟨k, hk, rfl, ⟨n, rfl⟩, H⟩ := hrel
      by_cases hlt : k < l.length
      · obtain ⟨x, hx⟩ : ∃ x, l[k]? = some x := ⟨_, List.getElem?_eq_getElem hlt⟩
        obtain ⟨y, hy⟩ : ∃ y, m[k]? = some y := ⟨_, List.getElem?_eq_getElem (by have := HL.out; omega)⟩
        have HS : Hid (x = y → l.take (k + 1) = m.take (k + 1)) := Lib.hid (fun e => by rw [List.take_add_one, List.take_add_one, hx, hy, H.out, e])
        have HD : Hid (x ≠ y → l ≠ m) := Lib.hid (fun e h => by rw [h, hy] at hx; exact e (Option.some.inj hx).symm)
        obtain ⟨b, rfl, hb, c0⟩ := hL k x hx
        obtain ⟨b', rfl, hb', e0⟩ := hM k y hy
        clear hx hy hL hM
        by_cases hxy : x = y
        · have HT := Lib.hid (HS.out hxy)
          subst hxy
          clear HS HD
          go_wp2_with fail
          go_quiet (fail)
          go_wp2_with fail
          go_roundw
          case rel => exact ⟨k + 1, by omega, by go_num, by first | exact ⟨_, rfl⟩ | exact ⟨_, drewN_two _ _ _⟩, HT⟩
          case measure => simp [intOf]; omega
        · have HT := Lib.hid (HD.out hxy)
          clear HS HD
          go_wp2_with fail
          go_quiet (fail)
          go_wp2_with fail
          go_ret
          exact ⟨ret_bool (decide_eq_false HT.out).symm, by first | exact below_dr (Below.refl _ _) _ | (rw [drewN_two]; exact below_dr (Below.refl _ _) _)⟩
      · have HT : Hid (l = m) := Lib.hid (by have h := H.out; rw [List.take_of_length_le (by omega), List.take_of_length_le (by have := HL.out; omega)] at h; exact h)
        go_wp2_with fail
        go_ret
        exact ⟨ret_bool (decide_eq_true HT.out).symm, below_dr (Below.refl _ _) _⟩
  · have HT : Hid (l ≠ m) := Lib.hid (fun h => hlen (by rw [h]))
    have h1 : ((l.length : Int) != (m.length : Int)) = true := by simp; omega
    have h2 : (l.length != m.length) = true := by simp; omega
    clear hL hM
    go_enter Tryz.func15, Tryz.ntmps15
    go_wp2_with fail
    go_ret
    exact ⟨ret_bool (decide_eq_false HT.out).symm, Below.refl _ _⟩

set_option maxRecDepth 100000 in
set_option maxHeartbeats 4000000 in
theorem sameStrings_any (A A2 : Option Addr) (c c2 : Nat) (l m : List ByteArray) (w : World) (hL : BStrAt w A l) (hM : BStrAt w A2 m) (hl : l.length ≤ maxLen) (hm : m.length ≤ maxLen) :
    Calls Tryz.prog 18 #[.slice A l.length c, .slice A2 m.length c2] w fun e w' => e = .returned (.bool (decide (l = m))) ∧ Below w.heap.size w w' := by
  have hl63 : (l.length : Int) ≤ 9223372036854775807 := by unfold maxLen at hl; omega
  have hm63 : (m.length : Int) ≤ 9223372036854775807 := by unfold maxLen at hm; omega
  clear hl hm
  by_cases hlen : l.length = m.length
  · rw [← hlen]
    have HL := Lib.hid hlen
    clear hlen
    go_enter Tryz.func18, Tryz.ntmps18
    go_wp2_with fail
    go_loopw [5] (fun i wr => ∃ k : Nat, k ≤ l.length ∧ i = .int .i64 k ∧ (∃ n, wr = w.drewN n) ∧ Hid (l.take k = m.take k)) (fun i _ => l.length - (intOf i).toNat)
    case atStart => exact ⟨0, Nat.zero_le _, rfl, ⟨0, rfl⟩, Lib.hid rfl⟩
    case round =>
      obtain ⟨k, hk, rfl, ⟨n, rfl⟩, H⟩ := hrel
      by_cases hlt : k < l.length
      · obtain ⟨x, hx⟩ : ∃ x, l[k]? = some x := ⟨_, List.getElem?_eq_getElem hlt⟩
        obtain ⟨y, hy⟩ : ∃ y, m[k]? = some y := ⟨_, List.getElem?_eq_getElem (by have := HL.out; omega)⟩
        have HS : Hid (x = y → l.take (k + 1) = m.take (k + 1)) := Lib.hid (fun e => by rw [List.take_add_one, List.take_add_one, hx, hy, H.out, e])
        have HD : Hid (x ≠ y → l ≠ m) := Lib.hid (fun e h => by rw [h, hy] at hx; exact e (Option.some.inj hx).symm)
        obtain ⟨b, rfl, hb, c0⟩ := hL k x hx
        obtain ⟨b', rfl, hb', e0⟩ := hM k y hy
        clear hx hy hL hM
        by_cases hxy : x = y
        · have HT := Lib.hid (HS.out hxy)
          subst hxy
          clear HS HD
          go_wp2_with fail
          go_quiet (fail)
          go_wp2_with fail
          go_roundw
          case rel => exact ⟨k + 1, by omega, by go_num, by first | exact ⟨_, rfl⟩ | exact ⟨_, drewN_two _ _ _⟩, HT⟩
          case measure => simp [intOf]; omega
        · have HT := Lib.hid (HD.out hxy)
          have hq2 := strEq_false hxy
          clear HS HD
          go_wp2_with fail
          go_quiet (fail)
          go_wp2_with fail
          go_ret
          exact ⟨ret_bool (decide_eq_false HT.out).symm, by first | exact below_dr (Below.refl _ _) _ | (rw [drewN_two]; exact below_dr (Below.refl _ _) _)⟩
      · have HT : Hid (l = m) := Lib.hid (by have h := H.out; rw [List.take_of_length_le (by omega), List.take_of_length_le (by have := HL.out; omega)] at h; exact h)
        go_wp2_with fail
        go_ret
        exact ⟨ret_bool (decide_eq_true HT.out).symm, below_dr (Below.refl _ _) _⟩
  · have HT : Hid (l ≠ m) := Lib.hid (fun h => hlen (by rw [h]))
    have h1 : ((l.length : Int) != (m.length : Int)) = true := by simp; omega
    have h2 : (l.length != m.length) = true := by simp; omega
    clear hL hM
    go_enter Tryz.func18, Tryz.ntmps18
    go_wp2_with fail
    go_ret
    exact ⟨ret_bool (decide_eq_false HT.out).symm, Below.refl _ _⟩
end Go.Proofs.YtmfjmoicnddkcaaGreatDoor
namespace Go.Proofs.YtmfjmoicnddkcaaGreatDoor
open Go.RowKit Go.Shelf
attribute [local go_sem] Oper.semAt_some

set_option maxRecDepth 100000 in
set_option maxHeartbeats 1000000 in
theorem bounds_any (s u : Int) (w : World) :
    Calls Tryz.prog 81 #[.agg #[.int .i64 s, .int .i64 u]] w fun e w' => e = .returned (.agg #[.int .i64 s, .int .i64 u]) ∧ Below w.heap.size w w' := by
  go_enter Tryz.func81, Tryz.ntmps81
  go_wp2
  refine bodyPost_ret (v := .agg #[.int .i64 s, .int .i64 u]) ?_ rfl ⟨rfl, ?_⟩
  · simp [results, Tryz.results81, go_sem]
  · exact ((Below.refl _ _).alloc (Nat.le_refl _) _).alloc (by simp) _

/-- A day on which an entry of a person begins to hold or ceases to. -/
def turnB (p n : Int) (y : Ent) : Bool := y.person == p && isDayB n && (y.since == n || y.untl == n)
/-- The same, of the entry's first j days. -/
def turnJ (p : Int) (y : Ent) (j : Nat) (n : Int) : Bool := y.person == p && isDayB n && ((decide (1 ≤ j) && y.since == n) || (decide (2 ≤ j) && y.untl == n))
def dayJ (y : Ent) (j : Nat) : Int := if j = 0 then y.since else y.untl
theorem turnJ_zero (p : Int) (y : Ent) (n : Int) : turnJ p y 0 n = false := by simp [turnJ]
theorem turnJ_two (p : Int) (y : Ent) (n : Int) : turnJ p y 2 n = turnB p n y := by simp [turnJ, turnB]
theorem turnJ_next (p : Int) (y : Ent) {j : Nat} (hj : j < 2) (n : Int) : turnJ p y (j + 1) n = (turnJ p y j n || (y.person == p && isDayB n && dayJ y j == n)) := by
  rcases (by omega : j = 0 ∨ j = 1) with rfl | rfl
  · simp [turnJ, dayJ]
  · simp only [turnJ, dayJ]
    cases y.person == p <;> cases isDayB n <;> cases y.since == n <;> simp
theorem index_bounds (y : Ent) {j : Nat} (hj : j < 2) (W : World) : (Instr.index 108 (.agg #[.int .i64 y.since, .int .i64 y.untl]) (.int .i64 (j : Nat))).run Tryz.prog W = .ok (.int .i64 (dayJ y j)) W := by
  rcases (by omega : j = 0 ∨ j = 1) with rfl | rfl
  · exact (show (Instr.index 108 (.agg #[.int .i64 y.since, .int .i64 y.untl]) (.int .i64 0)).run Tryz.prog W = .ok (.int .i64 y.since) W by kernel_rfl)
  · exact (show (Instr.index 108 (.agg #[.int .i64 y.since, .int .i64 y.untl]) (.int .i64 1)).run Tryz.prog W = .ok (.int .i64 y.untl) W by kernel_rfl)

set_option maxRecDepth 100000 in
set_option maxHeartbeats 4000000 in
theorem turns_any (A : Option Addr) (c : Nat) (l : List OEnt) (p : Int) (h60 : l.length ≤ 60) (w : World) (hL : EntsLie w w.heap.size A (l.map (·.1))) :
    Calls Tryz.prog 60 #[.slice A l.length c, .int .i64 p] w fun e w' => ∃ A' c' q, e = .returned (.slice A' q.length c') ∧ IntsAt w' A' q ∧ Hid (q.Pairwise (· < ·) ∧ ∀ n, n ∈ q ↔ ∃ y ∈ l.map (·.1), turnB p n y = true) ∧ q.length ≤ 120 ∧ Below w.heap.size w w' := by
  have hmm := @run_makeMap Tryz.prog
  have hle : (l.map (·.1)).length = l.length := List.length_map _
  go_enter Tryz.func60, Tryz.ntmps60
  go_wp2_with fail
  have k0 : (w.alloc (.map #[] 0)).heap[w.heap.size]? = some (.map #[] 0) := World.alloc_heap_new w _
  have hS0 : SetT 3 (w.alloc (.map #[] 0)) w.heap.size 0 (onInt fun _ => false) := (SetT.new_of k0).congr (fun k => by unfold onInt; split <;> rfl)
  have hB0 : Below w.heap.size w (w.alloc (.map #[] 0)) := below_al (Below.refl _ _) _
  generalize w.alloc (.map #[] 0) = w0 at hS0 hB0 ⊢
  clear k0
  go_loopw [14] (fun i wr => ∃ k : Nat, k ≤ l.length ∧ i = .int .i64 k ∧ SetT 3 wr w.heap.size (2 * k) (onInt fun n => (l.take k).any fun x => turnB p n x.1) ∧ Below w.heap.size w wr) (fun i _ => l.length - (intOf i).toNat)
  case atStart => exact ⟨0, Nat.zero_le _, rfl, hS0.congr (fun k => by simp), hB0⟩
  case round =>
    obtain ⟨k, hk, rfl, hS, hB⟩ := hrel
    by_cases hlt : k < l.length
    · obtain ⟨x, hx⟩ : ∃ x, l[k]? = some x := ⟨_, List.getElem?_eq_getElem hlt⟩
      have HA : Hid (∀ n, ((l.take (k + 1)).any fun x => turnB p n x.1) = (((l.take k).any fun x => turnB p n x.1) || turnB p n x.1)) := Lib.hid fun n => any_next hx
      obtain ⟨b, off, rfl, hb, c0, c1, c2, c3, c4, c5, c6, c7, c8, c9⟩ := (hL.below hB).at (k := k) (x := x.1) (by rw [List.getElem?_map, hx]; rfl)
      clear hx
      have hzz := hS.lt
      have hB1 := hB.alloc hB.size (.cells (entCells x.1).toArray 26)
      have hS1 := hS.alloc (.cells (entCells x.1).toArray 26)
      have HF := Lib.hid (factOf_any x.1)
      have HN := Lib.hid (bounds_any x.1.since x.1.untl)
      simp only [entCells] at hB1 hS1
      unfold entVal RetsFact factVal at HF
      go_wp2_with fail
      generalize wr.alloc (.cells _ 26) = w1 at hB1 hS1 ⊢
      refine (HF.out _).mono ?_
      rintro e w2 ⟨rfl, hb2⟩
      have hB2 := below_two2 hb2 hB1
      have hS2 := hS1.below hb2 hS1.lt
      have kF := Blk.new w2 64 #[.int .i64 x.1.since, .int .i64 x.1.untl, .int .i64 x.1.day, .int .u8 x.1.kind, .int .i64 x.1.since, .int .i64 x.1.untl, .int .i64 x.1.person, .int .i64 x.1.place, .int .i64 x.1.other, .int .i64 x.1.at', .int .i64 x.1.order, .string x.1.name]
      have hB3 := below_al hB2 (.cells #[.int .i64 x.1.since, .int .i64 x.1.untl, .int .i64 x.1.day, .int .u8 x.1.kind, .int .i64 x.1.since, .int .i64 x.1.untl, .int .i64 x.1.person, .int .i64 x.1.place, .int .i64 x.1.other, .int .i64 x.1.at', .int .i64 x.1.order, .string x.1.name] 64)
      have hS3 := hS2.alloc (.cells #[.int .i64 x.1.since, .int .i64 x.1.untl, .int .i64 x.1.day, .int .u8 x.1.kind, .int .i64 x.1.since, .int .i64 x.1.untl, .int .i64 x.1.person, .int .i64 x.1.place, .int .i64 x.1.other, .int .i64 x.1.at', .int .i64 x.1.order, .string x.1.name] 64)
      clear hB1 hS1 hb2 HF hb c0 c1 c2 c3 c4 c5 c6 c7 c8 c9
      have hgz := hB2.size
      have hzz2 := hS2.lt
      clear hS2
      go_wp2_with fail
      generalize hgb : w2.heap.size = gb at kF ⊢
      have hne : gb ≠ w.heap.size := by omega
      generalize w2.alloc (.cells _ 64) = w3 at hB3 hS3 kF ⊢
      refine (HN.out _).mono ?_
      rintro e w4 ⟨rfl, hb4⟩
      have hB4 := below_two2 hb4 hB3
      have hS4 := hS3.below hb4 hS3.lt
      have kF4 := kF.below hb4 kF.lt
      clear hB3 hS3 kF hb4 HN hB2 hgb hgz hzz2 hzz hS
      clear hB
      go_wp2_with fail
      obtain ⟨wo, rfl⟩ : ∃ wo : World, wo = wr := ⟨_, rfl⟩
      go_loopw [23] (fun i wq => ∃ j : Nat, j ≤ 2 ∧ i = .int .i64 j ∧ SetT 3 wq w.heap.size (2 * k + j) (onInt fun n => ((l.take k).any fun x => turnB p n x.1) || turnJ p x.1 j n) ∧ Keeps (fun i => i = w.heap.size) w4 wq) (fun i _ => 2 - (intOf i).toNat)
      case atStart => exact ⟨0, Nat.zero_le _, rfl, hS4.congr (fun kl => by unfold onInt; split <;> simp [turnJ_zero]), Keeps.refl _ _⟩
      case round =>
        obtain ⟨j, hj, rfl, hS, hK⟩ := hrel
        by_cases hj2 : j < 2
        · have hi := fun W => index_bounds x.1 hj2 W
          have HJ := Lib.hid (fun n => turnJ_next p x.1 hj2 n)
          generalize hday : dayJ x.1 j = day at hi HJ
          clear hday
          have kQ := kF4.keep hK hne
          have e6 := kQ.cell 6
          have zQ := kQ.lt
          simp at e6
          clear kQ
          by_cases hp : x.1.person = p
          · by_cases hd : isDayB day = true
            · obtain ⟨w5, hrun, hset, hk5⟩ := hS.store lawInt mapIntRow (by unfold maxLen; omega) (keyInt (n := day) (by unfold isDayB at hd; simp at hd; omega))
              have HN : Hid (SetT 3 w5 w.heap.size (2 * k + (j + 1)) (onInt fun n => ((l.take k).any fun x => turnB p n x.1) || turnJ p x.1 (j + 1) n)) := Lib.hid (hset _ (by rw [onInt_at, HJ.out]; simp [hp, hd]) (onInt_other (fun n hn => by rw [HJ.out, beq_eq_false_iff_ne.2 (Ne.symm hn)]; simp)))
              have HK : Hid (Keeps (fun i => i = w.heap.size) w4 w5) := Lib.hid (hK.trans hk5 (fun _ _ h => h))
              have hdd := Lib.hid hd
              have HD := Lib.hid (isDay_any day)
              rw [hd] at HD
              rw [hp] at e6
              clear hS hset hk5 hp hd hdd HJ hK
              go_wp2_with fail
              refine (HD.out _).mono ?_
              rintro e w6 ⟨rfl, rfl⟩
              go_wp2_with (at_mapUpdate; refine wpList_put _ rfl _ _ _ _ rfl hrun ?_)
              go_roundw
              case rel => exact ⟨j + 1, by omega, by go_num, HN.out, HK.out⟩
              case measure => simp [intOf]; omega
            · have hdf : isDayB day = false := by simpa using hd
              have HN : Hid (SetT 3 wr w.heap.size (2 * k + (j + 1)) (onInt fun n => ((l.take k).any fun x => turnB p n x.1) || turnJ p x.1 (j + 1) n)) := Lib.hid ((hS.mono (by omega)).congr (fun kl => by
                unfold onInt
                split
                · rename_i n
                  simp only [HJ.out]
                  by_cases hn : day = n
                  · subst hn; simp [hdf]
                  · rw [beq_eq_false_iff_ne.2 hn]; simp
                · rfl))
              have HD := Lib.hid (isDay_any day)
              rw [hdf] at HD
              rw [hp] at e6
              clear hS hp hd hdf HJ
              go_wp2_with fail
              refine (HD.out _).mono ?_
              rintro e w6 ⟨rfl, rfl⟩
              go_wp2_with fail
              go_roundw
              case rel => exact ⟨j + 1, by omega, by go_num, HN.out, hK⟩
              case measure => simp [intOf]; omega
          · have HN : Hid (SetT 3 wr w.heap.size (2 * k + (j + 1)) (onInt fun n => ((l.take k).any fun x => turnB p n x.1) || turnJ p x.1 (j + 1) n)) := Lib.hid ((hS.mono (by omega)).congr (fun kl => by
              unfold onInt
              split
              · simp only [HJ.out]
                rw [beq_eq_false_iff_ne.2 hp]
                simp
              · rfl))
            clear hS HJ
            go_wp2_with fail
            go_roundw
            case rel => exact ⟨j + 1, by omega, by go_num, HN.out, hK⟩
            case measure => simp [intOf]; omega
        · obtain rfl : j = 2 := by omega
          have HN : Hid (SetT 3 wr w.heap.size (2 * (k + 1)) (onInt fun n => (l.take (k + 1)).any fun x => turnB p n x.1)) := Lib.hid (hS.congr (fun kl => by unfold onInt; split <;> first | rfl | simp only [HA.out, turnJ_two]))
          have hBw := hB4.trans (hK.below (fun i hi e => by omega) hB4.size)
          clear hS HA
          go_wp2_with fail
          go_roundw
          case rel => exact ⟨k + 1, by omega, by go_num, HN.out, hBw⟩
          case measure => simp [intOf]; omega
    · obtain rfl : k = l.length := by omega
      have hS1 := hS.alloc (.cells #[.map (some w.heap.size)] 67)
      have hB1 := hB.alloc hB.size (.cells #[.map (some w.heap.size)] 67)
      have kM := Blk.new wr 67 #[.map (some w.heap.size)]
      have H1 := Lib.hid (keysI_any w.heap.size wr)
      have H2 := Lib.hid (sortedI_any wr.heap.size w.heap.size (2 * l.length) (by omega) _ _ kM hS1)
      have HM : Hid (∀ n, (l.take l.length).any (fun x => turnB p n x.1) = true ↔ ∃ y ∈ l.map (·.1), turnB p n y = true) := Lib.hid fun n => by
        rw [List.take_length, List.any_eq_true]
        constructor
        · rintro ⟨x, hx, h⟩
          exact ⟨x.1, List.mem_map_of_mem hx, h⟩
        · rintro ⟨y, hy, h1⟩
          obtain ⟨x, hx, rfl⟩ := List.mem_map.1 hy
          exact ⟨x, hx, h1⟩
      clear hS hS1 kM
      go_wp2_with fail
      refine H1.out.mono ?_
      rintro e w2 ⟨rfl, rfl⟩
      go_wp2_with fail
      refine H2.out.mono ?_
      rintro e w3 ⟨v, q, rfl, hO, hq, hl, hb3⟩
      obtain ⟨A3, c3, rfl⟩ := hO.shape
      have HI := Lib.hid hO.at
      have HQ : Hid (q.Pairwise (· < ·) ∧ ∀ n, n ∈ q ↔ ∃ y ∈ l.map (·.1), turnB p n y = true) := Lib.hid ⟨hq.out.1, fun n => (hq.out.2 n).trans (HM.out n)⟩
      clear hO hq
      go_wp2_with fail
      go_ret
      exact ⟨A3, c3, q, rfl, HI.out, HQ, by omega, hB1.trans (hb3.mono hB1.size)⟩
end Go.Proofs.YtmfjmoicnddkcaaGreatDoor
namespace Go.Proofs.YtmfjmoicnddkcaaGreatDoor

def namesL (L : List Ent) (p d : Int) : List ByteArray := addS (nameE p d) (·.name) L
/-- What is compared of a person. -/
def lookOf (l : List OEnt) (p d : Int) : List ByteArray × List Int × Bool × (Int × Bool) × (Int × Bool) :=
  (namesL (l.map (·.1)) p d, placesE (l.map (·.1)) p d, deadOf l d p, homeOf (deadOf l d) l d p, heirOf l d p)

section
variable {L : List Ent} {p d e : Int}
theorem addS_congr {f f' : Ent → Bool} {g : Ent → ByteArray} : ∀ {L : List Ent}, (∀ y ∈ L, f y = f' y) → addS f g L = addS f' g L := by
  intro L
  suffices h : ∀ (L : List Ent) (q : List ByteArray), (∀ y ∈ L, f y = f' y) → L.foldl (fun q y => if f y = true then addB q (g y) else q) q = L.foldl (fun q y => if f' y = true then addB q (g y) else q) q from h L []
  intro L
  induction L with
  | nil => intro q _; rfl
  | cons y L ih =>
    intro q h
    rw [List.foldl_cons, List.foldl_cons, h y (List.mem_cons_self ..)]
    exact ih _ (fun z hz => h z (List.mem_cons_of_mem _ hz))
theorem addL_congr {f f' : Ent → Bool} {g : Ent → Int} : ∀ {L : List Ent}, (∀ y ∈ L, f y = f' y) → addL f g L = addL f' g L := by
  intro L
  suffices h : ∀ (L : List Ent) (q : List Int), (∀ y ∈ L, f y = f' y) → L.foldl (fun q y => if f y = true then addI q (g y) else q) q = L.foldl (fun q y => if f' y = true then addI q (g y) else q) q from h L []
  intro L
  induction L with
  | nil => intro q _; rfl
  | cons y L ih =>
    intro q h
    rw [List.foldl_cons, List.foldl_cons, h y (List.mem_cons_self ..)]
    exact ih _ (fun z hz => h z (List.mem_cons_of_mem _ hz))
theorem any_congrE {f f' : Ent → Bool} : ∀ {L : List Ent}, (∀ y ∈ L, f y = f' y) → L.any f = L.any f'
  | [], _ => rfl
  | y :: L, h => by rw [List.any_cons, List.any_cons, h y (List.mem_cons_self ..), any_congrE (fun z hz => h z (List.mem_cons_of_mem _ hz))]
theorem find_congrE {f f' : Ent → Bool} : ∀ {L : List Ent}, (∀ y ∈ L, f y = f' y) → L.find? f = L.find? f'
  | [], _ => rfl
  | y :: L, h => by rw [List.find?_cons, List.find?_cons, h y (List.mem_cons_self ..), find_congrE (fun z hz => h z (List.mem_cons_of_mem _ hz))]
theorem hld_and (h : ∀ y ∈ L, y.person = p → hld y d = hld y e) (k : Int) : ∀ y ∈ L, (y.kind == k && y.person == p && hld y d) = (y.kind == k && y.person == p && hld y e) := fun y hy => by
  by_cases hp : y.person = p
  · rw [h y hy hp]
  · rw [beq_eq_false_iff_ne.2 hp]; simp
theorem deadE_same (h : ∀ y ∈ L, y.person = p → hld y d = hld y e) : deadE L p d = deadE L p e := any_congrE (hld_and h 3)
theorem hld_rev (h : ∀ y ∈ L, y.person = p → hld y d = hld y e) : ∀ y ∈ L.reverse, y.person = p → hld y d = hld y e := fun y hy => h y (List.mem_reverse.1 hy)
end
/-- Where no entry of the person holds on one of two days only, nothing differs. -/
theorem look_same {l : List OEnt} {p d e : Int} (h : ∀ y ∈ l.map (·.1), y.person = p → hld y d = hld y e) : lookOf l p d = lookOf l p e := by
  have h1 : namesL (l.map (·.1)) p d = namesL (l.map (·.1)) p e := addS_congr (hld_and h 1)
  have h3 := deadE_same h
  have h2 : placesE (l.map (·.1)) p d = placesE (l.map (·.1)) p e := by
    have h6 : addL (dwellE p d) (·.place) (l.map (·.1)) = addL (dwellE p e) (·.place) (l.map (·.1)) := addL_congr (hld_and h 2)
    unfold placesE
    rw [h3, h6]
  have h4 : homeE (l.map (·.1)) p d = homeE (l.map (·.1)) p e := by
    unfold homeE
    rw [h3, find_congrE (hld_and (hld_rev h) 2)]
  have h5 : heirE (l.map (·.1)) p d = heirE (l.map (·.1)) p e := by
    unfold heirE
    rw [find_congrE (hld_and (hld_rev h) 4)]
  rw [deadE_eq, deadE_eq] at h3
  rw [homeE_eq, homeE_eq] at h4
  rw [heirE_eq, heirE_eq] at h5
  unfold lookOf
  rw [h1, h2, h3, h4, h5]
theorem hld_turn {y : Ent} {d : Int} (h1 : y.since ≠ d) (h2 : y.untl ≠ d) : hld y (d - 1) = hld y d := by
  unfold hld
  have e1 : decide (y.since ≤ d - 1) = decide (y.since ≤ d) := decide_eq_decide.2 (by omega)
  have e2 : decide (d - 1 < y.untl) = decide (d < y.untl) := decide_eq_decide.2 (by omega)
  rw [e1, e2]
/-- What differs on a day differs because an entry of the person begins to hold or ceases to. -/
theorem look_turn {l : List OEnt} {p d : Int} (h : ∀ y ∈ l.map (·.1), y.person = p → y.since ≠ d ∧ y.untl ≠ d) : lookOf l p (d - 1) = lookOf l p d :=
  look_same (fun y hy hp => hld_turn (h y hy hp).1 (h y hy hp).2)
/-- The days on which something of a person changes, of some days. -/
def changesOf (l : List OEnt) (p : Int) (q : List Int) : List Int := q.filter fun d => decide (lookOf l p (d - 1) ≠ lookOf l p d)
/-- The reference's days. -/
def daysL (L : List Ent) : List Int := L.foldl (fun q y => addI (addI q y.since) y.untl) []
theorem daysL_next {l : List Ent} {k : Nat} {x : Ent} (hx : l[k]? = some x) : daysL (l.take (k + 1)) = addI (addI (daysL (l.take k)) x.since) x.untl := by
  unfold daysL
  rw [List.take_add_one, hx]
  simp [List.foldl_append]
theorem daysL_all (l : List Ent) : (daysL l).Pairwise (· < ·) ∧ (∀ z, z ∈ daysL l ↔ ∃ y ∈ l, y.since = z ∨ y.untl = z) ∧ (daysL l).length ≤ 2 * l.length := by
  suffices h : ∀ (l : List Ent) (q : List Int), q.Pairwise (· < ·) → (l.foldl (fun q y => addI (addI q y.since) y.untl) q).Pairwise (· < ·) ∧ (∀ z, z ∈ l.foldl (fun q y => addI (addI q y.since) y.untl) q ↔ z ∈ q ∨ ∃ y ∈ l, y.since = z ∨ y.untl = z) ∧ (l.foldl (fun q y => addI (addI q y.since) y.untl) q).length ≤ q.length + 2 * l.length by
    have h1 := h l [] List.Pairwise.nil
    refine ⟨h1.1, fun z => (h1.2.1 z).trans (by simp), by have h2 := h1.2.2; unfold daysL; simpa using h2⟩
  intro l
  induction l with
  | nil => intro q hq; exact ⟨hq, fun z => by simp, by simp⟩
  | cons y l ih =>
    intro q hq
    rw [List.foldl_cons]
    obtain ⟨h1, h2, h3⟩ := ih (addI (addI q y.since) y.untl) (addI_sorted (addI_sorted hq _) _)
    refine ⟨h1, fun z => ?_, by have := addI_len q y.since; have := addI_len (addI q y.since) y.untl; rw [List.length_cons]; omega⟩
    rw [h2 z, addI_mem, addI_mem]
    constructor
    · rintro ((h | h | h) | ⟨u, hu, hu2⟩)
      · exact .inr ⟨y, List.mem_cons_self .., .inr h.symm⟩
      · exact .inr ⟨y, List.mem_cons_self .., .inl h.symm⟩
      · exact .inl h
      · exact .inr ⟨u, List.mem_cons_of_mem _ hu, hu2⟩
    · rintro (h | ⟨u, hu, hu2⟩)
      · exact .inl (.inr (.inr h))
      · rcases List.mem_cons.1 hu with rfl | hu
        · rcases hu2 with h | h
          · exact .inl (.inr (.inl h.symm))
          · exact .inl (.inl h.symm)
        · exact .inr ⟨u, hu, hu2⟩
/-- Of the reference's days: the days of the calendar on which something changes. -/
def refChangesL (l : List OEnt) (p : Int) : List Int := (daysL (l.map (·.1))).filter fun d => isDayB d && decide (lookOf l p (d - 1) ≠ lookOf l p d)
/-- The two are one. -/
theorem changes_eq {l : List OEnt} {p : Int} {q : List Int} (h : q.Pairwise (· < ·) ∧ ∀ n, n ∈ q ↔ ∃ y ∈ l.map (·.1), turnB p n y = true) : changesOf l p q = refChangesL l p := by
  refine sorted_eq (lt := (· < ·)) (fun x => by omega) (fun x y => by omega) (h.1.filter _) ((daysL_all _).1.filter _) (fun z => ?_)
  unfold changesOf refChangesL
  rw [List.mem_filter, List.mem_filter, h.2 z, (daysL_all _).2.1 z]
  constructor
  · rintro ⟨⟨y, hy, h1⟩, h2⟩
    unfold turnB at h1
    simp only [Bool.and_eq_true, Bool.or_eq_true, beq_iff_eq] at h1
    exact ⟨⟨y, hy, h1.2⟩, by rw [h1.1.2, h2]; rfl⟩
  · rintro ⟨_, h2⟩
    simp only [Bool.and_eq_true] at h2
    refine ⟨Classical.byContradiction fun hno => ?_, h2.2⟩
    have h3 := of_decide_eq_true h2.2
    refine h3 (look_turn (fun y hy hp => ?_))
    have h4 : ¬ (y.since = z ∨ y.untl = z) := fun h5 => hno ⟨y, hy, by unfold turnB; rcases h5 with h5 | h5 <;> simp [hp, h2.1, h5]⟩
    exact ⟨fun h5 => h4 (.inl h5), fun h5 => h4 (.inr h5)⟩
/-- On a day of the calendar that is none of them, nothing differs. -/
theorem stays {l : List OEnt} {p d : Int} (hd : isDayB d = true) (h : d ∉ refChangesL l p) : lookOf l p (d - 1) = lookOf l p d := by
  by_cases h1 : lookOf l p (d - 1) = lookOf l p d
  · exact h1
  · refine look_turn (fun y hy hp => ?_)
    have h2 : ¬ (y.since = d ∨ y.untl = d) := fun h5 => h (List.mem_filter.2 ⟨((daysL_all _).2.1 d).2 ⟨y, hy, h5⟩, by rw [hd]; simpa using h1⟩)
    exact ⟨fun h5 => h2 (.inl h5), fun h5 => h2 (.inr h5)⟩
theorem refChanges_len (l : List OEnt) (p : Int) (h60 : l.length ≤ 60) : (refChangesL l p).length ≤ 120 := by
  have h1 := List.length_filter_le (fun d => isDayB d && decide (lookOf l p (d - 1) ≠ lookOf l p d)) (daysL (l.map (·.1)))
  have h2 := (daysL_all (l.map (·.1))).2.2
  unfold refChangesL
  rw [List.length_map] at h2
  omega
end Go.Proofs.YtmfjmoicnddkcaaGreatDoor
namespace Go.Proofs.YtmfjmoicnddkcaaGreatDoor
open Go.RowKit Go.Sort

def lookVal (A1 : Option Addr) (c1 : Nat) (A2 : Option Addr) (c2 : Nat) (v : List ByteArray × List Int × Bool × (Int × Bool) × (Int × Bool)) : Value :=
  .agg #[.slice A1 v.1.length c1, .slice A2 v.2.1.length c2, .bool v.2.2.1, .int .i64 v.2.2.2.1.1, .int .i64 v.2.2.2.2.1, .bool v.2.2.2.1.2, .bool v.2.2.2.2.2]

theorem rowLook : (Tryz.prog.underlying 86).map isAgg = some true := by kernel_rfl
theorem sizeLook : (Tryz.prog.info? 86).map (·.size) = some 7 := by kernel_rfl
theorem BStrAt.keepL {w w' : World} {A : Option Addr} {q : List ByteArray} {g : Nat} {t : TypeId} {cs : Array Value} (h : BStrAt w A q) (hk : Keeps (fun i => i = g) w w') (kb : Blk w g t cs) (hc : ∀ s, cs[0]? ≠ some (.string s)) : BStrAt w' A q := fun k x hx => by
  obtain ⟨b, rfl, hb, hx0⟩ := h k x hx
  have hne : b ≠ g := fun e => by
    subst e
    obtain ⟨x0, h0⟩ : ∃ x0, q[0]? = some x0 := ⟨_, List.getElem?_eq_getElem (by have := (List.getElem?_eq_some_iff.1 hx).1; omega)⟩
    obtain ⟨b', h1, _, h3⟩ := h 0 x0 h0
    simp only [Option.some.injEq, Addr.mk.injEq, and_true] at h1
    subst h1
    rw [kb.cell] at h3
    exact hc x0 h3
  exact ⟨b, rfl, Nat.lt_of_lt_of_le hb hk.size, (hk.cell hb hne).trans hx0⟩
theorem IntsAt.keepL {w w' : World} {A : Option Addr} {q : List Int} {g : Nat} {t : TypeId} {cs : Array Value} (h : IntsAt w A q) (hk : Keeps (fun i => i = g) w w') (kb : Blk w g t cs) (hc : ∀ n, cs[0]? ≠ some (.int .i64 n)) : IntsAt w' A q := fun k x hx => by
  obtain ⟨b, rfl, hb, hx0⟩ := h k x hx
  have hne : b ≠ g := fun e => by
    subst e
    obtain ⟨x0, h0⟩ : ∃ x0, q[0]? = some x0 := ⟨_, List.getElem?_eq_getElem (by have := (List.getElem?_eq_some_iff.1 hx).1; omega)⟩
    obtain ⟨b', h1, _, h3⟩ := h 0 x0 h0
    simp only [Option.some.injEq, Addr.mk.injEq, and_true] at h1
    subst h1
    rw [kb.cell] at h3
    exact hc x0 h3
  exact ⟨b, rfl, Nat.lt_of_lt_of_le hb hk.size, (hk.cell hb hne).trans hx0⟩
theorem put_look {W w0 : World} {g n : Nat} {A1 A2 : Option Addr} {NL : List ByteArray} {PL : List Int} {t : TypeId} (kb : Blk W g t #[.slice none 0 0, .slice none 0 0, .bool false, .int .i64 0, .int .i64 0, .bool false, .bool false]) (h1 : BStrAt W A1 NL) (h2 : IntsAt W A2 PL) (hB : Below n w0 W) (hn : n ≤ W.heap.size) (hg : n ≤ g) (v0 v1 v2 v3 v4 v5 v6 : Value) :
    Blk (((((((W.setCell ⟨g, 0, none⟩ v0).setCell ⟨g, 1, none⟩ v1).setCell ⟨g, 2, none⟩ v2).setCell ⟨g, 3, none⟩ v3).setCell ⟨g, 4, none⟩ v4).setCell ⟨g, 5, none⟩ v5).setCell ⟨g, 6, none⟩ v6) g t #[v0, v1, v2, v3, v4, v5, v6] ∧
    BStrAt (((((((W.setCell ⟨g, 0, none⟩ v0).setCell ⟨g, 1, none⟩ v1).setCell ⟨g, 2, none⟩ v2).setCell ⟨g, 3, none⟩ v3).setCell ⟨g, 4, none⟩ v4).setCell ⟨g, 5, none⟩ v5).setCell ⟨g, 6, none⟩ v6) A1 NL ∧
    IntsAt (((((((W.setCell ⟨g, 0, none⟩ v0).setCell ⟨g, 1, none⟩ v1).setCell ⟨g, 2, none⟩ v2).setCell ⟨g, 3, none⟩ v3).setCell ⟨g, 4, none⟩ v4).setCell ⟨g, 5, none⟩ v5).setCell ⟨g, 6, none⟩ v6) A2 PL ∧
    Below n w0 (((((((W.setCell ⟨g, 0, none⟩ v0).setCell ⟨g, 1, none⟩ v1).setCell ⟨g, 2, none⟩ v2).setCell ⟨g, 3, none⟩ v3).setCell ⟨g, 4, none⟩ v4).setCell ⟨g, 5, none⟩ v5).setCell ⟨g, 6, none⟩ v6) := by
  have hk : Keeps (fun i => i = g) W (((((((W.setCell ⟨g, 0, none⟩ v0).setCell ⟨g, 1, none⟩ v1).setCell ⟨g, 2, none⟩ v2).setCell ⟨g, 3, none⟩ v3).setCell ⟨g, 4, none⟩ v4).setCell ⟨g, 5, none⟩ v5).setCell ⟨g, 6, none⟩ v6) :=
    ((((((((Keeps.refl (fun i => i = g) W).setCell (p := ⟨g, _, none⟩) (fun _ => rfl) _).setCell (p := ⟨g, _, none⟩) (fun _ => rfl) _).setCell (p := ⟨g, _, none⟩) (fun _ => rfl) _).setCell (p := ⟨g, _, none⟩) (fun _ => rfl) _).setCell (p := ⟨g, _, none⟩) (fun _ => rfl) _).setCell (p := ⟨g, _, none⟩) (fun _ => rfl) _).setCell (p := ⟨g, _, none⟩) (fun _ => rfl) _)
  have h3 := ((((((kb.set 0 v0).set 1 v1).set 2 v2).set 3 v3).set 4 v4).set 5 v5).set 6 v6
  simp only [List.setIfInBounds_toArray, List.set_cons_zero, List.set_cons_succ] at h3
  exact ⟨h3, h1.keepL hk kb (fun s => by simp), h2.keepL hk kb (fun s => by simp), hB.trans (hk.below (fun i hi e => by omega) hn)⟩
theorem set_look {W : World} {g : Nat} {t : TypeId} {cs : Array Value} (kb : Blk W g t cs) (i j : Nat) (v u : Value) : Keeps (fun i => i = g) W ((W.setCell ⟨g, i, none⟩ v).setCell ⟨g, j, none⟩ u) ∧ Blk ((W.setCell ⟨g, i, none⟩ v).setCell ⟨g, j, none⟩ u) g t ((cs.setIfInBounds i v).setIfInBounds j u) :=
  ⟨((Keeps.refl (fun i => i = g) W).setCell (p := ⟨g, _, none⟩) (fun _ => rfl) _).setCell (p := ⟨g, _, none⟩) (fun _ => rfl) _, (kb.set i v).set j u⟩
theorem blk_al {Y w' : World} {t : TypeId} {cs : Array Value} (hb : Below (Y.alloc (.cells cs t)).heap.size (Y.alloc (.cells cs t)) w') : Blk w' Y.heap.size t cs := (Blk.new Y t cs).below hb (by simp)
theorem blk_ald {Y w' : World} {t : TypeId} {cs : Array Value} (hb : Below (Y.alloc (.cells cs t)).drew.heap.size (Y.alloc (.cells cs t)).drew w') : Blk w' Y.heap.size t cs := (Blk.new Y t cs).drew.below hb (by simp [World.drew])

set_option maxRecDepth 100000 in
set_option maxHeartbeats 4000000 in
theorem lookAt_any (A : Option Addr) (c : Nat) (l : List OEnt) (m : List NEnt) (hml : m.map (·.1) = l.map (·.1)) (h60 : l.length ≤ 60) (p d : Int) (hp : intB p) (b1 b2 : Nat) (w : World) (hD : DirIn w A l b1 b2 (deadOf l d) (cancOf l d)) :
    Calls Tryz.prog 61 #[dirVal A l.length c d (some b1) (some b2), .int .i64 p] w fun e w' => ∃ A1 c1 A2 c2, e = .returned (lookVal A1 c1 A2 c2 (lookOf l p d)) ∧ BStrAt w' A1 (lookOf l p d).1 ∧ IntsAt w' A2 (lookOf l p d).2.1 ∧ Below w.heap.size w w' := by
  unfold lookVal lookOf
  dsimp only
  obtain ⟨NL, hNL⟩ : ∃ x, namesL (l.map (·.1)) p d = x := ⟨_, rfl⟩
  obtain ⟨PL, hPL⟩ : ∃ x, placesE (l.map (·.1)) p d = x := ⟨_, rfl⟩
  have K1 : ∀ W, Below w.heap.size w W → Calls Tryz.prog 49 #[dirVal A l.length c d (some b1) (some b2), .int .i64 p] W fun e w' => ∃ A' c', e = .returned (.slice A' NL.length c') ∧ BStrAt w' A' NL ∧ Below W.heap.size W w' := fun W hW =>
    (namesDir_any A c l m hml h60 d p b1 b2 _ _ W (hD.below hW)).mono fun _ _ ⟨A', c', q, he, hI, hq, _, hB⟩ => by
      have h1 := strs_eq hq.out
      unfold namesL at hNL
      rw [hNL] at h1
      subst h1
      rw [List.length_map] at he
      exact ⟨A', c', he, hI.bytes, hB⟩
  have K2 : ∀ W, Below w.heap.size w W → Calls Tryz.prog 52 #[dirVal A l.length c d (some b1) (some b2), .int .i64 p] W fun e w' => ∃ A' c', e = .returned (.slice A' PL.length c') ∧ IntsAt w' A' PL ∧ Below W.heap.size W w' := fun W hW =>
    (placesDir_any A c l h60 d p b1 b2 (cancOf l d) W (hD.below hW)).mono fun _ _ ⟨A', c', r, he, hI, hr, _, hB⟩ => by
      have h1 := (places_eq hr.out).trans hPL
      rw [h1] at hI
      exact ⟨A', c', by rw [he, ← h1, List.length_map], hI, hB⟩
  have K3 : ∀ W, Below w.heap.size w W → Calls Tryz.prog 58 #[dirVal A l.length c d (some b1) (some b2), .int .i64 p] W fun e w' => e = .returned (.tuple #[.int .i64 (homeOf (deadOf l d) l d p).1, .bool (homeOf (deadOf l d) l d p).2]) ∧ Below W.heap.size W w' := fun W hW =>
    home_any A c l d p b1 b2 (deadOf l d) (cancOf l d) hp W (hD.below hW)
  have K4 : ∀ W, Below w.heap.size w W → Calls Tryz.prog 59 #[dirVal A l.length c d (some b1) (some b2), .int .i64 p] W fun e w' => e = .returned (.tuple #[.int .i64 (heirOf l d p).1, .bool (heirOf l d p).2]) ∧ Below W.heap.size W w' := fun W hW =>
    heir_any A c l d p b1 b2 (deadOf l d) (cancOf l d) W (hD.below hW)
  have HQ : ∀ W, Below w.heap.size w W → (Instr.lookup 67 (.map (some b1)) (.int .i64 p) false).run Tryz.prog W = .ok (.bool (deadOf l d p)) W := fun W hW => by
    have := (hD.below hW).dead.look lawInt mapIntRow (keyInt hp)
    rwa [onInt_at] at this
  rw [hNL, hPL]
  generalize homeOf (deadOf l d) l d p = home at *
  generalize heirOf l d p = heir at *
  generalize deadOf l d p = dd at HQ ⊢
  clear hD hNL hPL hml hp
  obtain ⟨hh, hs⟩ := home
  obtain ⟨kh, ks⟩ := heir
  unfold dirVal at *
  dsimp only at K3 K4 ⊢
  replace K1 := Lib.hid K1
  replace K2 := Lib.hid K2
  replace K3 := Lib.hid K3
  replace K4 := Lib.hid K4
  replace HQ := Lib.hid HQ
  have hB0 : Below w.heap.size w ((w.alloc (.cells #[.slice A l.length c, .int .i64 d, .map (some b1), .map (some b2)] 69)).alloc (.cells #[.slice none 0 0, .slice none 0 0, .bool false, .int .i64 0, .int .i64 0, .bool false, .bool false] 86)) := below_al (below_al (Below.refl _ _) _) _
  have kD := (Blk.new w 69 #[.slice A l.length c, .int .i64 d, .map (some b1), .map (some b2)]).alloc (.cells #[.slice none 0 0, .slice none 0 0, .bool false, .int .i64 0, .int .i64 0, .bool false, .bool false] 86)
  have kR := Blk.new (w.alloc (.cells #[.slice A l.length c, .int .i64 d, .map (some b1), .map (some b2)] 69)) 86 #[.slice none 0 0, .slice none 0 0, .bool false, .int .i64 0, .int .i64 0, .bool false, .bool false]
  rw [World.size_alloc] at kR
  go_enter Tryz.func61, Tryz.ntmps61
  go_upto_region 1 with fail
  generalize (w.alloc (.cells _ 69)).alloc (.cells _ 86) = w0 at hB0 kD kR ⊢
  have HS : Hid (∀ W, Below w0.heap.size w0 W → W.cell? ⟨w.heap.size, 0, none⟩ = some (.slice A l.length c) ∧ W.cell? ⟨w.heap.size, 1, none⟩ = some (.int .i64 d) ∧ W.cell? ⟨w.heap.size, 2, none⟩ = some (.map (some b1)) ∧ W.cell? ⟨w.heap.size, 3, none⟩ = some (.map (some b2)) ∧ (Instr.lookup 67 (.map (some b1)) (.int .i64 p) false).run Tryz.prog W = .ok (.bool dd) W) := Lib.hid fun W hW => by
    have kW := kD.below hW kD.lt
    exact ⟨by rw [kW.cell]; rfl, by rw [kW.cell]; rfl, by rw [kW.cell]; rfl, by rw [kW.cell]; rfl, HQ.out W (hB0.trans (hW.mono hB0.size))⟩
  have k1 := Lib.hid (fun W (hW : Below w0.heap.size w0 W) => K1.out W (hB0.trans (hW.mono hB0.size)))
  have k2 := Lib.hid (fun W (hW : Below w0.heap.size w0 W) => K2.out W (hB0.trans (hW.mono hB0.size)))
  clear K1 K2 HQ
  go_cut [5] (fun s wx => ∃ g A1 c1 A2 c2, s = .pointer (some ⟨g, 0, none⟩) ∧ Blk wx g 86 #[.slice A1 NL.length c1, .slice A2 PL.length c2, .bool dd, .int .i64 0, .int .i64 0, .bool false, .bool false] ∧ BStrAt wx A1 NL ∧ IntsAt wx A2 PL ∧ Below w0.heap.size w0 wx ∧ w0.heap.size ≤ g)
  case first =>
    have hBd : Below w0.heap.size w0 w0.drew := (Below.refl _ _).drew
    have d0 := HS.out _ hBd
    go_region_held3 (fun W => W.cell? ⟨w.heap.size, 0, none⟩ = some (.slice A l.length c) ∧ W.cell? ⟨w.heap.size, 1, none⟩ = some (.int .i64 d) ∧ W.cell? ⟨w.heap.size, 2, none⟩ = some (.map (some b1)) ∧ W.cell? ⟨w.heap.size, 3, none⟩ = some (.map (some b2)) ∧ (Instr.lookup 67 (.map (some b1)) (.int .i64 p) false).run Tryz.prog W = .ok (.bool dd) W)
      (exact HS.out _ (by repeat (first | (with_reducible assumption) | (with_reducible refine below_al ?_ _) | (with_reducible refine below_d1 ?_) | (with_reducible exact Below.refl _ _) | (with_reducible refine below_se' (by dsimp only; omega) ?_ _))))
      (first
        | (go_at_call 49; refine (k1.out _ (by repeat (first | (with_reducible assumption) | (with_reducible refine below_al ?_ _) | (with_reducible refine below_d1 ?_) | (with_reducible exact Below.refl _ _)))).mono ?_; rintro e wN ⟨AN, cN, rfl, hIN, hbN⟩; have hBN := below_two2 (w := w0) hbN (by repeat (first | (with_reducible assumption) | (with_reducible refine below_al ?_ _) | (with_reducible refine below_d1 ?_) | (with_reducible exact Below.refl _ _))); (try (with_reducible have kN := blk_al hbN)); (try (with_reducible have kN := blk_ald hbN)); have hzN := hBN.size)
        | (go_at_call 52; refine (k2.out _ (by repeat (first | (with_reducible assumption) | (with_reducible refine below_al ?_ _) | (with_reducible refine below_d1 ?_) | (with_reducible exact Below.refl _ _)))).mono ?_; rintro e wP ⟨AP, cP, rfl, hIP, hbP⟩; have hBP := below_two2 (w := w0) hbP (by repeat (first | (with_reducible assumption) | (with_reducible refine below_al ?_ _) | (with_reducible refine below_d1 ?_) | (with_reducible exact Below.refl _ _))); have hzP := hBP.size; have hJN : BStrAt wP AN NL := (by first | exact hIN.below hbP (Nat.le_refl _) | exact hIN.below (below_two2 hbP (below_al (Below.refl _ _) _)) (Nat.le_refl _)); (try (with_reducible have kP := blk_al hbP)); (try (have kP := Blk.below kN hbP (Blk.lt kN))); (try (have z0 := Blk.cell kP 0 ; have z1 := Blk.cell kP 1 ; have z2 := Blk.cell kP 2 ; have z3 := Blk.cell kP 3 ; have z4 := Blk.cell kP 4 ; have z5 := Blk.cell kP 5 ; have z6 := Blk.cell kP 6 ; have f0 := Blk.frozen kP 0 ; have f1 := Blk.frozen kP 1 ; have f2 := Blk.frozen kP 2 ; have f3 := Blk.frozen kP 3 ; have f4 := Blk.frozen kP 4 ; have f5 := Blk.frozen kP 5 ; have f6 := Blk.frozen kP 6 ; simp at z0 z1 z2 z3 z4 z5 z6 f0 f1 f2 f3 f4 f5 f6))))
    all_goals
      go_wp2_with fail
      go_meet
      first
        | (have hx := put_look kP hJN hIP hBP (by omega) (by omega) (.slice AN NL.length cN) (.slice AP PL.length cP) (.bool dd) (.int .i64 0) (.int .i64 0) (.bool false) (.bool false); exact ⟨_, AN, cN, AP, cP, rfl, hx.1, hx.2.1, hx.2.2.1, hx.2.2.2, by omega⟩)
        | exact ⟨_, AN, cN, AP, cP, rfl, Blk.new wP _ _, hJN.below (below_al (Below.refl _ _) _) (Nat.le_refl _), hIP.below (below_al (Below.refl _ _) _) (Nat.le_refl _), below_al hBP _, hzP⟩
  case rest =>
    obtain ⟨g, A1, c1, A2, c2, rfl, kL, hN, hP, hB1, hg⟩ := hcut
    generalize wc = w1 at kL hN hP hB1 ⊢
    have hgz : w.heap.size + 1 < w0.heap.size := kR.lt
    have d1 := HS.out w1 hB1
    obtain ⟨d10, d11, d12, d13, _⟩ := d1
    have hX1 := K3.out w1 (hB0.trans (hB1.mono hB0.size))
    have HX1 := Lib.hid hX1
    clear hX1
    go_wp2_with fail
    refine HX1.out.mono ?_
    rintro e w2 ⟨rfl, hb2⟩
    have kL2 := kL.below hb2 kL.lt
    have hN2 := hN.below hb2 (Nat.le_refl _)
    have hP2 := hP.below hb2 (Nat.le_refl _)
    have hB2 := below_two2 hb2 hB1
    have y3 := kL2.cell 3
    have y5 := kL2.cell 5
    have u3 := kL2.frozen 3
    have u5 := kL2.frozen 5
    simp at y3 y5
    clear kL hN hP hB1 hb2 d10 d11 d12 d13 HX1
    go_upto_region 3 with fail
    obtain ⟨hk3, kL3⟩ := set_look kL2 3 5 (.int .i64 hh) (.bool hs)
    simp only [List.setIfInBounds_toArray, List.set_cons_zero, List.set_cons_succ] at kL3
    have hN3 := hN2.keepL hk3 kL2 (fun s => by simp)
    have hP3 := hP2.keepL hk3 kL2 (fun s => by simp)
    have hB3 := hB2.trans (hk3.below (fun i hi e => by omega) hB2.size)
    clear kL2 hN2 hP2 hB2 hk3 y3 y5 u3 u5
    generalize (w2.setCell _ _).setCell _ _ = w3 at kL3 hN3 hP3 hB3 ⊢
    obtain ⟨d10, d11, d12, d13, _⟩ := HS.out w3 hB3
    have HX1 := Lib.hid (K4.out w3 (hB0.trans (hB3.mono hB0.size)))
    go_wp2_with fail
    refine HX1.out.mono ?_
    rintro e w4 ⟨rfl, hb4⟩
    have kL4 := kL3.below hb4 kL3.lt
    have hN4 := hN3.below hb4 (Nat.le_refl _)
    have hP4 := hP3.below hb4 (Nat.le_refl _)
    have hB4 := below_two2 hb4 hB3
    have y4 := kL4.cell 4
    have y6 := kL4.cell 6
    have u4 := kL4.frozen 4
    have u6 := kL4.frozen 6
    simp at y4 y6
    clear kL3 hN3 hP3 hB3 hb4 d10 d11 d12 d13 HX1
    go_upto_region 4 with fail
    obtain ⟨hk5, kL5⟩ := set_look kL4 4 6 (.int .i64 kh) (.bool ks)
    simp only [List.setIfInBounds_toArray, List.set_cons_zero, List.set_cons_succ] at kL5
    have hN5 := hN4.keepL hk5 kL4 (fun s => by simp)
    have hP5 := hP4.keepL hk5 kL4 (fun s => by simp)
    have hB5 := hB4.trans (hk5.below (fun i hi e => by omega) hB4.size)
    clear kL4 hN4 hP4 hB4 hk5 y4 y6 u4 u6
    generalize (w4.setCell _ _).setCell _ _ = w5 at kL5 hN5 hP5 hB5 ⊢
    have kR5 := kR.below hB5 kR.lt
    have hBw := hB0.trans (hB5.mono hB0.size)
    have HE := Lib.hid (put_look kR5 hN5 hP5 hBw hBw.size (by omega) (.slice A1 NL.length c1) (.slice A2 PL.length c2) (.bool dd) (.int .i64 hh) (.int .i64 kh) (.bool hs) (.bool ks))
    have l0 := kL5.cell 0
    have l1 := kL5.cell 1
    have l2 := kL5.cell 2
    have l3 := kL5.cell 3
    have l4 := kL5.cell 4
    have l5 := kL5.cell 5
    have l6 := kL5.cell 6
    have r0 := kR5.cell 0
    have r1 := kR5.cell 1
    have r2 := kR5.cell 2
    have r3 := kR5.cell 3
    have r4 := kR5.cell 4
    have r5 := kR5.cell 5
    have r6 := kR5.cell 6
    have q0 := kR5.frozen 0
    have q1 := kR5.frozen 1
    have q2 := kR5.frozen 2
    have q3 := kR5.frozen 3
    have q4 := kR5.frozen 4
    have q5 := kR5.frozen 5
    have q6 := kR5.frozen 6
    simp at l0 l1 l2 l3 l4 l5 l6 r0 r1 r2 r3 r4 r5 r6
    clear kL5 kR5 hN5 hP5 hB5 hBw
    go_wp2_with fail
    obtain ⟨kE, hE1, hE2, hE3⟩ := HE.out
    refine bodyPost_ret (results_cr rfl kE rfl rowLook sizeLook) rfl ?_
    exact ⟨A1, c1, A2, c2, rfl, hE1, hE2, hE3⟩
end Go.Proofs.YtmfjmoicnddkcaaGreatDoor
namespace Go.Proofs.YtmfjmoicnddkcaaGreatDoor
open Go.RowKit Go.Sort

theorem look_ne {v u : List ByteArray × List Int × Bool × (Int × Bool) × (Int × Bool)} : decide (v = u) = (decide (v.1 = u.1) && (decide (v.2.1 = u.2.1) && (decide (v.2.2.1 = u.2.2.1) && (decide (v.2.2.2.1.1 = u.2.2.2.1.1) && (decide (v.2.2.2.1.2 = u.2.2.2.1.2) && (decide (v.2.2.2.2.1 = u.2.2.2.2.1) && decide (v.2.2.2.2.2 = u.2.2.2.2.2))))))) := by
  obtain ⟨a, b, c, ⟨d, e⟩, f, g⟩ := v
  obtain ⟨a', b', c', ⟨d', e'⟩, f', g'⟩ := u
  rw [Bool.eq_iff_iff]
  simp [and_assoc]

set_option maxRecDepth 100000 in
set_option maxHeartbeats 4000000 in
theorem lookIs_any (A1 A2 B1 B2 : Option Addr) (c1 c2 e1 e2 : Nat) (v u : List ByteArray × List Int × Bool × (Int × Bool) × (Int × Bool)) (w : World) (h1 : BStrAt w A1 v.1) (h2 : IntsAt w A2 v.2.1) (k1 : BStrAt w B1 u.1) (k2 : IntsAt w B2 u.2.1) (hl : v.1.length ≤ 60 ∧ v.2.1.length ≤ 60 ∧ u.1.length ≤ 60 ∧ u.2.1.length ≤ 60) :
    Calls Tryz.prog 62 #[lookVal A1 c1 A2 c2 v, lookVal B1 e1 B2 e2 u] w fun e w' => e = .returned (.bool (decide (v = u))) ∧ Below w.heap.size w w' := by
  rw [look_ne]
  obtain ⟨NL, PL, dd, ⟨hh, hs⟩, kh, ks⟩ := v
  obtain ⟨NM, PM, de, ⟨ih, is⟩, jh, js⟩ := u
  unfold lookVal
  dsimp only at h1 h2 k1 k2 hl ⊢
  have HE := Lib.hid (fun W (hW : Below w.heap.size w W) => equalStrs_any A1 B1 c1 e1 NL NM W (h1.below hW (Nat.le_refl _)) (k1.below hW (Nat.le_refl _)) (by unfold maxLen; omega) (by unfold maxLen; omega))
  have HI := Lib.hid (fun W (hW : Below w.heap.size w W) => equalInts_any A2 B2 c2 e2 PL PM W (h2.below hW (Nat.le_refl _)) (k2.below hW (Nat.le_refl _)) (by unfold maxLen; omega) (by unfold maxLen; omega))
  clear h1 h2 k1 k2 hl
  generalize decide (NL = NM) = b1 at HE ⊢
  generalize decide (PL = PM) = b2 at HI ⊢
  have hB0 : Below w.heap.size w ((w.alloc (.cells #[.slice A1 NL.length c1, .slice A2 PL.length c2, .bool dd, .int .i64 hh, .int .i64 kh, .bool hs, .bool ks] 86)).alloc (.cells #[.slice B1 NM.length e1, .slice B2 PM.length e2, .bool de, .int .i64 ih, .int .i64 jh, .bool is, .bool js] 86)) := below_al (below_al (Below.refl _ _) _) _
  have kD := (Blk.new w 86 #[.slice A1 NL.length c1, .slice A2 PL.length c2, .bool dd, .int .i64 hh, .int .i64 kh, .bool hs, .bool ks]).alloc (.cells #[.slice B1 NM.length e1, .slice B2 PM.length e2, .bool de, .int .i64 ih, .int .i64 jh, .bool is, .bool js] 86)
  have kR := Blk.new (w.alloc (.cells #[.slice A1 NL.length c1, .slice A2 PL.length c2, .bool dd, .int .i64 hh, .int .i64 kh, .bool hs, .bool ks] 86)) 86 #[.slice B1 NM.length e1, .slice B2 PM.length e2, .bool de, .int .i64 ih, .int .i64 jh, .bool is, .bool js]
  rw [World.size_alloc] at kR
  go_enter Tryz.func62, Tryz.ntmps62
  go_upto_region 1 with fail
  generalize (w.alloc (.cells _ 86)).alloc (.cells _ 86) = w0 at hB0 kD kR ⊢
  have HX := Lib.hid (HE.out w0 hB0)
  have a0 := kD.cell 0
  have b0 := kR.cell 0
  simp at a0 b0
  go_wp2_with fail
  refine HX.out.mono ?_
  rintro e w1 ⟨rfl, hb1⟩
  have hB1 := below_two2 hb1 hB0
  have kD1 := kD.keep (Keeps.of_new hb1 : Keeps (fun _ => False) w0 w1) (fun h => h)
  have kR1 := kR.keep (Keeps.of_new hb1 : Keeps (fun _ => False) w0 w1) (fun h => h)
  clear a0 b0 HX kD kR hB0 hb1
  cases b1
  · go_wp2_with fail
    go_ret
    exact ⟨by first | rfl | simp, hB1⟩
  · have a1 := kD1.cell 1
    have b1 := kR1.cell 1
    simp at a1 b1
    have HX := Lib.hid (HI.out w1 hB1)
    go_wp2_with fail
    refine HX.out.mono ?_
    rintro e w2 ⟨rfl, hb2⟩
    have hB2 := below_two2 hb2 hB1
    have kD2 := kD1.keep (Keeps.of_new hb2 : Keeps (fun _ => False) w1 w2) (fun h => h)
    have kR2 := kR1.keep (Keeps.of_new hb2 : Keeps (fun _ => False) w1 w2) (fun h => h)
    clear a1 b1 HX kD1 kR1 hB1 hb2
    cases b2
    · go_wp2_with fail
      go_ret
      exact ⟨by first | rfl | simp, hB2⟩
    · have a2 := kD2.cell 2
      have a3 := kD2.cell 3
      have a4 := kD2.cell 4
      have a5 := kD2.cell 5
      have a6 := kD2.cell 6
      have b2 := kR2.cell 2
      have b3 := kR2.cell 3
      have b4 := kR2.cell 4
      have b5 := kR2.cell 5
      have b6 := kR2.cell 6
      simp at a2 a3 a4 a5 a6 b2 b3 b4 b5 b6
      clear kD2 kR2
      by_cases e1 : dd = de
      · by_cases e2 : hh = ih
        · by_cases e3 : hs = is
          · by_cases e4 : kh = jh
            · by_cases e5 : ks = js
              · subst e1 e2 e3 e4 e5
                go_wp2_with fail
                go_ret
                exact ⟨by first | rfl | simp, hB2⟩
              · subst e1 e2 e3 e4
                go_wp2_with fail
                go_ret
                exact ⟨by first | rfl | simp [e5], hB2⟩
            · subst e1 e2 e3
              go_wp2_with fail
              go_ret
              exact ⟨by first | rfl | simp [e4], hB2⟩
          · subst e1 e2
            go_wp2_with fail
            go_ret
            exact ⟨by first | rfl | simp [e3], hB2⟩
        · subst e1
          go_wp2_with fail
          go_ret
          exact ⟨by first | rfl | simp [e2], hB2⟩
      · go_wp2_with fail
        go_ret
        exact ⟨by first | rfl | simp [e1], hB2⟩
end Go.Proofs.YtmfjmoicnddkcaaGreatDoor
