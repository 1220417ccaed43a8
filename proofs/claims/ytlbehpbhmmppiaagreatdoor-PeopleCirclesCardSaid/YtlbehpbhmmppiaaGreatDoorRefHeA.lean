/- The contract of the reference's Heir. Conditions: the list lies in memory. -/
import Derived.Test.YtlbehpbhmmppiaaGreatDoorRefDA
namespace Go.Proofs.YtlbehpbhmmppiaaGreatDoor
open Go.RowKit

def heirE (l : List Ent) (p d : Int) : Int × Bool := match l.reverse.find? (fun x => x.kind == 4 && x.person == p && hld x d) with | some x => (x.other, true) | none => (0, false)
theorem heirE_eq (l : List OEnt) (d p : Int) : heirE (l.map (·.1)) p d = heirOf l d p := by
  unfold heirE heirOf
  have := last_find d (·.other) p 4 l.reverse
  rw [List.reverse_reverse] at this
  rw [this, List.map_reverse]
  rfl

set_option maxHeartbeats 2000000 in
theorem refHeir_any (A : Option Addr) (c : Nat) (l : List Ent) (p d : Int) (w : World) (hL : EntsLie w w.heap.size A l) (hl : l.length ≤ maxLen) :
    Calls Tryz.prog 73 #[.slice A l.length c, .int .i64 p, .int .i64 d] w fun e w' => e = .returned (.tuple #[.int .i64 (heirE l p d).1, .bool (heirE l p d).2]) ∧ Below w.heap.size w w' := by
  unfold maxLen at hl
  have HE : Hid (heirE l p d = match l.reverse.find? (fun x => x.kind == 4 && x.person == p && hld x d) with | some x => (x.other, true) | none => (0, false)) := Lib.hid rfl
  go_enter Tryz.func73, Tryz.ntmps73
  go_wp2_with fail
  go_loopw [8] (fun i wr => ∃ m : Nat, m ≤ l.length ∧ ((m = 0 ∧ i = .int .i64 (-1)) ∨ ∃ k : Nat, m = k + 1 ∧ i = .int .i64 k) ∧ Below w.heap.size w wr ∧ Hid ((l.drop m).any (fun x => x.kind == 4 && x.person == p && hld x d) = false)) (fun i _ => (intOf i + 1).toNat)
  case atStart =>
    refine ⟨l.length, Nat.le_refl _, ?_, Below.refl _ _, Lib.hid (by simp)⟩
    rcases hlz : l.length with _ | k
    · exact .inl ⟨rfl, by go_num⟩
    · exact .inr ⟨k, rfl, by go_num⟩
  case round =>
    obtain ⟨m, hm, hi, hB, H⟩ := hrel
    rcases hi with ⟨rfl, rfl⟩ | ⟨k, rfl, rfl⟩
    · have HN : Hid (heirE l p d = (0, false)) := Lib.hid (by rw [HE.out, rfind_none (by simpa using H.out)])
      go_wp2
      go_ret2
      exact ⟨by rw [HN.out]; rfl, hB⟩
    · obtain ⟨x, hx⟩ : ∃ x, l[k]? = some x := ⟨_, List.getElem?_eq_getElem (by omega)⟩
      have hS := Lib.hid (any_drop_prev hx H.out)
      have hT : Hid ((x.kind == 4 && x.person == p && hld x d) = true → heirE l p d = (x.other, true)) := Lib.hid (fun h => by rw [HE.out, rfind_at (f := fun x => x.kind == 4 && x.person == p && hld x d) hx H.out h])
      have HX := Lib.hid hx
      obtain ⟨b, off, rfl, hb, c0, c1, c2, c3, c4, c5, c6, c7, c8, c9⟩ := (hL.below hB).at hx
      clear hx
      go_wp2_with fail
      refine (refHolds_any x d _).mono ?_
      rintro e w2 ⟨rfl, hb2⟩
      have hB2 := hB.trans (hb2.mono hB.size)
      obtain ⟨b', off', hA, hb', d0, d1, d2, d3, d4, d5, d6, d7, d8, d9⟩ := (hL.below hB2).at HX.out
      cases hA
      clear c0 c1 c2 c3 c4 c5 c6 c7 c8 c9 hb2 hB hb'
      have hrel : Hid ((l.drop k).any (fun x => x.kind == 4 && x.person == p && hld x d) = false) → ∃ m : Nat, m ≤ l.length ∧ ((m = 0 ∧ Value.int .i64 ((k : Int) - 1) = .int .i64 (-1)) ∨ ∃ k' : Nat, m = k' + 1 ∧ Value.int .i64 ((k : Int) - 1) = .int .i64 k') ∧ Below w.heap.size w w2 ∧ Hid ((l.drop m).any (fun x => x.kind == 4 && x.person == p && hld x d) = false) := fun h => by
        refine ⟨k, by omega, ?_, hB2, h⟩
        rcases k with _ | k
        · exact .inl ⟨rfl, by simp⟩
        · exact .inr ⟨k, rfl, by congr 1; omega⟩
      by_cases hk1 : x.kind = 4
      · rw [hk1] at d1
        by_cases hk2 : x.person = p
        · rw [hk2] at d4
          cases hh : hld x d
          · have HN := hrel (Lib.hid (by rw [hS.out]; simp [hh]))
            have HNN := Lib.hid HN
            clear hk1 hk2 hh hrel HN
            go_wp2
            go_roundw
            case rel => exact HNN.out
            case measure => simp [intOf]
          · have HT := Lib.hid (hT.out (by simp [hk1, hk2, hh]))
            clear hk1 hk2 hh hrel
            go_wp2
            go_ret2
            exact ⟨by rw [HT.out]; rfl, hB2⟩
        · have HN := Lib.hid (hrel (Lib.hid (by rw [hS.out]; simp [hk2])))
          clear hk1 hrel
          go_wp2
          go_roundw
          case rel => exact HN.out
          case measure => simp [intOf]
      · have HN := Lib.hid (hrel (Lib.hid (by rw [hS.out]; simp [hk1])))
        clear hrel
        go_wp2
        go_roundw
        case rel => exact HN.out
        case measure => simp [intOf]
end Go.Proofs.YtlbehpbhmmppiaaGreatDoor
