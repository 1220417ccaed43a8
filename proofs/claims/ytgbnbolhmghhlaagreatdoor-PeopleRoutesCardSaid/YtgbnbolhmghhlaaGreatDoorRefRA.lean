/- The contract of the reference's Refuses. Conditions: the list lies in memory. -/
import Derived.Test.YtgbnbolhmghhlaaGreatDoorRefDA
namespace Go.Proofs.YtgbnbolhmghhlaaGreatDoor
open Go.RowKit

set_option maxRecDepth 100000 in
set_option maxHeartbeats 8000000 in
theorem refRefuses_any (A : Option Addr) (c : Nat) (l : List Ent) (cp : Int × Int) (s d : Int) (w : World) (hL : EntsLie w w.heap.size A l) (hl : l.length ≤ maxLen) :
    Calls Tryz.prog 14 #[.slice A l.length c, candVal cp, .int .i64 s, .int .i64 d] w fun e w' => e = .returned (.bool (refusE l cp s d)) ∧ Below w.heap.size w w' := by
  obtain ⟨p, q⟩ := cp
  have hd : ∀ W, Below w.heap.size w W → _ := fun W (hW : Below w.heap.size w W) => refDead_any A c l p d W (hL.up hW hW.size) hl
  unfold maxLen at hl
  unfold candVal
  go_enter Tryz.func14, Tryz.ntmps14
  go_wp2_with fail
  refine (hd _ (by (repeat (first | (with_reducible exact Below.refl _ _) | (with_reducible assumption) | (with_reducible refine below_al ?_ _) | (with_reducible refine below_se' ?_ ?_ _; · (first | omega | (simp <;> omega))) | (with_reducible refine below_dr ?_ _) | (with_reducible refine below_d1 ?_) | (exact Below.refl _ _) | assumption)))).mono ?_
  rintro e w1 ⟨rfl, hb1⟩
  have hB1 : Below w.heap.size w w1 := Below.trans (by (repeat (first | (with_reducible exact Below.refl _ _) | (with_reducible assumption) | (with_reducible refine below_al ?_ _) | (with_reducible refine below_se' ?_ ?_ _; · (first | omega | (simp <;> omega))) | (with_reducible refine below_dr ?_ _) | (with_reducible refine below_d1 ?_) | (exact Below.refl _ _) | assumption))) (hb1.mono (by simp))
  have kC := Blk.below (Blk.new w _ _) hb1 (by simp)
  clear hd hb1
  cases hdd : deadE l p d
  · have HE : Hid (refusE l (p, q) s d = l.any fun x => x.kind == 7 && refuseB p q s x && hld x d) := Lib.hid (by unfold refusE; rw [hdd]; rfl)
    clear hdd
    go_wp2_with fail
    go_loopw [10] (fun i wr => ∃ k : Nat, k ≤ l.length ∧ i = .int .i64 k ∧ Below w.heap.size w wr ∧ Blk wr w.heap.size 24 #[.int .i64 p, .int .i64 q] ∧ Hid ((l.take k).any (fun x => x.kind == 7 && refuseB p q s x && hld x d) = false)) (fun i _ => l.length - (intOf i).toNat)
    case atStart => exact ⟨0, Nat.zero_le _, rfl, hB1, kC, Lib.hid rfl⟩
    case round =>
      clear kC
      obtain ⟨k, hk, rfl, hB, kC, H⟩ := hrel
      by_cases hlt : k < l.length
      · obtain ⟨x, hx⟩ : ∃ x, l[k]? = some x := ⟨_, List.getElem?_eq_getElem hlt⟩
        have hS := Lib.hid (any_take_next hx H.out)
        have hT : Hid ((x.kind == 7 && refuseB p q s x && hld x d) = true → refusE l (p, q) s d = true) := Lib.hid (fun h => by rw [HE.out]; exact any_of_in (f := fun x => x.kind == 7 && refuseB p q s x && hld x d) hx h)
        have hH := fun W => refHolds_any x d W
        obtain ⟨b, off, rfl, hb, c0, c1, c2, c3, c4, c5, c6, c7, c8, c9⟩ := (hL.below hB).at hx
        clear hx
        unfold entVal at hH
        go_wp2_with fail
        refine (hH _).mono ?_
        rintro e w2 ⟨rfl, hb2⟩
        have hB2 : Below w.heap.size w w2 := (below_al hB _).trans (hb2.mono (below_al hB _).size)
        have kX : EntAt w2 wr.heap.size x := Blk.below (Blk.new wr _ _) hb2 (by simp)
        replace kC := Blk.below (kC.alloc _) hb2 (by have := kC.lt; simp; omega)
        have hz := Blk.lt kX
        clear hH hb2 hB c0 c1 c2 c3 c4 c5 c6 c7 c8 c9
        obtain ⟨d0, d1, d2, d3, d4, d5, d6, d7, d8, d9, _⟩ := kX.cells
        have e0 := kC.cell 0
        have e1 := kC.cell 1
        simp at e0 e1
        by_cases hk7 : x.kind = 7
        · rw [hk7] at d1
          by_cases hp : x.person = p
          · rw [hp] at d4
            by_cases hq : x.place = 0
            · rw [hq] at d5
              by_cases ho : x.other = 0
              · rw [ho] at d6
                cases hh : hld x d
                · have HN : Hid ((l.take (k + 1)).any (fun x => x.kind == 7 && refuseB p q s x && hld x d) = false) := Lib.hid (by rw [hS.out]; simp [refuseB, hh])
                  clear hk7 hp hq ho hh
                  go_wp2
                  go_roundw
                  case rel => exact ⟨k + 1, by omega, by go_num, hB2, kC, HN⟩
                  case measure => simp [intOf]; omega
                · have HT := Lib.hid (hT.out (by simp [refuseB, hh, hk7, hp, hq, ho]))
                  clear hk7 hp hq ho hh
                  go_wp2
                  go_ret
                  exact ⟨ret_bool HT.out.symm, hB2⟩
              · by_cases ho2 : x.other = s
                · rw [ho2] at d6
                  have hs0 : ¬ s = 0 := fun h => ho (ho2.trans h)
                  cases hh : hld x d
                  · have HN : Hid ((l.take (k + 1)).any (fun x => x.kind == 7 && refuseB p q s x && hld x d) = false) := Lib.hid (by rw [hS.out]; simp [refuseB, hh])
                    clear hk7 hp hq ho ho2 hh
                    go_wp2
                    go_roundw
                    case rel => exact ⟨k + 1, by omega, by go_num, hB2, kC, HN⟩
                    case measure => simp [intOf]; omega
                  · have HT := Lib.hid (hT.out (by simp [refuseB, hh, hk7, hp, hq, ho2]))
                    clear hk7 hp hq ho ho2 hh
                    go_wp2
                    go_ret
                    exact ⟨ret_bool HT.out.symm, hB2⟩
                · have HN : Hid ((l.take (k + 1)).any (fun x => x.kind == 7 && refuseB p q s x && hld x d) = false) := Lib.hid (by rw [hS.out]; simp [refuseB, ho, ho2])
                  clear hk7 hp hq
                  go_wp2
                  go_roundw
                  case rel => exact ⟨k + 1, by omega, by go_num, hB2, kC, HN⟩
                  case measure => simp [intOf]; omega
            · by_cases hq2 : x.place = q
              · rw [hq2] at d5
                have hq0 : ¬ q = 0 := fun h => hq (hq2.trans h)
                by_cases ho : x.other = 0
                · rw [ho] at d6
                  cases hh : hld x d
                  · have HN : Hid ((l.take (k + 1)).any (fun x => x.kind == 7 && refuseB p q s x && hld x d) = false) := Lib.hid (by rw [hS.out]; simp [refuseB, hh])
                    clear hk7 hp hq hq2 ho hh
                    go_wp2
                    go_roundw
                    case rel => exact ⟨k + 1, by omega, by go_num, hB2, kC, HN⟩
                    case measure => simp [intOf]; omega
                  · have HT := Lib.hid (hT.out (by simp [refuseB, hh, hk7, hp, hq2, ho]))
                    clear hk7 hp hq hq2 ho hh
                    go_wp2
                    go_ret
                    exact ⟨ret_bool HT.out.symm, hB2⟩
                · by_cases ho2 : x.other = s
                  · rw [ho2] at d6
                    have hs0 : ¬ s = 0 := fun h => ho (ho2.trans h)
                    cases hh : hld x d
                    · have HN : Hid ((l.take (k + 1)).any (fun x => x.kind == 7 && refuseB p q s x && hld x d) = false) := Lib.hid (by rw [hS.out]; simp [refuseB, hh])
                      clear hk7 hp hq hq2 ho ho2 hh
                      go_wp2
                      go_roundw
                      case rel => exact ⟨k + 1, by omega, by go_num, hB2, kC, HN⟩
                      case measure => simp [intOf]; omega
                    · have HT := Lib.hid (hT.out (by simp [refuseB, hh, hk7, hp, hq2, ho2]))
                      clear hk7 hp hq hq2 ho ho2 hh
                      go_wp2
                      go_ret
                      exact ⟨ret_bool HT.out.symm, hB2⟩
                  · have HN : Hid ((l.take (k + 1)).any (fun x => x.kind == 7 && refuseB p q s x && hld x d) = false) := Lib.hid (by rw [hS.out]; simp [refuseB, ho, ho2])
                    clear hk7 hp hq hq2
                    go_wp2
                    go_roundw
                    case rel => exact ⟨k + 1, by omega, by go_num, hB2, kC, HN⟩
                    case measure => simp [intOf]; omega
              · have HN : Hid ((l.take (k + 1)).any (fun x => x.kind == 7 && refuseB p q s x && hld x d) = false) := Lib.hid (by rw [hS.out]; simp [refuseB, hq, hq2])
                clear hk7 hp
                go_wp2
                go_roundw
                case rel => exact ⟨k + 1, by omega, by go_num, hB2, kC, HN⟩
                case measure => simp [intOf]; omega
          · have HN : Hid ((l.take (k + 1)).any (fun x => x.kind == 7 && refuseB p q s x && hld x d) = false) := Lib.hid (by rw [hS.out]; simp [refuseB, hp])
            clear hk7
            go_wp2
            go_roundw
            case rel => exact ⟨k + 1, by omega, by go_num, hB2, kC, HN⟩
            case measure => simp [intOf]; omega
        · have HN : Hid ((l.take (k + 1)).any (fun x => x.kind == 7 && refuseB p q s x && hld x d) = false) := Lib.hid (by rw [hS.out]; simp [refuseB, hk7])
          go_wp2
          go_roundw
          case rel => exact ⟨k + 1, by omega, by go_num, hB2, kC, HN⟩
          case measure => simp [intOf]; omega
      · have HN : Hid (refusE l (p, q) s d = false) := Lib.hid (by have h := H.out; rw [List.take_of_length_le (by omega)] at h; rw [HE.out]; exact h)
        go_wp2
        go_ret
        exact ⟨ret_bool HN.out.symm, hB⟩
  · have HE : Hid (refusE l (p, q) s d = false) := Lib.hid (by unfold refusE; rw [hdd]; rfl)
    clear hdd
    go_wp2_with fail
    go_loopw [10] (fun i wr => ∃ k : Nat, k ≤ l.length ∧ i = .int .i64 k ∧ Below w.heap.size w wr) (fun i _ => l.length - (intOf i).toNat)
    case atStart => exact ⟨0, Nat.zero_le _, rfl, hB1⟩
    case round =>
      obtain ⟨k, hk, rfl, hB⟩ := hrel
      by_cases hlt : k < l.length
      · go_wp2
        go_ret
        exact ⟨ret_bool HE.out.symm, hB⟩
      · go_wp2
        go_ret
        exact ⟨ret_bool HE.out.symm, hB⟩
end Go.Proofs.YtgbnbolhmghhlaaGreatDoor
