/- The contract of the reference's added, exactly; what is true of lists that are made by it. Conditions: the list lies in memory. The contracts of the reference's Places, dwelling and Dwellers, exactly; of its SameInts and SamePairs at equal lists. Conditions: the list lies in memory and has at most 60 entries. The contract of the reference's Pairs, exactly. Conditions: the list lies in memory and has at most 60 entries. -/
import Derived.Test.YtmfjmoicnddkcaaGreatDoorIntA
import Derived.Test.YtmfjmoicnddkcaaGreatDoorSetKA
import Derived.Test.YtmfjmoicnddkcaaGreatDoorSetSA
import Derived.Deep.RegionLaw
namespace Go.Proofs.YtmfjmoicnddkcaaGreatDoor
open Go.RowKit

/-- A list with one more number. -/
def addI : List Int → Int → List Int
  | [], n => [n]
  | x :: m, n => if n ≤ x then (if n = x then x :: m else n :: x :: m) else x :: addI m n
theorem addI_mem (m : List Int) (n z : Int) : z ∈ addI m n ↔ z = n ∨ z ∈ m := by
  induction m with
  | nil => simp [addI]
  | cons x m ih =>
    unfold addI
    split
    · split
      · rename_i h; subst h; simp
      · simp
    · rw [List.mem_cons, ih, List.mem_cons]
      constructor
      · rintro (h | h | h) <;> simp [h]
      · rintro (h | h | h) <;> simp [h]
theorem addI_sorted {m : List Int} (h : m.Pairwise (· < ·)) (n : Int) : (addI m n).Pairwise (· < ·) := by
  induction m with
  | nil => simp [addI]
  | cons x m ih =>
    have hx := List.pairwise_cons.1 h
    unfold addI
    split
    · split
      · exact h
      · rename_i h1 h2
        refine List.pairwise_cons.2 ⟨fun z hz => ?_, h⟩
        rcases List.mem_cons.1 hz with rfl | hz
        · omega
        · have := hx.1 z hz
          omega
    · rename_i h1
      refine List.pairwise_cons.2 ⟨fun z hz => ?_, ih hx.2⟩
      rcases (addI_mem m n z).1 hz with rfl | hz
      · omega
      · exact hx.1 z hz
theorem addI_len (m : List Int) (n : Int) : (addI m n).length ≤ m.length + 1 := by
  induction m with
  | nil => simp [addI]
  | cons x m ih =>
    unfold addI
    split
    · split <;> simp
    · simpa using ih
/-- The numbers of some entries, in order. -/
def addL (f : Ent → Bool) (g : Ent → Int) (l : List Ent) : List Int := l.foldl (fun q y => if f y = true then addI q (g y) else q) []
theorem addL_next {f : Ent → Bool} {g : Ent → Int} {l : List Ent} {k : Nat} {x : Ent} (hx : l[k]? = some x) : addL f g (l.take (k + 1)) = if f x = true then addI (addL f g (l.take k)) (g x) else addL f g (l.take k) := by
  unfold addL
  rw [List.take_add_one, hx]
  simp [List.foldl_append]
theorem addL_all (f : Ent → Bool) (g : Ent → Int) (l : List Ent) : (addL f g l).Pairwise (· < ·) ∧ (∀ z, z ∈ addL f g l ↔ ∃ y ∈ l, f y = true ∧ g y = z) ∧ (addL f g l).length ≤ l.length := by
  suffices h : ∀ (l : List Ent) (q : List Int), q.Pairwise (· < ·) → (l.foldl (fun q y => if f y = true then addI q (g y) else q) q).Pairwise (· < ·) ∧ (∀ z, z ∈ l.foldl (fun q y => if f y = true then addI q (g y) else q) q ↔ z ∈ q ∨ ∃ y ∈ l, f y = true ∧ g y = z) ∧ (l.foldl (fun q y => if f y = true then addI q (g y) else q) q).length ≤ q.length + l.length by
    have h1 := h l [] List.Pairwise.nil
    refine ⟨h1.1, fun z => (h1.2.1 z).trans (by simp), by have h2 := h1.2.2; unfold addL; simpa using h2⟩
  intro l
  induction l with
  | nil => intro q hq; exact ⟨hq, fun z => by simp, by simp⟩
  | cons y l ih =>
    intro q hq
    rw [List.foldl_cons]
    by_cases hf : f y = true
    · rw [if_pos hf]
      obtain ⟨h1, h2, h3⟩ := ih (addI q (g y)) (addI_sorted hq _)
      refine ⟨h1, fun z => ?_, by have := addI_len q (g y); rw [List.length_cons]; omega⟩
      rw [h2 z, addI_mem]
      constructor
      · rintro ((rfl | h) | ⟨u, hu, hu2⟩)
        · exact .inr ⟨y, List.mem_cons_self .., hf, rfl⟩
        · exact .inl h
        · exact .inr ⟨u, List.mem_cons_of_mem _ hu, hu2⟩
      · rintro (h | ⟨u, hu, hu1, hu2⟩)
        · exact .inl (.inr h)
        · rcases List.mem_cons.1 hu with rfl | hu
          · exact .inl (.inl hu2.symm)
          · exact .inr ⟨u, hu, hu1, hu2⟩
    · rw [if_neg hf]
      obtain ⟨h1, h2, h3⟩ := ih q hq
      refine ⟨h1, fun z => ?_, by rw [List.length_cons]; omega⟩
      rw [h2 z]
      constructor
      · rintro (h | ⟨u, hu, hu2⟩)
        · exact .inl h
        · exact .inr ⟨u, List.mem_cons_of_mem _ hu, hu2⟩
      · rintro (h | ⟨u, hu, hu1, hu2⟩)
        · exact .inl h
        · rcases List.mem_cons.1 hu with rfl | hu
          · exact absurd hu1 hf
          · exact .inr ⟨u, hu, hu1, hu2⟩
/-- Lists in strictly ascending order that hold the same numbers are equal. -/
theorem sorted_eq {α : Type} {lt : α → α → Prop} (hirr : ∀ x, ¬ lt x x) (has : ∀ x y, lt x y → ¬ lt y x) : ∀ {l m : List α}, l.Pairwise lt → m.Pairwise lt → (∀ z, z ∈ l ↔ z ∈ m) → l = m
  | [], [], _, _, _ => rfl
  | [], y :: m, _, _, h => by have := (h y).2 (List.mem_cons_self ..); simp at this
  | x :: l, [], _, _, h => by have := (h x).1 (List.mem_cons_self ..); simp at this
  | x :: l, y :: m, hl, hm, h => by
    have h1 := List.pairwise_cons.1 hl
    have h2 := List.pairwise_cons.1 hm
    obtain rfl : x = y := by
      rcases List.mem_cons.1 ((h x).1 (List.mem_cons_self ..)) with e | e
      · exact e
      · rcases List.mem_cons.1 ((h y).2 (List.mem_cons_self ..)) with e' | e'
        · exact e'.symm
        · exact absurd (h1.1 y e') (has _ _ (h2.1 x e))
    rw [sorted_eq hirr has h1.2 h2.2 (fun z => by
      have hz := h z
      rw [List.mem_cons, List.mem_cons] at hz
      constructor
      · intro h3
        rcases hz.1 (.inr h3) with rfl | h4
        · exact absurd (h1.1 z h3) (hirr z)
        · exact h4
      · intro h3
        rcases hz.2 (.inr h3) with rfl | h4
        · exact absurd (h2.1 z h3) (hirr z)
        · exact h4)]

set_option maxRecDepth 100000 in
set_option maxHeartbeats 4000000 in
theorem refAddX_any (A : Option Addr) (c : Nat) (m : List Int) (n : Int) (hm : m.length ≤ 1000) (w : World) (hA : IntsAt w A m) :
    Calls Tryz.prog 48 #[.slice A m.length c, .int .i64 n] w fun e w' => ∃ v, e = .returned v ∧ OwnI w' w.heap.size v (addI m n) ∧ Below w.heap.size w w' := by
  go_enter Tryz.func48, Tryz.ntmps48
  go_wp2_with fail
  go_loopw [5, 6, 7] (fun v b i wr => ∃ (k : Nat) (bb : Bool) (q : List Int), k ≤ m.length ∧ i = .int .i64 k ∧ b = .bool bb ∧ OwnI wr w.heap.size v q ∧ Hid (q ++ (if bb = true then m.drop k else addI (m.drop k) n) = addI m n) ∧ q.length ≤ k + bb.toNat ∧ Below w.heap.size w wr) (fun _ _ i _ => m.length - (intOf i).toNat)
  case atStart => exact ⟨0, false, [], Nat.zero_le _, rfl, rfl, OwnI.nil _ _, Lib.hid (by simp), by simp, Below.refl _ _⟩
  case round =>
    obtain ⟨k, bb, q, hk, rfl, rfl, hO, HQ, hq, hB⟩ := hrel
    obtain ⟨A', c', rfl⟩ := hO.shape
    have hown := hO.own_lt
    by_cases hlt : k < m.length
    · obtain ⟨x, hx⟩ : ∃ x, m[k]? = some x := ⟨_, List.getElem?_eq_getElem hlt⟩
      obtain ⟨g, hAg, hg, hc⟩ := hA k x hx
      subst hAg
      have hcw := (hB.cell (p := ⟨g, k, none⟩) hg).trans hc
      have HT : Hid (m.drop k = x :: m.drop (k + 1)) := Lib.hid (by rw [List.drop_eq_getElem_cons hlt]; congr 1; rw [List.getElem?_eq_getElem hlt] at hx; exact Option.some.inj hx)
      have hgw : g < wr.heap.size := Nat.lt_of_lt_of_le hg hB.size
      have hql : q.length ≤ 2000 := by cases bb <;> simp at hq <;> omega
      cases bb
      · by_cases hle : n ≤ x
        · obtain ⟨v1, w1, hrun1, hO1, hk1⟩ := append_int hO n hB.size (by omega) 30
          obtain ⟨A1, c1, rfl⟩ := hO1.shape
          have hB1 : Below w.heap.size w w1 := hB.trans (hk1.below (fun i h1 h2 => by have := hown i h2; omega) hB.size)
          have hown1 := hO1.own_lt
          have hl1 : (q ++ [n]).length = q.length + 1 := by simp
          have hc1 := (hB1.cell (p := ⟨g, k, none⟩) hg).trans hc
          have hg1 : g < w1.heap.size := Nat.lt_of_lt_of_le hg hB1.size
          by_cases he : n = x
          · subst he
            have HE : Hid (q ++ [n] ++ (if (true : Bool) = true then m.drop (k + 1) else addI (m.drop (k + 1)) n) = addI m n) := Lib.hid (by have h := HQ.out; rw [HT.out] at h; simpa [addI] using h)
            have HL : Hid ((q ++ [n]).length ≤ k + 1 + (true : Bool).toNat) := Lib.hid (by simp at hq ⊢; omega)
            rw [hl1] at hrun1
            have HO1 : Hid (OwnI w1 w.heap.size (.slice A1 (q.length + 1) c1) (q ++ [n])) := Lib.hid (by rw [← hl1]; exact hO1)
            clear hl1
            clear hx hk1 hO hown hO1 hq HQ HT
            go_wp2_with (first | (at_builtin; refine Lib.wpList_append_run _ rfl _ _ _ _ rfl _ _ rfl rfl _ _ hrun1 ?_))
            go_roundw
            case rel => exact ⟨k + 1, true, _, by omega, by go_num, rfl, HO1.out, HE, HL.out, hB1⟩
            case measure => simp [intOf]; omega
          · obtain ⟨v2, w2, hrun2, hO2, hk2⟩ := append_int hO1 x hB1.size (by rw [List.length_append]; simp only [List.length_cons, List.length_nil]; omega) 30
            rw [hl1] at hrun1 hrun2
            clear hl1
            have hB2 : Below w.heap.size w w2 := hB1.trans (hk2.below (fun i h1 h2 => by have := hown1 i h2; omega) hB1.size)
            have HE : Hid (q ++ [n] ++ [x] ++ (if (true : Bool) = true then m.drop (k + 1) else addI (m.drop (k + 1)) n) = addI m n) := Lib.hid (by have h := HQ.out; rw [HT.out] at h; simpa [addI, hle, he] using h)
            have HL : Hid ((q ++ [n] ++ [x]).length ≤ k + 1 + (true : Bool).toNat) := Lib.hid (by simp at hq ⊢; omega)
            have HO2 := Lib.hid hO2
            clear hx hk1 hO hown hO1 hq HQ HT hk2 hown1 hO2
            go_wp2_with (first | (at_builtin; refine Lib.wpList_append_run _ rfl _ _ _ _ rfl _ _ rfl rfl _ _ hrun1 ?_) | (at_builtin; refine Lib.wpList_append_run _ rfl _ _ _ _ rfl _ _ rfl rfl _ _ hrun2 ?_))
            go_roundw
            case rel => exact ⟨k + 1, true, _, by omega, by go_num, rfl, HO2.out, HE, HL.out, hB2⟩
            case measure => simp [intOf]; omega
        · obtain ⟨v2, w2, hrun2, hO2, hk2⟩ := append_int hO x hB.size (by omega) 30
          have hB2 : Below w.heap.size w w2 := hB.trans (hk2.below (fun i h1 h2 => by have := hown i h2; omega) hB.size)
          have HE : Hid (q ++ [x] ++ (if (false : Bool) = true then m.drop (k + 1) else addI (m.drop (k + 1)) n) = addI m n) := Lib.hid (by have h := HQ.out; rw [HT.out] at h; simpa [addI, hle] using h)
          have HL : Hid ((q ++ [x]).length ≤ k + 1 + (false : Bool).toNat) := Lib.hid (by simp at hq ⊢; omega)
          have HO2 := Lib.hid hO2
          clear hx hO hown hq HQ HT hk2 hO2
          go_wp2_with (first | (at_builtin; refine Lib.wpList_append_run _ rfl _ _ _ _ rfl _ _ rfl rfl _ _ hrun2 ?_))
          go_roundw
          case rel => exact ⟨k + 1, false, _, by omega, by go_num, rfl, HO2.out, HE, HL.out, hB2⟩
          case measure => simp [intOf]; omega
      · obtain ⟨v2, w2, hrun2, hO2, hk2⟩ := append_int hO x hB.size (by omega) 30
        have hB2 : Below w.heap.size w w2 := hB.trans (hk2.below (fun i h1 h2 => by have := hown i h2; omega) hB.size)
        have HE : Hid (q ++ [x] ++ (if (true : Bool) = true then m.drop (k + 1) else addI (m.drop (k + 1)) n) = addI m n) := Lib.hid (by have h := HQ.out; rw [HT.out] at h; simpa using h)
        have HL : Hid ((q ++ [x]).length ≤ k + 1 + (true : Bool).toNat) := Lib.hid (by simp at hq ⊢; omega)
        have HO2 := Lib.hid hO2
        clear hx hO hown hq HQ HT hk2 hO2
        go_wp2_with (first | (at_builtin; refine Lib.wpList_append_run _ rfl _ _ _ _ rfl _ _ rfl rfl _ _ hrun2 ?_))
        go_roundw
        case rel => exact ⟨k + 1, true, _, by omega, by go_num, rfl, HO2.out, HE, HL.out, hB2⟩
        case measure => simp [intOf]; omega
    · obtain rfl : k = m.length := by omega
      have HQ' : Hid ((bb = true → q = addI m n) ∧ (bb = false → q ++ [n] = addI m n)) := Lib.hid (by
        have h := HQ.out
        rw [List.drop_length] at h
        constructor
        · intro hb
          subst hb
          simpa using h
        · intro hb
          subst hb
          simpa [addI] using h)
      clear HQ
      cases bb
      · obtain ⟨v2, w2, hrun2, hO2, hk2⟩ := append_int hO n hB.size (by simp at hq; omega) 30
        have hB2 : Below w.heap.size w w2 := hB.trans (hk2.below (fun i h1 h2 => by have := hown i h2; omega) hB.size)
        have HO2 := Lib.hid hO2
        clear hO hown hk2 hO2
        go_wp2_with (first | (at_builtin; refine Lib.wpList_append_run _ rfl _ _ _ _ rfl _ _ rfl rfl _ _ hrun2 ?_))
        go_ret
        exact ⟨_, rfl, by rw [← HQ'.out.2 (by first | rfl | trivial)]; exact HO2.out, hB2⟩
      · have HO2 := Lib.hid hO
        clear hO hown
        go_wp2_with fail
        go_ret
        exact ⟨_, rfl, by rw [← HQ'.out.1 (by first | rfl | trivial)]; exact HO2.out, hB⟩
end Go.Proofs.YtmfjmoicnddkcaaGreatDoor
namespace Go.Proofs.YtmfjmoicnddkcaaGreatDoor
open Go.RowKit

def placesE (l : List Ent) (p d : Int) : List Int := if deadE l p d = true then [] else addL (dwellE p d) (·.place) l
def dwellsK (y : Ent) : Bool := y.kind == 2
theorem placesE_len (l : List Ent) (p d : Int) : (placesE l p d).length ≤ l.length := by
  unfold placesE
  split
  · simp
  · exact (addL_all _ _ _).2.2

set_option maxRecDepth 100000 in
set_option maxHeartbeats 4000000 in
theorem refPlacesX_any (A : Option Addr) (c : Nat) (l : List Ent) (p d : Int) (w : World) (hL : EntsLie w w.heap.size A l) (h60 : l.length ≤ 60) :
    Calls Tryz.prog 24 #[.slice A l.length c, .int .i64 p, .int .i64 d] w fun e w' => ∃ v, e = .returned v ∧ OwnI w' w.heap.size v (placesE l p d) ∧ Below w.heap.size w w' := by
  have hd := refDead_any A c l p d w hL (by unfold maxLen; omega)
  have HP : Hid (placesE l p d = if deadE l p d = true then [] else addL (dwellE p d) (·.place) l) := Lib.hid rfl
  generalize placesE l p d = R at HP ⊢
  obtain ⟨dd, hdd⟩ : ∃ x, deadE l p d = x := ⟨_, rfl⟩
  rw [hdd] at hd HP
  clear hdd
  go_enter Tryz.func24, Tryz.ntmps24
  go_wp2_with fail
  refine hd.mono ?_
  rintro e w1 ⟨rfl, hb1⟩
  clear hd
  cases dd
  rotate_left
  · have HR : Hid (R = []) := Lib.hid HP.out
    go_wp2_with fail
    go_ret
    exact ⟨_, rfl, by rw [HR.out]; exact OwnI.nil _ _, hb1⟩
  · have HR : Hid (R = addL (dwellE p d) (·.place) l) := Lib.hid HP.out
    clear HP
    go_wp2_with fail
    go_loopw [8, 9] (fun v i wr => ∃ (k : Nat) (q : List Int), k ≤ l.length ∧ i = .int .i64 k ∧ OwnI wr w.heap.size v q ∧ Hid (q = addL (dwellE p d) (·.place) (l.take k)) ∧ Below w.heap.size w wr) (fun _ i _ => l.length - (intOf i).toNat)
    case atStart => exact ⟨0, [], Nat.zero_le _, rfl, OwnI.nil _ _, Lib.hid rfl, hb1⟩
    case round =>
      obtain ⟨k, q, hk, rfl, hO, HQ, hB⟩ := hrel
      by_cases hlt : k < l.length
      · obtain ⟨x, hx⟩ : ∃ x, l[k]? = some x := ⟨_, List.getElem?_eq_getElem hlt⟩
        have HX := Lib.hid hx
        have HS := Lib.hid (addL_next (f := dwellE p d) (g := (·.place)) hx)
        obtain ⟨b, off, rfl, hb, c0, c1, c2, c3, c4, c5, c6, c7, c8, c9⟩ := (hL.below hB).at hx
        clear hx
        go_wp2_with fail
        refine (refHolds_any x d _).mono ?_
        rintro e w2 ⟨rfl, hb2⟩
        have hB2 := hB.trans (hb2.mono hB.size)
        have hO2 := hO.below hb2
        obtain ⟨b', off', hA, hb', d0, d1, d2, d3, d4, d5, d6, d7, d8, d9⟩ := (hL.below hB2).at HX.out
        cases hA
        clear c0 c1 c2 c3 c4 c5 c6 c7 c8 c9 hb2 hB hb' hO
        have hno : dwellE p d x = false → Hid (q = addL (dwellE p d) (·.place) (l.take (k + 1))) := fun h => Lib.hid (by rw [HS.out, h, HQ.out]; rfl)
        have hHQ := HQ
        by_cases hk1 : x.kind = 2
        · rw [hk1] at d1
          by_cases hk2 : x.person = p
          · rw [hk2] at d4
            cases hh : hld x d
            · have HN := hno (by unfold dwellE; simp [hh])
              clear hk1 hk2 hh hno hHQ
              go_wp2
              go_roundw
              case rel => exact ⟨k + 1, q, by omega, by go_num, hO2, HN, hB2⟩
              case measure => simp [intOf]; omega
            · have hy : dwellE p d x = true := by unfold dwellE; simp [hk1, hk2, hh]
              have HN : Hid (addI q x.place = addL (dwellE p d) (·.place) (l.take (k + 1))) := Lib.hid (by rw [HS.out, hy, hHQ.out]; rfl)
              have hql : q.length ≤ 60 := by
                rw [hHQ.out]
                have := (addL_all (dwellE p d) (·.place) (l.take k)).2.2
                rw [List.length_take] at this
                omega
              clear hk1 hk2 hh hno hHQ hy
              obtain ⟨A2, cc, rfl⟩ := hO2.shape
              have HA := Lib.hid (refAddX_any A2 cc q x.place (by omega) w2 hO2.at)
              go_wp2_with fail
              refine HA.out.mono ?_
              rintro e w3 ⟨v3, rfl, hO3, hb3⟩
              have hB3 := hB2.trans (hb3.mono hB2.size)
              have hO4 := hO3.mono hB2.size
              clear hb3 hO3 HA hO2 d0 d1 d2 d3 d4 d5 d6 d7 d8 d9 hB2 HQ HS HX
              go_wp2_with fail
              go_roundw
              case rel => exact ⟨k + 1, _, by omega, by go_num, hO4, HN, hB3⟩
              case measure => simp [intOf]; omega
          · have HN := hno (by unfold dwellE; simp [hk2])
            clear hk1 hno hHQ
            go_wp2
            go_roundw
            case rel => exact ⟨k + 1, q, by omega, by go_num, hO2, HN, hB2⟩
            case measure => simp [intOf]; omega
        · have HN := hno (by unfold dwellE; simp [hk1])
          clear hno hHQ
          go_wp2
          go_roundw
          case rel => exact ⟨k + 1, q, by omega, by go_num, hO2, HN, hB2⟩
          case measure => simp [intOf]; omega
      · obtain rfl : k = l.length := by omega
        have HN : Hid (R = q) := Lib.hid (by rw [HR.out, HQ.out, List.take_length])
        go_wp2_with fail
        go_ret
        exact ⟨_, rfl, by rw [HN.out]; exact hO, hB⟩

set_option maxRecDepth 100000 in
set_option maxHeartbeats 4000000 in
theorem refDwelling_any (A : Option Addr) (c : Nat) (l : List Ent) (w : World) (hL : EntsLie w w.heap.size A l) (h60 : l.length ≤ 60) :
    Calls Tryz.prog 56 #[.slice A l.length c] w fun e w' => ∃ v, e = .returned v ∧ OwnI w' w.heap.size v (addL dwellsK (·.person) l) ∧ Below w.heap.size w w' := by
  have HP : Hid (addL dwellsK (·.person) l = addL dwellsK (·.person) l) := Lib.hid rfl
  generalize hR : addL dwellsK (·.person) l = R at HP ⊢
  have HR := Lib.hid hR.symm
  clear hR HP
  go_enter Tryz.func56, Tryz.ntmps56
  go_wp2_with fail
  go_loopw [3, 4] (fun v i wr => ∃ (k : Nat) (q : List Int), k ≤ l.length ∧ i = .int .i64 k ∧ OwnI wr w.heap.size v q ∧ Hid (q = addL dwellsK (·.person) (l.take k)) ∧ Below w.heap.size w wr) (fun _ i _ => l.length - (intOf i).toNat)
  case atStart => exact ⟨0, [], Nat.zero_le _, rfl, OwnI.nil _ _, Lib.hid rfl, Below.refl _ _⟩
  case round =>
    obtain ⟨k, q, hk, rfl, hO, HQ, hB⟩ := hrel
    by_cases hlt : k < l.length
    · obtain ⟨x, hx⟩ : ∃ x, l[k]? = some x := ⟨_, List.getElem?_eq_getElem hlt⟩
      have HS := Lib.hid (addL_next (f := dwellsK) (g := (·.person)) hx)
      obtain ⟨b, off, rfl, hb, c0, c1, c2, c3, c4, c5, c6, c7, c8, c9⟩ := (hL.below hB).at hx
      clear hx
      by_cases hk1 : x.kind = 2
      · have HN : Hid (addI q x.person = addL dwellsK (·.person) (l.take (k + 1))) := Lib.hid (by rw [HS.out, HQ.out]; simp [dwellsK, hk1])
        rw [hk1] at c1
        have hql : q.length ≤ 60 := by
          rw [HQ.out]
          have := (addL_all dwellsK (·.person) (l.take k)).2.2
          rw [List.length_take] at this
          omega
        obtain ⟨A2, cc, rfl⟩ := hO.shape
        have HA := Lib.hid (refAddX_any A2 cc q x.person (by omega) wr hO.at)
        clear hk1 HS HQ hO
        go_wp2_with fail
        refine HA.out.mono ?_
        rintro e w3 ⟨v3, rfl, hO3, hb3⟩
        have hB3 := hB.trans (hb3.mono hB.size)
        have hO4 := hO3.mono hB.size
        clear hb3 hO3 HA c0 c1 c2 c3 c4 c5 c6 c7 c8 c9 hB
        go_wp2_with fail
        go_roundw
        case rel => exact ⟨k + 1, _, by omega, by go_num, hO4, HN, hB3⟩
        case measure => simp [intOf]; omega
      · have HN : Hid (q = addL dwellsK (·.person) (l.take (k + 1))) := Lib.hid (by rw [HS.out, HQ.out]; simp [dwellsK, hk1])
        go_wp2
        go_roundw
        case rel => exact ⟨k + 1, q, by omega, by go_num, hO, HN, hB⟩
        case measure => simp [intOf]; omega
    · obtain rfl : k = l.length := by omega
      have HN : Hid (R = q) := Lib.hid (by rw [HR.out, HQ.out, List.take_length])
      go_wp2_with fail
      go_ret
      exact ⟨_, rfl, by rw [HN.out]; exact hO, hB⟩

theorem filter_next {f : Int → Bool} {q : List Int} {k : Nat} {x : Int} (hx : q[k]? = some x) : (q.take (k + 1)).filter f = (q.take k).filter f ++ (if f x = true then [x] else []) := by
  rw [List.take_add_one, hx, List.filter_append]
  simp [List.filter_cons]

set_option maxRecDepth 100000 in
set_option maxHeartbeats 4000000 in
theorem refDwellers_any (A : Option Addr) (c : Nat) (l : List Ent) (n d : Int) (w : World) (hL : EntsLie w w.heap.size A l) (h60 : l.length ≤ 60) :
    Calls Tryz.prog 28 #[.slice A l.length c, .int .i64 n, .int .i64 d] w fun e w' => ∃ v, e = .returned v ∧ OwnI w' w.heap.size v ((addL dwellsK (·.person) l).filter fun y => livE l (y, n) d) ∧ Below w.heap.size w w' := by
  have H1 := Lib.hid (refDwelling_any A c l w hL h60)
  have h2 : ∀ (y : Int) W, Below w.heap.size w W → _ := fun (y : Int) W (hW : Below w.heap.size w W) => refLives_any A c l (y, n) d W (hL.up hW hW.size) h60
  have hal := (addL_all dwellsK (·.person) l).2.2
  generalize addL dwellsK (·.person) l = all at H1 hal ⊢
  unfold candVal at h2
  dsimp only at h2
  obtain ⟨f, hf⟩ : ∃ f : Int → Bool, ∀ y, livE l (y, n) d = f y := ⟨_, fun _ => rfl⟩
  rw [show (fun y => livE l (y, n) d) = f from funext hf]
  simp only [hf] at h2
  have H2 := Lib.hid h2
  clear h2 hf hL
  go_enter Tryz.func28, Tryz.ntmps28
  go_wp2_with fail
  refine H1.out.mono ?_
  rintro e w1 ⟨v1, rfl, hO1, hb1⟩
  obtain ⟨A1, c1, rfl⟩ := hO1.shape
  have hI1 := hO1.at
  clear hO1 H1
  go_wp2_with fail
  go_loopw [8, 9] (fun v i wr => ∃ (k : Nat) (q : List Int), k ≤ all.length ∧ i = .int .i64 k ∧ OwnI wr w1.heap.size v q ∧ Hid (q = (all.take k).filter f) ∧ Below w1.heap.size w1 wr) (fun _ i _ => all.length - (intOf i).toNat)
  case atStart => exact ⟨0, [], Nat.zero_le _, rfl, OwnI.nil _ _, Lib.hid (by simp), Below.refl _ _⟩
  case round =>
    obtain ⟨k, q, hk, rfl, hO, HQ, hB⟩ := hrel
    by_cases hlt : k < all.length
    · obtain ⟨x, hx⟩ : ∃ x, all[k]? = some x := ⟨_, List.getElem?_eq_getElem hlt⟩
      have HS := Lib.hid (filter_next (f := f) hx)
      have HX := Lib.hid hx
      obtain ⟨g, hA1, hg, c0⟩ := (hI1.below hB (Nat.le_refl _)) k x hx
      subst hA1
      clear hx
      have h2 := Lib.hid (H2.out x wr (hb1.trans (hB.mono hb1.size)))
      generalize hfx : f x = fx at h2
      have HFX := Lib.hid hfx
      clear hfx
      go_wp2_with fail
      refine h2.out.mono ?_
      rintro e w2 ⟨rfl, hb2⟩
      have hB2 := hB.trans (hb2.mono hB.size)
      have hO2 := hO.below hb2
      obtain ⟨g', hA', hg', d0⟩ := (hI1.below hB2 (Nat.le_refl _)) k x HX.out
      cases hA'
      clear c0 hg hb2 hB hO h2
      cases fx
      · have HN : Hid (q = (all.take (k + 1)).filter f) := Lib.hid (by rw [HS.out, HFX.out, HQ.out]; simp)
        go_wp2_with fail
        go_roundw
        case rel => exact ⟨k + 1, q, by omega, by go_num, hO2, HN, hB2⟩
        case measure => simp [intOf]; omega
      · have HN : Hid (q ++ [x] = (all.take (k + 1)).filter f) := Lib.hid (by rw [HS.out, HFX.out, HQ.out]; simp)
        have hql : q.length ≤ 60 := by
          rw [HQ.out]
          have h1 := List.length_filter_le f (all.take k)
          rw [List.length_take] at h1
          omega
        obtain ⟨v', w3, hrun, hO3, hk3⟩ := append_int hO2 x hB2.size (by omega) 30
        have hown := hO2.own_lt
        obtain ⟨A3, c3, hv⟩ := hO3.shape
        subst hv
        obtain ⟨A4, c4, hv4⟩ := hO2.shape
        subst hv4
        have HO : Hid (OwnI w3 w1.heap.size (.slice A3 (q.length + 1) c3) (q ++ [x])) := Lib.hid (by have h := hO3; rw [List.length_append] at h; exact h)
        have HB : Hid (Below w1.heap.size w1 w3) := Lib.hid (hB2.trans (hk3.below (fun i h1 h2 => by have := (hown i h2).1; omega) hB2.size))
        rw [List.length_append] at hrun
        simp only [List.length_cons, List.length_nil] at hrun
        simp only [Nat.zero_add] at hrun
        clear hO2 hO3 hk3 HQ HS HX hown HFX hql
        go_wp2_with (at_builtin; refine Lib.wpList_append_run _ rfl _ _ _ _ rfl _ _ rfl rfl _ _ hrun ?_)
        go_roundw
        case rel => exact ⟨k + 1, _, by omega, by go_num, HO.out, HN, HB.out⟩
        case measure => simp [intOf]; omega
    · obtain rfl : k = all.length := by omega
      have HN : Hid (all.filter f = q) := Lib.hid (by rw [HQ.out, List.take_length])
      go_wp2_with fail
      go_ret
      exact ⟨_, rfl, by rw [HN.out]; exact hO.mono hb1.size, hb1.trans (hB.mono hb1.size)⟩

set_option maxRecDepth 100000 in
set_option maxHeartbeats 2000000 in
theorem sameInts_eq (A1 A2 : Option Addr) (c1 c2 : Nat) (q : List Int) (hq : q.length ≤ 1000) (w : World) (h1 : IntsAt w A1 q) (h2 : IntsAt w A2 q) :
    Calls Tryz.prog 15 #[.slice A1 q.length c1, .slice A2 q.length c2] w fun e w' => e = .returned (.bool true) ∧ Below w.heap.size w w' := by
  go_enter Tryz.func15, Tryz.ntmps15
  go_wp2_with fail
  go_loopw [5] (fun i wr => ∃ k : Nat, k ≤ q.length ∧ i = .int .i64 k ∧ (∃ n, wr = w.drewN n)) (fun i _ => q.length - (intOf i).toNat)
  case atStart => exact ⟨0, Nat.zero_le _, rfl, ⟨0, rfl⟩⟩
  case round =>
    obtain ⟨k, hk, rfl, ⟨n, rfl⟩⟩ := hrel
    by_cases hlt : k < q.length
    · obtain ⟨x, hx⟩ : ∃ x, q[k]? = some x := ⟨_, List.getElem?_eq_getElem hlt⟩
      obtain ⟨g1, hA1, hg1, c0⟩ := h1 k x hx
      obtain ⟨g2, hA2, hg2, d0⟩ := h2 k x hx
      subst hA1
      subst hA2
      clear hx h1 h2
      go_wp2_with fail
      go_quiet (fail)
      go_wp2_with fail
      go_roundw
      case rel => exact ⟨k + 1, by omega, by go_num, by first | exact ⟨_, rfl⟩ | exact ⟨_, drewN_two _ _ _⟩⟩
      case measure => simp [intOf]; omega
    · go_wp2_with fail
      go_ret
      exact ⟨rfl, below_dr (Below.refl _ _) n⟩

set_option maxRecDepth 100000 in
set_option maxHeartbeats 2000000 in
theorem samePairs_eq (A1 A2 : Option Addr) (c1 c2 : Nat) (q : List (Int × Int)) (hq : q.length ≤ 1000) (w : World) (h1 : PairsAt w A1 q) (h2 : PairsAt w A2 q) :
    Calls Tryz.prog 29 #[.slice A1 q.length c1, .slice A2 q.length c2] w fun e w' => e = .returned (.bool true) ∧ Below w.heap.size w w' := by
  go_enter Tryz.func29, Tryz.ntmps29
  go_wp2_with fail
  go_loopw [5] (fun i wr => ∃ k : Nat, k ≤ q.length ∧ i = .int .i64 k ∧ (∃ n, wr = w.drewN n)) (fun i _ => q.length - (intOf i).toNat)
  case atStart => exact ⟨0, Nat.zero_le _, rfl, ⟨0, rfl⟩⟩
  case round =>
    obtain ⟨k, hk, rfl, ⟨n, rfl⟩⟩ := hrel
    by_cases hlt : k < q.length
    · obtain ⟨x, hx⟩ : ∃ x, q[k]? = some x := ⟨_, List.getElem?_eq_getElem hlt⟩
      obtain ⟨g1, hA1, hg1, c0, c1'⟩ := h1 k x hx
      obtain ⟨g2, hA2, hg2, d0, d1'⟩ := h2 k x hx
      subst hA1
      subst hA2
      have hne := neCand x x
      rw [decide_eq_true rfl] at hne
      have hng := fun a b => noGuardCand .neq a b x x
      unfold candVal at hne hng
      clear hx h1 h2
      go_wp2_with fail
      go_quiet (fail)
      go_wp2_with fail
      go_roundw
      case rel => exact ⟨k + 1, by omega, by go_num, by first | exact ⟨_, rfl⟩ | exact ⟨_, drewN_two _ _ _⟩⟩
      case measure => simp [intOf]; omega
    · go_wp2_with fail
      go_ret
      exact ⟨rfl, below_dr (Below.refl _ _) n⟩
end Go.Proofs.YtmfjmoicnddkcaaGreatDoor
namespace Go.Proofs.YtmfjmoicnddkcaaGreatDoor
open Go.RowKit

/-- The pairs of some persons with the places where they live. -/
def pairsE (l : List Ent) (d : Int) (q : List Int) : List (Int × Int) := q.flatMap fun n => (placesE l n d).map fun p => (n, p)
theorem pairs_next {l : List Ent} {d : Int} {q : List Int} {k : Nat} {x : Int} (hx : q[k]? = some x) : pairsE l d (q.take (k + 1)) = pairsE l d (q.take k) ++ (placesE l x d).map fun p => (x, p) := by
  unfold pairsE
  rw [List.take_add_one, hx]
  simp
theorem row_next {n : Int} {pl : List Int} {j : Nat} {y : Int} (hy : pl[j]? = some y) : (pl.take (j + 1)).map (fun p => (n, p)) = (pl.take j).map (fun p => (n, p)) ++ [(n, y)] := by
  rw [List.take_add_one, hy]
  simp
theorem OwnC.pairs {w : World} {base : Nat} {A : Option Addr} {c : Nat} {q : List (Int × Int)} (h : OwnC w base (.slice A q.length c) q) : PairsAt w A q := fun k x hx => by
  have hl := h.own_lt
  have hk := (List.getElem?_eq_some_iff.1 hx).1
  rcases h.2 with ⟨h1, h2⟩ | ⟨g, cap, cur, h1, hb, hg, h3, h4, h5, h6⟩
  · omega
  · simp only [Value.slice.injEq] at h1
    obtain ⟨rfl, _, rfl⟩ := h1
    have ht : ∀ j, j < 2 → cur[k * 2 + j]? = (candCells x)[j]? := fun j hj => by
      have h7 : (cur.toList.take (q.length * 2))[k * 2 + j]? = (q.flatMap candCells)[k * 2 + j]? := by rw [h6]
      rw [List.getElem?_take_of_lt (by omega), flatC_at q k x hx j hj] at h7
      rw [← Array.getElem?_toList]
      exact h7
    refine ⟨g, rfl, (hl g rfl).2, ?_, ?_⟩
    · have := ht 0 (by omega)
      simp [World.cell?, hg]
      simpa [candCells] using this
    · have := ht 1 (by omega)
      simp [World.cell?, hg]
      simpa [candCells] using this
/-- append in a region that draws its order, its run known. -/
theorem step_append_run {P : Program} {ops : Array Oper} {o : Oper} {a : Act} {w : World} {K : Act → World → Prop} {Q : Exit → Act → World → Prop} {E : Prop}
    (hg : o.guard = none) (s x : Operand) (t : TypeId) (hop : o.op = Op.call { callee := Callee.builtin Builtin.append, args := #[s, x], argTypes := #[t, t] }) {v' : Value} {w' : World}
    (hrun : (Builtin.append_ #[t, t] o.type #[a.eval s, a.eval x]).run P w = .ok v' w') (hK : K (a.put o.dst v') w') :
    if Region.wanted o (yielded ops a.tmps) = true then Oper.wp P o a w K Q else E := by
  have hw : Region.wanted o (yielded ops a.tmps) = true := by simp [Region.wanted, hg]
  rw [if_pos hw]
  unfold Oper.wp
  simp [execOp, hop, resolve, invoke, builtin, hrun, Result.andThen]
  exact hK
theorem OwnI.cells {w : World} {base : Nat} {v : Value} {l : List Int} (h : OwnI w base v l) : ∀ k, v.ownBlock = some k → ∃ cs, w.heap[k]? = some (.cells cs 3 (0, 0)) := fun k hk => by
  rcases h.2 with ⟨rfl, _⟩ | ⟨g, cap, cur, rfl, _, hg, _⟩
  · simp [Value.ownBlock] at hk
  · simp [Value.ownBlock] at hk
    subst hk
    exact ⟨cur, hg⟩
theorem OwnI.keepO {S : Nat → Prop} {w w' : World} {base : Nat} {v : Value} {l : List Int} (h : OwnI w base v l) (hk : Keeps S w w') (hs : ∀ g, v.ownBlock = some g → ¬ S g) : OwnI w' base v l := by
  have hlt := h.own_lt
  unfold OwnI at h ⊢
  refine ⟨h.1, ?_⟩
  rcases h.2 with h0 | ⟨g, cap, cur, rfl, hb, hg, rest⟩
  · exact .inl h0
  · exact .inr ⟨g, cap, cur, rfl, hb, (hk.block g (hlt g rfl).2 (hs g rfl)).trans hg, rest⟩

set_option maxRecDepth 100000 in
set_option maxHeartbeats 4000000 in
theorem refPairs_any (A : Option Addr) (c : Nat) (l : List Ent) (d : Int) (w : World) (hL : EntsLie w w.heap.size A l) (h60 : l.length ≤ 60) (hT : (pairsE l d (addL dwellsK (·.person) l)).length ≤ 60) :
    Calls Tryz.prog 31 #[.slice A l.length c, .int .i64 d] w fun e w' => ∃ A' c', e = .returned (.slice A' (pairsE l d (addL dwellsK (·.person) l)).length c') ∧ PairsAt w' A' (pairsE l d (addL dwellsK (·.person) l)) ∧ Below w.heap.size w w' := by
  have H1 := Lib.hid (refDwelling_any A c l w hL h60)
  have H2 : Hid (∀ (y : Int) W, Below w.heap.size w W → _) := Lib.hid fun (y : Int) W (hW : Below w.heap.size w W) => refPlacesX_any A c l y d W (hL.up hW hW.size) h60
  have H4 : Hid (∀ y, (placesE l y d).length ≤ 60) := Lib.hid fun y => Nat.le_trans (placesE_len l y d) h60
  have hal := Nat.le_trans (addL_all dwellsK (·.person) l).2.2 h60
  generalize addL dwellsK (·.person) l = all at H1 hal hT ⊢
  have HPre : Hid (∀ k, (pairsE l d (all.take k)).length ≤ 60) := Lib.hid fun k => by
    have h1 : pairsE l d all = pairsE l d (all.take k) ++ pairsE l d (all.drop k) := by
      unfold pairsE
      rw [← List.flatMap_append, List.take_append_drop]
    rw [h1, List.length_append] at hT
    omega
  have HN1 : Hid (∀ k x, all[k]? = some x → pairsE l d (all.take (k + 1)) = pairsE l d (all.take k) ++ (placesE l x d).map fun p => (x, p)) := Lib.hid fun k x hx => pairs_next hx
  have H0 : Hid (pairsE l d (all.take 0) = []) := Lib.hid (by simp [pairsE])
  obtain ⟨pl, hpl⟩ : ∃ pl : Int → List Int, ∀ y, placesE l y d = pl y := ⟨_, fun _ => rfl⟩
  obtain ⟨pe, hpe⟩ : ∃ pe : List Int → List (Int × Int), ∀ q, pairsE l d q = pe q := ⟨_, fun _ => rfl⟩
  simp only [hpl, hpe] at H2 H4 HPre HN1 H0 ⊢
  clear hT hpl hpe hL
  go_enter Tryz.func31, Tryz.ntmps31
  go_wp2_with fail
  refine H1.out.mono ?_
  rintro e w1 ⟨v1, rfl, hO1, hb1⟩
  obtain ⟨A1, c1, rfl⟩ := hO1.shape
  have hI1 := hO1.at
  clear hO1 H1
  go_wp2_with fail
  go_loopw [6, 7] (fun v i wr => ∃ (k : Nat) (q : List (Int × Int)), k ≤ all.length ∧ i = .int .i64 k ∧ OwnC wr w1.heap.size v q ∧ Hid (q = pe (all.take k)) ∧ Below w1.heap.size w1 wr) (fun _ i _ => all.length - (intOf i).toNat)
  case atStart => exact ⟨0, [], Nat.zero_le _, rfl, OwnC.nil _ _, Lib.hid H0.out.symm, Below.refl _ _⟩
  case round =>
    obtain ⟨k, q, hk, rfl, hO, HQ, hB⟩ := hrel
    by_cases hlt : k < all.length
    · obtain ⟨x, hx⟩ : ∃ x, all[k]? = some x := ⟨_, List.getElem?_eq_getElem hlt⟩
      have HS := Lib.hid (HN1.out k x hx)
      have HX := Lib.hid hx
      obtain ⟨g, hA1, hg, c0⟩ := (hI1.below hB (Nat.le_refl _)) k x hx
      subst hA1
      clear hx
      have h2 := Lib.hid (H2.out x wr (hb1.trans (hB.mono hb1.size)))
      go_wp2_with fail
      refine h2.out.mono ?_
      rintro e w2 ⟨v2, rfl, hP2, hb2⟩
      obtain ⟨A2, c2, rfl⟩ := hP2.shape
      have hl2 := H4.out x
      generalize hplx : pl x = px at hP2 hl2 HS ⊢
      have hB2 := hB.trans (hb2.mono hB.size)
      have hO2 := hO.below hb2
      have hP3 := hP2.mono hB.size
      clear hP2 c0 hg hb2 hB hO h2 hplx
      go_wp2_with fail
      go_loopw [6, 9] (fun v i wr => ∃ (j : Nat) (q2 : List (Int × Int)), j ≤ px.length ∧ i = .int .i64 j ∧ OwnC wr w1.heap.size v q2 ∧ Hid (q2 = q ++ (px.take j).map fun p => (x, p)) ∧ Below w1.heap.size w1 wr ∧ OwnI wr w1.heap.size (.slice A2 px.length c2) px) (fun _ i _ => px.length - (intOf i).toNat)
      case atStart => exact ⟨0, q, Nat.zero_le _, rfl, hO2, Lib.hid (by simp), hB2, hP3⟩
      case round =>
        obtain ⟨j, q2, hj, rfl, hO, HQ2, hB, hP⟩ := hrel
        by_cases hlt2 : j < px.length
        · obtain ⟨y, hy⟩ : ∃ y, px[j]? = some y := ⟨_, List.getElem?_eq_getElem hlt2⟩
          have HN : Hid (q2 ++ [(x, y)] = q ++ (px.take (j + 1)).map fun p => (x, p)) := Lib.hid (by rw [HQ2.out, row_next hy, List.append_assoc])
          have hql : q2.length ≤ 120 := by
            have h1 := HPre.out k
            rw [← HQ.out] at h1
            rw [HQ2.out, List.length_append, List.length_map, List.length_take]
            omega
          obtain ⟨g2, hA2, hg2, d0⟩ := hP.at j y hy
          subst hA2
          obtain ⟨g', hA', hg', c0⟩ := (hI1.below hB (Nat.le_refl _)) k x HX.out
          cases hA'
          obtain ⟨v', w3, hrun, hO3, hk3⟩ := append_cand (w := wr.drew) (show OwnC wr.drew w1.heap.size _ q2 from hO) (x, y) hB.drew.size (by omega) 42
          have hown := hO.own_lt
          have hcc := hO.cells
          have hci := hP.cells
          have hP3 := (show OwnI wr.drew w1.heap.size _ px from hP).keepO hk3 (fun g h1 h2 => by
            obtain ⟨cs, h3⟩ := hci g h1
            obtain ⟨cs', h4⟩ := hcc g h2
            rw [h3] at h4
            simp at h4)
          obtain ⟨A3, c3, hv⟩ := hO3.shape
          subst hv
          obtain ⟨A4, c4, hv4⟩ := hO.shape
          subst hv4
          have HO : Hid (OwnC w3 w1.heap.size (.slice A3 (q2.length + 1) c3) (q2 ++ [(x, y)])) := Lib.hid (by have h := hO3; rw [List.length_append] at h; exact h)
          have HB : Hid (Below w1.heap.size w1 w3) := Lib.hid (hB.drew.trans (hk3.below (fun i h1 h2 => by have := (hown i h2).1; omega) hB.drew.size))
          have HP3 : Hid (OwnI w3 w1.heap.size (.slice (some ⟨g2, 0, none⟩) px.length c2) px) := Lib.hid hP3
          rw [List.length_append] at hrun
          simp only [List.length_cons, List.length_nil] at hrun
          simp only [Nat.zero_add] at hrun
          have HRun : Hid ((Builtin.append_ #[42, 42] 42 #[.slice A4 q2.length c4, .slice (some ⟨wr.heap.size, 0, none⟩) 1 1]).run Tryz.prog ((wr.alloc (.cells #[.int .i64 x, .int .i64 y] 38)).drew) = .ok (.slice A3 (q2.length + 1) c3) w3) := Lib.hid hrun
          clear hO hO3 hk3 hP HQ HQ2 HS HX hown hcc hci hP3 hql hy hB hI1 hB2 hO2 hrun
          go_upto_region 10 with fail
          go_region_law (refine step_append_run rfl (.tmp 31) (.tmp 41) 42 rfl HRun.out ?_)
          all_goals
            go_wp2_with fail
            go_roundw
            case rel => exact ⟨j + 1, _, by omega, by go_num, HO.out, HN, HB.out, HP3.out⟩
            case measure => simp [intOf]; omega
        · obtain rfl : j = px.length := by omega
          have HN : Hid (q2 = pe (all.take (k + 1))) := Lib.hid (by rw [HS.out, HQ2.out, List.take_length, HQ.out])
          clear HQ HQ2 HS HX hP
          go_wp2_with fail
          go_roundw
          case rel => exact ⟨k + 1, q2, by omega, by go_num, hO, HN, hB⟩
          case measure => simp [intOf]; omega
    · obtain rfl : k = all.length := by omega
      have HN : Hid (pe all = q) := Lib.hid (by rw [HQ.out, List.take_length])
      obtain ⟨A3, c3, rfl⟩ := hO.shape
      have HP := Lib.hid hO.pairs
      clear hO
      go_wp2_with fail
      go_ret
      exact ⟨A3, c3, by rw [HN.out]; rfl, by rw [HN.out]; exact HP.out, hb1.trans (hB.mono hb1.size)⟩
end Go.Proofs.YtmfjmoicnddkcaaGreatDoor
