/- The contract of the reference's added, exactly; what is true of lists that are made by it. Conditions: the list lies in memory. The contracts of the reference's Places, dwelling and Dwellers, exactly; of its SameInts and SamePairs at equal lists. Conditions: the list lies in memory and has at most 60 entries. -/
import Derived.Test.YtlbehpbhmmppiaaGreatDoorIntA
import Derived.Test.YtlbehpbhmmppiaaGreatDoorSetKA
namespace Go.Proofs.YtlbehpbhmmppiaaGreatDoor
open Go.RowKit

/-- A list with one more number. -/
def addI : List Int → Int → List Int
  | [], n => [n]
  | x :: m, n => if n ≤ x then (if n = x then x :: m else n :: x :: m) else x :: addI m n
theorem addI_mem (m : List Int) (n z : Int) : z ∈ addI m n ↔ z = n ∨ z ∈ m := by
  induction m with
  | nil => simp [addI]
  | cons x m ih =>
    unfold addI
    split
    · split
      · rename_i h; subst h; simp
      · simp
    · rw [List.mem_cons, ih, List.mem_cons]
      constructor
      · rintro (h | h | h) <;> simp [h]
      · rintro (h | h | h) <;> simp [h]
theorem addI_sorted {m : List Int} (h : m.Pairwise (· < ·)) (n : Int) : (addI m n).Pairwise (· < ·) := by
  induction m with
  | nil => simp [addI]
  | cons x m ih =>
    have hx := List.pairwise_cons.1 h
    unfold addI
    split
    · split
      · exact h
      · rename_i h1 h2
        refine List.pairwise_cons.2 ⟨fun z hz => ?_, h⟩
        rcases List.mem_cons.1 hz with rfl | hz
        · omega
        · have := hx.1 z hz
          omega
    · rename_i h1
      refine List.pairwise_cons.2 ⟨fun z hz => ?_, ih hx.2⟩
      rcases (addI_mem m n z).1 hz with rfl | hz
      · omega
      · exact hx.1 z hz
theorem addI_len (m : List Int) (n : Int) : (addI m n).length ≤ m.length + 1 := by
  induction m with
  | nil => simp [addI]
  | cons x m ih =>
    unfold addI
    split
    · split <;> simp
    · simpa using ih
/-- The numbers of some entries, in order. -/
def addL (f : Ent → Bool) (g : Ent → Int) (l : List Ent) : List Int := l.foldl (fun q y => if f y = true then addI q (g y) else q) []
theorem addL_next {f : Ent → Bool} {g : Ent → Int} {l : List Ent} {k : Nat} {x : Ent} (hx : l[k]? = some x) : addL f g (l.take (k + 1)) = if f x = true then addI (addL f g (l.take k)) (g x) else addL f g (l.take k) := by
  unfold addL
  rw [List.take_add_one, hx]
  simp [List.foldl_append]
theorem addL_all (f : Ent → Bool) (g : Ent → Int) (l : List Ent) : (addL f g l).Pairwise (· < ·) ∧ (∀ z, z ∈ addL f g l ↔ ∃ y ∈ l, f y = true ∧ g y = z) ∧ (addL f g l).length ≤ l.length := by
  suffices h : ∀ (l : List Ent) (q : List Int), q.Pairwise (· < ·) → (l.foldl (fun q y => if f y = true then addI q (g y) else q) q).Pairwise (· < ·) ∧ (∀ z, z ∈ l.foldl (fun q y => if f y = true then addI q (g y) else q) q ↔ z ∈ q ∨ ∃ y ∈ l, f y = true ∧ g y = z) ∧ (l.foldl (fun q y => if f y = true then addI q (g y) else q) q).length ≤ q.length + l.length by
    have h1 := h l [] List.Pairwise.nil
    refine ⟨h1.1, fun z => (h1.2.1 z).trans (by simp), by have h2 := h1.2.2; unfold addL; simpa using h2⟩
  intro l
  induction l with
  | nil => intro q hq; exact ⟨hq, fun z => by simp, by simp⟩
  | cons y l ih =>
    intro q hq
    rw [List.foldl_cons]
    by_cases hf : f y = true
    · rw [if_pos hf]
      obtain ⟨h1, h2, h3⟩ := ih (addI q (g y)) (addI_sorted hq _)
      refine ⟨h1, fun z => ?_, by have := addI_len q (g y); rw [List.length_cons]; omega⟩
      rw [h2 z, addI_mem]
      constructor
      · rintro ((rfl | h) | ⟨u, hu, hu2⟩)
        · exact .inr ⟨y, List.mem_cons_self .., hf, rfl⟩
        · exact .inl h
        · exact .inr ⟨u, List.mem_cons_of_mem _ hu, hu2⟩
      · rintro (h | ⟨u, hu, hu1, hu2⟩)
        · exact .inl (.inr h)
        · rcases List.mem_cons.1 hu with rfl | hu
          · exact .inl (.inl hu2.symm)
          · exact .inr ⟨u, hu, hu1, hu2⟩
    · rw [if_neg hf]
      obtain ⟨h1, h2, h3⟩ := ih q hq
      refine ⟨h1, fun z => ?_, by rw [List.length_cons]; omega⟩
      rw [h2 z]
      constructor
      · rintro (h | ⟨u, hu, hu2⟩)
        · exact .inl h
        · exact .inr ⟨u, List.mem_cons_of_mem _ hu, hu2⟩
      · rintro (h | ⟨u, hu, hu1, hu2⟩)
        · exact .inl h
        · rcases List.mem_cons.1 hu with rfl | hu
          · exact absurd hu1 hf
          · exact .inr ⟨u, hu, hu1, hu2⟩
/-- Lists in strictly ascending order that hold the same numbers are equal. -/
theorem sorted_eq {α : Type} {lt : α → α → Prop} (hirr : ∀ x, ¬ lt x x) (has : ∀ x y, lt x y → ¬ lt y x) : ∀ {l m : List α}, l.Pairwise lt → m.Pairwise lt → (∀ z, z ∈ l ↔ z ∈ m) → l = m
  | [], [], _, _, _ => rfl
  | [], y :: m, _, _, h => by have := (h y).2 (List.mem_cons_self ..); simp at this
  | x :: l, [], _, _, h => by have := (h x).1 (List.mem_cons_self ..); simp at this
  | x :: l, y :: m, hl, hm, h => by
    have h1 := List.pairwise_cons.1 hl
    have h2 := List.pairwise_cons.1 hm
    obtain rfl : x = y := by
      rcases List.mem_cons.1 ((h x).1 (List.mem_cons_self ..)) with e | e
      · exact e
      · rcases List.mem_cons.1 ((h y).2 (List.mem_cons_self ..)) with e' | e'
        · exact e'.symm
        · exact absurd (h1.1 y e') (has _ _ (h2.1 x e))
    rw [sorted_eq hirr has h1.2 h2.2 (fun z => by
      have hz := h z
      rw [List.mem_cons, List.mem_cons] at hz
      constructor
      · intro h3
        rcases hz.1 (.inr h3) with rfl | h4
        · exact absurd (h1.1 z h3) (hirr z)
        · exact h4
      · intro h3
        rcases hz.2 (.inr h3) with rfl | h4
        · exact absurd (h2.1 z h3) (hirr z)
        · exact h4)]

end Go.Proofs.YtlbehpbhmmppiaaGreatDoor
namespace Go.Proofs.YtlbehpbhmmppiaaGreatDoor
open Go.RowKit

def placesE (l : List Ent) (p d : Int) : List Int := if deadE l p d = true then [] else addL (dwellE p d) (·.place) l
def dwellsK (y : Ent) : Bool := y.kind == 2
theorem placesE_len (l : List Ent) (p d : Int) : (placesE l p d).length ≤ l.length := by
  unfold placesE
  split
  · simp
  · exact (addL_all _ _ _).2.2

theorem filter_next {f : Int → Bool} {q : List Int} {k : Nat} {x : Int} (hx : q[k]? = some x) : (q.take (k + 1)).filter f = (q.take k).filter f ++ (if f x = true then [x] else []) := by
  rw [List.take_add_one, hx, List.filter_append]
  simp [List.filter_cons]

set_option maxRecDepth 100000 in
set_option maxHeartbeats 2000000 in
theorem samePairs_eq (A1 A2 : Option Addr) (c1 c2 : Nat) (q : List (Int × Int)) (hq : q.length ≤ 1000) (w : World) (h1 : PairsAt w A1 q) (h2 : PairsAt w A2 q) :
    Calls Tryz.prog 9 #[.slice A1 q.length c1, .slice A2 q.length c2] w fun e w' => e = .returned (.bool true) ∧ Below w.heap.size w w' := by
  go_enter Tryz.func9, Tryz.ntmps9
  go_wp2_with fail
  go_loopw [5] (fun i wr => ∃ k : Nat, k ≤ q.length ∧ i = .int .i64 k ∧ (∃ n, wr = w.drewN n)) (fun i _ => q.length - (intOf i).toNat)
  case atStart => exact ⟨0, Nat.zero_le _, rfl, ⟨0, rfl⟩⟩
  case round =>
    obtain ⟨k, hk, rfl, ⟨n, rfl⟩⟩ := hrel
    by_cases hlt : k < q.length
    · obtain ⟨x, hx⟩ : ∃ x, q[k]? = some x := ⟨_, List.getElem?_eq_getElem hlt⟩
      obtain ⟨g1, hA1, hg1, c0, c1'⟩ := h1 k x hx
      obtain ⟨g2, hA2, hg2, d0, d1'⟩ := h2 k x hx
      subst hA1
      subst hA2
      have hne := neCand x x
      rw [decide_eq_true rfl] at hne
      have hng := fun a b => noGuardCand .neq a b x x
      unfold candVal at hne hng
      clear hx h1 h2
      go_wp2_with fail
      go_quiet (fail)
      go_wp2_with fail
      go_roundw
      case rel => exact ⟨k + 1, by omega, by go_num, by first | exact ⟨_, rfl⟩ | exact ⟨_, drewN_two _ _ _⟩⟩
      case measure => simp [intOf]; omega
    · go_wp2_with fail
      go_ret
      exact ⟨rfl, below_dr (Below.refl _ _) n⟩
end Go.Proofs.YtlbehpbhmmppiaaGreatDoor
