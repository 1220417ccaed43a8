/- Circles of a step that goes from one thing to at most one other, as lists: what they are, that a list is one, that one head has one circle, what a walk finds. No conditions. All circles of a step, each from its least pair on, in ascending order: what one walk adds, that walks from all targets find them all, that there is one such list. No conditions. -/
import Derived.Test.YtlbehpbhmmppiaaGreatDoorWordsA
import Derived.Test.YtlbehpbhmmppiaaGreatDoorSetKA
import Derived.Test.YtlbehpbhmmppiaaGreatDoorAddIA
namespace Go.Proofs.YtlbehpbhmmppiaaGreatDoor

section
variable {α : Type} {nx : α → Option α}

/-- Each of a list steps to the next one, the last one to c. -/
def ChainC (nx : α → Option α) (l : List α) (c : α) : Prop := ∀ i a, l[i]? = some a → nx a = (l ++ [c])[i + 1]?
/-- A circle that begins with a. -/
structure CycC (nx : α → Option α) (q : List α) (a : α) : Prop where
  head : q[0]? = some a
  nodup : q.Nodup
  chain : ChainC nx q a

theorem chainC_nil (c : α) : ChainC nx [] c := fun i a h => by simp at h
theorem chainC_snoc {l : List α} {c c' : α} (h : ChainC nx l c) (hc : nx c = some c') : ChainC nx (l ++ [c]) c' := fun i a hi => by
  by_cases hlt : i < l.length
  · rw [List.getElem?_append_left hlt] at hi
    rw [h i a hi, List.getElem?_append_left (l₁ := l ++ [c]) (l₂ := [c']) (by rw [List.length_append]; simp; omega)]
  · have hi' := (List.getElem?_eq_some_iff.1 hi).1
    simp at hi'
    have : i = l.length := by omega
    subst this
    simp at hi
    subst hi
    rw [hc, List.getElem?_append_right (by simp)]
    simp
theorem chainC_drop {l : List α} {c : α} (h : ChainC nx l c) (k : Nat) (hk : k ≤ l.length) : ChainC nx (l.drop k) c := fun i a hi => by
  rw [List.getElem?_drop] at hi
  have hb := (List.getElem?_eq_some_iff.1 hi).1
  rw [h _ a hi]
  by_cases hl : i + 1 < l.length - k
  · rw [List.getElem?_append_left (by omega), List.getElem?_append_left (by simp; omega), List.getElem?_drop]
    congr 1
  · rw [List.getElem?_append_right (by omega), List.getElem?_append_right (by simp; omega)]
    congr 1
    simp
    omega
theorem chainC_take {l : List α} {c x : α} (h : ChainC nx l c) (k : Nat) (hx : l[k]? = some x) : ChainC nx (l.take k) x := fun i a hi => by
  have hk := (List.getElem?_eq_some_iff.1 hx).1
  have hb := (List.getElem?_eq_some_iff.1 hi).1
  have hb1 : i < k := by rw [List.length_take] at hb; omega
  rw [List.getElem?_take_of_lt hb1] at hi
  rw [h _ a hi, List.getElem?_append_left (by omega)]
  by_cases hl : i + 1 < k
  · rw [List.getElem?_append_left (by simp; omega), List.getElem?_take_of_lt hl]
  · have : i + 1 = k := by omega
    rw [this, hx, List.getElem?_append_right (by rw [List.length_take]; omega), List.length_take, show k - min k l.length = 0 by omega]
    rfl
theorem chainC_append {a b : List α} {x c : α} (h1 : ChainC nx a x) (hx : (b ++ [c])[0]? = some x) (h2 : ChainC nx b c) : ChainC nx (a ++ b) c := fun i y hi => by
  by_cases hl : i < a.length
  · rw [List.getElem?_append_left hl] at hi
    rw [h1 i y hi]
    by_cases hl2 : i + 1 < a.length
    · rw [List.getElem?_append_left hl2, List.append_assoc, List.getElem?_append_left hl2]
    · rw [List.getElem?_append_right (by omega), List.append_assoc, List.getElem?_append_right (by omega)]
      have : i + 1 - a.length = 0 := by omega
      rw [this, hx]
      rfl
  · rw [List.getElem?_append_right (by omega)] at hi
    rw [h2 _ y hi, List.append_assoc, List.getElem?_append_right (l₁ := a) (by omega)]
    rw [show i + 1 - a.length = i - a.length + 1 by omega]

/-- What is closed under the step and meets a circle holds it. -/
theorem cyc_sub {S : α → Prop} {q : List α} {a : α} (h : CycC nx q a) (hS : ∀ x y, S x → nx x = some y → S y) {c : α} (hc : c ∈ q) (hcS : S c) : ∀ x ∈ q, S x := by
  obtain ⟨i, hi⟩ := List.getElem?_of_mem hc
  have hil := (List.getElem?_eq_some_iff.1 hi).1
  have go : ∀ t j, j < q.length → (∀ y, q[j]? = some y → S y) → j + t < q.length → ∀ y, q[j + t]? = some y → S y := by
    intro t
    induction t with
    | zero => intro j _ hj _ y hy; exact hj y hy
    | succ t ih =>
      intro j hjl hj hlt y hy
      obtain ⟨z, hz⟩ : ∃ z, q[j + t]? = some z := ⟨_, List.getElem?_eq_getElem (by omega)⟩
      have h1 := ih j hjl hj (by omega) z hz
      have h2 := h.chain _ z hz
      rw [List.getElem?_append_left (by omega), show j + t + 1 = j + (t + 1) by omega, hy] at h2
      exact hS z y h1 h2
  have hlast : S a := by
    obtain ⟨z, hz⟩ : ∃ z, q[q.length - 1]? = some z := ⟨_, List.getElem?_eq_getElem (by omega)⟩
    have h1 := go (q.length - 1 - i) i hil (fun y hy => by rw [hi] at hy; cases hy; exact hcS) (by omega) z (by rw [show i + (q.length - 1 - i) = q.length - 1 by omega]; exact hz)
    have h2 := h.chain _ z hz
    rw [List.getElem?_append_right (by omega), show q.length - 1 + 1 - q.length = 0 by omega] at h2
    exact hS z a h1 h2
  intro x hx
  obtain ⟨k, hk⟩ := List.getElem?_of_mem hx
  have hkl := (List.getElem?_eq_some_iff.1 hk).1
  exact go k 0 (by omega) (fun y hy => by rw [h.head] at hy; cases hy; exact hlast) (by omega) x (by rw [Nat.zero_add]; exact hk)
theorem cyc_closed {q : List α} {a : α} (h : CycC nx q a) : ∀ x y, x ∈ q → nx x = some y → y ∈ q := fun x y hx hy => by
  obtain ⟨i, hi⟩ := List.getElem?_of_mem hx
  have hil := (List.getElem?_eq_some_iff.1 hi).1
  have h2 := h.chain i x hi
  rw [hy] at h2
  by_cases hl : i + 1 < q.length
  · rw [List.getElem?_append_left hl] at h2
    exact List.mem_of_getElem? h2.symm
  · rw [List.getElem?_append_right (by omega), show i + 1 - q.length = 0 by omega] at h2
    cases h2
    exact List.mem_of_getElem? h.head
theorem cyc_next {q : List α} {a : α} (h : CycC nx q a) {x : α} (hx : x ∈ q) : ∃ y, nx x = some y := by
  obtain ⟨i, hi⟩ := List.getElem?_of_mem hx
  have hil := (List.getElem?_eq_some_iff.1 hi).1
  refine ⟨_, (h.chain i x hi).trans (List.getElem?_eq_getElem (by simp; omega))⟩
theorem cyc_prev {q : List α} {a : α} (h : CycC nx q a) {x : α} (hx : x ∈ q) : ∃ y, y ∈ q ∧ nx y = some x := by
  obtain ⟨i, hi⟩ := List.getElem?_of_mem hx
  have hil := (List.getElem?_eq_some_iff.1 hi).1
  rcases i with _ | i
  · rw [h.head] at hi
    cases hi
    obtain ⟨z, hz⟩ : ∃ z, q[q.length - 1]? = some z := ⟨_, List.getElem?_eq_getElem (by omega)⟩
    refine ⟨z, List.mem_of_getElem? hz, ?_⟩
    rw [h.chain _ z hz, List.getElem?_append_right (by omega), show q.length - 1 + 1 - q.length = 0 by omega]
    rfl
  · obtain ⟨z, hz⟩ : ∃ z, q[i]? = some z := ⟨_, List.getElem?_eq_getElem (by omega)⟩
    refine ⟨z, List.mem_of_getElem? hz, ?_⟩
    rw [h.chain _ z hz, List.getElem?_append_left hil]
    exact hi
/-- A chain from the head of a circle goes along it. -/
theorem cyc_prefix {q l : List α} {a c : α} (h : CycC nx q a) (hl : ChainC nx l c) (hh : (l ++ [c])[0]? = some a) : ∀ i, i < q.length → i ≤ l.length → (l ++ [c])[i]? = q[i]? := by
  intro i
  induction i with
  | zero => intro _ _; rw [hh, h.head]
  | succ i ih =>
    intro h1 h2
    have h3 := ih (by omega) (by omega)
    obtain ⟨z, hz⟩ : ∃ z, q[i]? = some z := ⟨_, List.getElem?_eq_getElem (by omega)⟩
    rw [hz] at h3
    have h4 := h.chain i z hz
    rw [List.getElem?_append_left h1] at h4
    rw [List.getElem?_append_left (by omega)] at h3
    have h5 := hl i z h3
    rw [← h5, h4]
/-- One head has one circle. -/
theorem cyc_unique {q q' : List α} {a : α} (h : CycC nx q a) (h' : CycC nx q' a) : q = q' := by
  have key : ∀ {p r : List α}, CycC nx p a → CycC nx r a → ¬ p.length < r.length := by
    intro p r hp hr hlt
    have hp0 := (List.getElem?_eq_some_iff.1 hp.head).1
    have h1 := cyc_prefix hr hp.chain (by rw [List.getElem?_append_left hp0]; exact hp.head) p.length hlt (Nat.le_refl _)
    rw [List.getElem?_append_right (Nat.le_refl _), Nat.sub_self] at h1
    have h2 := hr.head
    have h3 : r[p.length]? = r[0]? := by rw [← h1, h2]; rfl
    have h4 := (List.getElem?_inj (by omega) hr.nodup).1 h3.symm
    omega
  have hl : q.length = q'.length := by
    have h1 := key h h'
    have h2 := key h' h
    omega
  have hq0 := (List.getElem?_eq_some_iff.1 h.head).1
  apply List.ext_getElem?
  intro i
  by_cases hi : i < q.length
  · have h1 := cyc_prefix h' h.chain (by rw [List.getElem?_append_left hq0]; exact h.head) i (by omega) (by omega)
    rw [List.getElem?_append_left hi] at h1
    exact h1
  · rw [List.getElem?_eq_none (by omega), List.getElem?_eq_none (by omega)]
/-- A circle from another one of its own on. -/
theorem cyc_turn {q : List α} {a x : α} (h : CycC nx q a) (k : Nat) (hx : q[k]? = some x) : CycC nx (q.drop k ++ q.take k) x := by
  have hk := (List.getElem?_eq_some_iff.1 hx).1
  refine ⟨?_, ?_, ?_⟩
  · rw [List.getElem?_append_left (by simp; omega), List.getElem?_drop]
    exact hx
  · exact (List.perm_append_comm.nodup_iff).1 (show (q.take k ++ q.drop k).Nodup by rw [List.take_append_drop]; exact h.nodup)
  · refine chainC_append (chainC_drop h.chain k (by omega)) ?_ (chainC_take h.chain k hx)
    rcases k with _ | k
    · rw [h.head] at hx
      cases hx
      simp
    · rw [List.getElem?_append_left (by simp; omega), List.getElem?_take_of_lt (by omega)]
      exact h.head
/-- What a walk closes is a circle. -/
theorem cyc_of_walk {wk : List α} {c : α} (h : ChainC nx wk c) (hn : wk.Nodup) (k : Nat) (hk : wk[k]? = some c) : CycC nx (wk.drop k) c := by
  have hl := (List.getElem?_eq_some_iff.1 hk).1
  exact ⟨by rw [List.getElem?_drop]; exact hk, hn.sublist (List.drop_sublist _ _), chainC_drop h k (by omega)⟩
/-- A walk stays on a circle that it meets. -/
theorem walk_on {q wk : List α} {a c : α} (h : CycC nx q a) (hw : ChainC nx wk c) {x : α} (hx : x ∈ wk) (hq : x ∈ q) : c ∈ q := by
  obtain ⟨i, hi⟩ := List.getElem?_of_mem hx
  have hil := (List.getElem?_eq_some_iff.1 hi).1
  have go : ∀ t, i + t ≤ wk.length → ∀ y, (wk ++ [c])[i + t]? = some y → y ∈ q := by
    intro t
    induction t with
    | zero => intro _ y hy; rw [Nat.add_zero, List.getElem?_append_left hil, hi] at hy; cases hy; exact hq
    | succ t ih =>
      intro hlt y hy
      obtain ⟨z, hz⟩ : ∃ z, wk[i + t]? = some z := ⟨_, List.getElem?_eq_getElem (by omega)⟩
      have h1 := ih (by omega) z (by rw [List.getElem?_append_left (by omega)]; exact hz)
      have h2 := hw _ z hz
      exact cyc_closed h z y h1 (h2.trans hy)
  have := go (wk.length - i) (by omega) c (by rw [show i + (wk.length - i) = wk.length by omega, List.getElem?_append_right (Nat.le_refl _)]; simp)
  exact this
/-- A chain that comes back to its head alone is a circle. -/
theorem cyc_of_back {q : List α} {a : α} (h : ChainC nx q a) (h0 : q[0]? = some a) (hne : ∀ i x, 0 < i → q[i]? = some x → x ≠ a) : CycC nx q a := by
  refine ⟨h0, ?_, h⟩
  have hq0 := (List.getElem?_eq_some_iff.1 h0).1
  have step : ∀ t i j, i < j → j + t ≤ q.length → (q ++ [a])[i]? = (q ++ [a])[j]? → (q ++ [a])[i + t]? = (q ++ [a])[j + t]? := by
    intro t
    induction t with
    | zero => intro i j _ _ he; exact he
    | succ t ih =>
      intro i j hij hl he
      have h1 := ih i j hij (by omega) he
      obtain ⟨z, hz⟩ : ∃ z, q[i + t]? = some z := ⟨_, List.getElem?_eq_getElem (by omega)⟩
      have hz' : q[j + t]? = some z := by
        rw [List.getElem?_append_left (by omega), List.getElem?_append_left (by omega), hz] at h1
        exact h1.symm
      have h2 := h _ z hz
      have h3 := h _ z hz'
      rw [show i + (t + 1) = i + t + 1 by omega, show j + (t + 1) = j + t + 1 by omega, ← h2, ← h3]
  refine List.pairwise_iff_getElem.2 fun i j hi hj hij he' => ?_
  have he : q[i]? = q[j]? := by rw [List.getElem?_eq_getElem hi, List.getElem?_eq_getElem hj, he']
  have h1 := step (q.length - j) i j hij (by omega) (by rw [List.getElem?_append_left (by omega), List.getElem?_append_left hj]; exact he)
  rw [show j + (q.length - j) = q.length by omega, List.getElem?_append_right (Nat.le_refl _), Nat.sub_self, List.getElem?_append_left (by omega)] at h1
  exact hne (i + (q.length - j)) a (by omega) h1 rfl
end
end Go.Proofs.YtlbehpbhmmppiaaGreatDoor
namespace Go.Proofs.YtlbehpbhmmppiaaGreatDoor

section
variable {nx : Int × Int → Option (Int × Int)}
abbrev PairP := Int × Int

def ClosedC (nx : PairP → Option PairP) (ms : List PairP) : Prop := ∀ x y, x ∈ ms → nx x = some y → y ∈ ms
/-- A circle from its least pair on. -/
def CanonC (nx : PairP → Option PairP) (q : List PairP) : Prop := ∃ a, CycC nx q a ∧ ∀ x, x ∈ q → x = a ∨ ltC a x
/-- What a walk from c adds to the pairs that were met, and the circle that it closes; none: the empty list. -/
structure CircP (nx : PairP → Option PairP) (ms wk : List PairP) (c : PairP) (q : List PairP) : Prop where
  met : c ∈ ms ++ wk
  fresh : ∀ x, x ∈ wk → x ∉ ms
  nodup : wk.Nodup
  closed : ∀ x y, x ∈ wk → nx x = some y → y ∈ ms ++ wk
  circ : q = [] ∨ ∃ a, CycC nx q a
  sub : ∀ x, x ∈ q → x ∈ wk
  all : ∀ Q a x, CycC nx Q a → x ∈ Q → x ∈ wk → x ∈ q

theorem cyc_met {ms Q : List PairP} {a : PairP} (hc : ClosedC nx ms) (hQ : CycC nx Q a) {x y : PairP} (hx : x ∈ Q) (hy : y ∈ Q) (hm : x ∈ ms) : y ∈ ms :=
  cyc_sub (S := fun z => z ∈ ms) hQ (fun u v hu huv => hc u v hu huv) hx hm y hy
/-- A walk that came to a pair that was met. -/
theorem circ_endA {ms wk : List PairP} {c0 c : PairP} (hc : ClosedC nx ms) (h0 : (wk ++ [c])[0]? = some c0) (hch : ChainC nx wk c) (hn : wk.Nodup) (hf : ∀ x, x ∈ wk → x ∉ ms) (hm : c ∈ ms ∨ c ∈ wk) {q : List PairP}
    (hq : (c ∉ wk ∧ q = []) ∨ ∃ k, wk[k]? = some c ∧ q = wk.drop k) : CircP nx ms wk c0 q := by
  have hcl : ∀ x y, x ∈ wk → nx x = some y → y ∈ ms ++ wk := fun x y hx hy => by
    obtain ⟨i, hi⟩ := List.getElem?_of_mem hx
    have hil := (List.getElem?_eq_some_iff.1 hi).1
    have h2 := hch i x hi
    rw [hy] at h2
    have h3 := List.mem_of_getElem? h2.symm
    rcases List.mem_append.1 h3 with h | h
    · exact List.mem_append_right _ h
    · rw [List.mem_singleton.1 h]
      exact hm.elim (List.mem_append_left _) (List.mem_append_right _)
  refine ⟨?_, hf, hn, hcl, ?_, ?_, ?_⟩
  · have h3 := List.mem_of_getElem? h0
    rcases List.mem_append.1 h3 with h | h
    · exact List.mem_append_right _ h
    · rw [List.mem_singleton.1 h]
      exact hm.elim (List.mem_append_left _) (List.mem_append_right _)
  · rcases hq with ⟨_, rfl⟩ | ⟨k, hk, rfl⟩
    · exact .inl rfl
    · exact .inr ⟨c, cyc_of_walk hch hn k hk⟩
  · rcases hq with ⟨_, rfl⟩ | ⟨k, hk, rfl⟩
    · intro x hx; simp at hx
    · exact fun x hx => List.mem_of_mem_drop hx
  · intro Q a x hQ hx hw
    have hcQ := walk_on hQ hch hw hx
    rcases hq with ⟨hno, rfl⟩ | ⟨k, hk, rfl⟩
    · exact absurd (cyc_met hc hQ hcQ hx (hm.resolve_right hno)) (hf x hw)
    · have hcy := cyc_of_walk hch hn k hk
      exact cyc_sub (S := fun z => z ∈ wk.drop k) hQ (fun u v hu huv => cyc_closed hcy u v hu huv) hcQ (List.mem_of_getElem? hcy.head) x hx
/-- A walk that came to a pair without a step. -/
theorem circ_endB {ms wk : List PairP} {c0 c : PairP} (hc : ClosedC nx ms) (h0 : (wk ++ [c])[0]? = some c0) (hch : ChainC nx wk c) (hn : (wk ++ [c]).Nodup) (hf : ∀ x, x ∈ wk ++ [c] → x ∉ ms) (hno : nx c = none) : CircP nx ms (wk ++ [c]) c0 [] := by
  refine ⟨List.mem_append_right _ (List.mem_of_getElem? h0), hf, hn, ?_, .inl rfl, fun x hx => by simp at hx, ?_⟩
  · intro x y hx hy
    rcases List.mem_append.1 hx with h | h
    · obtain ⟨i, hi⟩ := List.getElem?_of_mem h
      have h2 := hch i x hi
      rw [hy] at h2
      exact List.mem_append_right _ (List.mem_of_getElem? h2.symm)
    · rw [List.mem_singleton.1 h, hno] at hy
      cases hy
  · intro Q a x hQ hx hw
    have hcQ : c ∈ Q := by
      rcases List.mem_append.1 hw with h | h
      · exact walk_on hQ hch h hx
      · rw [← List.mem_singleton.1 h]; exact hx
    obtain ⟨y, hy⟩ := cyc_next hQ hcQ
    rw [hno] at hy
    cases hy

/-- What stands after walks from some targets. -/
structure CycInv (nx : PairP → Option PairP) (ms : List PairP) (C : List (List PairP)) : Prop where
  closed : ClosedC nx ms
  canon : ∀ q, q ∈ C → CanonC nx q
  inms : ∀ q, q ∈ C → ∀ x, x ∈ q → x ∈ ms
  apart : C.Pairwise (fun a b => ∀ x, x ∈ a → x ∉ b)
  all : ∀ Q a x, CycC nx Q a → x ∈ Q → x ∈ ms → ∃ q, q ∈ C ∧ x ∈ q
theorem cycInv_nil : CycInv nx [] [] := ⟨fun x y hx => by simp at hx, fun q hq => by simp at hq, fun q hq => by simp at hq, .nil, fun Q a x _ _ hx => by simp at hx⟩
theorem closed_circ {ms wk q : List PairP} {c : PairP} (h : ClosedC nx ms) (hp : CircP nx ms wk c q) : ClosedC nx (ms ++ wk) := fun x y hx hy => by
  rcases List.mem_append.1 hx with hx | hx
  · exact List.mem_append_left _ (h x y hx hy)
  · exact hp.closed x y hx hy
theorem cycInv_none {ms wk : List PairP} {C : List (List PairP)} {c : PairP} (h : CycInv nx ms C) (hp : CircP nx ms wk c []) : CycInv nx (ms ++ wk) C :=
  ⟨closed_circ h.closed hp, h.canon, fun q hq x hx => List.mem_append_left _ (h.inms q hq x hx), h.apart, fun Q a x hQ hx hm => by
    rcases List.mem_append.1 hm with hm | hm
    · exact h.all Q a x hQ hx hm
    · have := hp.all Q a x hQ hx hm
      simp at this⟩
theorem cycInv_some {ms wk q q' : List PairP} {C : List (List PairP)} {c : PairP} (h : CycInv nx ms C) (hp : CircP nx ms wk c q) (hq : CanonC nx q') (hs : ∀ x, x ∈ q' ↔ x ∈ q) : CycInv nx (ms ++ wk) (C ++ [q']) :=
  ⟨closed_circ h.closed hp, fun r hr => by
    rcases List.mem_append.1 hr with hr | hr
    · exact h.canon r hr
    · rw [List.mem_singleton.1 hr]; exact hq, fun r hr x hx => by
    rcases List.mem_append.1 hr with hr | hr
    · exact List.mem_append_left _ (h.inms r hr x hx)
    · rw [List.mem_singleton.1 hr] at hx
      exact List.mem_append_right _ (hp.sub x ((hs x).1 hx)), by
    refine List.pairwise_append.2 ⟨h.apart, List.pairwise_singleton _ _, fun a ha b hb x hx hx' => ?_⟩
    rw [List.mem_singleton.1 hb] at hx'
    exact hp.fresh x (hp.sub x ((hs x).1 hx')) (h.inms a ha x hx), fun Q a x hQ hx hm => by
    rcases List.mem_append.1 hm with hm | hm
    · obtain ⟨r, hr, hxr⟩ := h.all Q a x hQ hx hm
      exact ⟨r, List.mem_append_left _ hr, hxr⟩
    · exact ⟨q', List.mem_append_right _ (List.mem_singleton.2 rfl), (hs x).2 (hp.all Q a x hQ hx hm)⟩⟩
theorem ltC_irr (x : PairP) : ¬ ltC x x := fun h => by unfold ltC at h; omega
theorem ltC_asym (x y : PairP) (h : ltC x y) : ¬ ltC y x := fun h' => by unfold ltC at h h'; omega
theorem ltC_tri (x y : PairP) : x = y ∨ ltC x y ∨ ltC y x := by
  obtain ⟨a, b⟩ := x
  obtain ⟨c, d⟩ := y
  unfold ltC
  rw [Prod.mk.injEq]
  dsimp only
  omega
theorem canon_one {q Q : List PairP} (h : CanonC nx q) (H : CanonC nx Q) {x : PairP} (hx : x ∈ q) (hX : x ∈ Q) : q = Q := by
  obtain ⟨a, h1, h2⟩ := h
  obtain ⟨b, H1, H2⟩ := H
  have hab : a ∈ Q := cyc_sub (S := fun z => z ∈ Q) h1 (fun u v hu huv => cyc_closed H1 u v hu huv) hx hX a (List.mem_of_getElem? h1.head)
  have hba : b ∈ q := cyc_sub (S := fun z => z ∈ q) H1 (fun u v hu huv => cyc_closed h1 u v hu huv) hX hx b (List.mem_of_getElem? H1.head)
  have e : a = b := by
    rcases H2 a hab with e | e
    · exact e
    · rcases h2 b hba with e' | e'
      · exact e'.symm
      · exact absurd e (ltC_asym _ _ e')
  subst e
  exact cyc_unique h1 H1
/-- The list of all circles. -/
theorem cycInv_all {ms T : List PairP} {C : List (List PairP)} (h : CycInv nx ms C) (hT : ∀ x y, nx x = some y → y ∈ T) (hm : ∀ x, x ∈ T → x ∈ ms) : ∀ Q, Q ∈ C ↔ CanonC nx Q := fun Q => by
  refine ⟨h.canon Q, fun hQ => ?_⟩
  obtain ⟨a, h1, h2⟩ := hQ
  have ha := List.mem_of_getElem? h1.head
  obtain ⟨y, _, hy⟩ := cyc_prev h1 ha
  obtain ⟨q, hq, haq⟩ := h.all Q a a h1 ha (hm a (hT y a hy))
  rw [canon_one ⟨a, h1, h2⟩ (h.canon q hq) ha haq]
  exact hq
/-- Circles in ascending order of their least pairs. -/
def ltL (a b : List PairP) : Prop := ∃ x y, a[0]? = some x ∧ b[0]? = some y ∧ ltC x y
theorem loops_unique {R S : List (List PairP)} (h1 : R.Pairwise ltL) (h2 : S.Pairwise ltL) (h : ∀ q, q ∈ R ↔ q ∈ S) : R = S :=
  sorted_eq (lt := ltL) (fun x ⟨a, b, ha, hb, hab⟩ => by rw [ha] at hb; cases hb; exact ltC_irr _ hab) (fun x y ⟨a, b, ha, hb, hab⟩ ⟨c, d, hc, hd, hcd⟩ => by
    rw [hb] at hc; rw [ha] at hd; cases hc; cases hd
    exact ltC_asym _ _ hab hcd) h1 h2 h
/-- Lists that lie apart, sorted by their first pairs, ascend strictly. -/
theorem loops_sorted {R : List (List PairP)} (hc : ∀ q, q ∈ R → CanonC nx q) (ha : R.Pairwise (fun a b => ∀ x, x ∈ a → x ∉ b)) (hs : R.Pairwise (fun a b => ∀ x y, a[0]? = some x → b[0]? = some y → ¬ ltC y x)) : R.Pairwise ltL := by
  induction R with
  | nil => exact .nil
  | cons q R ih =>
    rw [List.pairwise_cons] at ha hs ⊢
    refine ⟨fun b hb => ?_, ih (fun r hr => hc r (List.mem_cons_of_mem _ hr)) ha.2 hs.2⟩
    obtain ⟨x, hx, _⟩ := hc q (List.mem_cons_self ..)
    obtain ⟨y, hy, _⟩ := hc b (List.mem_cons_of_mem _ hb)
    refine ⟨x, y, hx.head, hy.head, ?_⟩
    rcases ltC_tri x y with e | e | e
    · subst e
      exact absurd (List.mem_of_getElem? hy.head) (ha.1 b hb x (List.mem_of_getElem? hx.head))
    · exact e
    · exact absurd e (hs.1 b hb x y hx.head hy.head)
/-- A circle from its least pair on. -/
theorem canon_turn {q : List PairP} {a m : PairP} (h : CycC nx q a) (k : Nat) (hk : q[k]? = some m) (hm : ∀ x, x ∈ q → ¬ ltC x m) : CanonC nx (q.drop k ++ q.take k) ∧ ∀ x, x ∈ q.drop k ++ q.take k ↔ x ∈ q := by
  have hmem : ∀ x, x ∈ q.drop k ++ q.take k ↔ x ∈ q := fun x => by
    conv => rhs; rw [← List.take_append_drop k q]
    rw [List.mem_append, List.mem_append, or_comm]
  refine ⟨⟨m, cyc_turn h k hk, fun x hx => ?_⟩, hmem⟩
  rcases ltC_tri x m with e | e | e
  · exact .inl e
  · exact absurd e (hm x ((hmem x).1 hx))
  · exact .inr e
end
end Go.Proofs.YtlbehpbhmmppiaaGreatDoor
