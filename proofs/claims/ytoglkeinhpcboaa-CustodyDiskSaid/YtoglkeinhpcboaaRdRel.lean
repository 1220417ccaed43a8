/- What a disk and its reference have in common, and that each operation keeps it. No conditions. -/
import Derived.Test.YtoglkeinhpcboaaRd5
import Derived.Test.YtoglkeinhpcboaaRd6
namespace Go.Proofs.Ytoglkeinhpcboaa
open Go.RowKit

/-- The sectors S are D with the writes P, each of which knows what its sector contained. -/
inductive Chain (D : List (List Int)) : List PW → List (List Int) → Prop
  | nil : Chain D [] D
  | snoc (P : List PW) (S : List (List Int)) (x : PW) : Chain D P S → S[x.1]? = some x.2.1 → Chain D (P ++ [x]) (S.set x.1 x.2.2)
def putsOf (P : List PW) : List (Nat × List Int) := P.map fun x => (x.1, x.2.2)
theorem putsOf_snoc (P : List PW) (x : PW) : putsOf (P ++ [x]) = putsOf P ++ [(x.1, x.2.2)] := by unfold putsOf; rw [List.map_append]; rfl
theorem Chain.len {D : List (List Int)} {P : List PW} {S : List (List Int)} (h : Chain D P S) : S.length = D.length := by
  induction h with
  | nil => rfl
  | snoc P S x _ _ ih => rw [List.length_set, ih]
theorem Chain.apply {D : List (List Int)} {P : List PW} {S : List (List Int)} (h : Chain D P S) : S = applyQ D (putsOf P) := by
  induction h with
  | nil => rfl
  | snoc P S x _ _ ih => rw [putsOf_snoc, applyQ_snoc, ← ih]
theorem revs_snoc (P : List PW) (x : PW) : revs (P ++ [x]) = (P.length, x) :: revs P := by
  unfold revs
  rw [List.zipIdx_append, List.map_append, List.reverse_append]
  simp
theorem Chain.undo {D : List (List Int)} {P : List PW} {S : List (List Int)} (h : Chain D P S) : undo S (revs P) = D := by
  induction h with
  | nil => rfl
  | snoc P S x _ h0 ih =>
    rw [revs_snoc]
    show Proofs.Ytoglkeinhpcboaa.undo ((S.set x.1 x.2.2).set x.1 x.2.1) (revs P) = D
    rw [List.set_set]
    have : S.set x.1 x.2.1 = S := by
      apply List.ext_getElem?
      intro i
      by_cases e : x.1 = i
      · subst e
        rw [List.getElem?_set_self (List.getElem?_eq_some_iff.1 h0).1, h0]
      · rw [List.getElem?_set_ne e]
    rw [this, ih]
theorem Chain.last {D : List (List Int)} {P : List PW} {S : List (List Int)} (h : Chain D P S) {k : Nat} {s d : List Int} (hs : S[k]? = some s) (hd : D[k]? = some d) : s = lastOf d (putsOf P) k := by
  induction h generalizing s with
  | nil =>
    rw [hs] at hd
    cases hd
    rfl
  | snoc P S x _ h0 ih =>
    rw [putsOf_snoc, lastOf_snoc]
    by_cases e : x.1 = k
    · subst e
      rw [List.getElem?_set_self (List.getElem?_eq_some_iff.1 h0).1] at hs
      cases hs
      rw [if_pos rfl]
    · rw [List.getElem?_set_ne e] at hs
      rw [if_neg e]
      exact ih hs
theorem keep_step (K : List Int) (D : List (List Int)) (x : PW) (i : Nat) (hx : x.1 < D.length) : (match K[i]? with | some n => D.set x.1 (mix n (D.getD x.1 []) x.2.2) | none => D) = D.set x.1 (x.2.2.take (keptO K[i]?) ++ (D.getD x.1 []).drop (keptO K[i]?)) := by
  cases K[i]? with
  | some n => rfl
  | none =>
    show D = D.set x.1 (x.2.2.take 0 ++ (D.getD x.1 []).drop 0)
    apply List.ext_getElem?
    intro j
    by_cases e : x.1 = j
    · subst e
      rw [List.getElem?_set_self hx, List.getElem?_eq_getElem hx, List.getD_eq_getElem?_getD, List.getElem?_eq_getElem hx]
      simp
    · rw [List.getElem?_set_ne e]
theorem keep_same (K : List Int) (D : List (List Int)) (P : List PW) (hP : ∀ x ∈ P, x.1 < D.length) : ∀ k, k ≤ P.length → keepS K D (P.zipIdx.take k) = keepQ K D ((putsOf P).zipIdx.take k)
  | 0, _ => by simp [keepS, keepQ]
  | k + 1, hk => by
    obtain ⟨x, hx⟩ : ∃ x, P[k]? = some x := ⟨_, List.getElem?_eq_getElem (by omega)⟩
    have hx2 : (putsOf P)[k]? = some (x.1, x.2.2) := by unfold putsOf; rw [List.getElem?_map, hx]; rfl
    rw [zip_snoc hx, zipQ_snoc hx2, keepS_snoc, keepQ_snoc, ← keep_same K D P hP k (by omega)]
    exact keep_step K _ x k (by rw [keepS_len]; exact hP x (List.mem_of_getElem? hx))
theorem Chain.crash {D : List (List Int)} {P : List PW} {S : List (List Int)} (h : Chain D P S) (K : List Int) (hP : ∀ x ∈ P, x.1 < D.length) : crashed S P K = keepQ K D (putsOf P).zipIdx := by
  have h1 := keep_same K D P hP P.length (Nat.le_refl _)
  rw [List.take_of_length_le (by simp), List.take_of_length_le (by simp [putsOf])] at h1
  unfold crashed
  rw [h.undo, h1]
end Go.Proofs.Ytoglkeinhpcboaa
