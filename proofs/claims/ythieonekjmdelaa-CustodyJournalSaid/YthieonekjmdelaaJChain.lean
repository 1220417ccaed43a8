/- What a crash leaves of a journal's sectors. No conditions. -/
import Derived.Test.YthieonekjmdelaaJOpen
namespace Go.Proofs.Ythieonekjmdelaa
open Go.RowKit

/-- The sectors S are D with the writes P, each of which knows what its sector contained. -/
inductive ChainJ (D : List (List Int)) : List PW → List (List Int) → Prop
  | nil : ChainJ D [] D
  | snoc (P : List PW) (S : List (List Int)) (x : PW) : ChainJ D P S → S[x.1]? = some x.2.1 → ChainJ D (P ++ [x]) (S.set x.1 x.2.2)
theorem revsJ_snoc (P : List PW) (x : PW) : revs (P ++ [x]) = (P.length, x) :: revs P := by
  unfold revs
  rw [List.zipIdx_append, List.map_append, List.reverse_append]
  simp
theorem ChainJ.undo {D : List (List Int)} {P : List PW} {S : List (List Int)} (h : ChainJ D P S) : undo S (revs P) = D := by
  induction h with
  | nil => rfl
  | snoc P S x _ h0 ih =>
    rw [revsJ_snoc]
    show Proofs.Ythieonekjmdelaa.undo ((S.set x.1 x.2.2).set x.1 x.2.1) (revs P) = D
    rw [List.set_set]
    have : S.set x.1 x.2.1 = S := by
      apply List.ext_getElem?
      intro i
      by_cases e : x.1 = i
      · subst e
        rw [List.getElem?_set_self (List.getElem?_eq_some_iff.1 h0).1, h0]
      · rw [List.getElem?_set_ne e]
    rw [this, ih]
theorem ChainJ.crash {D : List (List Int)} {P : List PW} {S : List (List Int)} (h : ChainJ D P S) (K : List Int) : crashed S P K = keepS K D P.zipIdx := by
  unfold crashed
  rw [h.undo]
theorem crash_none (S : List (List Int)) (K : List Int) : crashed S [] K = S := rfl
/-- From sector u on nothing begins a record; before it all is as in D. -/
def TailInv (u : Nat) (D S : List (List Int)) : Prop := S.length = D.length ∧ S.take u = D.take u ∧ ∀ i s, u ≤ i → S[i]? = some s → s.length = 64 ∧ s[63]? = some 0
theorem TailInv.set {u : Nat} {D S : List (List Int)} (h : TailInv u D S) {k : Nat} {b : List Int} (hk : u ≤ k) (hb : b.length = 64) (h0 : b[63]? = some 0) : TailInv u D (S.set k b) := by
  refine ⟨by rw [List.length_set, h.1], by rw [List.take_set_of_le hk, h.2.1], fun i s hi hs => ?_⟩
  by_cases e : k = i
  · subst e
    have hlt : k < S.length := by have := (List.getElem?_eq_some_iff.1 hs).1; rwa [List.length_set] at this
    rw [List.getElem?_set_self hlt] at hs
    cases hs
    exact ⟨hb, h0⟩
  · rw [List.getElem?_set_ne e] at hs
    exact h.2.2 i s hi hs
theorem TailInv.jr {R D S : List (List Int)} (hJ : Jr R D) (h : TailInv (encsOf R).length D S) : Jr R S := by
  obtain ⟨hok, T, rfl, hT⟩ := hJ
  refine ⟨hok, S.drop (encsOf R).length, ?_, fun s hs => ?_⟩
  · have h2 := h.2.1
    rw [List.take_left] at h2
    conv => lhs; rw [← List.take_append_drop (encsOf R).length S, h2]
  · obtain ⟨i, hi⟩ := List.getElem?_of_mem hs
    rw [List.getElem?_drop] at hi
    exact h.2.2 _ s (by omega) hi
theorem Jr.tail {R D : List (List Int)} (h : Jr R D) : TailInv (encsOf R).length D D := by
  obtain ⟨hok, T, rfl, hT⟩ := h
  refine ⟨rfl, rfl, fun i s hi hs => ?_⟩
  rw [List.getElem?_append_right hi] at hs
  exact hT s (List.mem_of_getElem? hs)
theorem mix_zero {n : Int} {old new : List Int} (ho : old.length = 64) (hn : new.length = 64) (h1 : old[63]? = some 0) (h2 : new[63]? = some 0) : (mix n old new).length = 64 ∧ (mix n old new)[63]? = some 0 := by
  have hk := kept_range n
  have hl : (new.take (keptOf n).toNat).length = (keptOf n).toNat := by rw [List.length_take, hn]; omega
  unfold mix
  refine ⟨by rw [List.length_append, hl, List.length_drop, ho]; omega, ?_⟩
  by_cases h : 63 < (keptOf n).toNat
  · rw [List.getElem?_append_left (by rw [hl]; exact h), List.getElem?_take, if_pos h, h2]
  · rw [List.getElem?_append_right (by rw [hl]; omega), hl, List.getElem?_drop, show (keptOf n).toNat + (63 - (keptOf n).toNat) = 63 by omega, h1]
theorem mix_torn {n : Int} {old new : List Int} (ho : old.length = 64) (hn : new.length = 64) (h1 : old[63]? = some 0) : mix n old new = new ∨ (mix n old new).length = 64 ∧ (mix n old new)[63]? = some 0 := by
  have hk := kept_range n
  have hl : (new.take (keptOf n).toNat).length = (keptOf n).toNat := by rw [List.length_take, hn]; omega
  unfold mix
  by_cases h : 63 < (keptOf n).toNat
  · left
    rw [List.take_of_length_le (by omega), List.drop_eq_nil_of_le (by omega), List.append_nil]
  · right
    refine ⟨by rw [List.length_append, hl, List.length_drop, ho]; omega, ?_⟩
    rw [List.getElem?_append_right (by rw [hl]; omega), hl, List.getElem?_drop, show (keptOf n).toNat + (63 - (keptOf n).toNat) = 63 by omega, h1]
theorem keep_tail (K : List Int) {u : Nat} {D : List (List Int)} : ∀ (l : List (PW × Nat)) (S : List (List Int)), (∀ x ∈ l, u ≤ x.1.1 ∧ x.1.1 < D.length ∧ x.1.2.2.length = 64 ∧ x.1.2.2[63]? = some 0) → TailInv u D S → TailInv u D (keepS K S l)
  | [], _, _, h => h
  | x :: l, S, hl, h => by
    have hx := hl x (List.mem_cons_self ..)
    show TailInv u D (keepS K (match K[x.2]? with | some n => S.set x.1.1 (mix n (S.getD x.1.1 []) x.1.2.2) | none => S) l)
    refine keep_tail K l _ (fun y hy => hl y (List.mem_cons_of_mem _ hy)) ?_
    split
    · rename_i n _
      have hxl : x.1.1 < S.length := by rw [h.1]; exact hx.2.1
      have hs := h.2.2 x.1.1 S[x.1.1] hx.1 (List.getElem?_eq_getElem hxl)
      have hd : S.getD x.1.1 [] = S[x.1.1] := by rw [List.getD_eq_getElem?_getD, List.getElem?_eq_getElem hxl]; rfl
      rw [hd]
      have := mix_zero (n := n) hs.1 hx.2.2.1 hs.2 hx.2.2.2
      exact h.set hx.1 this.1 this.2
    · exact h
theorem splice_at {α : Type} (L : List α) (u : Nat) (B : List α) {k : Nat} {b : α} (hb : B[k]? = some b) (h : u + k < L.length) : splice L u (B.take (k + 1)) = (splice L u (B.take k)).set (u + k) b := by
  have hk := (List.getElem?_eq_some_iff.1 hb).1
  have h1 : (B.take k).length = k := by rw [List.length_take]; omega
  have h2 : (B.take (k + 1)).length = k + 1 := by rw [List.length_take]; omega
  have h3 : (L.take u).length = u := by rw [List.length_take]; omega
  unfold splice
  rw [h1, h2, List.take_add_one, hb, Option.toList_some, List.set_append, if_neg (by omega), h3, List.set_append, if_neg (by omega), h1, Nat.add_sub_cancel_left, Nat.sub_self]
  obtain ⟨y, hy⟩ : ∃ y, L.drop (u + k) = y :: L.drop (u + (k + 1)) := ⟨L[u + k], by rw [List.drop_eq_getElem_cons h]; rfl⟩
  rw [hy]
  simp
theorem splice_get {α : Type} (L : List α) (u : Nat) (B : List α) {i : Nat} (h : u + B.length ≤ L.length) (hi : i < u ∨ u + B.length ≤ i) : (splice L u B)[i]? = L[i]? := by
  have h3 : (L.take u).length = u := by rw [List.length_take]; omega
  unfold splice
  rcases hi with hi | hi
  · rw [List.getElem?_append_left (by omega), List.getElem?_take, if_pos hi]
  · rw [List.getElem?_append_right (by omega), List.getElem?_append_right (by omega), List.getElem?_drop, h3]
    congr 1
    omega
/-- A record goes into the sectors behind the others. -/
theorem Jr.add {R S : List (List Int)} (h : Jr R S) {r : List Int} (hr : okR r) (hl : (encsOf R).length + nbOf r.length ≤ S.length) : Jr (R ++ [r]) (splice S (encsOf R).length (encB r)) := by
  obtain ⟨hok, T, rfl, hT⟩ := h
  refine ⟨fun x hx => ?_, T.drop (encB r).length, ?_, fun s hs => hT s (List.mem_of_mem_drop hs)⟩
  · rcases List.mem_append.1 hx with hx | hx
    · exact hok x hx
    · rw [List.mem_singleton.1 hx]; exact hr
  · unfold splice
    rw [encsOf_snoc, List.take_left, List.drop_append, List.append_assoc]
    congr 2
    rw [List.drop_eq_nil_of_le (by omega), List.nil_append, Nat.add_sub_cancel_left]
/-- The further blocks of a record begin nothing. -/
theorem enc_rest {r : List Int} {b : List Int} (hb : b ∈ (encB r).drop 1) : b.length = 64 ∧ b[63]? = some 0 := by
  obtain ⟨i, hi⟩ := List.getElem?_of_mem hb
  rw [List.getElem?_drop] at hi
  have hl := (List.getElem?_eq_some_iff.1 hi).1
  rw [encB_len] at hl
  rw [encB_at hl, if_neg (by omega)] at hi
  cases hi
  exact ⟨blkJ_len .., blkJ_last ..⟩
theorem tail_splice {u v : Nat} {D S : List (List Int)} (B : List (List Int)) (h : TailInv u D S) (hv : u ≤ v) (hl : v + B.length ≤ S.length) (hB : ∀ b ∈ B, b.length = 64 ∧ b[63]? = some 0) : ∀ k, k ≤ B.length → TailInv u D (splice S v (B.take k))
  | 0, _ => by
    have : splice S v (B.take 0) = S := by unfold splice; simp
    rw [this]
    exact h
  | k + 1, hk => by
    have hb := List.getElem?_eq_getElem (l := B) (i := k) (by omega)
    rw [splice_at S v B hb (by omega)]
    have := hB _ (List.mem_of_getElem? hb)
    exact (tail_splice B h hv hl hB k (by omega)).set (by omega) this.1 this.2
end Go.Proofs.Ythieonekjmdelaa
