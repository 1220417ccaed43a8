/- The contract of add of a journal. Conditions: the disk and the journal lie in memory. -/
import Derived.Test.YthieonekjmdelaaJWrite
namespace Go.Proofs.Ythieonekjmdelaa
open Go.RowKit

/-- A journal of the records R, on a disk that is not down; nothing is pending. -/
structure JUp (w : World) (jb p gs : Nat) (vp : Value) (S R : List (List Int)) (st : Bool) : Prop where
  disk : ∃ ca, DiskAt w p gs vp S [] false st ca ∧ (0 ≤ ca ∧ ca ≤ 9223372036854775807)
  room : S.length ≤ 65536
  recs : Jr R S
  at_ : JAt w jb p (encsOf R).length R.length
  apart : ¬ ownD p gs vp jb
/-- A journal of the records R on a disk that is down; a crash leaves these, or these and r. -/
structure JDn (w : World) (jb p gs : Nat) (vp : Value) (N : Nat) (R : List (List Int)) (X : Option (List Int)) : Prop where
  disk : ∃ S P ca, DiskAt w p gs vp S P true true ca ∧ S.length = N ∧ P.length ≤ 100000 ∧ (0 ≤ ca ∧ ca ≤ 9223372036854775807) ∧ ∀ K, (crashed S P K).length = N ∧ (Jr R (crashed S P K) ∨ ∃ r, X = some r ∧ Jr (R ++ [r]) (crashed S P K))
  room : N ≤ 65536
  at_ : JAt w jb p (encsOf R).length R.length
  apart : ¬ ownD p gs vp jb
theorem crashed_len (S : List (List Int)) (P : List PW) (K : List Int) : (crashed S P K).length = S.length := by
  unfold crashed
  rw [keepS_len, undo_len]
/-- The first block last, or all blocks at once. -/
theorem splice_two {D : List (List Int)} {u : Nat} {r : List Int} (hl : u + nbOf r.length ≤ D.length) : (splice D (u + 1) ((encB r).drop 1)).set u (blkJ r 0 1) = splice D u (encB r) := by
  have hnb := nb_pos r.length
  obtain ⟨B, hB⟩ : ∃ B, encB r = blkJ r 0 1 :: B := by
    cases hE : encB r with
    | nil => have := encB_len r; rw [hE] at this; simp at this; omega
    | cons b B =>
      have h0 := encB_at (r := r) hnb
      rw [hE, if_pos rfl] at h0
      cases h0
      exact ⟨B, rfl⟩
  have hBl : B.length + 1 = nbOf r.length := by rw [← encB_len r, hB]; rfl
  have h3 : (D.take u).length = u := by rw [List.length_take]; omega
  rw [hB]
  unfold splice
  obtain ⟨y, hy⟩ : ∃ y, D.take (u + 1) = D.take u ++ [y] := ⟨D[u], by rw [List.take_add_one, List.getElem?_eq_getElem (by omega)]; rfl⟩
  rw [hy, List.set_append, if_pos (by simp; omega), List.set_append, if_neg (by omega), h3, Nat.sub_self]
  simp only [List.drop_succ_cons, List.drop_zero, List.set_cons_zero, List.append_assoc, List.length_cons, List.cons_append, List.nil_append]
  rw [show u + 1 + B.length = u + (B.length + 1) by omega]
def newB (w0 : World) (vp0 vp : Value) : Prop := vp.ownBlock = vp0.ownBlock ∨ ∀ i, vp.ownBlock = some i → w0.heap.size ≤ i
/-- A failure before the first block: a crash leaves the records. -/
theorem down_rest {w0 w : World} {p gs : Nat} {vp : Value} {D R : List (List Int)} {r : List Int} {k : Nat} (hJ : Jr R D) (hl : (encsOf R).length + nbOf r.length ≤ D.length) (h : WrK w0 w p gs vp D ((encsOf R).length + 1) ((encB r).drop 1) k true true) (hk : k ≤ ((encB r).drop 1).length) :
    ∃ vp' S P ca, DiskAt w p gs vp' S P true true ca ∧ S.length = D.length ∧ P.length ≤ k ∧ (0 ≤ ca ∧ ca ≤ 9223372036854775807) ∧ newB w0 vp vp' ∧ ∀ K, Jr R (crashed S P K) := by
  obtain ⟨⟨vp', P, ca, hD, hC, hPl, hPx, hca, hv⟩, hK⟩ := h
  have hbl := encB_len r
  have hdl : ((encB r).drop 1).length = nbOf r.length - 1 := by rw [List.length_drop, hbl]
  have hnb := nb_pos r.length
  refine ⟨vp', _, P, ca, hD, length_splice _ _ _ (by rw [List.length_take]; omega), by omega, hca, hv, fun K => ?_⟩
  rw [hC.crash]
  refine TailInv.jr hJ (keep_tail K _ _ (fun x hx => ?_) hJ.tail)
  obtain ⟨i, hi⟩ := List.getElem?_of_mem hx
  rw [List.getElem?_zipIdx] at hi
  obtain ⟨y, hy, rfl⟩ := Option.map_eq_some_iff.1 hi
  have h1 := hPx i y hy
  have hil := (List.getElem?_eq_some_iff.1 hy).1
  have h2 := enc_rest (List.mem_of_getElem? h1.2)
  exact ⟨by dsimp only; omega, by dsimp only; omega, h2.1, h2.2⟩
/-- A failure at the first block: a crash leaves the records, or these and the new one. -/
theorem down_head {w0 w : World} {p gs : Nat} {vp : Value} {D R : List (List Int)} {r : List Int} {k : Nat} (hJ : Jr R D) (hr : okR r) (hl : (encsOf R).length + nbOf r.length ≤ D.length) (h : WrK w0 w p gs vp (splice D ((encsOf R).length + 1) ((encB r).drop 1)) (encsOf R).length ((encB r).take 1) k true true) (hk : k ≤ 1) :
    ∃ vp' S P ca, DiskAt w p gs vp' S P true true ca ∧ S.length = D.length ∧ P.length ≤ 1 ∧ (0 ≤ ca ∧ ca ≤ 9223372036854775807) ∧ newB w0 vp vp' ∧ ∀ K, Jr R (crashed S P K) ∨ Jr (R ++ [r]) (crashed S P K) := by
  obtain ⟨⟨vp', P, ca, hD, hC, hPl, hPx, hca, hv⟩, hK⟩ := h
  have hbl := encB_len r
  have hnb := nb_pos r.length
  have hdl : ((encB r).drop 1).length = nbOf r.length - 1 := by rw [List.length_drop, hbl]
  have hsl : (splice D ((encsOf R).length + 1) ((encB r).drop 1)).length = D.length := length_splice _ _ _ (by omega)
  have hT : TailInv (encsOf R).length D (splice D ((encsOf R).length + 1) ((encB r).drop 1)) := by
    have := tail_splice (v := (encsOf R).length + 1) ((encB r).drop 1) hJ.tail (by omega) (by omega) (fun b hb => enc_rest hb) _ (Nat.le_refl _)
    rwa [List.take_length] at this
  refine ⟨vp', _, P, ca, hD, by rw [length_splice _ _ _ (by rw [List.length_take, List.length_take]; omega), hsl], by omega, hca, hv, fun K => ?_⟩
  rw [hC.crash]
  rcases P with _ | ⟨x, _ | ⟨y, P⟩⟩
  rotate_left 2
  · simp at hPl
    omega
  · exact .inl (TailInv.jr hJ hT)
  · have h1 := hPx 0 x rfl
    have hx1 : x.1 = (encsOf R).length := h1.1
    have hx2 : x.2.2 = blkJ r 0 1 := by
      have := h1.2
      rw [List.getElem?_take, if_pos (by omega), encB_at hnb, if_pos rfl] at this
      exact (Option.some.inj this).symm
    have hol := hT.2.2 (encsOf R).length _ (Nat.le_refl _) (List.getElem?_eq_getElem (by omega))
    show Jr R (match K[0]? with | some n => _ | none => _) ∨ Jr (R ++ [r]) (match K[0]? with | some n => _ | none => _)
    cases K[0]? with
    | none => exact .inl (TailInv.jr hJ hT)
    | some n =>
      dsimp only
      rw [hx1, hx2, show (splice D ((encsOf R).length + 1) ((encB r).drop 1)).getD (encsOf R).length [] = (splice D ((encsOf R).length + 1) ((encB r).drop 1))[(encsOf R).length] by rw [List.getD_eq_getElem?_getD, List.getElem?_eq_getElem (by omega)]; rfl]
      rcases mix_torn (n := n) hol.1 (blkJ_len r 0 1) hol.2 with e | e
      · right
        rw [e]
        have hj := hJ.add hr hl
        have : (splice D ((encsOf R).length + 1) ((encB r).drop 1)).set (encsOf R).length (blkJ r 0 1) = splice D (encsOf R).length (encB r) := splice_two hl
        rw [this]
        exact hj
      · exact .inl (TailInv.jr hJ (hT.set (Nat.le_refl _) e.1 e.2))
end Go.Proofs.Ythieonekjmdelaa
