/- A journal's records as blocks of a disk. No conditions. -/
import Derived.Test.YthieonekjmdelaaDk5
import Derived.Laws.BytesArg
import Derived.Lib.AppendStr
import Derived.Lib.SmallJoins
namespace Go.Proofs.Ythieonekjmdelaa
open Go.RowKit

/-- The bytes of a string as numbers. -/
def bsOf (s : ByteArray) : List Int := s.data.toList.map fun c => (c.toNat : Int)
theorem bsOf_len (s : ByteArray) : (bsOf s).length = s.size := by unfold bsOf; rw [List.length_map]; rfl
theorem str_bsOf (s : ByteArray) : strOfNums (bsOf s) = s := by
  have h : (bsOf s).map (fun n => UInt8.ofNat n.toNat) = s.data.toList := by
    unfold bsOf
    rw [List.map_map]
    conv => rhs; rw [← List.map_id s.data.toList]
    refine List.map_congr_left (fun c _ => ?_)
    simp
  unfold strOfNums
  rw [h]
theorem bsOf_cells (s : ByteArray) : Go.Lib.strCells s = cellsB (bsOf s) := by
  unfold Go.Lib.strCells cellsB bsOf
  rw [List.map_map]
  rfl
theorem bsOf_range (s : ByteArray) : ∀ x ∈ bsOf s, 0 ≤ x ∧ x ≤ 255 := fun x hx => by
  unfold bsOf at hx
  obtain ⟨c, _, rfl⟩ := List.mem_map.1 hx
  have := c.toNat_lt
  omega
theorem bsOf_str {r : List Int} (h : ∀ x ∈ r, 0 ≤ x ∧ x ≤ 255) : bsOf (strOfNums r) = r := by
  unfold bsOf strOfNums
  rw [List.map_map]
  conv => rhs; rw [← List.map_id r]
  refine List.map_congr_left (fun x hx => ?_)
  have := h x hx
  simp
  omega

def sJ (r : List Int) : Value := .string (strOfNums r)
/-- A record with its length before it. -/
def hdr (r : List Int) : List Int := ((r.length / 256 : Nat) : Int) :: ((r.length % 256 : Nat) : Int) :: r
theorem hdr_len (r : List Int) : (hdr r).length = r.length + 2 := rfl
def nbOf (n : Nat) : Nat := (n + 64) / 63
def chOf (r : List Int) (i : Nat) : List Int := ((hdr r).drop (63 * i)).take 63
def pad63 (c : List Int) : List Int := c ++ List.replicate (63 - c.length) 0
def blkJ (r : List Int) (i : Nat) (m : Int) : List Int := pad63 (chOf r i) ++ [m]
def encB (r : List Int) : List (List Int) := (List.range (nbOf r.length)).map fun i => blkJ r i (if i = 0 then 1 else 0)
theorem chOf_len (r : List Int) (i : Nat) : (chOf r i).length = Nat.min 63 (r.length + 2 - 63 * i) := by
  unfold chOf
  rw [List.length_take, List.length_drop, hdr_len]
theorem chOf_le (r : List Int) (i : Nat) : (chOf r i).length ≤ 63 := by unfold chOf; rw [List.length_take]; omega
theorem pad63_len {c : List Int} (h : c.length ≤ 63) : (pad63 c).length = 63 := by unfold pad63; simp; omega
theorem blkJ_len (r : List Int) (i : Nat) (m : Int) : (blkJ r i m).length = 64 := by unfold blkJ; rw [List.length_append, pad63_len (chOf_le r i)]; rfl
theorem blkJ_take (r : List Int) (i : Nat) (m : Int) : (blkJ r i m).take 63 = pad63 (chOf r i) := by
  unfold blkJ
  rw [List.take_append_of_le_length (Nat.le_of_eq (pad63_len (chOf_le r i)).symm), List.take_of_length_le (Nat.le_of_eq (pad63_len (chOf_le r i)))]
theorem blkJ_last (r : List Int) (i : Nat) (m : Int) : (blkJ r i m)[63]? = some m := by
  unfold blkJ
  rw [List.getElem?_append_right (Nat.le_of_eq (pad63_len (chOf_le r i))), pad63_len (chOf_le r i)]
  rfl
theorem encB_len (r : List Int) : (encB r).length = nbOf r.length := by unfold encB; simp
theorem nb_pos (n : Nat) : 0 < nbOf n := by unfold nbOf; omega
theorem encB_at {r : List Int} {i : Nat} (h : i < nbOf r.length) : (encB r)[i]? = some (blkJ r i (if i = 0 then 1 else 0)) := by
  unfold encB
  rw [List.getElem?_map, List.getElem?_range h]
  rfl
theorem encB_all {r : List Int} : ∀ s ∈ encB r, s.length = 64 := fun s hs => by
  unfold encB at hs
  obtain ⟨i, _, rfl⟩ := List.mem_map.1 hs
  exact blkJ_len ..
theorem chunk_pad (X : List Int) (K i : Nat) (h : 63 * (i + 1) ≤ X.length + K) : pad63 ((X.drop (63 * i)).take 63) = ((X ++ List.replicate K 0).drop (63 * i)).take 63 := by
  unfold pad63
  rw [List.drop_append, List.take_append, List.drop_replicate, List.take_replicate]
  congr 2
  simp only [List.length_take, List.length_drop]
  omega
theorem flat_chunks (r : List Int) (K : Nat) : ∀ i, 63 * i ≤ (hdr r).length + K → (List.range i).flatMap (fun j => pad63 (chOf r j)) = (hdr r ++ List.replicate K 0).take (63 * i)
  | 0, _ => rfl
  | i + 1, h => by
    rw [List.range_succ, List.flatMap_append, flat_chunks r K i (by omega), List.flatMap_singleton]
    unfold chOf
    rw [chunk_pad (hdr r) K i h, show 63 * (i + 1) = 63 * i + 63 by omega, List.take_add]
/-- The bytes of a record come out of its blocks. -/
theorem flat_enc (r : List Int) : (((encB r).flatMap (List.take 63)).drop 2).take r.length = r ∧ ((encB r).flatMap (List.take 63)).length = 63 * nbOf r.length := by
  have h1 : (encB r).flatMap (List.take 63) = (List.range (nbOf r.length)).flatMap (fun j => pad63 (chOf r j)) := by
    unfold encB
    rw [List.flatMap_map]
    congr 1
    funext j
    exact blkJ_take ..
  have h2 := flat_chunks r 63 (nbOf r.length) (by rw [hdr_len]; unfold nbOf; omega)
  rw [h1, h2]
  have h3 : 2 + r.length ≤ 63 * nbOf r.length := by unfold nbOf; omega
  have h4 : 63 * nbOf r.length ≤ r.length + 65 := by unfold nbOf; omega
  constructor
  · rw [List.drop_take, List.take_take, Nat.min_eq_left (by omega)]
    unfold hdr
    simp
  · rw [List.length_take, List.length_append, hdr_len, List.length_replicate]
    omega
theorem enc_head {r : List Int} : ∃ t, blkJ r 0 1 = ((r.length / 256 : Nat) : Int) :: ((r.length % 256 : Nat) : Int) :: t := by
  unfold blkJ pad63 chOf hdr
  rw [Nat.mul_zero, List.drop_zero]
  exact ⟨_, rfl⟩

def encsOf (R : List (List Int)) : List (List Int) := R.flatMap encB
/-- Sectors that begin no record. -/
def Tail0 (T : List (List Int)) : Prop := ∀ s ∈ T, s.length = 64 ∧ s[63]? = some 0
def okR (r : List Int) : Prop := r.length ≤ 60000 ∧ ∀ x ∈ r, 0 ≤ x ∧ x ≤ 255
/-- The sectors contain the records R, and nothing that looks like a further one. -/
def Jr (R : List (List Int)) (S : List (List Int)) : Prop := (∀ r ∈ R, okR r) ∧ ∃ T, S = encsOf R ++ T ∧ Tail0 T
theorem encsOf_snoc (R : List (List Int)) (r : List Int) : encsOf (R ++ [r]) = encsOf R ++ encB r := by unfold encsOf; rw [List.flatMap_append, List.flatMap_singleton]
theorem encsOf_len (R : List (List Int)) : R.length ≤ (encsOf R).length := by
  induction R with
  | nil => exact Nat.zero_le _
  | cons r R ih =>
    have h1 : encsOf (r :: R) = encB r ++ encsOf R := List.flatMap_cons
    have := nb_pos r.length
    rw [h1, List.length_append, List.length_cons, encB_len]
    omega
theorem Jr.used {R S : List (List Int)} (h : Jr R S) : (encsOf R).length ≤ S.length := by
  obtain ⟨_, T, rfl, _⟩ := h
  rw [List.length_append]
  omega
/-- The record number k lies behind those before it. -/
theorem Jr.rec {R S : List (List Int)} (h : Jr R S) {k : Nat} {r : List Int} (hk : R[k]? = some r) : ∃ T, S = encsOf (R.take k) ++ (encB r ++ T) ∧ encsOf (R.take (k + 1)) = encsOf (R.take k) ++ encB r := by
  obtain ⟨_, T, rfl, _⟩ := h
  have hlt := (List.getElem?_eq_some_iff.1 hk).1
  have hr := (List.getElem?_eq_some_iff.1 hk).2
  have h1 : R = R.take k ++ r :: R.drop (k + 1) := by rw [← hr]; simp
  refine ⟨encsOf (R.drop (k + 1)) ++ T, ?_, ?_⟩
  · conv => lhs; rw [h1]
    unfold encsOf
    rw [List.flatMap_append, List.flatMap_cons]
    simp only [List.append_assoc]
  · rw [List.take_add_one, hk, Option.toList_some, encsOf_snoc]
theorem Jr.at_end {R S : List (List Int)} (h : Jr R S) {s : List Int} (hs : S[(encsOf R).length]? = some s) : s.length = 64 ∧ s[63]? = some 0 := by
  obtain ⟨_, T, rfl, hT⟩ := h
  rw [List.getElem?_append_right (Nat.le_refl _), Nat.sub_self] at hs
  exact hT s (List.mem_of_getElem? hs)
theorem Jr.nil {N : Nat} : Jr [] (List.replicate N zeroS) := ⟨fun r hr => by simp at hr, List.replicate N zeroS, rfl, fun s hs => by rw [(List.mem_replicate.1 hs).2]; exact ⟨rfl, rfl⟩⟩
end Go.Proofs.Ythieonekjmdelaa
