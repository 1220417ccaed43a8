/- A journal's records as blocks of a disk. No conditions. The contracts of blocksFor and blocksOf. Conditions: the record is not too long. The contract of record: a record that lies in the sectors is read. Conditions: the disk lies in memory, the record in its sectors. Texts of one's own: a text is added. No conditions. -/
import Derived.Test.YthgfbaekmhpiaaaGreatDoorDiskC
import Derived.Laws.BytesArg
import Derived.Lib.AppendStr
import Derived.Lib.SmallJoins
import Derived.ChangeKeysEq
namespace Go.Proofs.YthgfbaekmhpiaaaGreatDoor
open Go.RowKit

/-- The bytes of a string as numbers. -/
def bsOf (s : ByteArray) : List Int := s.data.toList.map fun c => (c.toNat : Int)
theorem bsOf_len (s : ByteArray) : (bsOf s).length = s.size := by unfold bsOf; rw [List.length_map]; rfl
theorem str_bsOf (s : ByteArray) : strOfNums (bsOf s) = s := by
  have h : (bsOf s).map (fun n => UInt8.ofNat n.toNat) = s.data.toList := by
    unfold bsOf
    rw [List.map_map]
    conv => rhs; rw [← List.map_id s.data.toList]
    refine List.map_congr_left (fun c _ => ?_)
    simp
  unfold strOfNums
  rw [h]
theorem bsOf_cells (s : ByteArray) : Go.Lib.strCells s = cellsB (bsOf s) := by
  unfold Go.Lib.strCells cellsB bsOf
  rw [List.map_map]
  rfl
theorem bsOf_range (s : ByteArray) : ∀ x ∈ bsOf s, 0 ≤ x ∧ x ≤ 255 := fun x hx => by
  unfold bsOf at hx
  obtain ⟨c, _, rfl⟩ := List.mem_map.1 hx
  have := c.toNat_lt
  omega
theorem bsOf_str {r : List Int} (h : ∀ x ∈ r, 0 ≤ x ∧ x ≤ 255) : bsOf (strOfNums r) = r := by
  unfold bsOf strOfNums
  rw [List.map_map]
  conv => rhs; rw [← List.map_id r]
  refine List.map_congr_left (fun x hx => ?_)
  have := h x hx
  simp
  omega

def sJ (r : List Int) : Value := .string (strOfNums r)
/-- A record with its length before it. -/
def hdr (r : List Int) : List Int := ((r.length / 256 : Nat) : Int) :: ((r.length % 256 : Nat) : Int) :: r
theorem hdr_len (r : List Int) : (hdr r).length = r.length + 2 := rfl
def nbOf (n : Nat) : Nat := (n + 64) / 63
def chOf (r : List Int) (i : Nat) : List Int := ((hdr r).drop (63 * i)).take 63
def pad63 (c : List Int) : List Int := c ++ List.replicate (63 - c.length) 0
def blkJ (r : List Int) (i : Nat) (m : Int) : List Int := pad63 (chOf r i) ++ [m]
def encB (r : List Int) : List (List Int) := (List.range (nbOf r.length)).map fun i => blkJ r i (if i = 0 then 1 else 0)
theorem chOf_len (r : List Int) (i : Nat) : (chOf r i).length = Nat.min 63 (r.length + 2 - 63 * i) := by
  unfold chOf
  rw [List.length_take, List.length_drop, hdr_len]
theorem chOf_le (r : List Int) (i : Nat) : (chOf r i).length ≤ 63 := by unfold chOf; rw [List.length_take]; omega
theorem pad63_len {c : List Int} (h : c.length ≤ 63) : (pad63 c).length = 63 := by unfold pad63; simp; omega
theorem blkJ_len (r : List Int) (i : Nat) (m : Int) : (blkJ r i m).length = 64 := by unfold blkJ; rw [List.length_append, pad63_len (chOf_le r i)]; rfl
theorem blkJ_take (r : List Int) (i : Nat) (m : Int) : (blkJ r i m).take 63 = pad63 (chOf r i) := by
  unfold blkJ
  rw [List.take_append_of_le_length (Nat.le_of_eq (pad63_len (chOf_le r i)).symm), List.take_of_length_le (Nat.le_of_eq (pad63_len (chOf_le r i)))]
theorem blkJ_last (r : List Int) (i : Nat) (m : Int) : (blkJ r i m)[63]? = some m := by
  unfold blkJ
  rw [List.getElem?_append_right (Nat.le_of_eq (pad63_len (chOf_le r i))), pad63_len (chOf_le r i)]
  rfl
theorem encB_len (r : List Int) : (encB r).length = nbOf r.length := by unfold encB; simp
theorem nb_pos (n : Nat) : 0 < nbOf n := by unfold nbOf; omega
theorem encB_at {r : List Int} {i : Nat} (h : i < nbOf r.length) : (encB r)[i]? = some (blkJ r i (if i = 0 then 1 else 0)) := by
  unfold encB
  rw [List.getElem?_map, List.getElem?_range h]
  rfl
theorem encB_all {r : List Int} : ∀ s ∈ encB r, s.length = 64 := fun s hs => by
  unfold encB at hs
  obtain ⟨i, _, rfl⟩ := List.mem_map.1 hs
  exact blkJ_len ..
theorem chunk_pad (X : List Int) (K i : Nat) (h : 63 * (i + 1) ≤ X.length + K) : pad63 ((X.drop (63 * i)).take 63) = ((X ++ List.replicate K 0).drop (63 * i)).take 63 := by
  unfold pad63
  rw [List.drop_append, List.take_append, List.drop_replicate, List.take_replicate]
  congr 2
  simp only [List.length_take, List.length_drop]
  omega
theorem flat_chunks (r : List Int) (K : Nat) : ∀ i, 63 * i ≤ (hdr r).length + K → (List.range i).flatMap (fun j => pad63 (chOf r j)) = (hdr r ++ List.replicate K 0).take (63 * i)
  | 0, _ => rfl
  | i + 1, h => by
    rw [List.range_succ, List.flatMap_append, flat_chunks r K i (by omega), List.flatMap_singleton]
    unfold chOf
    rw [chunk_pad (hdr r) K i h, show 63 * (i + 1) = 63 * i + 63 by omega, List.take_add]
/-- The bytes of a record come out of its blocks. -/
theorem flat_enc (r : List Int) : (((encB r).flatMap (List.take 63)).drop 2).take r.length = r ∧ ((encB r).flatMap (List.take 63)).length = 63 * nbOf r.length := by
  have h1 : (encB r).flatMap (List.take 63) = (List.range (nbOf r.length)).flatMap (fun j => pad63 (chOf r j)) := by
    unfold encB
    rw [List.flatMap_map]
    congr 1
    funext j
    exact blkJ_take ..
  have h2 := flat_chunks r 63 (nbOf r.length) (by rw [hdr_len]; unfold nbOf; omega)
  rw [h1, h2]
  have h3 : 2 + r.length ≤ 63 * nbOf r.length := by unfold nbOf; omega
  have h4 : 63 * nbOf r.length ≤ r.length + 65 := by unfold nbOf; omega
  constructor
  · rw [List.drop_take, List.take_take, Nat.min_eq_left (by omega)]
    unfold hdr
    simp
  · rw [List.length_take, List.length_append, hdr_len, List.length_replicate]
    omega
theorem enc_head {r : List Int} : ∃ t, blkJ r 0 1 = ((r.length / 256 : Nat) : Int) :: ((r.length % 256 : Nat) : Int) :: t := by
  unfold blkJ pad63 chOf hdr
  rw [Nat.mul_zero, List.drop_zero]
  exact ⟨_, rfl⟩

def encsOf (R : List (List Int)) : List (List Int) := R.flatMap encB
/-- Sectors that begin no record. -/
def Tail0 (T : List (List Int)) : Prop := ∀ s ∈ T, s.length = 64 ∧ s[63]? = some 0
def okR (r : List Int) : Prop := r.length ≤ 60000 ∧ ∀ x ∈ r, 0 ≤ x ∧ x ≤ 255
/-- The sectors contain the records R, and nothing that looks like a further one. -/
def Jr (R : List (List Int)) (S : List (List Int)) : Prop := (∀ r ∈ R, okR r) ∧ ∃ T, S = encsOf R ++ T ∧ Tail0 T
theorem encsOf_snoc (R : List (List Int)) (r : List Int) : encsOf (R ++ [r]) = encsOf R ++ encB r := by unfold encsOf; rw [List.flatMap_append, List.flatMap_singleton]
theorem encsOf_len (R : List (List Int)) : R.length ≤ (encsOf R).length := by
  induction R with
  | nil => exact Nat.zero_le _
  | cons r R ih =>
    have h1 : encsOf (r :: R) = encB r ++ encsOf R := List.flatMap_cons
    have := nb_pos r.length
    rw [h1, List.length_append, List.length_cons, encB_len]
    omega
theorem Jr.used {R S : List (List Int)} (h : Jr R S) : (encsOf R).length ≤ S.length := by
  obtain ⟨_, T, rfl, _⟩ := h
  rw [List.length_append]
  omega
/-- The record number k lies behind those before it. -/
theorem Jr.rec {R S : List (List Int)} (h : Jr R S) {k : Nat} {r : List Int} (hk : R[k]? = some r) : ∃ T, S = encsOf (R.take k) ++ (encB r ++ T) ∧ encsOf (R.take (k + 1)) = encsOf (R.take k) ++ encB r := by
  obtain ⟨_, T, rfl, _⟩ := h
  have hlt := (List.getElem?_eq_some_iff.1 hk).1
  have hr := (List.getElem?_eq_some_iff.1 hk).2
  have h1 : R = R.take k ++ r :: R.drop (k + 1) := by rw [← hr]; simp
  refine ⟨encsOf (R.drop (k + 1)) ++ T, ?_, ?_⟩
  · conv => lhs; rw [h1]
    unfold encsOf
    rw [List.flatMap_append, List.flatMap_cons]
    simp only [List.append_assoc]
  · rw [List.take_add_one, hk, Option.toList_some, encsOf_snoc]
theorem Jr.at_end {R S : List (List Int)} (h : Jr R S) {s : List Int} (hs : S[(encsOf R).length]? = some s) : s.length = 64 ∧ s[63]? = some 0 := by
  obtain ⟨_, T, rfl, hT⟩ := h
  rw [List.getElem?_append_right (Nat.le_refl _), Nat.sub_self] at hs
  exact hT s (List.mem_of_getElem? hs)
theorem Jr.nil {N : Nat} : Jr [] (List.replicate N zeroS) := ⟨fun r hr => by simp at hr, List.replicate N zeroS, rfl, fun s hs => by rw [(List.mem_replicate.1 hs).2]; exact ⟨rfl, rfl⟩⟩
end Go.Proofs.YthgfbaekmhpiaaaGreatDoor
namespace Go.Proofs.YthgfbaekmhpiaaaGreatDoor
open Go.RowKit

theorem blocksFor_any (n : Nat) (hn : n ≤ 1000000) (w : World) :
    Calls Tryz.prog 74 #[.int .i64 (n : Int)] w fun e w' => e = .returned (.int .i64 (nbOf n : Int)) ∧ w = w' := by
  have HE : Hid ((2 + (n : Int) + 63 - 1) / 63 = (nbOf n : Int)) := Lib.hid (by unfold nbOf; omega)
  go_enter Tryz.func74, Tryz.ntmps74
  go_wp2_with fail
  go_ret
  exact ⟨by rw [HE.out]; rfl, rfl⟩

/-- The blocks when k of them are filled. -/
def partJ (r : List Int) (k : Nat) : List (List Int) := (List.range (nbOf r.length)).map fun i => if i < k then blkJ r i 0 else zeroS
theorem partJ_len (r : List Int) (k : Nat) : (partJ r k).length = nbOf r.length := by unfold partJ; simp
theorem partJ_zero (r : List Int) : partJ r 0 = List.replicate (nbOf r.length) zeroS := by
  unfold partJ
  simp
  exact List.eq_replicate_iff.2 ⟨by simp, fun b hb => by obtain ⟨_, _, rfl⟩ := List.mem_map.1 hb; rfl⟩
theorem partJ_zero_of {r : List Int} {n : Nat} (h : r.length = n) : partJ r 0 = List.replicate (nbOf n) zeroS := by rw [← h]; exact partJ_zero r
theorem partJ_all (r : List Int) (k : Nat) : ∀ s ∈ partJ r k, s.length = 64 := fun s hs => by
  unfold partJ at hs
  obtain ⟨i, _, rfl⟩ := List.mem_map.1 hs
  split
  · exact blkJ_len ..
  · rfl
theorem partJ_at (r : List Int) (k i : Nat) (h : i < nbOf r.length) : (partJ r k)[i]? = some (if i < k then blkJ r i 0 else zeroS) := by
  unfold partJ
  rw [List.getElem?_map, List.getElem?_range h]
  rfl
theorem ch_fill (r : List Int) (k : Nat) : chOf r k ++ zeroS.drop (chOf r k).length = blkJ r k 0 := by
  have h := chOf_le r k
  unfold blkJ pad63 zeroS
  rw [List.drop_replicate, List.append_assoc]
  congr 1
  rw [show ([0] : List Int) = List.replicate 1 0 from rfl, List.replicate_append_replicate]
  congr 1
  omega
theorem partJ_step (r : List Int) (k : Nat) : (partJ r k).set k (chOf r k ++ zeroS.drop (chOf r k).length) = partJ r (k + 1) := by
  rw [ch_fill]
  apply List.ext_getElem?
  intro i
  by_cases hi : i < nbOf r.length
  · rw [partJ_at r (k + 1) i hi]
    by_cases he : k = i
    · subst he
      rw [List.getElem?_set_self (by rw [partJ_len]; exact hi), if_pos (by omega)]
    · rw [List.getElem?_set_ne he, partJ_at r k i hi]
      congr 1
      by_cases h : i < k
      · rw [if_pos h, if_pos (by omega)]
      · rw [if_neg h, if_neg (by omega)]
  · rw [List.getElem?_eq_none (by rw [List.length_set, partJ_len]; omega), List.getElem?_eq_none (by rw [partJ_len]; omega)]
theorem partJ_mark (r : List Int) : (((partJ r (nbOf r.length)).flatMap cellsB).toArray).setIfInBounds 63 (.int .u8 1) = ((encB r).flatMap cellsB).toArray := by
  have h0 := nb_pos r.length
  obtain ⟨n, hn⟩ : ∃ n, nbOf r.length = n + 1 := ⟨nbOf r.length - 1, by omega⟩
  have h1 : partJ r (nbOf r.length) = blkJ r 0 0 :: (List.range n).map (fun i => blkJ r (i + 1) 0) := by
    unfold partJ
    rw [hn, List.range_succ_eq_map, List.map_cons, if_pos (by omega), List.map_map]
    congr 1
    refine List.map_congr_left (fun i hi => ?_)
    have := List.mem_range.1 hi
    show (if i + 1 < n + 1 then _ else _) = _
    rw [if_pos (by omega)]
  have h2 : encB r = blkJ r 0 1 :: (List.range n).map (fun i => blkJ r (i + 1) 0) := by
    unfold encB
    rw [hn, List.range_succ_eq_map, List.map_cons, if_pos rfl, List.map_map]
    rfl
  have hl : (cellsB (pad63 (chOf r 0))).length = 63 := by rw [cellsB_len, pad63_len (chOf_le r 0)]
  have h3 : ∀ m, cellsB (blkJ r 0 m) = cellsB (pad63 (chOf r 0)) ++ [.int .u8 m] := fun m => by unfold blkJ cellsB; rw [List.map_append]; rfl
  rw [h1, h2, List.setIfInBounds_toArray, List.flatMap_cons, List.flatMap_cons, h3, h3, List.append_assoc, List.append_assoc, List.set_append, if_neg (by omega), hl]
  rfl

set_option maxRecDepth 100000 in
set_option maxHeartbeats 1000000 in
theorem blocksOf_any (s : ByteArray) (hs : s.size ≤ 60000) (w : World) :
    Calls Tryz.prog 102 #[.string s] w fun e w' => ∃ g, e = .returned (.slice (some ⟨g, 0, none⟩) (nbOf s.size) (nbOf s.size)) ∧ Blk w' g 121 ((encB (bsOf s)).flatMap cellsB).toArray ∧ w.heap.size ≤ g ∧ Below w.heap.size w w' := by
  obtain ⟨i0, hi, hz0, hz1, hz2⟩ := info_parts infoU8
  obtain ⟨r, hr⟩ : ∃ r, r = bsOf s := ⟨_, rfl⟩
  have hrl : r.length = s.size := by rw [hr, bsOf_len]
  rw [← hr]
  have h0 : (w.alloc (.cells #[.int .u8 ((s.size : Int) / 256), .int .u8 ((s.size : Int) % 256)] 5)).ownsRow w.heap.size 5 1 (.slice (some ⟨w.heap.size, 0, none⟩) 2 2) 2 [.int .u8 ((s.size : Int) / 256), .int .u8 ((s.size : Int) % 256)] :=
    ⟨rfl, .inr ⟨w.heap.size, 2, _, rfl, Nat.le_refl _, heap_alloc_new w _, Nat.le_refl _, by unfold maxLen; omega, rfl, rfl⟩⟩
  obtain ⟨v', w2, hrun, hO, hg, hnil⟩ := Go.Lib.run_append_own_string (P := Tryz.prog) (w.alloc (.cells #[.int .u8 ((s.size : Int) / 256), .int .u8 ((s.size : Int) % 256)] 5)) w.heap.size 54 9 54 5 i0 rowU8 (by kernel_rfl) hi hz0 hz1 hz2 _ 2 _ h0 s (by unfold maxLen; omega) (by omega) (by simp)
  have hB2 : Below w.heap.size w w2 := ((Below.refl _ _).alloc (Nat.le_refl _) _).trans ((Keeps.of_grown (S := fun k => k = w.heap.size) hg (fun k hk _ => by simp [Value.ownBlock] at hk; exact hk.symm)).below (fun k hk e => by omega) (by simp))
  have hcs : [.int .u8 ((s.size : Int) / 256), .int .u8 ((s.size : Int) % 256)] ++ Go.Lib.strCells s = cellsB (hdr r) := by
    rw [bsOf_cells, ← hr]
    unfold hdr cellsB
    rw [hrl]
    rfl
  rw [hcs] at hO
  have hLl := hdr_len r
  obtain ⟨g2, c2, rfl, hg2, hgl2⟩ : ∃ g2 c2, v' = .slice (some ⟨g2, 0, none⟩) (2 + s.size) c2 ∧ g2 < w2.heap.size ∧ 2 + s.size ≤ c2 := by
    have hlt := World.ownsRow.lt hO
    rcases hO.2 with ⟨_, h1⟩ | ⟨g', cap, cur, rfl, _, _, hroom, _⟩
    · omega
    · exact ⟨g', cap, rfl, (hlt g' rfl).2, hroom⟩
  have hrg : w2.rangeAt g2 0 (cellsB (hdr r)) := fun j v hv => by
    rw [Nat.zero_add]
    have hj := (List.getElem?_eq_some_iff.1 hv).1
    have h1 := hO.cellAt j (by unfold cellsB at hj; rw [List.length_map, hLl] at hj; omega)
    rw [h1, hv]
  have hmk := make_blocks (nbOf s.size) (by unfold nbOf; omega) w2
  rw [← partJ_zero_of hrl] at hmk
  have HRG := Lib.hid hrg
  have HB2 := Lib.hid hB2
  have hnb : nbOf r.length = nbOf s.size := by rw [hrl]
  obtain ⟨nb, hnbe⟩ : ∃ nb, nb = nbOf s.size := ⟨_, rfl⟩
  have hnb1 : 63 * (nb - 1) < s.size + 2 ∧ 0 < nb ∧ nb ≤ 953 := by rw [hnbe]; unfold nbOf; omega
  have HBF := Lib.hid (blocksFor_any s.size (by omega) w2)
  rw [← hnbe] at hmk HBF hnb ⊢
  have HNB := Lib.hid hnbe
  clear hO hg hnil h0 hrg hB2 hcs hnbe
  go_enter Tryz.func102, Tryz.ntmps102
  go_wp2_with (first | (at_builtin; refine Lib.wpList_append_run _ rfl _ _ _ _ rfl _ _ rfl rfl _ _ hrun ?_))
  refine HBF.out.mono ?_
  rintro e w3 ⟨rfl, rfl⟩
  obtain ⟨W3, hW3⟩ : ∃ W3, W3 = w2.alloc (.cells ((partJ r 0).flatMap cellsB).toArray 121) := ⟨_, rfl⟩
  rw [← hW3] at hmk
  have k3 : Blk W3 w2.heap.size 121 ((partJ r 0).flatMap cellsB).toArray := by rw [hW3]; exact Blk.new ..
  have hK3 : Keeps (fun _ => False) w2 W3 := by rw [hW3]; exact (Keeps.refl _ _).alloc _
  obtain ⟨g, hgg⟩ : ∃ g, g = w2.heap.size := ⟨_, rfl⟩
  rw [← hgg] at hmk k3
  have hgw : w.heap.size ≤ g := by rw [hgg]; exact HB2.out.size
  have hg2g : g2 ≠ g := by omega
  have hszU : (Tryz.prog.info? 5).map (·.size) = some 1 := by kernel_rfl
  have HK3 := Lib.hid hK3
  have HGG := Lib.hid hgg
  clear hW3 HBF hrun hK3 hgg
  go_wp2_with fail
  go_loopw [3, 23] (fun d i wr => ∃ k : Nat, k ≤ nb ∧ i = .int .i64 k ∧ (k < nb → d = .slice (some ⟨g2, 63 * k, none⟩) (2 + s.size - 63 * k) (c2 - 63 * k)) ∧ Blk wr g 121 ((partJ r k).flatMap cellsB).toArray ∧ Keeps (fun j => j = g) W3 wr) (fun _ i _ => nb - (intOf i).toNat)
  case atStart => exact ⟨0, Nat.zero_le _, rfl, fun _ => rfl, k3, Keeps.refl _ _⟩
  case round =>
    obtain ⟨k, hk, rfl, hd, kB, hKr⟩ := hrel
    by_cases hlt : k < nb
    · have hki : (k : Int) < (nb : Int) := by omega
      have hd' := hd hlt
      subst hd'
      have hKr' := Lib.hid hKr
      clear hd hKr
      have hcs : 0 < (cellsB (chOf r k)).length → (some ⟨g, k * 64, none⟩ : Option Addr) = some ⟨g, k * 64, none⟩ ∧ ∃ ad, (some ⟨g2, 63 * k, none⟩ : Option Addr) = some ad ∧ ∀ j v, (cellsB (chOf r k))[j]? = some v → wr.cell? (ad.add j) = some v := fun _ => by
        refine ⟨rfl, _, rfl, fun j v hj => ?_⟩
        have hg2w : g2 < W3.heap.size := by have := HK3.out.size; omega
        have h0 := HRG.out (63 * k + j) v (by
          unfold cellsB chOf at hj
          rw [List.getElem?_map, List.getElem?_take] at hj
          split at hj
          · rw [List.getElem?_drop] at hj
            unfold cellsB
            rw [List.getElem?_map]
            exact hj
          · simp at hj)
        rw [Nat.zero_add] at h0
        have h1 := (HK3.out.cell (b := g2) (o := 63 * k + j) hg2 (fun e => e)).trans h0
        rw [Addr.add_mid]
        exact (hKr'.out.cell (b := g2) (o := 63 * k + j) hg2w hg2g).trans h1
      have HCS := Lib.hid hcs
      have HLN : Hid ((cellsB (chOf r k)).length = Nat.min (2 + s.size - 63 * k) 63) := Lib.hid (by rw [cellsB_len, chOf_len, hrl]; simp only [Nat.min_def]; split <;> split <;> omega)
      have HFT : Hid (k * 64 + (cellsB (chOf r k)).length ≤ ((partJ r k).flatMap cellsB).length) := Lib.hid (by
        rw [flat_len (partJ_all r k), partJ_len, cellsB_len, hnb]
        have := chOf_le r k
        omega)
      have HST := Lib.hid (flat_part (partJ_all r k) (k := k) (b := chOf r k) (old := zeroS) (by have := chOf_le r k; omega) (by rw [partJ_at r k k (by omega), if_neg (by omega)]))
      have HCL : Hid ((cellsB (chOf r k)).length = Nat.min 63 (s.size + 2 - 63 * k)) := Lib.hid (by rw [cellsB_len, chOf_len, hrl])
      have HON := Lib.hid (cellsB_one (chOf r k))
      obtain ⟨Y, hY⟩ : ∃ Y, Y = cellsB (chOf r k) := ⟨_, rfl⟩
      rw [← hY] at HCS HLN HFT HST HCL HON
      have hYl : Y.length ≤ 2 + s.size - 63 * k ∧ Y.length ≤ c2 - 63 * k ∧ (k + 1 < nb → Y.length = 63) := by
        rw [HCL.out]
        simp only [Nat.min_def]
        split <;> omega
      obtain ⟨hYl1, hYl2, hYl3⟩ := hYl
      have HYL3 := Lib.hid hYl3
      clear hcs hY hYl3
      have hb1 : k < nb := hlt
      go_wp2_with (refine wpList_copy_keeps rfl _ _ _ _ rfl 5 rowU8 hszU _ _ 63 64 (2 + s.size - 63 * k) (c2 - 63 * k) rfl rfl g (k * 64) ((partJ r k).flatMap cellsB) 121 kB Y HLN.out HCS.out HFT.out HON.out ?_; intro w4 HB4 HK4)
      go_roundw
      case rel =>
        refine ⟨k + 1, by omega, by go_num, fun h1 => ?_, ?_, hKr'.out.trans HK4.out (fun i _ e => e)⟩
        · have := HYL3.out h1
          rw [if_neg (by omega), this, show 63 * k + 63 = 63 * (k + 1) by omega, show 2 + s.size - 63 * k - 63 = 2 + s.size - 63 * (k + 1) by omega, show c2 - 63 * k - 63 = c2 - 63 * (k + 1) by omega]
        · have := HB4.out
          rw [HST.out, partJ_step] at this
          exact this
      case measure => simp [intOf]; omega
    · have hki : ¬ (k : Int) < (nb : Int) := by omega
      obtain rfl : k = nb := by omega
      obtain ⟨v63, h63⟩ : ∃ v, ((partJ r k).flatMap cellsB).toArray[63]? = some v := by
        rw [List.getElem?_toArray]
        refine ⟨_, List.getElem?_eq_getElem ?_⟩
        rw [flat_len (partJ_all r k), partJ_len]
        omega
      have c63 := (kB.cell 63).trans h63
      have f63 := kB.frozen 63
      have HE := Lib.hid (kB.set 63 (.int .u8 1))
      have HK := Lib.hid (hKr.setCell (p := ⟨g, 63, none⟩) (fun _ => rfl) (.int .u8 1))
      have hgl := kB.lt
      clear hd kB hKr h63
      go_wp2_with fail
      go_ret
      refine ⟨g, rfl, ?_, hgw, ?_⟩
      · have := HE.out
        rw [← hnb, partJ_mark r] at this
        rw [← hr]
        exact this
      · exact (HB2.out.trans ((HK3.out.below (B := w.heap.size) (fun _ _ e => e) HB2.out.size))).trans (HK.out.below (fun i hi e => by omega) (by have := HK3.out.size; have := HB2.out.size; omega))
end Go.Proofs.YthgfbaekmhpiaaaGreatDoor
namespace Go.Proofs.YthgfbaekmhpiaaaGreatDoor
open Go.RowKit

theorem u8IntJ : Tryz.prog.underlying 5 = some (.int .u8) := by kernel_rfl
theorem eq_items (X : List Int) (w : World) : ∀ is : List Nat, (∀ i ∈ is, i < X.length) → (Op.eqItems 9999 5 1 (cellsB X).toArray (cellsB X).toArray is).run Tryz.prog w = .ok true w
  | [], _ => by simp [Op.eqItems]
  | i :: is, h => by
    have hi := h i (List.mem_cons_self ..)
    have hx : (cellsB X).toArray[i * 1]? = some (.int .u8 X[i]) := by
      rw [Nat.mul_one, List.getElem?_toArray]
      unfold cellsB
      rw [List.getElem?_map, List.getElem?_eq_getElem hi]
      rfl
    have hp := run_part_plain (P := Tryz.prog) w (e := 5) (by kernel_rfl) hx
    have he := run_equalIn_int (P := Tryz.prog) w 9998 5 .u8 .u8 X[i] X[i] u8IntJ
    rw [beq_self_eq_true] at he
    simp only [Op.eqItems, Sem.run_bind, hp, he, Result.andThen_ok]
    exact eq_items X w is (fun j hj => h j (List.mem_cons_of_mem _ hj))
theorem neq_block (X : List Int) (h : X.length = 64) (w : World) : (binOp .neq 121 (.agg (cellsB X).toArray) (.agg (cellsB X).toArray)).run Tryz.prog w = .ok (.bool false) w := by
  obtain ⟨i0, hi, hz0, hz1, hz2⟩ := info_parts infoU8
  have he := run_equalIn_array (P := Tryz.prog) w 9999 (t := 121) (cellsB X).toArray (cellsB X).toArray descBlock hi
  rw [run_neq_struct, he]
  have hc : Tryz.prog.cellsOf 5 = 1 := by kernel_rfl
  rw [hc, eq_items X w _ (fun i hi => by rw [h]; exact List.mem_range.1 hi)]
  rfl

theorem wrap64_id (x : Int) (h1 : -9223372036854775808 ≤ x) (h2 : x ≤ 9223372036854775807) : IntKind.i64.wrap x = x := by
  have hb : IntKind.i64.bits = 64 := rfl
  have hs : IntKind.i64.signed = true := rfl
  unfold IntKind.wrap
  rw [hb, hs]
  simp
  omega
theorem blocksFor_eq (n : Nat) (hn : n ≤ 1000000) (w : World) :
    Calls Tryz.prog 74 #[.int .i64 (n : Int)] w fun e w' => e = .returned (.int .i64 (nbOf n : Int)) ∧ w' = w :=
  (blocksFor_any n hn w).mono fun _ _ h => And.intro h.1 h.2.symm
/-- The bytes of the first k blocks of a record. -/
def flJ (r : List Int) (k : Nat) : List Int := (List.range k).flatMap fun j => pad63 (chOf r j)
theorem flJ_len (r : List Int) : ∀ k, (flJ r k).length = 63 * k
  | 0 => rfl
  | k + 1 => by
    have h : flJ r (k + 1) = flJ r k ++ pad63 (chOf r k) := by unfold flJ; rw [List.range_succ, List.flatMap_append, List.flatMap_singleton]
    rw [h, List.length_append, flJ_len r k, pad63_len (chOf_le r k)]
    omega
theorem fl_enc (r : List Int) : ∀ (k : Nat) (m : Int), flJ r (k + 1) = flJ r k ++ (blkJ r k m).take 63 := fun k m => by
  rw [blkJ_take]
  unfold flJ
  rw [List.range_succ, List.flatMap_append, List.flatMap_singleton]
theorem flJ_rec (r : List Int) : ((flJ r (nbOf r.length)).drop 2).take r.length = r := by
  have h := (flat_enc r).1
  have h1 : (encB r).flatMap (List.take 63) = flJ r (nbOf r.length) := by
    unfold encB flJ
    rw [List.flatMap_map]
    congr 1
    funext j
    exact blkJ_take ..
  rwa [h1] at h
theorem strDescJ : Tryz.prog.underlying 9 = some .string := by kernel_rfl
theorem OwnU.at' {w : World} {base : Nat} {A : Option Addr} {c : Nat} {l : List Int} (h : OwnU w base (.slice A l.length c) l) (hp : 0 < l.length) : ∃ g, A = some ⟨g, 0, none⟩ ∧ base ≤ g ∧ g < w.heap.size ∧ ∀ k x, l[k]? = some x → w.cell? ⟨g, k, none⟩ = some (.int .u8 x) := by
  have hlt := World.ownsRow.lt h
  unfold OwnU at h
  have h0 := h
  rcases h0.2 with ⟨h1, h2⟩ | ⟨g, cap, cur, h1, hb, hg, _⟩
  · omega
  · simp only [Value.slice.injEq] at h1
    obtain ⟨rfl, _, rfl⟩ := h1
    refine ⟨g, rfl, hb, hlt g rfl |>.2, fun k x hx => ?_⟩
    have hk := (List.getElem?_eq_some_iff.1 hx).1
    rw [h.cellAt k (by omega)]
    unfold cellsB
    rw [List.getElem?_map, hx]
    rfl
theorem OwnU.room' {w : World} {base : Nat} {A : Option Addr} {c : Nat} {l : List Int} (h : OwnU w base (.slice A l.length c) l) (hp : 0 < l.length) : l.length ≤ c := by
  unfold OwnU at h
  rcases h.2 with ⟨h1, h2⟩ | ⟨g, cap, cur, h1, _, _, hr, _⟩
  · omega
  · simp only [Value.slice.injEq] at h1
    obtain ⟨_, _, rfl⟩ := h1
    exact hr
theorem ownsRow_kept' {w w' : World} {base : Nat} {e : TypeId} {sz n : Nat} {v : Value} {xs : List Value} (h : w.ownsRow base e sz v n xs) (hb : Below w.heap.size w w') : w'.ownsRow base e sz v n xs := by
  have hl := World.ownsRow.lt h
  refine ⟨h.1, ?_⟩
  rcases h.2 with h0 | ⟨g, cap, cur, rfl, hbb, hg, rest⟩
  · exact .inl h0
  · exact .inr ⟨g, cap, cur, rfl, hbb, (hb.block g (hl g rfl).2).trans hg, rest⟩
set_option maxRecDepth 100000 in
set_option maxHeartbeats 2000000 in
theorem record_ok {w : World} {p gs : Nat} {vp : Value} {S : List (List Int)} {P : List PW} {dn st : Bool} {ca : Int} (h : DiskAt w p gs vp S P dn st ca) (hS : S.length ≤ 65536) (u : Nat) (r : List Int) (hr : okR r) (pre T : List (List Int)) (hpre : pre.length = u) (hST : S = pre ++ (encB r ++ T)) :
    Calls Tryz.prog 73 #[.pointer (some ⟨p, 0, none⟩), .int .i64 (u : Int)] w fun e w' => e = .returned (.tuple #[sJ r, .int .i64 0]) ∧ Below w.heap.size w w' := by
  have hE : ∀ k, k < nbOf r.length → S[u + k]? = some (blkJ r k (if k = 0 then 1 else 0)) := fun k hk => by
    rw [hST, List.getElem?_append_right (by omega), hpre, Nat.add_sub_cancel_left, List.getElem?_append_left (by rw [encB_len]; exact hk), encB_at hk]
  have hSl : u + nbOf r.length ≤ S.length := by rw [hST, List.length_append, List.length_append, encB_len]; omega
  have hnb := nb_pos r.length
  have hnb3 : r.length + 2 ≤ 63 * nbOf r.length := by unfold nbOf; omega
  have hnb2 : nbOf r.length ≤ 953 := by have := hr.1; unfold nbOf; omega
  obtain ⟨t, ht⟩ := enc_head (r := r)
  have h0 := hE 0 hnb
  rw [if_pos rfl, Nat.add_zero, ht] at h0
  have hrg := h.range h0
  obtain ⟨X, hX⟩ : ∃ X, X = cellsB (((r.length / 256 : Nat) : Int) :: ((r.length % 256 : Nat) : Int) :: t) := ⟨_, rfl⟩
  have hXl : X.length = 64 := by rw [hX, ← ht, cellsB_len, blkJ_len]
  have hXs : X.toArray.size = 64 := hXl
  have hX0 : X[0]? = some (.int .u8 ((r.length / 256 : Nat) : Int)) := by rw [hX]; rfl
  have hX1 : X[1]? = some (.int .u8 ((r.length % 256 : Nat) : Int)) := by rw [hX]; rfl
  have hXo : X.toArray.all (·.oneCell') = true := by rw [hX]; exact all_oneCell_toArray (cellsB_one _)
  rw [← hX] at hrg
  have hsz : (Tryz.prog.info? 121).map (·.size) = some X.length := by rw [hXl]; exact sizeBlock
  obtain ⟨Z0, hZ0⟩ : ∃ Z0, Z0 = (List.replicate 64 (Value.int .u8 0)).toArray := ⟨_, rfl⟩
  have hZ0s : Z0.size = 64 := by rw [hZ0]; rfl
  have hzv : ∀ W, (zeroValue 121).run Tryz.prog W = .ok (.agg Z0) W := (zero_of_info (n := 64) (by rw [hZ0]; kernel_rfl)).1
  have hZ0n : ¬ Z0 = #[] := fun e => by rw [e] at hZ0s; cases hZ0s
  have c0 := h.blk.cell 0
  have zp := h.blk.lt
  have zs := h.sec.lt
  simp at c0
  have hul : (u : Int) < (S.length : Int) := by omega
  have HZ0 := Lib.hid hZ0
  have HE := Lib.hid hE
  have HD := Lib.hid h
  have HST := Lib.hid hST
  clear hZ0 hE h hX ht h0 hST
  go_enter Tryz.func73, Tryz.ntmps73
  go_upto_region 2 with (first
    | (refine wpList_load_mid rfl _ _ rfl gs (u * 64) rfl X _ hrg descBlock rfl hsz ?_)

    | (refine wpList_store_row rfl _ _ _ rfl w.heap.size X.toArray rfl rfl 121 Z0 (heap_alloc_new w _) (by rw [hXs, sizeBlock]) (by rw [hXs, hZ0s]) hXo ?_))
  rw [World.setRow_alloc_new]
  have kX := Blk.new w 121 X.toArray
  have hB1 : Below w.heap.size w (w.alloc (.cells X.toArray 121)) := (Below.refl _ _).alloc (Nat.le_refl _) _
  have hD1 := HD.out.below hB1
  have hs1 : w.heap.size < (w.alloc (.cells X.toArray 121)).heap.size := by simp
  generalize w.alloc (.cells X.toArray 121) = w1 at kX hB1 hD1 hs1 ⊢
  have e0 := kX.cell 0
  have e1 := kX.cell 1
  rw [List.getElem?_toArray, hX0] at e0
  rw [List.getElem?_toArray, hX1] at e1
  have d0 := hD1.blk.cell 0
  have zp1 := hD1.blk.lt
  simp at d0
  have HSZ : Hid (((r.length / 256 : Nat) : Int) * 256 + ((r.length % 256 : Nat) : Int) = (r.length : Int)) := Lib.hid (by omega)
  have hq : ((r.length / 256 : Nat) : Int) ≤ 255 := by have := hr.1; omega
  have hq0 : (0 : Int) ≤ ((r.length / 256 : Nat) : Int) := by omega
  have hm : ((r.length % 256 : Nat) : Int) ≤ 255 := by omega
  have hm0 : (0 : Int) ≤ ((r.length % 256 : Nat) : Int) := by omega
  have HB1 := Lib.hid hB1
  have HD1 := Lib.hid hD1
  have HX0 := Lib.hid hX0
  have HXo := Lib.hid hXo
  clear c0 zp hrg hX0 hX1 hXo kX hB1 hD1 hXl hXs hsz
  generalize hqq : ((r.length / 256 : Nat) : Int) = q1 at *
  generalize hmm : ((r.length % 256 : Nat) : Int) = q2 at *
  go_upto_region 3 with fail
  rw [HSZ.out]
  clear e0 e1 hq hq0 hm hm0 hqq hmm HSZ
  have hrl := hr.1
  have g1 : decide ((60000 : Int) < (r.length : Int)) = false := decide_eq_false (by omega)
  have g2 : ¬ ((S.length : Int) - (u : Int) < (nbOf r.length : Int)) := by omega
  have g3 : decide ((S.length : Int) - (u : Int) < (nbOf r.length : Int)) = false := decide_eq_false g2
  have HBF := Lib.hid (fun W => blocksFor_eq r.length (by omega) W)
  generalize hnn : nbOf r.length = nb at *
  go_quiet ((go_at_call 74; exact Calls.quiet_of_same (HBF.out _)))
  have HB2 := Lib.hid (below_dr HB1.out nq)
  have HD2 := Lib.hid (HD1.out.below (below_dr (Below.refl _ w1) nq))
  have hs2 : w.heap.size < (w1.drewN nq).heap.size := hs1
  generalize w1.drewN nq = w2 at HB2 HD2 hs2 ⊢
  have d0 := HD2.out.blk.cell 0
  have zp2 := HD2.out.blk.lt
  simp at d0
  have hus : ¬ S.length = u := by omega
  have hus1 : nb ≤ S.length - u := by omega
  have hus2 : (nb : Int) ≤ ((S.length - u : Nat) : Int) := by omega
  have hus3 : (u : Int) ≤ (S.length : Int) := by omega
  clear HB1 HD1 zp1 hs1
  go_upto_region 6 with fail
  go_quiet ((go_at_call 74; exact Calls.quiet_of_same (HBF.out _)))
  have HB3 := Lib.hid (HB2.out.trans (below_dr (Below.refl w.heap.size w2) nq))
  have hs3 : w.heap.size < (w2.drewN nq).heap.size := hs2
  generalize w2.drewN nq = w3 at HB3 hs3 ⊢
  clear d0 zp2 HB2 HD2 hs2 g1 g2 g3
  have HFL := Lib.hid (fl_enc r)
  obtain ⟨i0, hi, hz0, hz1, hz2⟩ := info_parts infoU8
  go_wp2_with fail
  go_loopw [8, 53] (fun v i wr => ∃ k : Nat, k ≤ nb ∧ i = .int .i64 k ∧ (∃ A c, v = .slice A (63 * k) c) ∧ OwnU wr w.heap.size v (flJ r k) ∧ Below w.heap.size w wr) (fun _ i _ => nb - (intOf i).toNat)
  case atStart => exact ⟨0, Nat.zero_le _, rfl, ⟨none, 0, rfl⟩, World.ownsRow_nil _ _ _ _, HB3.out⟩
  case round =>
    obtain ⟨k, hk, rfl, ⟨A, c, rfl⟩, hO, hBr⟩ := hrel
    by_cases hlt : k < nb
    · have hki : (k : Int) < (nb : Int) := by omega
      have hEk := HE.out k hlt
      have hDr := HD.out.below hBr
      have hrk := hDr.range hEk
      obtain ⟨m, hm⟩ : ∃ m : Int, m = (if k = 0 then 1 else 0) := ⟨_, rfl⟩
      rw [← hm] at hrk
      have hFk := HFL.out k m
      obtain ⟨Y, hY⟩ : ∃ Y, Y = cellsB (blkJ r k m) := ⟨_, rfl⟩
      have hYl : Y.length = 64 := by rw [hY, cellsB_len, blkJ_len]
      have hYs : Y.toArray.size = 64 := hYl
      have hYo : Y.toArray.all (·.oneCell') = true := by rw [hY]; exact all_oneCell_toArray (cellsB_one _)
      have hYt : Y.take 63 = cellsB ((blkJ r k m).take 63) := by rw [hY]; unfold cellsB; rw [List.map_take]
      rw [← hY] at hrk
      rw [show (u + k) * 64 = u * 64 + k * 64 by omega] at hrk
      have hsY : (Tryz.prog.info? 121).map (·.size) = some Y.length := by rw [hYl]; exact sizeBlock
      have hB4 : Below wr.heap.size wr (wr.alloc (.cells Y.toArray 121)) := (Below.refl _ _).alloc (Nat.le_refl _) _
      have hO4 : OwnU (wr.alloc (.cells Y.toArray 121)) w.heap.size (.slice A (63 * k) c) (flJ r k) := ownsRow_kept' hO hB4
      have hfl : (flJ r k).length = 63 * k := flJ_len r k
      unfold OwnU at hO4
      rw [hfl] at hO4
      have kY := Blk.new wr 121 Y.toArray
      obtain ⟨v', w5, hrun, hO5, hg5, _, _⟩ := run_append_own_at (P := Tryz.prog) (wr.alloc (.cells Y.toArray 121)) w.heap.size 54 54 5 i0 _ 1 1 rowU8 hi hz0 hz1 hz2 rfl (by decide) (.slice A (63 * k) c) (63 * k) _ hO4 ⟨wr.heap.size, 0, none⟩ 63 64 (Y.take 63) (by rw [List.length_take, hYl]; rfl) (fun j x hx => by
        rw [Addr.add_mid, Nat.zero_add, kY.cell j, List.getElem?_toArray]
        rw [List.getElem?_take] at hx
        split at hx
        · exact hx
        · simp at hx) (fun x hx => by rw [hYt] at hx; exact cellsB_one _ x hx) (by unfold maxLen; omega) (by omega) (by have := hBr.size; simp; omega)
      have hB5 : Below w.heap.size w w5 := by
        have hb4 := hBr.alloc (Nat.le_trans hBr.size (Nat.le_refl _)) (.cells Y.toArray 121)
        refine hb4.trans ((Keeps.of_grown (S := fun j => (Value.slice A (63 * k) c).ownBlock = some j) hg5 (fun j hj _ => hj)).below (fun j hj e => ?_) hb4.size)
        have := (World.ownsRow.lt hO j e).1
        omega
      have hO6 : OwnU w5 w.heap.size v' (flJ r (k + 1)) := by
        unfold OwnU
        rw [flJ_len, hFk]
        unfold cellsB at hYt ⊢
        rw [List.map_append, ← hYt]
        exact hO5
      obtain ⟨A', c', rfl⟩ : ∃ A' c', v' = .slice A' (63 * k + 63) c' := by
        rcases hO5.2 with ⟨rfl, h1⟩ | ⟨g', cap, cur, rfl, _⟩
        · omega
        · exact ⟨_, cap, rfl⟩
      have HO6 := Lib.hid hO6
      have HB5 := Lib.hid hB5
      clear hO hBr hEk hDr hFk hY hYt hB4 hO4 hfl kY hO5 hg5 hO6 hB5 hm
      go_upto_region 9 with (first
        | (refine wpList_load_mid rfl _ _ rfl gs (u * 64 + k * 64) rfl Y _ hrk descBlock rfl hsY ?_)
        | (refine wpList_store_row rfl _ _ _ rfl wr.heap.size Y.toArray rfl rfl 121 Z0 (heap_alloc_new wr _) (by rw [hYs, sizeBlock]) (by rw [hYs, hZ0s]) hYo ?_))
      rw [World.setRow_alloc_new]
      go_wp2_with (first | (at_builtin; refine Lib.wpList_append_run _ rfl _ _ _ _ rfl _ _ rfl rfl _ _ hrun ?_))
      go_roundw
      case rel => exact ⟨k + 1, by omega, by go_num, ⟨A', c', rfl⟩, HO6.out, HB5.out⟩
      case measure => simp [intOf]; omega
    · have hki : ¬ (k : Int) < (nb : Int) := by omega
      obtain rfl : k = nb := by omega
      have hfl : (flJ r k).length = 63 * k := flJ_len r k
      have hrec := flJ_rec r
      rw [hnn] at hrec
      have hO' := hO
      rw [← hfl] at hO'
      have hroom := hO'.room' (by omega)
      obtain ⟨gd, rfl, _, hgd, hcell⟩ := hO'.at' (by omega)
      have hc2 : ¬ c = 2 := by omega
      have hc3 : (2 : Int) ≤ ((63 * k : Nat) : Int) := by omega
      have hc4 : r.length ≤ c - 2 := by omega
      have hc5 : (r.length : Int) ≤ ((c - 2 : Nat) : Int) := by omega
      have hcv := run_convert_bytes_arg (P := Tryz.prog) wr 54 5 rowU8 u8IntJ gd 2 r.length (c - 2) r rfl (fun i hi => by
        have h1 : (flJ r k)[2 + i]? = r[i]? := by
          conv => rhs; rw [← hrec]
          rw [List.getElem?_take, if_pos hi, List.getElem?_drop]
        rw [List.getElem?_eq_getElem hi] at h1
        rw [hcell _ _ h1, List.getD_eq_getElem?_getD, List.getElem?_eq_getElem hi]
        rfl) 9 strDescJ
      have hsr : (strOfNums r).size = r.length := strOfNums_size r
      have HBO := Lib.hid (blocksOf_any (strOfNums r) (by omega) wr)
      rw [hsr, bsOf_str hr.2, hnn] at HBO
      have HBr := Lib.hid hBr
      have hc6 : 63 * k ≤ c := by omega
      have hc7 : ((63 * k : Nat) : Int) ≤ (c : Int) := by omega
      clear hO hO' hcell hrec hfl hroom hBr hc5
      go_wp2_with fail
      refine HBO.out.mono ?_
      rintro e w6 ⟨g3, rfl, k3, hg3, hB6⟩
      have HB6 := Lib.hid (HBr.out.trans (hB6.mono HBr.out.size))
      have hg3l := k3.lt
      have K3 := Lib.hid k3
      clear hB6 HBO hcv k3 HB3
      go_wp2_with fail
      go_loopw [69] (fun i wx => ∃ j : Nat, j ≤ k ∧ i = .int .i64 j ∧ Below w6.heap.size w6 wx) (fun i _ => k - (intOf i).toNat)
      case atStart => exact ⟨0, Nat.zero_le _, rfl, Below.refl _ _⟩
      case round =>
        obtain ⟨j, hj, rfl, hBx⟩ := hrel
        have HBx := Lib.hid (HB6.out.trans (hBx.mono HB6.out.size))
        by_cases hjl : j < k
        · have hji : (j : Int) < (k : Int) := by omega
          have kx := K3.out.below hBx hg3l
          have hDx := HD.out.below HBx.out
          have hEk := HE.out j hjl
          have hrk := hDx.range hEk
          obtain ⟨m, hm⟩ : ∃ m : Int, m = (if j = 0 then 1 else 0) := ⟨_, rfl⟩
          have hrj : wr.rangeAt g3 (j * 64) (cellsB (blkJ r j m)) := fun i v hv => by
            have hi64 : i < 64 := by
              have := (List.getElem?_eq_some_iff.1 hv).1
              rw [cellsB_len, blkJ_len] at this
              exact this
            have h1 := flat_at (S := encB r) encB_all (k := j) (s := blkJ r j m) (by rw [hm]; exact encB_at (by omega)) hi64
            rw [kx.cell (j * 64 + i), List.getElem?_toArray, h1, hv]
          rw [← hm] at hrk
          have hneq := neq_block (blkJ r j m) (blkJ_len ..)
          obtain ⟨Y, hY⟩ : ∃ Y, Y = cellsB (blkJ r j m) := ⟨_, rfl⟩
          have hYl : Y.length = 64 := by rw [hY, cellsB_len, blkJ_len]
          have hYs : Y.toArray.size = 64 := hYl
          have hYo : Y.toArray.all (·.oneCell') = true := by rw [hY]; exact all_oneCell_toArray (cellsB_one _)
          rw [← hY] at hrk hrj hneq
          have hsY : (Tryz.prog.info? 121).map (·.size) = some Y.length := by rw [hYl]; exact sizeBlock
          have HB7 := Lib.hid (hBx.alloc hBx.size (.cells Y.toArray 121))
          have d0 := hDx.blk.cell 0
          have zpx := hDx.blk.lt
          have zgx := hDx.sec.lt
          have hrk7 := (hDx.below ((Below.refl _ _).alloc (Nat.le_refl _) (.cells Y.toArray 121))).range hEk
          rw [← hm, ← hY] at hrk7
          have kY := Blk.new wr 121 Y.toArray
          have hrY : (wr.alloc (.cells Y.toArray 121)).rangeAt wr.heap.size 0 Y := fun i v hv => by
            rw [Nat.zero_add, kY.cell i, List.getElem?_toArray, hv]
          simp at d0
          have d0' : (wr.alloc (.cells Y.toArray 121)).cell? ⟨p, 0, none⟩ = some (.slice (some ⟨gs, 0, none⟩) S.length S.length) := by
            have := (hDx.blk.alloc (.cells Y.toArray 121)).cell 0
            simpa using this
          have hsz7 : wr.heap.size < (wr.alloc (.cells Y.toArray 121)).heap.size := by simp
          clear hBx kx hDx hEk hY hm hrk
          go_upto_region 15 with (first
            | (refine wpList_load_mid rfl _ _ rfl g3 (j * 64) rfl Y _ hrj descBlock rfl hsY ?_)
            | (refine wpList_store_row rfl _ _ _ rfl wr.heap.size Y.toArray rfl rfl 121 Z0 (heap_alloc_new wr _) (by rw [hYs, sizeBlock]) (by rw [hYs, hZ0s]) hYo ?_))
          rw [World.setRow_alloc_new]
          generalize wr.alloc (.cells Y.toArray 121) = w7 at HB7 hrk7 kY hrY d0' hsz7 ⊢
          have huj : (u : Int) + (j : Int) < (S.length : Int) := by omega
          have huj2 : u + j < S.length := by omega
          have huj3 : (0 : Int) ≤ (u : Int) + (j : Int) := by omega
          have hwj : IntKind.i64.wrap ((u : Int) + (j : Int)) = (u : Int) + (j : Int) := by
            have h := wrap64_id ((u : Int) + (j : Int)) (by omega) (by omega)
            exact h
          have htn : ((u : Int) + (j : Int)).toNat = u + j := by omega
          clear d0 hrj
          refine wp_region_still_tail 10 (by kernel_rfl) (by kernel_rfl) ?_
          simp only [List.take_succ_cons, List.take_zero, List.drop_succ_cons, List.drop_zero]
          change wpStill _ _ w7.drew _ _ _
          have hrk8 : w7.drew.rangeAt gs ((u + j) * 64) Y := hrk7
          have hrY8 : w7.drew.rangeAt wr.heap.size 0 Y := hrY
          have d8 : w7.drew.cell? ⟨p, 0, none⟩ = some (.slice (some ⟨gs, 0, none⟩) S.length S.length) := d0'
          clear hrk7 hrY d0'
          iterate 8 still_step
          refine wpStill_load_mid rfl _ _ rfl gs ((u + j) * 64) rfl Y _ hrk8 descBlock rfl hsY ?_
          refine wpStill_load_mid rfl _ _ rfl wr.heap.size 0 rfl Y _ hrY8 descBlock rfl hsY ?_
          refine wpStill_nil ?_
          change wpList _ _ _ _ _ w7.drew
          have HB8 := Lib.hid (HB7.out.trans (below_dr (Below.refl _ w7) 1))
          clear hrk8 hrY8 d8 HB7
          go_wp2_with fail
          go_roundw
          case rel => exact ⟨j + 1, by omega, by go_num, HB8.out⟩
          case measure => simp [intOf]; omega
        · have hji : ¬ (j : Int) < (k : Int) := by omega
          go_wp2_with fail
          go_ret2
          exact ⟨rfl, HBx.out⟩
end Go.Proofs.YthgfbaekmhpiaaaGreatDoor
namespace Go.Proofs.YthgfbaekmhpiaaaGreatDoor
open Go.RowKit

theorem infoText : (Tryz.prog.info? 9).map (fun i => (i.zero, i.size, i.bytes)) = some (some (.string ⟨#[]⟩), 1, 16) := by kernel_rfl
theorem rowText : Tryz.prog.underlying 70 = some (.slice 9) := by kernel_rfl
def lenV : Value → Nat
  | .slice _ n _ => n
  | _ => 0
/-- v is a slice of the texts L in memory from block base on. -/
def OwnT (w : World) (base : Nat) (v : Value) (L : List Value) : Prop := w.ownsRow base 9 1 v L.length L
theorem append_text {w : World} {base : Nat} {v : Value} {L : List Value} (hO : OwnT w base v L) (hL : L.length ≤ 1000000000) (hb : base ≤ w.heap.size) (x : ByteArray) :
    ∃ A c w', (Builtin.append_ #[70, 70] 70 #[v, .slice (some ⟨w.heap.size, 0, none⟩) 1 1]).run Tryz.prog (w.alloc (.cells #[.string x] 9)) = .ok (.slice A (L.length + 1) c) w' ∧
      OwnT w' base (.slice A (L.length + 1) c) (L ++ [.string x]) ∧ Keeps (fun i => v.ownBlock = some i) w w' ∧ (v.ownBlock = (Value.slice A (L.length + 1) c).ownBlock ∨ ∀ i, (Value.slice A (L.length + 1) c).ownBlock = some i → w.heap.size ≤ i) := by
  obtain ⟨i0, hi, hz0, hz1, hz2⟩ := info_parts infoText
  have hO2 : (w.alloc (.cells #[.string x] 9)).ownsRow base 9 1 v L.length L := ownsRow_kept' hO ((Below.refl _ _).alloc (Nat.le_refl _) _)
  have kX := Blk.new w 9 #[.string x]
  obtain ⟨v', w', hrun, hO3, hg, _, hv⟩ := run_append_own_at (P := Tryz.prog) (w.alloc (.cells #[.string x] 9)) base 70 70 9 i0 _ 1 16 rowText hi hz0 hz1 hz2 rfl (by decide) v L.length L hO2 ⟨w.heap.size, 0, none⟩ 1 1 [.string x] rfl (fun j u hu => by
      rw [Addr.add_mid, Nat.zero_add, kX.cell j]
      rcases j with _ | j
      · exact hu
      · simp at hu) (fun u hu => by rw [List.mem_singleton.1 hu]; rfl) (by unfold maxLen; omega) (by omega) (by simp; omega)
  obtain ⟨A, c, rfl⟩ : ∃ A c, v' = .slice A (L.length + 1) c := by
    rcases hO3.2 with ⟨rfl, h1⟩ | ⟨g', cap, cur, rfl, _⟩
    · omega
    · exact ⟨_, cap, rfl⟩
  refine ⟨A, c, w', hrun, ?_, ((Keeps.refl _ _).alloc _).trans (Keeps.of_grown (S := fun i => v.ownBlock = some i) hg (fun k hk _ => hk)) (fun i _ e => e), ?_⟩
  · unfold OwnT
    rw [List.length_append]
    exact hO3
  · rcases hv with e | e
    · exact .inl e.symm
    · refine .inr (fun i hi => ?_)
      rw [e] at hi
      cases hi
      simp
theorem OwnT.keep {S : Nat → Prop} {w w' : World} {base : Nat} {v : Value} {L : List Value} (h : OwnT w base v L) (hk : Keeps S w w') (hS : ∀ i, v.ownBlock = some i → ¬ S i) : OwnT w' base v L := by
  have hl := World.ownsRow.lt h
  refine ⟨h.1, ?_⟩
  rcases h.2 with h0 | ⟨g, cap, cur, rfl, hbb, hg, rest⟩
  · exact .inl h0
  · exact .inr ⟨g, cap, cur, rfl, hbb, (hk.block g (hl g rfl).2 (hS g rfl)).trans hg, rest⟩
theorem OwnT.below {w w' : World} {base : Nat} {v : Value} {L : List Value} (h : OwnT w base v L) (hb : Below w.heap.size w w') : OwnT w' base v L := ownsRow_kept' h hb
theorem OwnT.cell {w : World} {base : Nat} {A : Option Addr} {n c : Nat} {L : List Value} (h : OwnT w base (.slice A n c) L) {k : Nat} {x : Value} (hx : L[k]? = some x) : ∃ g, A = some ⟨g, 0, none⟩ ∧ g < w.heap.size ∧ w.cell? ⟨g, k, none⟩ = some x := by
  have hlt := World.ownsRow.lt h
  have hk := (List.getElem?_eq_some_iff.1 hx).1
  unfold OwnT at h
  have h0 := h
  rcases h0.2 with ⟨h1, h2⟩ | ⟨g, cap, cur, h1, hb, hg, _⟩
  · omega
  · simp only [Value.slice.injEq] at h1
    obtain ⟨rfl, hn, rfl⟩ := h1
    subst hn
    exact ⟨g, rfl, (hlt g rfl).2, by rw [h.cellAt k (by omega), hx]⟩
end Go.Proofs.YthgfbaekmhpiaaaGreatDoor
