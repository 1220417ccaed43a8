/- The contracts of blocksFor and blocksOf. Conditions: the record is not too long. -/
import Derived.Test.YthieonekjmdelaaJMath
namespace Go.Proofs.Ythieonekjmdelaa
open Go.RowKit

theorem blocksFor_any (n : Nat) (hn : n ≤ 1000000) (w : World) :
    Calls Try.prog 29 #[.int .i64 (n : Int)] w fun e w' => e = .returned (.int .i64 (nbOf n : Int)) ∧ w = w' := by
  have HE : Hid ((2 + (n : Int) + 63 - 1) / 63 = (nbOf n : Int)) := Lib.hid (by unfold nbOf; omega)
  go_enter Try.func29, Try.ntmps29
  go_wp2_with fail
  go_ret
  exact ⟨by rw [HE.out]; rfl, rfl⟩

/-- The blocks when k of them are filled. -/
def partJ (r : List Int) (k : Nat) : List (List Int) := (List.range (nbOf r.length)).map fun i => if i < k then blkJ r i 0 else zeroS
theorem partJ_len (r : List Int) (k : Nat) : (partJ r k).length = nbOf r.length := by unfold partJ; simp
theorem partJ_zero (r : List Int) : partJ r 0 = List.replicate (nbOf r.length) zeroS := by
  unfold partJ
  simp
  exact List.eq_replicate_iff.2 ⟨by simp, fun b hb => by obtain ⟨_, _, rfl⟩ := List.mem_map.1 hb; rfl⟩
theorem partJ_zero_of {r : List Int} {n : Nat} (h : r.length = n) : partJ r 0 = List.replicate (nbOf n) zeroS := by rw [← h]; exact partJ_zero r
theorem partJ_all (r : List Int) (k : Nat) : ∀ s ∈ partJ r k, s.length = 64 := fun s hs => by
  unfold partJ at hs
  obtain ⟨i, _, rfl⟩ := List.mem_map.1 hs
  split
  · exact blkJ_len ..
  · rfl
theorem partJ_at (r : List Int) (k i : Nat) (h : i < nbOf r.length) : (partJ r k)[i]? = some (if i < k then blkJ r i 0 else zeroS) := by
  unfold partJ
  rw [List.getElem?_map, List.getElem?_range h]
  rfl
theorem ch_fill (r : List Int) (k : Nat) : chOf r k ++ zeroS.drop (chOf r k).length = blkJ r k 0 := by
  have h := chOf_le r k
  unfold blkJ pad63 zeroS
  rw [List.drop_replicate, List.append_assoc]
  congr 1
  rw [show ([0] : List Int) = List.replicate 1 0 from rfl, List.replicate_append_replicate]
  congr 1
  omega
theorem partJ_step (r : List Int) (k : Nat) : (partJ r k).set k (chOf r k ++ zeroS.drop (chOf r k).length) = partJ r (k + 1) := by
  rw [ch_fill]
  apply List.ext_getElem?
  intro i
  by_cases hi : i < nbOf r.length
  · rw [partJ_at r (k + 1) i hi]
    by_cases he : k = i
    · subst he
      rw [List.getElem?_set_self (by rw [partJ_len]; exact hi), if_pos (by omega)]
    · rw [List.getElem?_set_ne he, partJ_at r k i hi]
      congr 1
      by_cases h : i < k
      · rw [if_pos h, if_pos (by omega)]
      · rw [if_neg h, if_neg (by omega)]
  · rw [List.getElem?_eq_none (by rw [List.length_set, partJ_len]; omega), List.getElem?_eq_none (by rw [partJ_len]; omega)]
theorem partJ_mark (r : List Int) : (((partJ r (nbOf r.length)).flatMap cellsB).toArray).setIfInBounds 63 (.int .u8 1) = ((encB r).flatMap cellsB).toArray := by
  have h0 := nb_pos r.length
  obtain ⟨n, hn⟩ : ∃ n, nbOf r.length = n + 1 := ⟨nbOf r.length - 1, by omega⟩
  have h1 : partJ r (nbOf r.length) = blkJ r 0 0 :: (List.range n).map (fun i => blkJ r (i + 1) 0) := by
    unfold partJ
    rw [hn, List.range_succ_eq_map, List.map_cons, if_pos (by omega), List.map_map]
    congr 1
    refine List.map_congr_left (fun i hi => ?_)
    have := List.mem_range.1 hi
    show (if i + 1 < n + 1 then _ else _) = _
    rw [if_pos (by omega)]
  have h2 : encB r = blkJ r 0 1 :: (List.range n).map (fun i => blkJ r (i + 1) 0) := by
    unfold encB
    rw [hn, List.range_succ_eq_map, List.map_cons, if_pos rfl, List.map_map]
    rfl
  have hl : (cellsB (pad63 (chOf r 0))).length = 63 := by rw [cellsB_len, pad63_len (chOf_le r 0)]
  have h3 : ∀ m, cellsB (blkJ r 0 m) = cellsB (pad63 (chOf r 0)) ++ [.int .u8 m] := fun m => by unfold blkJ cellsB; rw [List.map_append]; rfl
  rw [h1, h2, List.setIfInBounds_toArray, List.flatMap_cons, List.flatMap_cons, h3, h3, List.append_assoc, List.append_assoc, List.set_append, if_neg (by omega), hl]
  rfl

set_option maxRecDepth 100000 in
set_option maxHeartbeats 1000000 in
theorem blocksOf_any (s : ByteArray) (hs : s.size ≤ 60000) (w : World) :
    Calls Try.prog 34 #[.string s] w fun e w' => ∃ g, e = .returned (.slice (some ⟨g, 0, none⟩) (nbOf s.size) (nbOf s.size)) ∧ Blk w' g 70 ((encB (bsOf s)).flatMap cellsB).toArray ∧ w.heap.size ≤ g ∧ Below w.heap.size w w' := by
  obtain ⟨i0, hi, hz0, hz1, hz2⟩ := info_parts infoU8
  obtain ⟨r, hr⟩ : ∃ r, r = bsOf s := ⟨_, rfl⟩
  have hrl : r.length = s.size := by rw [hr, bsOf_len]
  rw [← hr]
  have h0 : (w.alloc (.cells #[.int .u8 ((s.size : Int) / 256), .int .u8 ((s.size : Int) % 256)] 5)).ownsRow w.heap.size 5 1 (.slice (some ⟨w.heap.size, 0, none⟩) 2 2) 2 [.int .u8 ((s.size : Int) / 256), .int .u8 ((s.size : Int) % 256)] :=
    ⟨rfl, .inr ⟨w.heap.size, 2, _, rfl, Nat.le_refl _, heap_alloc_new w _, Nat.le_refl _, by unfold maxLen; omega, rfl, rfl⟩⟩
  obtain ⟨v', w2, hrun, hO, hg, hnil⟩ := Go.Lib.run_append_own_string (P := Try.prog) (w.alloc (.cells #[.int .u8 ((s.size : Int) / 256), .int .u8 ((s.size : Int) % 256)] 5)) w.heap.size 73 9 73 5 i0 rowU8 (by kernel_rfl) hi hz0 hz1 hz2 _ 2 _ h0 s (by unfold maxLen; omega) (by omega) (by simp)
  have hB2 : Below w.heap.size w w2 := ((Below.refl _ _).alloc (Nat.le_refl _) _).trans ((Keeps.of_grown (S := fun k => k = w.heap.size) hg (fun k hk _ => by simp [Value.ownBlock] at hk; exact hk.symm)).below (fun k hk e => by omega) (by simp))
  have hcs : [.int .u8 ((s.size : Int) / 256), .int .u8 ((s.size : Int) % 256)] ++ Go.Lib.strCells s = cellsB (hdr r) := by
    rw [bsOf_cells, ← hr]
    unfold hdr cellsB
    rw [hrl]
    rfl
  rw [hcs] at hO
  have hLl := hdr_len r
  obtain ⟨g2, c2, rfl, hg2, hgl2⟩ : ∃ g2 c2, v' = .slice (some ⟨g2, 0, none⟩) (2 + s.size) c2 ∧ g2 < w2.heap.size ∧ 2 + s.size ≤ c2 := by
    have hlt := World.ownsRow.lt hO
    rcases hO.2 with ⟨_, h1⟩ | ⟨g', cap, cur, rfl, _, _, hroom, _⟩
    · omega
    · exact ⟨g', cap, rfl, (hlt g' rfl).2, hroom⟩
  have hrg : w2.rangeAt g2 0 (cellsB (hdr r)) := fun j v hv => by
    rw [Nat.zero_add]
    have hj := (List.getElem?_eq_some_iff.1 hv).1
    have h1 := hO.cellAt j (by unfold cellsB at hj; rw [List.length_map, hLl] at hj; omega)
    rw [h1, hv]
  have hmk := make_blocks (nbOf s.size) (by unfold nbOf; omega) w2
  rw [← partJ_zero_of hrl] at hmk
  have HRG := Lib.hid hrg
  have HB2 := Lib.hid hB2
  have hnb : nbOf r.length = nbOf s.size := by rw [hrl]
  obtain ⟨nb, hnbe⟩ : ∃ nb, nb = nbOf s.size := ⟨_, rfl⟩
  have hnb1 : 63 * (nb - 1) < s.size + 2 ∧ 0 < nb ∧ nb ≤ 953 := by rw [hnbe]; unfold nbOf; omega
  have HBF := Lib.hid (blocksFor_any s.size (by omega) w2)
  rw [← hnbe] at hmk HBF hnb ⊢
  have HNB := Lib.hid hnbe
  clear hO hg hnil h0 hrg hB2 hcs hnbe
  go_enter Try.func34, Try.ntmps34
  go_wp2_with (first | (at_builtin; refine Lib.wpList_append_run _ rfl _ _ _ _ rfl _ _ rfl rfl _ _ hrun ?_))
  refine HBF.out.mono ?_
  rintro e w3 ⟨rfl, rfl⟩
  obtain ⟨W3, hW3⟩ : ∃ W3, W3 = w2.alloc (.cells ((partJ r 0).flatMap cellsB).toArray 70) := ⟨_, rfl⟩
  rw [← hW3] at hmk
  have k3 : Blk W3 w2.heap.size 70 ((partJ r 0).flatMap cellsB).toArray := by rw [hW3]; exact Blk.new ..
  have hK3 : Keeps (fun _ => False) w2 W3 := by rw [hW3]; exact (Keeps.refl _ _).alloc _
  obtain ⟨g, hgg⟩ : ∃ g, g = w2.heap.size := ⟨_, rfl⟩
  rw [← hgg] at hmk k3
  have hgw : w.heap.size ≤ g := by rw [hgg]; exact HB2.out.size
  have hg2g : g2 ≠ g := by omega
  have hszU : (Try.prog.info? 5).map (·.size) = some 1 := by kernel_rfl
  have HK3 := Lib.hid hK3
  have HGG := Lib.hid hgg
  clear hW3 HBF hrun hK3 hgg
  go_wp2_with fail
  go_loopw [3, 23] (fun d i wr => ∃ k : Nat, k ≤ nb ∧ i = .int .i64 k ∧ (k < nb → d = .slice (some ⟨g2, 63 * k, none⟩) (2 + s.size - 63 * k) (c2 - 63 * k)) ∧ Blk wr g 70 ((partJ r k).flatMap cellsB).toArray ∧ Keeps (fun j => j = g) W3 wr) (fun _ i _ => nb - (intOf i).toNat)
  case atStart => exact ⟨0, Nat.zero_le _, rfl, fun _ => rfl, k3, Keeps.refl _ _⟩
  case round =>
    obtain ⟨k, hk, rfl, hd, kB, hKr⟩ := hrel
    by_cases hlt : k < nb
    · have hki : (k : Int) < (nb : Int) := by omega
      have hd' := hd hlt
      subst hd'
      have hKr' := Lib.hid hKr
      clear hd hKr
      have hcs : 0 < (cellsB (chOf r k)).length → (some ⟨g, k * 64, none⟩ : Option Addr) = some ⟨g, k * 64, none⟩ ∧ ∃ ad, (some ⟨g2, 63 * k, none⟩ : Option Addr) = some ad ∧ ∀ j v, (cellsB (chOf r k))[j]? = some v → wr.cell? (ad.add j) = some v := fun _ => by
        refine ⟨rfl, _, rfl, fun j v hj => ?_⟩
        have hg2w : g2 < W3.heap.size := by have := HK3.out.size; omega
        have h0 := HRG.out (63 * k + j) v (by
          unfold cellsB chOf at hj
          rw [List.getElem?_map, List.getElem?_take] at hj
          split at hj
          · rw [List.getElem?_drop] at hj
            unfold cellsB
            rw [List.getElem?_map]
            exact hj
          · simp at hj)
        rw [Nat.zero_add] at h0
        have h1 := (HK3.out.cell (b := g2) (o := 63 * k + j) hg2 (fun e => e)).trans h0
        rw [Addr.add_mid]
        exact (hKr'.out.cell (b := g2) (o := 63 * k + j) hg2w hg2g).trans h1
      have HCS := Lib.hid hcs
      have HLN : Hid ((cellsB (chOf r k)).length = Nat.min (2 + s.size - 63 * k) 63) := Lib.hid (by rw [cellsB_len, chOf_len, hrl]; simp only [Nat.min_def]; split <;> split <;> omega)
      have HFT : Hid (k * 64 + (cellsB (chOf r k)).length ≤ ((partJ r k).flatMap cellsB).length) := Lib.hid (by
        rw [flat_len (partJ_all r k), partJ_len, cellsB_len, hnb]
        have := chOf_le r k
        omega)
      have HST := Lib.hid (flat_part (partJ_all r k) (k := k) (b := chOf r k) (old := zeroS) (by have := chOf_le r k; omega) (by rw [partJ_at r k k (by omega), if_neg (by omega)]))
      have HCL : Hid ((cellsB (chOf r k)).length = Nat.min 63 (s.size + 2 - 63 * k)) := Lib.hid (by rw [cellsB_len, chOf_len, hrl])
      have HON := Lib.hid (cellsB_one (chOf r k))
      obtain ⟨Y, hY⟩ : ∃ Y, Y = cellsB (chOf r k) := ⟨_, rfl⟩
      rw [← hY] at HCS HLN HFT HST HCL HON
      have hYl : Y.length ≤ 2 + s.size - 63 * k ∧ Y.length ≤ c2 - 63 * k ∧ (k + 1 < nb → Y.length = 63) := by
        rw [HCL.out]
        simp only [Nat.min_def]
        split <;> omega
      obtain ⟨hYl1, hYl2, hYl3⟩ := hYl
      have HYL3 := Lib.hid hYl3
      clear hcs hY hYl3
      have hb1 : k < nb := hlt
      go_wp2_with (refine wpList_copy_keeps rfl _ _ _ _ rfl 5 rowU8 hszU _ _ 63 64 (2 + s.size - 63 * k) (c2 - 63 * k) rfl rfl g (k * 64) ((partJ r k).flatMap cellsB) 70 kB Y HLN.out HCS.out HFT.out HON.out ?_; intro w4 HB4 HK4)
      go_roundw
      case rel =>
        refine ⟨k + 1, by omega, by go_num, fun h1 => ?_, ?_, hKr'.out.trans HK4.out (fun i _ e => e)⟩
        · have := HYL3.out h1
          rw [if_neg (by omega), this, show 63 * k + 63 = 63 * (k + 1) by omega, show 2 + s.size - 63 * k - 63 = 2 + s.size - 63 * (k + 1) by omega, show c2 - 63 * k - 63 = c2 - 63 * (k + 1) by omega]
        · have := HB4.out
          rw [HST.out, partJ_step] at this
          exact this
      case measure => simp [intOf]; omega
    · have hki : ¬ (k : Int) < (nb : Int) := by omega
      obtain rfl : k = nb := by omega
      obtain ⟨v63, h63⟩ : ∃ v, ((partJ r k).flatMap cellsB).toArray[63]? = some v := by
        rw [List.getElem?_toArray]
        refine ⟨_, List.getElem?_eq_getElem ?_⟩
        rw [flat_len (partJ_all r k), partJ_len]
        omega
      have c63 := (kB.cell 63).trans h63
      have f63 := kB.frozen 63
      have HE := Lib.hid (kB.set 63 (.int .u8 1))
      have HK := Lib.hid (hKr.setCell (p := ⟨g, 63, none⟩) (fun _ => rfl) (.int .u8 1))
      have hgl := kB.lt
      clear hd kB hKr h63
      go_wp2_with fail
      go_ret
      refine ⟨g, rfl, ?_, hgw, ?_⟩
      · have := HE.out
        rw [← hnb, partJ_mark r] at this
        rw [← hr]
        exact this
      · exact (HB2.out.trans ((HK3.out.below (B := w.heap.size) (fun _ _ e => e) HB2.out.size))).trans (HK.out.below (fun i hi e => by omega) (by have := HK3.out.size; have := HB2.out.size; omega))
end Go.Proofs.Ythieonekjmdelaa
