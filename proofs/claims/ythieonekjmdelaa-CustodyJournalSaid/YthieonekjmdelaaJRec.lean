/- The contract of record: a record that lies in the sectors is read. Conditions: the disk lies in memory, the record in its sectors. -/
import Derived.Test.YthieonekjmdelaaJBlk
import Derived.ChangeKeysEq
namespace Go.Proofs.Ythieonekjmdelaa
open Go.RowKit

theorem u8IntJ : Try.prog.underlying 5 = some (.int .u8) := by kernel_rfl
theorem eq_items (X : List Int) (w : World) : ∀ is : List Nat, (∀ i ∈ is, i < X.length) → (Op.eqItems 9999 5 1 (cellsB X).toArray (cellsB X).toArray is).run Try.prog w = .ok true w
  | [], _ => by simp [Op.eqItems]
  | i :: is, h => by
    have hi := h i (List.mem_cons_self ..)
    have hx : (cellsB X).toArray[i * 1]? = some (.int .u8 X[i]) := by
      rw [Nat.mul_one, List.getElem?_toArray]
      unfold cellsB
      rw [List.getElem?_map, List.getElem?_eq_getElem hi]
      rfl
    have hp := run_part_plain (P := Try.prog) w (e := 5) (by kernel_rfl) hx
    have he := run_equalIn_int (P := Try.prog) w 9998 5 .u8 .u8 X[i] X[i] u8IntJ
    rw [beq_self_eq_true] at he
    simp only [Op.eqItems, Sem.run_bind, hp, he, Result.andThen_ok]
    exact eq_items X w is (fun j hj => h j (List.mem_cons_of_mem _ hj))
theorem neq_block (X : List Int) (h : X.length = 64) (w : World) : (binOp .neq 70 (.agg (cellsB X).toArray) (.agg (cellsB X).toArray)).run Try.prog w = .ok (.bool false) w := by
  obtain ⟨i0, hi, hz0, hz1, hz2⟩ := info_parts infoU8
  have he := run_equalIn_array (P := Try.prog) w 9999 (t := 70) (cellsB X).toArray (cellsB X).toArray descBlock hi
  rw [run_neq_struct, he]
  have hc : Try.prog.cellsOf 5 = 1 := by kernel_rfl
  rw [hc, eq_items X w _ (fun i hi => by rw [h]; exact List.mem_range.1 hi)]
  rfl

theorem wrap64_id (x : Int) (h1 : -9223372036854775808 ≤ x) (h2 : x ≤ 9223372036854775807) : IntKind.i64.wrap x = x := by
  have hb : IntKind.i64.bits = 64 := rfl
  have hs : IntKind.i64.signed = true := rfl
  unfold IntKind.wrap
  rw [hb, hs]
  simp
  omega
theorem blocksFor_eq (n : Nat) (hn : n ≤ 1000000) (w : World) :
    Calls Try.prog 29 #[.int .i64 (n : Int)] w fun e w' => e = .returned (.int .i64 (nbOf n : Int)) ∧ w' = w :=
  (blocksFor_any n hn w).mono fun _ _ h => And.intro h.1 h.2.symm
/-- The bytes of the first k blocks of a record. -/
def flJ (r : List Int) (k : Nat) : List Int := (List.range k).flatMap fun j => pad63 (chOf r j)
theorem flJ_len (r : List Int) : ∀ k, (flJ r k).length = 63 * k
  | 0 => rfl
  | k + 1 => by
    have h : flJ r (k + 1) = flJ r k ++ pad63 (chOf r k) := by unfold flJ; rw [List.range_succ, List.flatMap_append, List.flatMap_singleton]
    rw [h, List.length_append, flJ_len r k, pad63_len (chOf_le r k)]
    omega
theorem fl_enc (r : List Int) : ∀ (k : Nat) (m : Int), flJ r (k + 1) = flJ r k ++ (blkJ r k m).take 63 := fun k m => by
  rw [blkJ_take]
  unfold flJ
  rw [List.range_succ, List.flatMap_append, List.flatMap_singleton]
theorem flJ_rec (r : List Int) : ((flJ r (nbOf r.length)).drop 2).take r.length = r := by
  have h := (flat_enc r).1
  have h1 : (encB r).flatMap (List.take 63) = flJ r (nbOf r.length) := by
    unfold encB flJ
    rw [List.flatMap_map]
    congr 1
    funext j
    exact blkJ_take ..
  rwa [h1] at h
theorem strDescJ : Try.prog.underlying 9 = some .string := by kernel_rfl
theorem OwnU.at' {w : World} {base : Nat} {A : Option Addr} {c : Nat} {l : List Int} (h : OwnU w base (.slice A l.length c) l) (hp : 0 < l.length) : ∃ g, A = some ⟨g, 0, none⟩ ∧ base ≤ g ∧ g < w.heap.size ∧ ∀ k x, l[k]? = some x → w.cell? ⟨g, k, none⟩ = some (.int .u8 x) := by
  have hlt := World.ownsRow.lt h
  unfold OwnU at h
  have h0 := h
  rcases h0.2 with ⟨h1, h2⟩ | ⟨g, cap, cur, h1, hb, hg, _⟩
  · omega
  · simp only [Value.slice.injEq] at h1
    obtain ⟨rfl, _, rfl⟩ := h1
    refine ⟨g, rfl, hb, hlt g rfl |>.2, fun k x hx => ?_⟩
    have hk := (List.getElem?_eq_some_iff.1 hx).1
    rw [h.cellAt k (by omega)]
    unfold cellsB
    rw [List.getElem?_map, hx]
    rfl
theorem OwnU.room' {w : World} {base : Nat} {A : Option Addr} {c : Nat} {l : List Int} (h : OwnU w base (.slice A l.length c) l) (hp : 0 < l.length) : l.length ≤ c := by
  unfold OwnU at h
  rcases h.2 with ⟨h1, h2⟩ | ⟨g, cap, cur, h1, _, _, hr, _⟩
  · omega
  · simp only [Value.slice.injEq] at h1
    obtain ⟨_, _, rfl⟩ := h1
    exact hr
theorem ownsRow_kept' {w w' : World} {base : Nat} {e : TypeId} {sz n : Nat} {v : Value} {xs : List Value} (h : w.ownsRow base e sz v n xs) (hb : Below w.heap.size w w') : w'.ownsRow base e sz v n xs := by
  have hl := World.ownsRow.lt h
  refine ⟨h.1, ?_⟩
  rcases h.2 with h0 | ⟨g, cap, cur, rfl, hbb, hg, rest⟩
  · exact .inl h0
  · exact .inr ⟨g, cap, cur, rfl, hbb, (hb.block g (hl g rfl).2).trans hg, rest⟩
set_option maxRecDepth 100000 in
set_option maxHeartbeats 2000000 in
theorem record_ok {w : World} {p gs : Nat} {vp : Value} {S : List (List Int)} {P : List PW} {dn st : Bool} {ca : Int} (h : DiskAt w p gs vp S P dn st ca) (hS : S.length ≤ 65536) (u : Nat) (r : List Int) (hr : okR r) (pre T : List (List Int)) (hpre : pre.length = u) (hST : S = pre ++ (encB r ++ T)) :
    Calls Try.prog 28 #[.pointer (some ⟨p, 0, none⟩), .int .i64 (u : Int)] w fun e w' => e = .returned (.tuple #[sJ r, .int .i64 0]) ∧ Below w.heap.size w w' := by
  have hE : ∀ k, k < nbOf r.length → S[u + k]? = some (blkJ r k (if k = 0 then 1 else 0)) := fun k hk => by
    rw [hST, List.getElem?_append_right (by omega), hpre, Nat.add_sub_cancel_left, List.getElem?_append_left (by rw [encB_len]; exact hk), encB_at hk]
  have hSl : u + nbOf r.length ≤ S.length := by rw [hST, List.length_append, List.length_append, encB_len]; omega
  have hnb := nb_pos r.length
  have hnb3 : r.length + 2 ≤ 63 * nbOf r.length := by unfold nbOf; omega
  have hnb2 : nbOf r.length ≤ 953 := by have := hr.1; unfold nbOf; omega
  obtain ⟨t, ht⟩ := enc_head (r := r)
  have h0 := hE 0 hnb
  rw [if_pos rfl, Nat.add_zero, ht] at h0
  have hrg := h.range h0
  obtain ⟨X, hX⟩ : ∃ X, X = cellsB (((r.length / 256 : Nat) : Int) :: ((r.length % 256 : Nat) : Int) :: t) := ⟨_, rfl⟩
  have hXl : X.length = 64 := by rw [hX, ← ht, cellsB_len, blkJ_len]
  have hXs : X.toArray.size = 64 := hXl
  have hX0 : X[0]? = some (.int .u8 ((r.length / 256 : Nat) : Int)) := by rw [hX]; rfl
  have hX1 : X[1]? = some (.int .u8 ((r.length % 256 : Nat) : Int)) := by rw [hX]; rfl
  have hXo : X.toArray.all (·.oneCell') = true := by rw [hX]; exact all_oneCell_toArray (cellsB_one _)
  rw [← hX] at hrg
  have hsz : (Try.prog.info? 70).map (·.size) = some X.length := by rw [hXl]; exact sizeBlock
  obtain ⟨Z0, hZ0⟩ : ∃ Z0, Z0 = (List.replicate 64 (Value.int .u8 0)).toArray := ⟨_, rfl⟩
  have hZ0s : Z0.size = 64 := by rw [hZ0]; rfl
  have hzv : ∀ W, (zeroValue 70).run Try.prog W = .ok (.agg Z0) W := (zero_of_info (n := 64) (by rw [hZ0]; kernel_rfl)).1
  have hZ0n : ¬ Z0 = #[] := fun e => by rw [e] at hZ0s; cases hZ0s
  have c0 := h.blk.cell 0
  have zp := h.blk.lt
  have zs := h.sec.lt
  simp at c0
  have hul : (u : Int) < (S.length : Int) := by omega
  have HZ0 := Lib.hid hZ0
  have HE := Lib.hid hE
  have HD := Lib.hid h
  have HST := Lib.hid hST
  clear hZ0 hE h hX ht h0 hST
  go_enter Try.func28, Try.ntmps28
  go_upto_region 2 with (first
    | (refine wpList_load_mid rfl _ _ rfl gs (u * 64) rfl X _ hrg descBlock rfl hsz ?_)

    | (refine wpList_store_row rfl _ _ _ rfl w.heap.size X.toArray rfl rfl 70 Z0 (heap_alloc_new w _) (by rw [hXs, sizeBlock]) (by rw [hXs, hZ0s]) hXo ?_))
  rw [World.setRow_alloc_new]
  have kX := Blk.new w 70 X.toArray
  have hB1 : Below w.heap.size w (w.alloc (.cells X.toArray 70)) := (Below.refl _ _).alloc (Nat.le_refl _) _
  have hD1 := HD.out.below hB1
  have hs1 : w.heap.size < (w.alloc (.cells X.toArray 70)).heap.size := by simp
  generalize w.alloc (.cells X.toArray 70) = w1 at kX hB1 hD1 hs1 ⊢
  have e0 := kX.cell 0
  have e1 := kX.cell 1
  rw [List.getElem?_toArray, hX0] at e0
  rw [List.getElem?_toArray, hX1] at e1
  have d0 := hD1.blk.cell 0
  have zp1 := hD1.blk.lt
  simp at d0
  have HSZ : Hid (((r.length / 256 : Nat) : Int) * 256 + ((r.length % 256 : Nat) : Int) = (r.length : Int)) := Lib.hid (by omega)
  have hq : ((r.length / 256 : Nat) : Int) ≤ 255 := by have := hr.1; omega
  have hq0 : (0 : Int) ≤ ((r.length / 256 : Nat) : Int) := by omega
  have hm : ((r.length % 256 : Nat) : Int) ≤ 255 := by omega
  have hm0 : (0 : Int) ≤ ((r.length % 256 : Nat) : Int) := by omega
  have HB1 := Lib.hid hB1
  have HD1 := Lib.hid hD1
  have HX0 := Lib.hid hX0
  have HXo := Lib.hid hXo
  clear c0 zp hrg hX0 hX1 hXo kX hB1 hD1 hXl hXs hsz
  generalize hqq : ((r.length / 256 : Nat) : Int) = q1 at *
  generalize hmm : ((r.length % 256 : Nat) : Int) = q2 at *
  go_upto_region 3 with fail
  rw [HSZ.out]
  clear e0 e1 hq hq0 hm hm0 hqq hmm HSZ
  have hrl := hr.1
  have g1 : decide ((60000 : Int) < (r.length : Int)) = false := decide_eq_false (by omega)
  have g2 : ¬ ((S.length : Int) - (u : Int) < (nbOf r.length : Int)) := by omega
  have g3 : decide ((S.length : Int) - (u : Int) < (nbOf r.length : Int)) = false := decide_eq_false g2
  have HBF := Lib.hid (fun W => blocksFor_eq r.length (by omega) W)
  generalize hnn : nbOf r.length = nb at *
  go_quiet ((go_at_call 29; exact Calls.quiet_of_same (HBF.out _)))
  have HB2 := Lib.hid (below_dr HB1.out nq)
  have HD2 := Lib.hid (HD1.out.below (below_dr (Below.refl _ w1) nq))
  have hs2 : w.heap.size < (w1.drewN nq).heap.size := hs1
  generalize w1.drewN nq = w2 at HB2 HD2 hs2 ⊢
  have d0 := HD2.out.blk.cell 0
  have zp2 := HD2.out.blk.lt
  simp at d0
  have hus : ¬ S.length = u := by omega
  have hus1 : nb ≤ S.length - u := by omega
  have hus2 : (nb : Int) ≤ ((S.length - u : Nat) : Int) := by omega
  have hus3 : (u : Int) ≤ (S.length : Int) := by omega
  clear HB1 HD1 zp1 hs1
  go_upto_region 6 with fail
  go_quiet ((go_at_call 29; exact Calls.quiet_of_same (HBF.out _)))
  have HB3 := Lib.hid (HB2.out.trans (below_dr (Below.refl w.heap.size w2) nq))
  have hs3 : w.heap.size < (w2.drewN nq).heap.size := hs2
  generalize w2.drewN nq = w3 at HB3 hs3 ⊢
  clear d0 zp2 HB2 HD2 hs2 g1 g2 g3
  have HFL := Lib.hid (fl_enc r)
  obtain ⟨i0, hi, hz0, hz1, hz2⟩ := info_parts infoU8
  go_wp2_with fail
  go_loopw [8, 53] (fun v i wr => ∃ k : Nat, k ≤ nb ∧ i = .int .i64 k ∧ (∃ A c, v = .slice A (63 * k) c) ∧ OwnU wr w.heap.size v (flJ r k) ∧ Below w.heap.size w wr) (fun _ i _ => nb - (intOf i).toNat)
  case atStart => exact ⟨0, Nat.zero_le _, rfl, ⟨none, 0, rfl⟩, World.ownsRow_nil _ _ _ _, HB3.out⟩
  case round =>
    obtain ⟨k, hk, rfl, ⟨A, c, rfl⟩, hO, hBr⟩ := hrel
    by_cases hlt : k < nb
    · have hki : (k : Int) < (nb : Int) := by omega
      have hEk := HE.out k hlt
      have hDr := HD.out.below hBr
      have hrk := hDr.range hEk
      obtain ⟨m, hm⟩ : ∃ m : Int, m = (if k = 0 then 1 else 0) := ⟨_, rfl⟩
      rw [← hm] at hrk
      have hFk := HFL.out k m
      obtain ⟨Y, hY⟩ : ∃ Y, Y = cellsB (blkJ r k m) := ⟨_, rfl⟩
      have hYl : Y.length = 64 := by rw [hY, cellsB_len, blkJ_len]
      have hYs : Y.toArray.size = 64 := hYl
      have hYo : Y.toArray.all (·.oneCell') = true := by rw [hY]; exact all_oneCell_toArray (cellsB_one _)
      have hYt : Y.take 63 = cellsB ((blkJ r k m).take 63) := by rw [hY]; unfold cellsB; rw [List.map_take]
      rw [← hY] at hrk
      rw [show (u + k) * 64 = u * 64 + k * 64 by omega] at hrk
      have hsY : (Try.prog.info? 70).map (·.size) = some Y.length := by rw [hYl]; exact sizeBlock
      have hB4 : Below wr.heap.size wr (wr.alloc (.cells Y.toArray 70)) := (Below.refl _ _).alloc (Nat.le_refl _) _
      have hO4 : OwnU (wr.alloc (.cells Y.toArray 70)) w.heap.size (.slice A (63 * k) c) (flJ r k) := ownsRow_kept' hO hB4
      have hfl : (flJ r k).length = 63 * k := flJ_len r k
      unfold OwnU at hO4
      rw [hfl] at hO4
      have kY := Blk.new wr 70 Y.toArray
      obtain ⟨v', w5, hrun, hO5, hg5, _, _⟩ := run_append_own_at (P := Try.prog) (wr.alloc (.cells Y.toArray 70)) w.heap.size 73 73 5 i0 _ 1 1 rowU8 hi hz0 hz1 hz2 rfl (by decide) (.slice A (63 * k) c) (63 * k) _ hO4 ⟨wr.heap.size, 0, none⟩ 63 64 (Y.take 63) (by rw [List.length_take, hYl]; rfl) (fun j x hx => by
        rw [Addr.add_mid, Nat.zero_add, kY.cell j, List.getElem?_toArray]
        rw [List.getElem?_take] at hx
        split at hx
        · exact hx
        · simp at hx) (fun x hx => by rw [hYt] at hx; exact cellsB_one _ x hx) (by unfold maxLen; omega) (by omega) (by have := hBr.size; simp; omega)
      have hB5 : Below w.heap.size w w5 := by
        have hb4 := hBr.alloc (Nat.le_trans hBr.size (Nat.le_refl _)) (.cells Y.toArray 70)
        refine hb4.trans ((Keeps.of_grown (S := fun j => (Value.slice A (63 * k) c).ownBlock = some j) hg5 (fun j hj _ => hj)).below (fun j hj e => ?_) hb4.size)
        have := (World.ownsRow.lt hO j e).1
        omega
      have hO6 : OwnU w5 w.heap.size v' (flJ r (k + 1)) := by
        unfold OwnU
        rw [flJ_len, hFk]
        unfold cellsB at hYt ⊢
        rw [List.map_append, ← hYt]
        exact hO5
      obtain ⟨A', c', rfl⟩ : ∃ A' c', v' = .slice A' (63 * k + 63) c' := by
        rcases hO5.2 with ⟨rfl, h1⟩ | ⟨g', cap, cur, rfl, _⟩
        · omega
        · exact ⟨_, cap, rfl⟩
      have HO6 := Lib.hid hO6
      have HB5 := Lib.hid hB5
      clear hO hBr hEk hDr hFk hY hYt hB4 hO4 hfl kY hO5 hg5 hO6 hB5 hm
      go_upto_region 9 with (first
        | (refine wpList_load_mid rfl _ _ rfl gs (u * 64 + k * 64) rfl Y _ hrk descBlock rfl hsY ?_)
        | (refine wpList_store_row rfl _ _ _ rfl wr.heap.size Y.toArray rfl rfl 70 Z0 (heap_alloc_new wr _) (by rw [hYs, sizeBlock]) (by rw [hYs, hZ0s]) hYo ?_))
      rw [World.setRow_alloc_new]
      go_wp2_with (first | (at_builtin; refine Lib.wpList_append_run _ rfl _ _ _ _ rfl _ _ rfl rfl _ _ hrun ?_))
      go_roundw
      case rel => exact ⟨k + 1, by omega, by go_num, ⟨A', c', rfl⟩, HO6.out, HB5.out⟩
      case measure => simp [intOf]; omega
    · have hki : ¬ (k : Int) < (nb : Int) := by omega
      obtain rfl : k = nb := by omega
      have hfl : (flJ r k).length = 63 * k := flJ_len r k
      have hrec := flJ_rec r
      rw [hnn] at hrec
      have hO' := hO
      rw [← hfl] at hO'
      have hroom := hO'.room' (by omega)
      obtain ⟨gd, rfl, _, hgd, hcell⟩ := hO'.at' (by omega)
      have hc2 : ¬ c = 2 := by omega
      have hc3 : (2 : Int) ≤ ((63 * k : Nat) : Int) := by omega
      have hc4 : r.length ≤ c - 2 := by omega
      have hc5 : (r.length : Int) ≤ ((c - 2 : Nat) : Int) := by omega
      have hcv := run_convert_bytes_arg (P := Try.prog) wr 73 5 rowU8 u8IntJ gd 2 r.length (c - 2) r rfl (fun i hi => by
        have h1 : (flJ r k)[2 + i]? = r[i]? := by
          conv => rhs; rw [← hrec]
          rw [List.getElem?_take, if_pos hi, List.getElem?_drop]
        rw [List.getElem?_eq_getElem hi] at h1
        rw [hcell _ _ h1, List.getD_eq_getElem?_getD, List.getElem?_eq_getElem hi]
        rfl) 9 strDescJ
      have hsr : (strOfNums r).size = r.length := strOfNums_size r
      have HBO := Lib.hid (blocksOf_any (strOfNums r) (by omega) wr)
      rw [hsr, bsOf_str hr.2, hnn] at HBO
      have HBr := Lib.hid hBr
      have hc6 : 63 * k ≤ c := by omega
      have hc7 : ((63 * k : Nat) : Int) ≤ (c : Int) := by omega
      clear hO hO' hcell hrec hfl hroom hBr hc5
      go_wp2_with fail
      refine HBO.out.mono ?_
      rintro e w6 ⟨g3, rfl, k3, hg3, hB6⟩
      have HB6 := Lib.hid (HBr.out.trans (hB6.mono HBr.out.size))
      have hg3l := k3.lt
      have K3 := Lib.hid k3
      clear hB6 HBO hcv k3 HB3
      go_wp2_with fail
      go_loopw [69] (fun i wx => ∃ j : Nat, j ≤ k ∧ i = .int .i64 j ∧ Below w6.heap.size w6 wx) (fun i _ => k - (intOf i).toNat)
      case atStart => exact ⟨0, Nat.zero_le _, rfl, Below.refl _ _⟩
      case round =>
        obtain ⟨j, hj, rfl, hBx⟩ := hrel
        have HBx := Lib.hid (HB6.out.trans (hBx.mono HB6.out.size))
        by_cases hjl : j < k
        · have hji : (j : Int) < (k : Int) := by omega
          have kx := K3.out.below hBx hg3l
          have hDx := HD.out.below HBx.out
          have hEk := HE.out j hjl
          have hrk := hDx.range hEk
          obtain ⟨m, hm⟩ : ∃ m : Int, m = (if j = 0 then 1 else 0) := ⟨_, rfl⟩
          have hrj : wr.rangeAt g3 (j * 64) (cellsB (blkJ r j m)) := fun i v hv => by
            have hi64 : i < 64 := by
              have := (List.getElem?_eq_some_iff.1 hv).1
              rw [cellsB_len, blkJ_len] at this
              exact this
            have h1 := flat_at (S := encB r) encB_all (k := j) (s := blkJ r j m) (by rw [hm]; exact encB_at (by omega)) hi64
            rw [kx.cell (j * 64 + i), List.getElem?_toArray, h1, hv]
          rw [← hm] at hrk
          have hneq := neq_block (blkJ r j m) (blkJ_len ..)
          obtain ⟨Y, hY⟩ : ∃ Y, Y = cellsB (blkJ r j m) := ⟨_, rfl⟩
          have hYl : Y.length = 64 := by rw [hY, cellsB_len, blkJ_len]
          have hYs : Y.toArray.size = 64 := hYl
          have hYo : Y.toArray.all (·.oneCell') = true := by rw [hY]; exact all_oneCell_toArray (cellsB_one _)
          rw [← hY] at hrk hrj hneq
          have hsY : (Try.prog.info? 70).map (·.size) = some Y.length := by rw [hYl]; exact sizeBlock
          have HB7 := Lib.hid (hBx.alloc hBx.size (.cells Y.toArray 70))
          have d0 := hDx.blk.cell 0
          have zpx := hDx.blk.lt
          have zgx := hDx.sec.lt
          have hrk7 := (hDx.below ((Below.refl _ _).alloc (Nat.le_refl _) (.cells Y.toArray 70))).range hEk
          rw [← hm, ← hY] at hrk7
          have kY := Blk.new wr 70 Y.toArray
          have hrY : (wr.alloc (.cells Y.toArray 70)).rangeAt wr.heap.size 0 Y := fun i v hv => by
            rw [Nat.zero_add, kY.cell i, List.getElem?_toArray, hv]
          simp at d0
          have d0' : (wr.alloc (.cells Y.toArray 70)).cell? ⟨p, 0, none⟩ = some (.slice (some ⟨gs, 0, none⟩) S.length S.length) := by
            have := (hDx.blk.alloc (.cells Y.toArray 70)).cell 0
            simpa using this
          have hsz7 : wr.heap.size < (wr.alloc (.cells Y.toArray 70)).heap.size := by simp
          clear hBx kx hDx hEk hY hm hrk
          go_upto_region 15 with (first
            | (refine wpList_load_mid rfl _ _ rfl g3 (j * 64) rfl Y _ hrj descBlock rfl hsY ?_)
            | (refine wpList_store_row rfl _ _ _ rfl wr.heap.size Y.toArray rfl rfl 70 Z0 (heap_alloc_new wr _) (by rw [hYs, sizeBlock]) (by rw [hYs, hZ0s]) hYo ?_))
          rw [World.setRow_alloc_new]
          generalize wr.alloc (.cells Y.toArray 70) = w7 at HB7 hrk7 kY hrY d0' hsz7 ⊢
          have huj : (u : Int) + (j : Int) < (S.length : Int) := by omega
          have huj2 : u + j < S.length := by omega
          have huj3 : (0 : Int) ≤ (u : Int) + (j : Int) := by omega
          have hwj : IntKind.i64.wrap ((u : Int) + (j : Int)) = (u : Int) + (j : Int) := by
            have h := wrap64_id ((u : Int) + (j : Int)) (by omega) (by omega)
            exact h
          have htn : ((u : Int) + (j : Int)).toNat = u + j := by omega
          clear d0 hrj
          refine wp_region_still_tail 10 (by kernel_rfl) (by kernel_rfl) ?_
          simp only [List.take_succ_cons, List.take_zero, List.drop_succ_cons, List.drop_zero]
          change wpStill _ _ w7.drew _ _ _
          have hrk8 : w7.drew.rangeAt gs ((u + j) * 64) Y := hrk7
          have hrY8 : w7.drew.rangeAt wr.heap.size 0 Y := hrY
          have d8 : w7.drew.cell? ⟨p, 0, none⟩ = some (.slice (some ⟨gs, 0, none⟩) S.length S.length) := d0'
          clear hrk7 hrY d0'
          iterate 8 still_step
          refine wpStill_load_mid rfl _ _ rfl gs ((u + j) * 64) rfl Y _ hrk8 descBlock rfl hsY ?_
          refine wpStill_load_mid rfl _ _ rfl wr.heap.size 0 rfl Y _ hrY8 descBlock rfl hsY ?_
          refine wpStill_nil ?_
          change wpList _ _ _ _ _ w7.drew
          have HB8 := Lib.hid (HB7.out.trans (below_dr (Below.refl _ w7) 1))
          clear hrk8 hrY8 d8 HB7
          go_wp2_with fail
          go_roundw
          case rel => exact ⟨j + 1, by omega, by go_num, HB8.out⟩
          case measure => simp [intOf]; omega
        · have hji : ¬ (j : Int) < (k : Int) := by omega
          go_wp2_with fail
          go_ret2
          exact ⟨rfl, HBx.out⟩
end Go.Proofs.Ythieonekjmdelaa
