/- The contract of Write. Conditions: the disk lies in memory; the bytes lie in memory. -/
import Derived.Test.YthieonekjmdelaaDk3
import Derived.Deep.WholeRow
import Derived.Deep.RegionHeld3
import Derived.StillTailTactics
namespace Go.Proofs.Ythieonekjmdelaa
open Go.RowKit

theorem list129 (X : List Value) (h : X.length = 129) : ∃ f : Nat → Value, X = (List.range 129).map f :=
  ⟨fun i => X.getD i undef, by
    apply List.ext_getElem
    · simp [h]
    · intro i h1 h2
      simp [h1]⟩
set_option maxRecDepth 100000 in
theorem build_pw (L : List Value) (hL : L.length = 129) (w : World) : (Instr.buildSlice 55 1 #[(0, .agg L.toArray)]).run Try.prog w = .ok (.slice (some ⟨w.heap.size, 0, none⟩) 1 1) (w.alloc (.cells L.toArray 72)) := by
  obtain ⟨f, rfl⟩ := list129 L hL
  kernel_rfl
theorem wp_build_pw {o : Oper} {a : Act} {w : World} {K : Act → World → Prop} {Q : Exit → Act → World → Prop} (x : Operand) (ho : o.op = .buildSlice 55 1 #[(0, x)]) (L : List Value) (hL : L.length = 129) (hx : a.eval x = .agg L.toArray)
    (h : K (a.put o.dst (.slice (some ⟨w.heap.size, 0, none⟩) 1 1)) (w.alloc (.cells L.toArray 72))) : o.wp Try.prog a w K Q := by
  unfold Oper.wp execOp
  simp only [ho, List.map_toArray, List.map_cons, List.map_nil, hx, Sem.run_bind, Sem.run_pure, Result.andThen_ok, build_pw L hL]
  exact h

/-- The disk lies in w'; its pending writes lie where they did, or in a block that is newer than w. -/
def WrAt (w w' : World) (p gs : Nat) (vp : Value) (S : List (List Int)) (P : List PW) (dn st : Bool) (ca : Int) : Prop :=
  ∃ vp', DiskAt w' p gs vp' S P dn st ca ∧ (vp'.ownBlock = vp.ownBlock ∨ ∀ i, vp'.ownBlock = some i → w.heap.size ≤ i)

set_option maxRecDepth 100000 in
set_option maxHeartbeats 1000000 in
theorem write_ok {w : World} {p gs : Nat} {vp : Value} {S : List (List Int)} {P : List PW} {st : Bool} {ca : Int} (h : DiskAt w p gs vp S P false st ca) (hca : 0 ≤ ca ∧ ca ≤ 9223372036854775807) (hne : st = true → ca ≠ 0) (hS : S.length ≤ 65536) (hP : P.length ≤ 100000)
    (k : Nat) (s : List Int) (hk : S[k]? = some s) (A : Option Addr) (c : Nat) (b : List Int) (hb : b.length ≤ 64) (hA : 0 < b.length → ∃ g o, A = some ⟨g, o, none⟩ ∧ w.rangeAt g o (cellsB b) ∧ ¬ ownD p gs vp g) :
    Calls Try.prog 36 #[.pointer (some ⟨p, 0, none⟩), .int .i64 (k : Int), .slice A b.length c] w fun e w' => e = .returned (.int .i64 0) ∧ WrAt w w' p gs vp (S.set k (padB b)) (P ++ [(k, s, padB b)]) false st (cntOf st ca) ∧ Keeps (ownD p gs vp) w w' := by
  have hkl := (List.getElem?_eq_some_iff.1 hk).1
  have hs := h.all s (List.mem_of_getElem? hk)
  have HR := Lib.hid (refusesSector_any h hS k)
  rw [show secErr false S.length (k : Int) = 0 by unfold secErr withinB; rw [if_neg (by simp), decide_eq_true (by omega), decide_eq_true (by omega)]; rfl] at HR
  have HF := Lib.hid (fails_ok h hca hne)
  have hb' : ¬ (64 : Int) < (b.length : Int) := by omega
  clear h hne
  go_enter Try.func36, Try.ntmps36
  go_wp2_with fail
  refine HR.out.mono ?_
  rintro e w1 ⟨rfl, rfl⟩
  go_wp2_with fail
  refine HF.out.mono ?_
  rintro e w1 ⟨rfl, hD, hk1⟩
  have c0 := hD.blk.cell 0
  have zp := hD.blk.lt
  have zs := hD.sec.lt
  simp at c0
  have hr := hD.range hk
  have hsz : (Try.prog.info? 70).map (·.size) = some (cellsB s).length := by rw [cellsB_len, hs]; exact sizeBlock
  clear HR HF
  have hX := hsz
  obtain ⟨i0, hi, hz0, hz1, hz2⟩ := info_parts infoPW
  obtain ⟨X, hXX⟩ : ∃ X, X = cellsB s := ⟨_, rfl⟩
  have hXl : X.length = 64 := by rw [hXX, cellsB_len, hs]
  rw [← hXX] at hr hX hsz
  have HXX := Lib.hid hXX
  obtain ⟨Z1, hZ1⟩ : ∃ Z1, Z1 = (Value.int .i64 k :: (X ++ List.replicate 64 (Value.int .u8 0))).toArray := ⟨_, rfl⟩
  have hZs : Z1.size = 129 := by rw [hZ1]; simp [hXl]
  have hZo : Z1.all (·.oneCell') = true := by
    rw [hZ1]
    refine all_oneCell_toArray (fun v hv => ?_)
    rcases List.mem_cons.1 hv with rfl | hv
    · rfl
    · rcases List.mem_append.1 hv with hv | hv
      · rw [hXX] at hv; exact cellsB_one s v hv
      · rw [(List.mem_replicate.1 hv).2]; rfl
  obtain ⟨Z0, hZ0⟩ : ∃ Z0, Z0 = (Value.int .i64 0 :: List.replicate 128 (Value.int .u8 0)).toArray := ⟨_, rfl⟩
  have hZ0s : Z0.size = 129 := by rw [hZ0]; rfl
  have hzv : ∀ W, (zeroValue 72).run Try.prog W = .ok (.agg Z0) W := (zero_of_info (n := 129) (by rw [hZ0]; kernel_rfl)).1
  have hfo := fold_pw (k : Int) X hXl
  rw [← hZ1, ← hZ0] at hfo
  have hZ0n : ¬ Z0 = #[] := fun e => by rw [e] at hZ0s; cases hZ0s
  have HZ1 := Lib.hid hZ1
  have hszP := sizePW
  clear hXX hZ1 hZ0
  go_upto_region 10 with (first
    | (refine wpList_load_mid rfl _ _ rfl gs (k * 64) rfl X _ hr descBlock rfl hsz ?_)
    | (refine wpList_store_row rfl _ _ _ rfl w1.heap.size Z1 rfl rfl 72 Z0 (heap_alloc_new w1 _) (by rw [hZs]; exact hszP) (by rw [hZs, hZ0s]) hZo ?_))
  rw [World.setRow_alloc_new]
  have hD2 := hD.below ((Below.refl _ w1).alloc (Nat.le_refl _) (.cells Z1 72))
  have kW := Blk.new w1 72 Z1
  have hK2 : Keeps (ownD p gs vp) w (w1.alloc (.cells Z1 72)) := (hk1.mono (fun i _ e => .inl e)).alloc _
  have hwz : w.heap.size ≤ w1.heap.size := hk1.size
  have hne1 : w1.heap.size ≠ p ∧ w1.heap.size ≠ gs ∧ vp.ownBlock ≠ some w1.heap.size := ⟨by omega, by omega, fun e => by have := World.ownsRow.lt hD.pend _ e; omega⟩
  have hs2 : (w1.alloc (.cells Z1 72)).heap.size = w1.heap.size + 1 := by simp
  generalize hgw : w1.heap.size = gw at *
  generalize w1.alloc (.cells Z1 72) = w2 at hD2 kW hK2 hs2 ⊢
  clear c0 zp zs hfo hzv hZ0n hZ0s hr hD hk1
  have hcur : w2.heap[gw]? = some (.cells Z1.toList.toArray 72 (0, 0)) := by have h : w2.heap[gw]? = _ := kW; simpa using h
  have hZl : Z1.toList.length = 129 := by simpa using hZs
  have hcopy : 0 < (cellsB b).length → (some ⟨gw, 65, none⟩ : Option Addr) = some ⟨gw, 65, none⟩ ∧ ∃ ad, A = some ad ∧ ∀ j v, (cellsB b)[j]? = some v → w2.cell? (ad.add j) = some v := fun h0 => by
    rw [cellsB_len] at h0
    obtain ⟨g, o, rfl, hrg, hng⟩ := hA h0
    refine ⟨rfl, _, rfl, fun j v hv => ?_⟩
    rw [Addr.add_mid]
    have h1 := hrg j v hv
    exact (hK2.cell (World.block_lt_of_cell? w _ h1) hng).trans h1
  have HBL := Lib.hid (cellsB_len b)
  have HLN : Hid ((cellsB b).length = Nat.min b.length 64) := Lib.hid (by rw [cellsB_len]; exact (Nat.min_eq_left hb).symm)
  have HFT : Hid (65 + (cellsB b).length ≤ Z1.toList.length) := Lib.hid (by rw [cellsB_len, hZl]; omega)
  have HCP := Lib.hid hcopy
  have HO := Lib.hid (cellsB_one b)
  obtain ⟨Y, hY⟩ : ∃ Y, Y = cellsB b := ⟨_, rfl⟩
  rw [← hY] at HBL HLN HFT HCP HO
  have HYY := Lib.hid hY
  have hszU : (Try.prog.info? 5).map (·.size) = some 1 := by kernel_rfl
  have hgl := kW.lt
  clear hcopy hA hY hZs hZo hX hsz hi hz0 hz1 hz2
  go_wp2_with (refine wpList_copy_splice rfl _ _ _ _ rfl 5 rowU8 hszU _ _ 64 64 b.length c rfl rfl gw 65 Z1.toList 72 hcur Y HLN.out HCP.out HFT.out HO.out gw w2 ⟨rfl, rfl, rfl, Nat.le_refl _, fun _ _ => rfl⟩ (Nat.le_refl _) ?_; intro w3 HG hB3)
  have hK3 : Keeps (fun i => i = gw) w2 w3 := Keeps.of_below hB3 (fun k h1 h2 => by omega)
  have hD3 := hD2.keep hK3 (fun i hi e => by
    subst e
    rcases hi with e | e | e
    · exact hne1.1 e
    · exact hne1.2.1 e
    · exact hne1.2.2 e)
  have hKw3 : Keeps (ownD p gs vp) w w3 := hK2.trans hK3 (fun i h1 e => by omega)
  have HL : splice Z1.toList 65 Y = cellsP (k, s, padB b) := by
    rw [HZ1.out, HYY.out, HXX.out]
    exact splice_pw k s b hs hb
  have HR : Hid (∀ j v, (splice Z1.toList 65 Y)[j]? = some v → w3.cell? ⟨gw, j, none⟩ = some v) := Lib.hid (fun j v hv => by
    have := Blk.cell HG.out j
    rw [this, List.getElem?_toArray, hv])
  have kL : Blk w3 gw 72 (splice Z1.toList 65 Y).toArray := HG.out
  obtain ⟨L, hL⟩ : ∃ L, L = splice Z1.toList 65 Y := ⟨_, rfl⟩
  rw [← hL] at HL kL
  have hLl : L.length = 129 := by rw [HL]; unfold cellsP; simp only [List.length_cons, List.length_append, cellsB_len, hs, padB_len hb]
  have hgw3 : gw < w3.heap.size := kL.lt
  have hgws : w1.heap.size = gw := hgw
  have hw13 : w1.heap.size ≤ w3.heap.size := by omega
  clear HG hL HR hcur hgl HFT HCP HO HLN HBL HYY HXX HZ1 hD2 kW hK2 hB3 hK3 hZl hszU
  have hdP := descPW'
  generalize fieldsOf (Try.prog.underlying 72) = fs at hdP
  have hD3d : DiskAt w3.drew p gs vp S P false st (cntOf st ca) := hD3.below (Below.refl _ _).drew
  obtain ⟨v', w4, hrun, f1, z1, hD4, hK4, hv4⟩ := append_pw hD3d hP (k, s, padB b) ⟨hkl, hs, padB_len hb⟩ 55 L HL
  have c1 := hD3d.blk.cell 1
  have zp := hD3d.blk.lt
  simp at c1
  have kLd := kL.drew
  have hr0 : w3.drew.rangeAt gw 0 L := fun j v hj => by rw [Nat.zero_add, kLd.cell j, List.getElem?_toArray, hj]
  have hsL : (Try.prog.info? 72).map (·.size) = some L.length := by rw [hLl]; exact hszP
  have hn1 := World.new_ne w3.drew ⟨p, 1, none⟩ (by simp; omega)
  obtain ⟨A5, c5, rfl⟩ : ∃ A5 c5, v' = .slice A5 (P ++ [(k, s, padB b)]).length c5 := by
    rcases hD4.pend.2 with ⟨rfl, h1⟩ | ⟨g', cap, cur, rfl, _⟩
    · simp at h1
    · exact ⟨_, cap, rfl⟩
  generalize (P ++ [(k, s, padB b)]).length = n5 at hrun hD4 hK4 hv4
  have c1a : (w3.alloc (.cells L.toArray 72)).cell? ⟨p, 1, none⟩ = some vp := by
    rw [(Blk.alloc hD3.blk _).cell 1]
    rfl
  have hgn : ¬ ownD p gs vp gw := fun hi => by
    rcases hi with e | e | e
    · exact hne1.1 e
    · exact hne1.2.1 e
    · exact hne1.2.2 e
  have hr5 : (w4.setCell ⟨p, 1, none⟩ (.slice A5 n5 c5)).rangeAt gw 0 L := fun j v hj => (hK4.cell hgw3 hgn).trans (hr0 j v hj)
  have hr4 : w4.rangeAt gw 0 L := fun j v hj => by
    have := hr5 j v hj
    rwa [World.cell?_setCell_other _ _ _ _ (fun e => hne1.1 (Addr.mk.inj e).1.symm)] at this
  have kL4 := Lib.hid (Blk.keep kLd hK4 hgn)
  have HD4 := Lib.hid hD4
  have HK4 : Hid (Keeps (ownD p gs vp) w3 _) := Lib.hid ((Keeps.refl (ownD p gs vp) w3).drew.trans hK4 (fun i _ e => e))
  have HL2 := Lib.hid HL
  have hv5' : (Value.slice A5 n5 c5).ownBlock = vp.ownBlock ∨ ∀ i, (Value.slice A5 n5 c5).ownBlock = some i → w.heap.size ≤ i := by
    rcases hv4 with e | e
    · exact .inl e
    · refine .inr (fun i hi => ?_)
      rw [e] at hi
      cases hi
      show w.heap.size ≤ w3.heap.size + 1
      omega
  have hv5 := Lib.hid hv5'
  clear hv5'
  clear hD4 hK4 hD3d hD3 hszP HL kL kLd
  go_cut [44] (fun sx wx => ∃ v5, DiskAt wx p gs v5 S (P ++ [(k, s, padB b)]) false st (cntOf st ca) ∧ Keeps (ownD p gs vp) w3 wx ∧ Blk wx gw 72 L.toArray ∧ (v5.ownBlock = vp.ownBlock ∨ ∀ i, v5.ownBlock = some i → w.heap.size ≤ i))
  case first =>
    refine wp_region_held_drew (S := fun W => W.rangeAt gw 0 L) (by kernel_rfl) hr0 (fun hHeld => ?_)
    refine wpAnyH_take (i := 0) (v := ?_) rfl (by kernel_rfl) (by kernel_rfl) (by kernel_rfl) (fun _ _ _ h => h) (Or.inl ⟨by rfl, ?_⟩) hHeld ?_
    rotate_left 1
    · intro w hSw
      go_simp <;> with_reducible rfl
    simp only [Act.put, List.setIfInBounds_toArray, List.set_cons_zero, List.set_cons_succ]
    refine wpAnyH_take (i := 1) (v := ?_) rfl (by kernel_rfl) (by kernel_rfl) (by kernel_rfl) (fun _ _ _ h => h) (Or.inl ⟨by rfl, ?_⟩) hHeld ?_
    rotate_left 1
    · intro w hSw
      go_simp <;> with_reducible rfl
    simp only [Act.put, List.setIfInBounds_toArray, List.set_cons_zero, List.set_cons_succ]
    refine wpAnyH_take (i := 2) (v := ?_) rfl (by kernel_rfl) (by kernel_rfl) (by kernel_rfl) (fun _ _ _ h => h) (Or.inl ⟨by rfl, ?_⟩) hHeld ?_
    rotate_left 1
    · intro w hSw
      go_simp <;> with_reducible rfl
    simp only [Act.put, List.setIfInBounds_toArray, List.set_cons_zero, List.set_cons_succ]
    refine wpAnyH_take (i := 3) (v := ?_) rfl (by kernel_rfl) (by kernel_rfl) (by kernel_rfl) (fun _ _ _ h => h) (Or.inl ⟨by rfl, ?_⟩) hHeld ?_
    rotate_left 1
    · intro w hSw
      go_simp <;> with_reducible rfl
    simp only [Act.put, List.setIfInBounds_toArray, List.set_cons_zero, List.set_cons_succ]
    refine wpAnyH_take (i := 5) rfl (by kernel_rfl) (by kernel_rfl) (by kernel_rfl) (fun _ _ _ h => h) (yieldsIf_load_mid (by rfl) _ _ rfl _ _ rfl _ _ (fun W hW => hW) hdP rfl hsL) hHeld ?_
    simp only [Act.put, List.setIfInBounds_toArray, List.set_cons_zero, List.set_cons_succ]
    refine wpAnyH_ready (rs := [4, 6]) (by kernel_rfl) (by simp) ?_
    refine AllReadyH.cons rfl (fun K hK => ?_) (AllReadyH.cons rfl (fun K hK => ?_) AllReadyH.nil)
    · go_simp
      refine hK.out _ _ hHeld (fun hHeld => ?_)
      clear hK K
      try simp only [Act.put, List.setIfInBounds_toArray, List.set_cons_zero, List.set_cons_succ]
      refine wpAnyH_ready (rs := [6]) (by kernel_rfl) (by simp) ?_
      refine AllReadyH.cons rfl (fun K hK => ?_) AllReadyH.nil
      rw [if_pos (by rfl)]
      refine wp_build_pw _ rfl L hLl rfl ?_
      refine hK.out _ _ (World.rangeAt_alloc hHeld _) (fun hHeld => ?_)
      clear hK K
      try simp only [Act.put, List.setIfInBounds_toArray, List.set_cons_zero, List.set_cons_succ]
      refine wpAnyH_ready (rs := [7]) (by kernel_rfl) (by simp) ?_
      refine AllReadyH.cons rfl (fun K hK => ?_) AllReadyH.nil
      rw [if_pos (by rfl)]
      refine Lib.wp_append_run _ _ _ _ _ rfl _ _ rfl rfl _ _ hrun ?_
      refine hK.out _ _ hr4 (fun hHeld => ?_)
      clear hK K
      try simp only [Act.put, List.setIfInBounds_toArray, List.set_cons_zero, List.set_cons_succ]
      refine wpAnyH_ready (rs := [8]) (by kernel_rfl) (by simp) ?_
      refine AllReadyH.cons rfl (fun K hK => ?_) AllReadyH.nil
      go_simp
      refine hK.out _ _ hHeld (fun hHeld => ?_)
      clear hK K
      try simp only [Act.put, List.setIfInBounds_toArray, List.set_cons_zero, List.set_cons_succ]
      refine wpAnyH_ready (rs := [9]) (by kernel_rfl) (by simp) ?_
      refine AllReadyH.cons rfl (fun K hK => ?_) AllReadyH.nil
      go_simp
      refine hK.out _ _ hHeld (fun hHeld => ?_)
      clear hK K
      try simp only [Act.put, List.setIfInBounds_toArray, List.set_cons_zero, List.set_cons_succ]
      refine wpAnyH_ready (rs := [10]) (by kernel_rfl) (by simp) ?_
      refine AllReadyH.cons rfl (fun K hK => ?_) AllReadyH.nil
      go_simp
      refine hK.out _ _ hr5 (fun hHeld => ?_)
      clear hK K
      try simp only [Act.put, List.setIfInBounds_toArray, List.set_cons_zero, List.set_cons_succ]
      refine wpAnyH_done (by kernel_rfl) ?_ _
      go_wp2_with fail
      go_meet
      exact ⟨_, HD4.out, HK4.out, kL4.out, hv5.out⟩
    · rw [if_pos (by rfl)]
      refine wp_build_pw _ rfl L hLl rfl ?_
      refine hK.out _ _ (World.rangeAt_alloc hHeld _) (fun hHeld => ?_)
      clear hK K
      try simp only [Act.put, List.setIfInBounds_toArray, List.set_cons_zero, List.set_cons_succ]
      refine wpAnyH_ready (rs := [4]) (by kernel_rfl) (by simp) ?_
      refine AllReadyH.cons rfl (fun K hK => ?_) AllReadyH.nil
      go_simp
      refine hK.out _ _ hHeld (fun hHeld => ?_)
      clear hK K
      try simp only [Act.put, List.setIfInBounds_toArray, List.set_cons_zero, List.set_cons_succ]
      refine wpAnyH_ready (rs := [7]) (by kernel_rfl) (by simp) ?_
      refine AllReadyH.cons rfl (fun K hK => ?_) AllReadyH.nil
      rw [if_pos (by rfl)]
      refine Lib.wp_append_run _ _ _ _ _ rfl _ _ rfl rfl _ _ hrun ?_
      refine hK.out _ _ hr4 (fun hHeld => ?_)
      clear hK K
      try simp only [Act.put, List.setIfInBounds_toArray, List.set_cons_zero, List.set_cons_succ]
      refine wpAnyH_ready (rs := [8]) (by kernel_rfl) (by simp) ?_
      refine AllReadyH.cons rfl (fun K hK => ?_) AllReadyH.nil
      go_simp
      refine hK.out _ _ hHeld (fun hHeld => ?_)
      clear hK K
      try simp only [Act.put, List.setIfInBounds_toArray, List.set_cons_zero, List.set_cons_succ]
      refine wpAnyH_ready (rs := [9]) (by kernel_rfl) (by simp) ?_
      refine AllReadyH.cons rfl (fun K hK => ?_) AllReadyH.nil
      go_simp
      refine hK.out _ _ hHeld (fun hHeld => ?_)
      clear hK K
      try simp only [Act.put, List.setIfInBounds_toArray, List.set_cons_zero, List.set_cons_succ]
      refine wpAnyH_ready (rs := [10]) (by kernel_rfl) (by simp) ?_
      refine AllReadyH.cons rfl (fun K hK => ?_) AllReadyH.nil
      go_simp
      refine hK.out _ _ hr5 (fun hHeld => ?_)
      clear hK K
      try simp only [Act.put, List.setIfInBounds_toArray, List.set_cons_zero, List.set_cons_succ]
      refine wpAnyH_done (by kernel_rfl) ?_ _
      go_wp2_with fail
      go_meet
      exact ⟨_, HD4.out, HK4.out, kL4.out, hv5.out⟩
  case rest =>
    obtain ⟨v5, hD5, hK5, kL5, hv5⟩ := hcut
    have HV5 := Lib.hid hv5
    have hr6 : wc.rangeAt gw 65 (cellsB (padB b)) := fun j v hj => by
      rw [kL5.cell (65 + j), List.getElem?_toArray, HL2.out]
      unfold cellsP
      rw [show 65 + j = (64 + j) + 1 by omega, List.getElem?_cons_succ, List.getElem?_append_right (by rw [cellsB_len, hs]; omega), cellsB_len, hs, show 64 + j - 64 = j by omega, hj]
    have c0 := hD5.blk.cell 0
    have zp := hD5.blk.lt
    have zs := hD5.sec.lt
    simp at c0
    have hpl := padB_len hb
    have hN : (cellsB (padB b)).length = 64 := by rw [cellsB_len, hpl]
    have hD6 := Lib.hid (hD5.below (Below.refl _ _).drew |>.fill hkl hpl)
    have hK6 := Lib.hid (Keeps.setCells (S := ownD p gs vp) (g := gs) (.inr (.inl rfl)) (cellsB (padB b)) (k * 64) _ (hKw3.trans hK5 (fun i _ e => e)).drew)
    have hth : wc.drew.there gs (k * 64) 64 := fun j hj => by
      have hD5' := hD5.below (w' := wc.drew) (Below.refl _ _).drew
      refine ⟨?_, hD5'.sec.frozen _⟩
      rw [hD5'.sec.cell, List.getElem?_toArray]
      have : k * 64 + j < (S.flatMap cellsB).length := by rw [flat_len hD5.all]; omega
      rw [List.getElem?_eq_getElem this]
      rfl
    have h1c := all_oneCell_toArray (cellsB_one (padB b))
    obtain ⟨B, hB⟩ : ∃ B, B = cellsB (padB b) := ⟨_, rfl⟩
    rw [← hB] at hr6 hD6 hK6 hN h1c
    have hr7 : wc.drew.rangeAt gw 65 B := hr6
    have hsB : (Try.prog.info? 70).map (·.size) = some B.length := by rw [hN]; exact sizeBlock
    have hthB : wc.drew.there gs (k * 64) B.toArray.size := by rw [List.size_toArray, hN]; exact hth
    have hsB2 : (Try.prog.info? 70).map (·.size) = some B.toArray.size := by rw [List.size_toArray]; exact hsB
    clear hB hr6 hth hD5 hK5 kL5 hv5
    go_upto_region 12 with fail
    refine wp_region_still_tail 8 (by kernel_rfl) (by kernel_rfl) ?_
    simp only [List.take_succ_cons, List.take_zero, List.drop_succ_cons, List.drop_zero]
    change wpStill _ _ wc.drew _ _ _
    still_step
    still_step
    still_step
    still_step
    still_step
    still_step
    refine wpStill_load_mid rfl _ _ rfl gw 65 rfl B _ hr7 descBlock rfl hsB ?_
    still_step
    refine wpStill_nil ?_
    change wpList _ _ _ _ _ wc.drew
    refine wpList_store_mid rfl _ _ _ rfl gs (k * 64) B.toArray rfl rfl hthB hsB2 h1c ?_
    go_wp2_with fail
    go_ret
    exact ⟨rfl, ⟨v5, hD6.out, HV5.out⟩, hK6.out⟩
end Go.Proofs.Ythieonekjmdelaa
