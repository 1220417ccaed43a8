/- The contract of Open: the records that lie in the sectors are returned. Conditions: the disk lies in memory, the records in its sectors. What a crash leaves of a journal's sectors. No conditions. The contract of write of a journal. Conditions: the disk, the journal and the blocks lie in memory. The contract of add of a journal. Conditions: the disk and the journal lie in memory. The contract of add of a journal: the walk. Conditions: the disk and the journal lie in memory. -/
import Derived.Test.YthgfbaekmhpiaaaGreatDoorJouA
import Derived.Test.YthgfbaekmhpiaaaGreatDoorDiskC
namespace Go.Proofs.YthgfbaekmhpiaaaGreatDoor
open Go.RowKit

/-- A journal behind jb: of the disk behind p, with u sectors and n records. -/
def JAt (w : World) (jb p u n : Nat) : Prop := Blk w jb 134 #[.pointer (some ⟨p, 0, none⟩), .int .i64 (u : Int), .int .i64 (n : Int)]
theorem open_down {w : World} {p gs : Nat} {vp : Value} {S : List (List Int)} {P : List PW} {st : Bool} {ca : Int} (h : DiskAt w p gs vp S P true st ca) :
    Calls Tryz.prog 31 #[.pointer (some ⟨p, 0, none⟩)] w fun e w' => e = .returned (.tuple #[.pointer none, .slice none 0 0, .int .i64 70]) ∧ w = w' := by
  have HR := Lib.hid (refuses_any h)
  clear h
  go_enter Tryz.func31, Tryz.ntmps31
  go_wp2_with fail
  refine HR.out.mono ?_
  rintro e w1 ⟨rfl, rfl⟩
  go_wp2_with fail
  go_ret3
  exact ⟨rfl, rfl⟩
set_option maxRecDepth 100000 in
set_option maxHeartbeats 2000000 in
theorem open_ok {w : World} {p gs : Nat} {vp : Value} {S : List (List Int)} {P : List PW} {st : Bool} {ca : Int} (h : DiskAt w p gs vp S P false st ca) (hS : S.length ≤ 65536) (R : List (List Int)) (hJ : Jr R S) :
    Calls Tryz.prog 31 #[.pointer (some ⟨p, 0, none⟩)] w fun e w' => ∃ jb A c, e = .returned (.tuple #[.pointer (some ⟨jb, 0, none⟩), .slice A R.length c, .int .i64 0]) ∧ JAt w' jb p (encsOf R).length R.length ∧ OwnT w' (w.heap.size + 1) (.slice A R.length c) (R.map sJ) ∧ jb = w.heap.size ∧ Below w.heap.size w w' := by
  have hRl := encsOf_len R
  have hU := hJ.used
  have HR := Lib.hid (refuses_any h)
  have HD := Lib.hid h
  have HJ := Lib.hid hJ
  have hz := h.blk.lt
  clear h hJ
  go_enter Tryz.func31, Tryz.ntmps31
  go_wp2_with fail
  refine HR.out.mono ?_
  rintro e w1 ⟨rfl, rfl⟩
  have kJ : JAt (w.alloc (.cells #[.pointer (some ⟨p, 0, none⟩), .int .i64 0, .int .i64 0] 134)) w.heap.size p 0 0 := Blk.new w _ _
  have hB0 : Below w.heap.size w (w.alloc (.cells #[.pointer (some ⟨p, 0, none⟩), .int .i64 0, .int .i64 0] 134)) := (Below.refl _ _).alloc (Nat.le_refl _) _
  have KJ := Lib.hid kJ
  have HB0 := Lib.hid hB0
  clear HR kJ hB0
  go_wp2_with fail
  go_loopw [7] (fun v wr => ∃ k : Nat, k ≤ R.length ∧ (∃ A c, v = .slice A k c) ∧ OwnT wr (w.heap.size + 1) v ((R.take k).map sJ) ∧ JAt wr w.heap.size p (encsOf (R.take k)).length 0 ∧ Below w.heap.size w wr) (fun v _ => R.length - lenV v)
  case atStart => exact ⟨0, Nat.zero_le _, ⟨none, 0, rfl⟩, World.ownsRow_nil _ _ _ _, KJ.out, HB0.out⟩
  case round =>
    obtain ⟨k, hk, ⟨A, c, rfl⟩, hO, hj, hB⟩ := hrel
    have HBr := Lib.hid hB
    have hDr := HD.out.below hB
    have HDr := Lib.hid hDr
    have KJr := Lib.hid hj
    have j0 := hj.cell 0
    have j1 := hj.cell 1
    have j2 := hj.cell 2
    have jf1 := hj.frozen 1
    have jf2 := hj.frozen 2
    have jl := hj.lt
    have d0 := hDr.blk.cell 0
    have zpr := hDr.blk.lt
    simp at d0 j0 j1 j2
    by_cases hlt : k < R.length
    · obtain ⟨r, hr⟩ : ∃ r, R[k]? = some r := ⟨_, List.getElem?_eq_getElem hlt⟩
      have hrok := HJ.out.1 r (List.mem_of_getElem? hr)
      obtain ⟨T, hST, hU1⟩ := HJ.out.rec hr
      have hnb := nb_pos r.length
      have hlenS : (encsOf (R.take k)).length + nbOf r.length ≤ S.length := by rw [hST, List.length_append, List.length_append, encB_len]; omega
      have hblk : S[(encsOf (R.take k)).length]? = some (blkJ r 0 1) := by
        rw [hST, List.getElem?_append_right (Nat.le_refl _), Nat.sub_self, List.getElem?_append_left (by rw [encB_len]; exact hnb), encB_at hnb, if_pos rfl]
      have c63 := hDr.range hblk 63 (.int .u8 1) (by unfold cellsB; rw [List.getElem?_map, blkJ_last]; rfl)
      have HRC := Lib.hid (fun W (hb : Below w.heap.size w W) => record_ok (HD.out.below hb) hS (encsOf (R.take k)).length r hrok _ T rfl hST)
      have HU1 : Hid ((encsOf (R.take (k + 1))).length = (encsOf (R.take k)).length + nbOf r.length) := Lib.hid (by rw [hU1, List.length_append, encB_len])
      have HO := Lib.hid hO
      have HTK : Hid ((R.take (k + 1)).map sJ = (R.take k).map sJ ++ [sJ r]) := Lib.hid (by rw [List.take_add_one, hr]; simp)
      have hrl := hrok.1
      generalize (encsOf (R.take k)).length = u at *
      have g1 : decide ((u : Int) < (S.length : Int)) = true := decide_eq_true (by omega)
      have g2 : (u : Int) < (S.length : Int) := by omega
      clear hO hDr hj hB hr hST hU1 hblk hrok
      go_upto_region 6 with fail
      go_quiet (fail)
      have KJ2 : Hid (JAt (wr.drewN nq) w.heap.size p u 0) := Lib.hid (Blk.drewN KJr.out nq)
      have HB2 := Lib.hid (below_dr HBr.out nq)
      have HO2 : Hid (OwnT (wr.drewN nq) (w.heap.size + 1) (.slice A k c) ((R.take k).map sJ)) := Lib.hid HO.out
      generalize wr.drewN nq = wq at KJ2 HB2 HO2 ⊢
      clear j0 j1 j2 jf1 jf2 jl d0 zpr c63 HO HBr HDr KJr
      have j1 := KJ2.out.cell 1
      have jl := KJ2.out.lt
      simp at j1
      go_wp2_with fail
      refine (HRC.out wq HB2.out).mono ?_
      rintro e w2 ⟨rfl, hB3⟩
      unfold sJ
      have hKJ3 := Blk.below KJ2.out hB3 KJ2.out.lt
      have hO3 := HO2.out.below hB3
      have hB4 := HB2.out.trans (hB3.mono HB2.out.size)
      have hLk : ((R.take k).map sJ).length = k := by rw [List.length_map, List.length_take]; omega
      obtain ⟨A', c', w3, hrun, hO4, hK4, hv4⟩ := append_text hO3 (by rw [hLk]; omega) (by have := hB4.size; have := hKJ3.lt; omega) (strOfNums r)
      rw [hLk] at hrun hO4 hv4
      have hne : (Value.slice A k c).ownBlock ≠ some w.heap.size := fun e => by have := (World.ownsRow.lt hO3 _ e).1; omega
      have hKJ4 := Blk.keep hKJ3 hK4 hne
      have hB5 := hB4.trans (hK4.below (B := w.heap.size) (fun i hi e => by have := (World.ownsRow.lt hO3 _ e).1; omega) hB4.size)
      have hO5 : OwnT w3 (w.heap.size + 1) (.slice A' (k + 1) c') ((R.take (k + 1)).map sJ) := by rw [HTK.out]; exact hO4
      have HO5 := Lib.hid hO5
      have HKJ4 := Lib.hid hKJ4
      have HB5 := Lib.hid hB5
      have j1b := hKJ4.cell 1
      have j1f := hKJ4.frozen 1
      have jl4 := hKJ4.lt
      have hne2 : (Value.slice A' (k + 1) c').ownBlock ≠ some w.heap.size := fun e => by have := (World.ownsRow.lt hO5 _ e).1; omega
      have HNE2 := Lib.hid hne2
      simp at j1b
      clear KJ2 HB2 HO2 j1 jl hB3 hKJ3 hO3 hB4 hO4 hK4 hv4 hne hKJ4 hB5 hO5 hne2 HRC
      go_upto_region 11 with (first | (at_builtin; refine Lib.wpList_append_run _ rfl _ _ _ _ rfl _ _ rfl rfl _ _ hrun ?_))
      refine wp_region_still_tail 12 (by kernel_rfl) (by kernel_rfl) ?_
      simp only [List.take_succ_cons, List.take_zero, List.drop_succ_cons, List.drop_zero]
      change wpStill _ _ w3.drew _ _ _
      have j1c : w3.drew.cell? ⟨w.heap.size, 1, none⟩ = some (.int .i64 (u : Int)) := j1b
      have jfc : w3.drew.frozen? ⟨w.heap.size, 1, none⟩ = false := j1f
      have jlc : w.heap.size < w3.drew.heap.size := jl4
      have hsr : (strOfNums r).size = r.length := strOfNums_size r
      have HBF := Lib.hid (fun W => blocksFor_eq r.length (by omega) W)
      clear j1b j1f jl4 hrun
      iterate 7 still_step
      still_call (HBF.out _)
      iterate 4 still_step
      refine wpStill_nil ?_
      change wpList _ _ _ _ _ w3.drew
      have HJ5 : Hid (JAt (w3.drew.setCell ⟨w.heap.size, 1, none⟩ (.int .i64 ((u : Int) + (nbOf r.length : Int)))) w.heap.size p (u + nbOf r.length) 0) := Lib.hid (by
        have := (Blk.drew HKJ4.out).set 1 (.int .i64 ((u : Int) + (nbOf r.length : Int)))
        unfold JAt
        rw [Int.natCast_add]
        exact this)
      have HKs := Lib.hid ((Keeps.refl (fun i => i = w.heap.size) w3).drew.setCell (p := ⟨w.heap.size, 1, none⟩) (fun _ => rfl) (.int .i64 ((u : Int) + (nbOf r.length : Int))))
      go_wp2_with fail
      go_roundw
      case rel =>
        refine ⟨k + 1, by omega, ⟨A', c', rfl⟩, HO5.out.keep HKs.out (fun i e e2 => HNE2.out (by rw [← e2]; exact e)), ?_, HB5.out.trans (HKs.out.below (fun i hi e => by omega) HB5.out.size)⟩
        rw [HU1.out]
        exact HJ5.out
      case measure => show R.length - (k + 1) < R.length - k; omega
    · obtain rfl : k = R.length := by omega
      have ht : R.take R.length = R := List.take_length
      rw [ht] at hO j1 hj
      have HEND : Hid (∀ s, S[(encsOf R).length]? = some s → wr.cell? ⟨gs, (encsOf R).length * 64 + 63, none⟩ = some (.int .u8 0)) := Lib.hid (fun s hs => hDr.range hs 63 (.int .u8 0) (by unfold cellsB; rw [List.getElem?_map, (HJ.out.at_end hs).2]; rfl))
      have HO := Lib.hid hO
      have HJ0 : Hid (JAt wr w.heap.size p (encsOf R).length 0) := Lib.hid hj
      obtain ⟨u, hu⟩ : ∃ u, u = (encsOf R).length := ⟨_, rfl⟩
      rw [← hu] at HJ0 HEND j1 hU
      have HU := Lib.hid hu
      clear hO hDr hj hB hlt KJr hu
      by_cases hlu : u < S.length
      case' pos =>
        have c63 := HEND.out _ (List.getElem?_eq_getElem hlu)
        have g1 : decide ((u : Int) < (S.length : Int)) = true := decide_eq_true (by omega)
        have g2 : (u : Int) < (S.length : Int) := by omega
        go_upto_region 6 with fail
        go_quiet (fail)
      case' neg =>
        have g1 : decide ((u : Int) < (S.length : Int)) = false := decide_eq_false (by omega)
        have g2 : ¬ (u : Int) < (S.length : Int) := by omega
        go_upto_region 6 with fail
        go_quiet (fail)
      all_goals
        have KJ2 : Hid (JAt (wr.drewN nq) w.heap.size p u 0) := Lib.hid (Blk.drewN HJ0.out nq)
        have HB2 := Lib.hid (below_dr HBr.out nq)
        have HO2 : Hid (OwnT (wr.drewN nq) (w.heap.size + 1) (.slice A R.length c) (R.map sJ)) := Lib.hid HO.out
        generalize wr.drewN nq = wq at KJ2 HB2 HO2 ⊢
        clear j0 j1 j2 jf1 jf2 jl d0 zpr
        have j2 := KJ2.out.cell 2
        have j2f := KJ2.out.frozen 2
        have jl := KJ2.out.lt
        have HNE : Hid ((Value.slice A R.length c).ownBlock ≠ some w.heap.size) := Lib.hid (fun e => by have := (World.ownsRow.lt HO2.out _ e).1; omega)
        have HJ5 : Hid (JAt (wq.setCell ⟨w.heap.size, 2, none⟩ (.int .i64 (R.length : Int))) w.heap.size p u R.length) := Lib.hid (KJ2.out.set 2 (.int .i64 (R.length : Int)))
        have HKs := Lib.hid ((Keeps.refl (fun i => i = w.heap.size) wq).setCell (p := ⟨w.heap.size, 2, none⟩) (fun _ => rfl) (.int .i64 (R.length : Int)))
        simp at j2
        go_wp2_with fail
        go_ret3
        exact ⟨w.heap.size, A, c, rfl, by rw [← HU.out]; exact HJ5.out, HO2.out.keep HKs.out (fun i e e2 => HNE.out (by rw [← e2]; exact e)), rfl, HB2.out.trans (HKs.out.below (fun i hi e => by omega) HB2.out.size)⟩
end Go.Proofs.YthgfbaekmhpiaaaGreatDoor
namespace Go.Proofs.YthgfbaekmhpiaaaGreatDoor
open Go.RowKit

/-- The sectors S are D with the writes P, each of which knows what its sector contained. -/
inductive ChainJ (D : List (List Int)) : List PW → List (List Int) → Prop
  | nil : ChainJ D [] D
  | snoc (P : List PW) (S : List (List Int)) (x : PW) : ChainJ D P S → S[x.1]? = some x.2.1 → ChainJ D (P ++ [x]) (S.set x.1 x.2.2)
theorem revsJ_snoc (P : List PW) (x : PW) : revs (P ++ [x]) = (P.length, x) :: revs P := by
  unfold revs
  rw [List.zipIdx_append, List.map_append, List.reverse_append]
  simp
theorem ChainJ.undo {D : List (List Int)} {P : List PW} {S : List (List Int)} (h : ChainJ D P S) : undo S (revs P) = D := by
  induction h with
  | nil => rfl
  | snoc P S x _ h0 ih =>
    rw [revsJ_snoc]
    show Proofs.YthgfbaekmhpiaaaGreatDoor.undo ((S.set x.1 x.2.2).set x.1 x.2.1) (revs P) = D
    rw [List.set_set]
    have : S.set x.1 x.2.1 = S := by
      apply List.ext_getElem?
      intro i
      by_cases e : x.1 = i
      · subst e
        rw [List.getElem?_set_self (List.getElem?_eq_some_iff.1 h0).1, h0]
      · rw [List.getElem?_set_ne e]
    rw [this, ih]
theorem ChainJ.crash {D : List (List Int)} {P : List PW} {S : List (List Int)} (h : ChainJ D P S) (K : List Int) : crashed S P K = keepS K D P.zipIdx := by
  unfold crashed
  rw [h.undo]
theorem crash_none (S : List (List Int)) (K : List Int) : crashed S [] K = S := rfl
/-- From sector u on nothing begins a record; before it all is as in D. -/
def TailInv (u : Nat) (D S : List (List Int)) : Prop := S.length = D.length ∧ S.take u = D.take u ∧ ∀ i s, u ≤ i → S[i]? = some s → s.length = 64 ∧ s[63]? = some 0
theorem TailInv.set {u : Nat} {D S : List (List Int)} (h : TailInv u D S) {k : Nat} {b : List Int} (hk : u ≤ k) (hb : b.length = 64) (h0 : b[63]? = some 0) : TailInv u D (S.set k b) := by
  refine ⟨by rw [List.length_set, h.1], by rw [List.take_set_of_le hk, h.2.1], fun i s hi hs => ?_⟩
  by_cases e : k = i
  · subst e
    have hlt : k < S.length := by have := (List.getElem?_eq_some_iff.1 hs).1; rwa [List.length_set] at this
    rw [List.getElem?_set_self hlt] at hs
    cases hs
    exact ⟨hb, h0⟩
  · rw [List.getElem?_set_ne e] at hs
    exact h.2.2 i s hi hs
theorem TailInv.jr {R D S : List (List Int)} (hJ : Jr R D) (h : TailInv (encsOf R).length D S) : Jr R S := by
  obtain ⟨hok, T, rfl, hT⟩ := hJ
  refine ⟨hok, S.drop (encsOf R).length, ?_, fun s hs => ?_⟩
  · have h2 := h.2.1
    rw [List.take_left] at h2
    conv => lhs; rw [← List.take_append_drop (encsOf R).length S, h2]
  · obtain ⟨i, hi⟩ := List.getElem?_of_mem hs
    rw [List.getElem?_drop] at hi
    exact h.2.2 _ s (by omega) hi
theorem Jr.tail {R D : List (List Int)} (h : Jr R D) : TailInv (encsOf R).length D D := by
  obtain ⟨hok, T, rfl, hT⟩ := h
  refine ⟨rfl, rfl, fun i s hi hs => ?_⟩
  rw [List.getElem?_append_right hi] at hs
  exact hT s (List.mem_of_getElem? hs)
theorem mix_zero {n : Int} {old new : List Int} (ho : old.length = 64) (hn : new.length = 64) (h1 : old[63]? = some 0) (h2 : new[63]? = some 0) : (mix n old new).length = 64 ∧ (mix n old new)[63]? = some 0 := by
  have hk := kept_range n
  have hl : (new.take (keptOf n).toNat).length = (keptOf n).toNat := by rw [List.length_take, hn]; omega
  unfold mix
  refine ⟨by rw [List.length_append, hl, List.length_drop, ho]; omega, ?_⟩
  by_cases h : 63 < (keptOf n).toNat
  · rw [List.getElem?_append_left (by rw [hl]; exact h), List.getElem?_take, if_pos h, h2]
  · rw [List.getElem?_append_right (by rw [hl]; omega), hl, List.getElem?_drop, show (keptOf n).toNat + (63 - (keptOf n).toNat) = 63 by omega, h1]
theorem mix_torn {n : Int} {old new : List Int} (ho : old.length = 64) (hn : new.length = 64) (h1 : old[63]? = some 0) : mix n old new = new ∨ (mix n old new).length = 64 ∧ (mix n old new)[63]? = some 0 := by
  have hk := kept_range n
  have hl : (new.take (keptOf n).toNat).length = (keptOf n).toNat := by rw [List.length_take, hn]; omega
  unfold mix
  by_cases h : 63 < (keptOf n).toNat
  · left
    rw [List.take_of_length_le (by omega), List.drop_eq_nil_of_le (by omega), List.append_nil]
  · right
    refine ⟨by rw [List.length_append, hl, List.length_drop, ho]; omega, ?_⟩
    rw [List.getElem?_append_right (by rw [hl]; omega), hl, List.getElem?_drop, show (keptOf n).toNat + (63 - (keptOf n).toNat) = 63 by omega, h1]
theorem keep_tail (K : List Int) {u : Nat} {D : List (List Int)} : ∀ (l : List (PW × Nat)) (S : List (List Int)), (∀ x ∈ l, u ≤ x.1.1 ∧ x.1.1 < D.length ∧ x.1.2.2.length = 64 ∧ x.1.2.2[63]? = some 0) → TailInv u D S → TailInv u D (keepS K S l)
  | [], _, _, h => h
  | x :: l, S, hl, h => by
    have hx := hl x (List.mem_cons_self ..)
    show TailInv u D (keepS K (match K[x.2]? with | some n => S.set x.1.1 (mix n (S.getD x.1.1 []) x.1.2.2) | none => S) l)
    refine keep_tail K l _ (fun y hy => hl y (List.mem_cons_of_mem _ hy)) ?_
    split
    · rename_i n _
      have hxl : x.1.1 < S.length := by rw [h.1]; exact hx.2.1
      have hs := h.2.2 x.1.1 S[x.1.1] hx.1 (List.getElem?_eq_getElem hxl)
      have hd : S.getD x.1.1 [] = S[x.1.1] := by rw [List.getD_eq_getElem?_getD, List.getElem?_eq_getElem hxl]; rfl
      rw [hd]
      have := mix_zero (n := n) hs.1 hx.2.2.1 hs.2 hx.2.2.2
      exact h.set hx.1 this.1 this.2
    · exact h
theorem splice_at {α : Type} (L : List α) (u : Nat) (B : List α) {k : Nat} {b : α} (hb : B[k]? = some b) (h : u + k < L.length) : splice L u (B.take (k + 1)) = (splice L u (B.take k)).set (u + k) b := by
  have hk := (List.getElem?_eq_some_iff.1 hb).1
  have h1 : (B.take k).length = k := by rw [List.length_take]; omega
  have h2 : (B.take (k + 1)).length = k + 1 := by rw [List.length_take]; omega
  have h3 : (L.take u).length = u := by rw [List.length_take]; omega
  unfold splice
  rw [h1, h2, List.take_add_one, hb, Option.toList_some, List.set_append, if_neg (by omega), h3, List.set_append, if_neg (by omega), h1, Nat.add_sub_cancel_left, Nat.sub_self]
  obtain ⟨y, hy⟩ : ∃ y, L.drop (u + k) = y :: L.drop (u + (k + 1)) := ⟨L[u + k], by rw [List.drop_eq_getElem_cons h]; rfl⟩
  rw [hy]
  simp
theorem splice_get {α : Type} (L : List α) (u : Nat) (B : List α) {i : Nat} (h : u + B.length ≤ L.length) (hi : i < u ∨ u + B.length ≤ i) : (splice L u B)[i]? = L[i]? := by
  have h3 : (L.take u).length = u := by rw [List.length_take]; omega
  unfold splice
  rcases hi with hi | hi
  · rw [List.getElem?_append_left (by omega), List.getElem?_take, if_pos hi]
  · rw [List.getElem?_append_right (by omega), List.getElem?_append_right (by omega), List.getElem?_drop, h3]
    congr 1
    omega
/-- A record goes into the sectors behind the others. -/
theorem Jr.add {R S : List (List Int)} (h : Jr R S) {r : List Int} (hr : okR r) (hl : (encsOf R).length + nbOf r.length ≤ S.length) : Jr (R ++ [r]) (splice S (encsOf R).length (encB r)) := by
  obtain ⟨hok, T, rfl, hT⟩ := h
  refine ⟨fun x hx => ?_, T.drop (encB r).length, ?_, fun s hs => hT s (List.mem_of_mem_drop hs)⟩
  · rcases List.mem_append.1 hx with hx | hx
    · exact hok x hx
    · rw [List.mem_singleton.1 hx]; exact hr
  · unfold splice
    rw [encsOf_snoc, List.take_left, List.drop_append, List.append_assoc]
    congr 2
    rw [List.drop_eq_nil_of_le (by omega), List.nil_append, Nat.add_sub_cancel_left]
/-- The further blocks of a record begin nothing. -/
theorem enc_rest {r : List Int} {b : List Int} (hb : b ∈ (encB r).drop 1) : b.length = 64 ∧ b[63]? = some 0 := by
  obtain ⟨i, hi⟩ := List.getElem?_of_mem hb
  rw [List.getElem?_drop] at hi
  have hl := (List.getElem?_eq_some_iff.1 hi).1
  rw [encB_len] at hl
  rw [encB_at hl, if_neg (by omega)] at hi
  cases hi
  exact ⟨blkJ_len .., blkJ_last ..⟩
theorem tail_splice {u v : Nat} {D S : List (List Int)} (B : List (List Int)) (h : TailInv u D S) (hv : u ≤ v) (hl : v + B.length ≤ S.length) (hB : ∀ b ∈ B, b.length = 64 ∧ b[63]? = some 0) : ∀ k, k ≤ B.length → TailInv u D (splice S v (B.take k))
  | 0, _ => by
    have : splice S v (B.take 0) = S := by unfold splice; simp
    rw [this]
    exact h
  | k + 1, hk => by
    have hb := List.getElem?_eq_getElem (l := B) (i := k) (by omega)
    rw [splice_at S v B hb (by omega)]
    have := hB _ (List.mem_of_getElem? hb)
    exact (tail_splice B h hv hl hB k (by omega)).set (by omega) this.1 this.2
end Go.Proofs.YthgfbaekmhpiaaaGreatDoor
namespace Go.Proofs.YthgfbaekmhpiaaaGreatDoor
open Go.RowKit

/-- What a disk holds behind k writes of the blocks B from sector u on; nothing was pending before. -/
structure WrK (w0 w : World) (p gs : Nat) (vp0 : Value) (D : List (List Int)) (u : Nat) (B : List (List Int)) (k : Nat) (dn st : Bool) : Prop where
  st : ∃ vp P ca, DiskAt w p gs vp (splice D u (B.take k)) P dn st ca ∧ ChainJ D P (splice D u (B.take k)) ∧ P.length = k ∧ (∀ i x, P[i]? = some x → x.1 = u + i ∧ B[i]? = some x.2.2) ∧ (0 ≤ ca ∧ ca ≤ 9223372036854775807) ∧ (vp.ownBlock = vp0.ownBlock ∨ ∀ i, vp.ownBlock = some i → w0.heap.size ≤ i)
  keep : Keeps (ownD p gs vp0) w0 w
theorem splice_nil {α : Type} (L : List α) (u : Nat) : splice L u [] = L := by unfold splice; simp
theorem cntOf_range (st : Bool) (ca : Int) (h : 0 ≤ ca ∧ ca ≤ 9223372036854775807) : 0 ≤ cntOf st ca ∧ cntOf st ca ≤ 9223372036854775807 := by
  unfold cntOf
  split <;> omega
theorem padB_same {b : List Int} (h : b.length = 64) : padB b = b := by unfold padB; rw [h]; simp
theorem keeps_more {w0 w1 w2 : World} {p gs : Nat} {vp0 vp : Value} (h1 : Keeps (ownD p gs vp0) w0 w1) (h2 : Keeps (ownD p gs vp) w1 w2) (hv : vp.ownBlock = vp0.ownBlock ∨ ∀ i, vp.ownBlock = some i → w0.heap.size ≤ i) : Keeps (ownD p gs vp0) w0 w2 :=
  h1.trans h2 (fun i hi e => by
    rcases e with e | e | e
    · exact .inl e
    · exact .inr (.inl e)
    · rcases hv with hv | hv
      · exact .inr (.inr (by rw [← hv]; exact e))
      · have := hv i e; omega)
set_option maxRecDepth 100000 in
set_option maxHeartbeats 1000000 in
/-- One write: it is pending, or the power fails. -/
theorem write_k {w0 w : World} {p gs : Nat} {vp0 : Value} {D : List (List Int)} {u : Nat} {B : List (List Int)} {k : Nat} {st : Bool} (h : WrK w0 w p gs vp0 D u B k false st) (hD : D.length ≤ 65536) (hDa : ∀ s ∈ D, s.length = 64) (hB : ∀ b ∈ B, b.length = 64) (hl : u + B.length ≤ D.length) (hk : k < B.length) (hBl : B.length ≤ 100000)
    (g o c : Nat) (hr : w.rangeAt g o (cellsB (B.getD k []))) (hg : ¬ ownD p gs vp0 g) (hg0 : g < w0.heap.size) :
    Calls Tryz.prog 30 #[.pointer (some ⟨p, 0, none⟩), .int .i64 ((u + k : Nat) : Int), .slice (some ⟨g, o, none⟩) 64 c] w fun e w' => ((e = .returned (.int .i64 0) ∧ WrK w0 w' p gs vp0 D u B (k + 1) false st) ∨ (st = true ∧ e = .returned (.int .i64 70) ∧ WrK w0 w' p gs vp0 D u B k true true)) := by
  obtain ⟨⟨vp, P, ca, hDk, hC, hPl, hPx, hca, hv⟩, hK⟩ := h
  obtain ⟨b, hb⟩ : ∃ b, B[k]? = some b := ⟨_, List.getElem?_eq_getElem hk⟩
  have hbl := hB b (List.mem_of_getElem? hb)
  have hgd : B.getD k [] = b := by rw [List.getD_eq_getElem?_getD, hb]; rfl
  rw [hgd] at hr
  have hSl : (splice D u (B.take k)).length = D.length := length_splice _ _ _ (by rw [List.length_take]; omega)
  have htk : (B.take k).length = k := by rw [List.length_take]; omega
  have hold : (splice D u (B.take k))[u + k]? = D[u + k]? := splice_get D u (B.take k) (by rw [htk]; omega) (.inr (by rw [htk]; exact Nat.le_refl _))
  obtain ⟨s, hs⟩ : ∃ s, D[u + k]? = some s := ⟨_, List.getElem?_eq_getElem (by omega)⟩
  have hgn : ¬ ownD p gs vp g := fun e => by
    rcases e with e | e | e
    · exact hg (.inl e)
    · exact hg (.inr (.inl e))
    · rcases hv with hv | hv
      · exact hg (.inr (.inr (by rw [← hv]; exact e)))
      · have := hv g e; omega
  by_cases hf : st = true ∧ ca = 0
  · obtain ⟨rfl, rfl⟩ := hf
    refine (write_stop hDk (by omega) ((u + k : Nat) : Int) (some ⟨g, o, none⟩) 64 c (by unfold secErr withinB; rw [if_neg (by simp), hSl, decide_eq_true (by omega), decide_eq_true (by omega)]; rfl) (by omega)).mono ?_
    rintro e w' ⟨rfl, hD2, hK2⟩
    exact .inr ⟨rfl, rfl, ⟨vp, P, 0, hD2, hC, hPl, hPx, hca, hv⟩, keeps_more hK (hK2.mono (fun i _ e => .inl e)) hv⟩
  · have hne : st = true → ca ≠ 0 := fun h1 h2 => hf ⟨h1, h2⟩
    have hW := write_ok hDk hca hne (by omega) (by omega) (u + k) s (by rw [hold]; exact hs) (some ⟨g, o, none⟩) c b (by omega) (fun _ => ⟨g, o, rfl, hr, hgn⟩)
    rw [hbl, padB_same hbl] at hW
    refine hW.mono ?_
    rintro e w' ⟨rfl, ⟨vp', hD2, hv2⟩, hK2⟩
    refine .inl ⟨rfl, ⟨vp', P ++ [(u + k, s, b)], cntOf st ca, ?_, ?_, by rw [List.length_append, hPl]; rfl, fun i x hx => ?_, cntOf_range st ca hca, ?_⟩, keeps_more hK hK2 hv⟩
    · rw [splice_at D u B hb (by omega)]
      exact hD2
    · rw [splice_at D u B hb (by omega)]
      exact ChainJ.snoc P _ (u + k, s, b) hC (by rw [hold]; exact hs)
    · by_cases hi : i < P.length
      · rw [List.getElem?_append_left hi] at hx
        exact hPx i x hx
      · have hi2 : i = k := by
          have := (List.getElem?_eq_some_iff.1 hx).1
          simp at this
          omega
        subst hi2
        rw [List.getElem?_append_right (by omega), hPl] at hx
        simp at hx
        subst hx
        exact ⟨rfl, hb⟩
    · rcases hv2 with e | e
      · rw [e]; exact hv
      · exact .inr (fun i hi => by have := e i hi; have := hK.size; omega)
theorem WrK.drew {w0 w : World} {p gs : Nat} {vp0 : Value} {D : List (List Int)} {u : Nat} {B : List (List Int)} {k : Nat} {dn st : Bool} (h : WrK w0 w p gs vp0 D u B k dn st) : WrK w0 w.drew p gs vp0 D u B k dn st := by
  obtain ⟨⟨vp, P, ca, h1, h2⟩, hK⟩ := h
  exact ⟨⟨vp, P, ca, h1.below (Below.refl _ _).drew, h2⟩, hK.drew⟩
theorem flush_k {w0 w : World} {p gs : Nat} {vp0 : Value} {D : List (List Int)} {u : Nat} {B : List (List Int)} {st : Bool} (h : WrK w0 w p gs vp0 D u B B.length false st) :
    Calls Tryz.prog 33 #[.pointer (some ⟨p, 0, none⟩)] w fun e w' => ((e = .returned (.int .i64 0) ∧ (∃ vp' ca', DiskAt w' p gs vp' (splice D u B) [] false st ca' ∧ (0 ≤ ca' ∧ ca' ≤ 9223372036854775807) ∧ (vp'.ownBlock = vp0.ownBlock ∨ ∀ i, vp'.ownBlock = some i → w0.heap.size ≤ i)) ∧ Keeps (ownD p gs vp0) w0 w') ∨ (st = true ∧ e = .returned (.int .i64 70) ∧ WrK w0 w' p gs vp0 D u B B.length true true)) := by
  obtain ⟨⟨vp, P, ca, hDk, hC, hPl, hPx, hca, hv⟩, hK⟩ := h
  have ht : B.take B.length = B := List.take_length
  by_cases hf : st = true ∧ ca = 0
  · obtain ⟨rfl, rfl⟩ := hf
    refine (flush_stop hDk).mono ?_
    rintro e w' ⟨rfl, hD2, hK2⟩
    exact .inr ⟨rfl, rfl, ⟨vp, P, 0, hD2, hC, hPl, hPx, hca, hv⟩, keeps_more hK (hK2.mono (fun i _ e => .inl e)) hv⟩
  · refine (flush_ok hDk hca (fun h1 h2 => hf ⟨h1, h2⟩)).mono ?_
    rintro e w' ⟨rfl, hD2, hK2⟩
    rw [ht] at hD2
    exact .inl ⟨rfl, ⟨_, _, hD2, cntOf_range st ca hca, .inr (fun i hi => by simp [Value.ownBlock] at hi)⟩, keeps_more hK (hK2.mono (fun i _ e => .inl e)) hv⟩
set_option maxRecDepth 100000 in
set_option maxHeartbeats 1000000 in
theorem jwrite_any {w : World} {p gs jb u0 n0 : Nat} {vp : Value} {D : List (List Int)} {st : Bool} {ca : Int} (h : DiskAt w p gs vp D [] false st ca) (hca : 0 ≤ ca ∧ ca ≤ 9223372036854775807) (hD : D.length ≤ 65536) (hj : JAt w jb p u0 n0) (hjn : ¬ ownD p gs vp jb)
    (u : Nat) (B : List (List Int)) (hB : ∀ b ∈ B, b.length = 64) (hl : u + B.length ≤ D.length) (hBl : B.length ≤ 100000) (A : Option Addr) (c : Nat) (hc : B.length ≤ c) (hA : 0 < B.length → ∃ g o, A = some ⟨g, o, none⟩ ∧ w.rangeAt g o (B.flatMap cellsB) ∧ ¬ ownD p gs vp g) :
    Calls Tryz.prog 107 #[.pointer (some ⟨jb, 0, none⟩), .int .i64 (u : Int), .slice A B.length c] w fun e w' =>
      ((e = .returned (.int .i64 0) ∧ ∃ vp' ca', DiskAt w' p gs vp' (splice D u B) [] false st ca' ∧ (0 ≤ ca' ∧ ca' ≤ 9223372036854775807) ∧ (vp'.ownBlock = vp.ownBlock ∨ ∀ i, vp'.ownBlock = some i → w.heap.size ≤ i)) ∨ (st = true ∧ e = .returned (.int .i64 70) ∧ ∃ k, k ≤ B.length ∧ WrK w w' p gs vp D u B k true true)) ∧ Keeps (ownD p gs vp) w w' := by
  have hW0 : WrK w w p gs vp D u B 0 false st := ⟨⟨vp, [], ca, by rw [List.take_zero, splice_nil]; exact h, by rw [List.take_zero, splice_nil]; exact .nil, rfl, fun i x hx => by simp at hx, hca, .inl rfl⟩, Keeps.refl _ _⟩
  have HW0 := Lib.hid hW0
  have HDa := Lib.hid h.all
  have j0 := hj.cell 0
  have jl := hj.lt
  simp at j0
  go_enter Tryz.func107, Tryz.ntmps107
  go_wp2_with fail
  go_loopw [11] (fun i wr => ∃ k : Nat, k ≤ B.length ∧ i = .int .i64 k ∧ WrK w wr p gs vp D u B k false st) (fun i _ => B.length - (intOf i).toNat)
  case atStart => exact ⟨0, Nat.zero_le _, rfl, HW0.out⟩
  case round =>
    obtain ⟨k, hk, rfl, hWk⟩ := hrel
    have HWk := Lib.hid hWk
    have jr := (hWk.keep.cell (b := jb) (o := 0) jl hjn).trans j0
    have jrl : jb < wr.heap.size := by have := hWk.keep.size; omega
    clear hWk
    by_cases hlt : k < B.length
    · have hki : (k : Int) < (B.length : Int) := by omega
      obtain ⟨g, o, rfl, hr, hg⟩ := hA (by omega)
      go_upto_region 4 with fail
      refine wp_region_still_tail 11 (by kernel_rfl) (by kernel_rfl) ?_
      simp only [List.take_succ_cons, List.take_zero, List.drop_succ_cons, List.drop_zero]
      change wpStill _ _ wr.drew _ _ _
      have jrd : wr.drew.cell? ⟨jb, 0, none⟩ = some (.pointer (some ⟨p, 0, none⟩)) := jr
      have jrdl : jb < wr.drew.heap.size := jrl
      obtain ⟨b, hb⟩ : ∃ b, B[k]? = some b := ⟨_, List.getElem?_eq_getElem hlt⟩
      have hbl := hB b (List.mem_of_getElem? hb)
      have hgd : B.getD k [] = b := by rw [List.getD_eq_getElem?_getD, hb]; rfl
      have hg0 : g < w.heap.size := by
        have h1 : (B.flatMap cellsB)[k * 64]? = (cellsB b)[0]? := flat_at hB hb (j := 0) (by omega)
        rw [show (cellsB b)[0]? = some (.int .u8 b[0]) by unfold cellsB; rw [List.getElem?_map, List.getElem?_eq_getElem (by omega)]; rfl] at h1
        exact World.block_lt_of_cell? w _ (hr _ _ h1)
      have hrb : wr.drew.rangeAt g (o + k * 64) (cellsB (B.getD k [])) := fun j v hv => by
        rw [hgd] at hv
        have hj64 : j < 64 := by
          have := (List.getElem?_eq_some_iff.1 hv).1
          rw [cellsB_len, hbl] at this
          exact this
        have h1 := hr (k * 64 + j) v (by rw [flat_at hB hb hj64]; exact hv)
        rw [Nat.add_assoc]
        exact (HWk.out.keep.drew.cell (b := g) (o := o + (k * 64 + j)) hg0 hg).trans h1
      have HWR := Lib.hid (write_k HWk.out.drew hD HDa.out hB hl hlt hBl g (o + k * 64) 64 hrb hg hg0)
      rw [Int.natCast_add] at HWR
      have hwj : IntKind.i64.wrap ((u : Int) + (k : Int)) = (u : Int) + (k : Int) := wrap64_id _ (by omega) (by omega)
      have hkl : k < B.length := hlt
      clear hr hg hb hbl hgd hrb HWk jr jrl
      iterate 11 still_step
      refine wpStill_nil ?_
      change wpList _ _ _ _ _ wr.drew
      go_wp2_with fail
      refine HWR.out.mono ?_
      rintro e w2 (⟨rfl, hW2⟩ | ⟨rfl, rfl, hW2⟩)
      · have HW2 := Lib.hid hW2
        clear hW2 HWR
        go_wp2_with fail
        go_roundw
        case rel => exact ⟨k + 1, by omega, by go_num, HW2.out⟩
        case measure => simp [intOf]; omega
      · have HW2 := Lib.hid hW2
        clear hW2 HWR
        go_wp2_with fail
        go_ret
        exact ⟨.inr ⟨rfl, k, by omega, HW2.out⟩, HW2.out.keep⟩
    · have hki : ¬ (k : Int) < (B.length : Int) := by omega
      obtain rfl : k = B.length := by omega
      by_cases hn : B.length = 0
      · have hB0 : B = [] := List.eq_nil_of_length_eq_zero hn
        subst hB0
        have HF : Hid ((∃ vp' ca', DiskAt wr p gs vp' (splice D u []) [] false st ca' ∧ (0 ≤ ca' ∧ ca' ≤ 9223372036854775807) ∧ (vp'.ownBlock = vp.ownBlock ∨ ∀ i, vp'.ownBlock = some i → w.heap.size ≤ i)) ∧ Keeps (ownD p gs vp) w wr) := Lib.hid (by
          obtain ⟨⟨vp', P', ca', h1, h2, h3, h4, h5, h6⟩, h7⟩ := HWk.out
          obtain rfl : P' = [] := List.eq_nil_of_length_eq_zero h3
          exact ⟨⟨vp', ca', h1, h5, h6⟩, h7⟩)
        clear HWk
        go_wp2_with fail
        go_ret
        exact ⟨.inl ⟨rfl, HF.out.1⟩, HF.out.2⟩
      · have hni : ¬ (B.length : Int) = 0 := by omega
        have hni2 : ((B.length : Int) == 0) = false := by simpa using hn
        have hni3 : ¬ B = [] := fun e => hn (by rw [e]; rfl)
        have HFL := Lib.hid (flush_k HWk.out)
        clear HWk
        go_wp2_with fail
        refine HFL.out.mono ?_
        rintro e w2 (⟨rfl, hW2⟩ | ⟨rfl, rfl, hW2⟩)
        · have HW2 := Lib.hid hW2
          clear hW2 HFL
          go_wp2_with fail
          go_ret
          exact ⟨.inl ⟨rfl, HW2.out.1⟩, HW2.out.2⟩
        · have HW2 := Lib.hid hW2
          clear hW2 HFL
          go_wp2_with fail
          go_ret
          exact ⟨.inr ⟨rfl, B.length, Nat.le_refl _, HW2.out⟩, HW2.out.keep⟩
end Go.Proofs.YthgfbaekmhpiaaaGreatDoor
namespace Go.Proofs.YthgfbaekmhpiaaaGreatDoor
open Go.RowKit

/-- A journal of the records R, on a disk that is not down; nothing is pending. -/
structure JUp (w : World) (jb p gs : Nat) (vp : Value) (S R : List (List Int)) (st : Bool) : Prop where
  disk : ∃ ca, DiskAt w p gs vp S [] false st ca ∧ (0 ≤ ca ∧ ca ≤ 9223372036854775807)
  room : S.length ≤ 65536
  recs : Jr R S
  at_ : JAt w jb p (encsOf R).length R.length
  apart : ¬ ownD p gs vp jb
/-- A journal of the records R on a disk that is down; a crash leaves these, or these and r. -/
structure JDn (w : World) (jb p gs : Nat) (vp : Value) (N : Nat) (R : List (List Int)) (X : Option (List Int)) : Prop where
  disk : ∃ S P ca, DiskAt w p gs vp S P true true ca ∧ S.length = N ∧ P.length ≤ 100000 ∧ (0 ≤ ca ∧ ca ≤ 9223372036854775807) ∧ ∀ K, (crashed S P K).length = N ∧ (Jr R (crashed S P K) ∨ ∃ r, X = some r ∧ Jr (R ++ [r]) (crashed S P K))
  room : N ≤ 65536
  at_ : JAt w jb p (encsOf R).length R.length
  apart : ¬ ownD p gs vp jb
theorem crashed_len (S : List (List Int)) (P : List PW) (K : List Int) : (crashed S P K).length = S.length := by
  unfold crashed
  rw [keepS_len, undo_len]
/-- The first block last, or all blocks at once. -/
theorem splice_two {D : List (List Int)} {u : Nat} {r : List Int} (hl : u + nbOf r.length ≤ D.length) : (splice D (u + 1) ((encB r).drop 1)).set u (blkJ r 0 1) = splice D u (encB r) := by
  have hnb := nb_pos r.length
  obtain ⟨B, hB⟩ : ∃ B, encB r = blkJ r 0 1 :: B := by
    cases hE : encB r with
    | nil => have := encB_len r; rw [hE] at this; simp at this; omega
    | cons b B =>
      have h0 := encB_at (r := r) hnb
      rw [hE, if_pos rfl] at h0
      cases h0
      exact ⟨B, rfl⟩
  have hBl : B.length + 1 = nbOf r.length := by rw [← encB_len r, hB]; rfl
  have h3 : (D.take u).length = u := by rw [List.length_take]; omega
  rw [hB]
  unfold splice
  obtain ⟨y, hy⟩ : ∃ y, D.take (u + 1) = D.take u ++ [y] := ⟨D[u], by rw [List.take_add_one, List.getElem?_eq_getElem (by omega)]; rfl⟩
  rw [hy, List.set_append, if_pos (by simp; omega), List.set_append, if_neg (by omega), h3, Nat.sub_self]
  simp only [List.drop_succ_cons, List.drop_zero, List.set_cons_zero, List.append_assoc, List.length_cons, List.cons_append, List.nil_append]
  rw [show u + 1 + B.length = u + (B.length + 1) by omega]
def newB (w0 : World) (vp0 vp : Value) : Prop := vp.ownBlock = vp0.ownBlock ∨ ∀ i, vp.ownBlock = some i → w0.heap.size ≤ i
/-- A failure before the first block: a crash leaves the records. -/
theorem down_rest {w0 w : World} {p gs : Nat} {vp : Value} {D R : List (List Int)} {r : List Int} {k : Nat} (hJ : Jr R D) (hl : (encsOf R).length + nbOf r.length ≤ D.length) (h : WrK w0 w p gs vp D ((encsOf R).length + 1) ((encB r).drop 1) k true true) (hk : k ≤ ((encB r).drop 1).length) :
    ∃ vp' S P ca, DiskAt w p gs vp' S P true true ca ∧ S.length = D.length ∧ P.length ≤ k ∧ (0 ≤ ca ∧ ca ≤ 9223372036854775807) ∧ newB w0 vp vp' ∧ ∀ K, Jr R (crashed S P K) := by
  obtain ⟨⟨vp', P, ca, hD, hC, hPl, hPx, hca, hv⟩, hK⟩ := h
  have hbl := encB_len r
  have hdl : ((encB r).drop 1).length = nbOf r.length - 1 := by rw [List.length_drop, hbl]
  have hnb := nb_pos r.length
  refine ⟨vp', _, P, ca, hD, length_splice _ _ _ (by rw [List.length_take]; omega), by omega, hca, hv, fun K => ?_⟩
  rw [hC.crash]
  refine TailInv.jr hJ (keep_tail K _ _ (fun x hx => ?_) hJ.tail)
  obtain ⟨i, hi⟩ := List.getElem?_of_mem hx
  rw [List.getElem?_zipIdx] at hi
  obtain ⟨y, hy, rfl⟩ := Option.map_eq_some_iff.1 hi
  have h1 := hPx i y hy
  have hil := (List.getElem?_eq_some_iff.1 hy).1
  have h2 := enc_rest (List.mem_of_getElem? h1.2)
  exact ⟨by dsimp only; omega, by dsimp only; omega, h2.1, h2.2⟩
/-- A failure at the first block: a crash leaves the records, or these and the new one. -/
theorem down_head {w0 w : World} {p gs : Nat} {vp : Value} {D R : List (List Int)} {r : List Int} {k : Nat} (hJ : Jr R D) (hr : okR r) (hl : (encsOf R).length + nbOf r.length ≤ D.length) (h : WrK w0 w p gs vp (splice D ((encsOf R).length + 1) ((encB r).drop 1)) (encsOf R).length ((encB r).take 1) k true true) (hk : k ≤ 1) :
    ∃ vp' S P ca, DiskAt w p gs vp' S P true true ca ∧ S.length = D.length ∧ P.length ≤ 1 ∧ (0 ≤ ca ∧ ca ≤ 9223372036854775807) ∧ newB w0 vp vp' ∧ ∀ K, Jr R (crashed S P K) ∨ Jr (R ++ [r]) (crashed S P K) := by
  obtain ⟨⟨vp', P, ca, hD, hC, hPl, hPx, hca, hv⟩, hK⟩ := h
  have hbl := encB_len r
  have hnb := nb_pos r.length
  have hdl : ((encB r).drop 1).length = nbOf r.length - 1 := by rw [List.length_drop, hbl]
  have hsl : (splice D ((encsOf R).length + 1) ((encB r).drop 1)).length = D.length := length_splice _ _ _ (by omega)
  have hT : TailInv (encsOf R).length D (splice D ((encsOf R).length + 1) ((encB r).drop 1)) := by
    have := tail_splice (v := (encsOf R).length + 1) ((encB r).drop 1) hJ.tail (by omega) (by omega) (fun b hb => enc_rest hb) _ (Nat.le_refl _)
    rwa [List.take_length] at this
  refine ⟨vp', _, P, ca, hD, by rw [length_splice _ _ _ (by rw [List.length_take, List.length_take]; omega), hsl], by omega, hca, hv, fun K => ?_⟩
  rw [hC.crash]
  rcases P with _ | ⟨x, _ | ⟨y, P⟩⟩
  rotate_left 2
  · simp at hPl
    omega
  · exact .inl (TailInv.jr hJ hT)
  · have h1 := hPx 0 x rfl
    have hx1 : x.1 = (encsOf R).length := h1.1
    have hx2 : x.2.2 = blkJ r 0 1 := by
      have := h1.2
      rw [List.getElem?_take, if_pos (by omega), encB_at hnb, if_pos rfl] at this
      exact (Option.some.inj this).symm
    have hol := hT.2.2 (encsOf R).length _ (Nat.le_refl _) (List.getElem?_eq_getElem (by omega))
    show Jr R (match K[0]? with | some n => _ | none => _) ∨ Jr (R ++ [r]) (match K[0]? with | some n => _ | none => _)
    cases K[0]? with
    | none => exact .inl (TailInv.jr hJ hT)
    | some n =>
      dsimp only
      rw [hx1, hx2, show (splice D ((encsOf R).length + 1) ((encB r).drop 1)).getD (encsOf R).length [] = (splice D ((encsOf R).length + 1) ((encB r).drop 1))[(encsOf R).length] by rw [List.getD_eq_getElem?_getD, List.getElem?_eq_getElem (by omega)]; rfl]
      rcases mix_torn (n := n) hol.1 (blkJ_len r 0 1) hol.2 with e | e
      · right
        rw [e]
        have hj := hJ.add hr hl
        have : (splice D ((encsOf R).length + 1) ((encB r).drop 1)).set (encsOf R).length (blkJ r 0 1) = splice D (encsOf R).length (encB r) := splice_two hl
        rw [this]
        exact hj
      · exact .inl (TailInv.jr hJ (hT.set (Nat.le_refl _) e.1 e.2))
end Go.Proofs.YthgfbaekmhpiaaaGreatDoor
namespace Go.Proofs.YthgfbaekmhpiaaaGreatDoor
open Go.RowKit

theorem add_long (jb : Nat) (s : ByteArray) (hs : 60000 < s.size) (w : World) :
    Calls Tryz.prog 78 #[.pointer (some ⟨jb, 0, none⟩), .string s] w fun e w' => e = .returned (.int .i64 2) ∧ w = w' := by
  have hs' : (60000 : Int) < (s.size : Int) := by omega
  go_enter Tryz.func78, Tryz.ntmps78
  go_wp2_with fail
  go_ret
  exact ⟨rfl, rfl⟩
theorem add_down {w : World} {jb p gs : Nat} {vp : Value} {N : Nat} {R : List (List Int)} {X : Option (List Int)} (h : JDn w jb p gs vp N R X) (s : ByteArray) (hs : s.size ≤ 60000) :
    Calls Tryz.prog 78 #[.pointer (some ⟨jb, 0, none⟩), .string s] w fun e w' => e = .returned (.int .i64 70) ∧ w = w' := by
  have hs' : ¬ (60000 : Int) < (s.size : Int) := by omega
  obtain ⟨S, P, ca, hD, _⟩ := h.disk
  have HDN := Lib.hid (down_any hD)
  have j0 := h.at_.cell 0
  have jl := h.at_.lt
  simp at j0
  clear hD h
  go_enter Tryz.func78, Tryz.ntmps78
  go_wp2_with fail
  refine HDN.out.mono ?_
  rintro e w1 ⟨rfl, rfl⟩
  go_wp2_with fail
  go_ret
  exact ⟨rfl, rfl⟩
theorem JUp.drewN {w : World} {jb p gs : Nat} {vp : Value} {S R : List (List Int)} {st : Bool} (h : JUp w jb p gs vp S R st) (n : Nat) : JUp (w.drewN n) jb p gs vp S R st := by
  obtain ⟨⟨ca, h1, h2⟩, h3, h4, h5, h6⟩ := h
  exact ⟨⟨ca, h1.below (below_dr (Below.refl _ _) n), h2⟩, h3, h4, Blk.drewN h5 n, h6⟩
theorem JUp.below {w w' : World} {jb p gs : Nat} {vp : Value} {S R : List (List Int)} {st : Bool} (h : JUp w jb p gs vp S R st) (hb : Below w.heap.size w w') : JUp w' jb p gs vp S R st := by
  obtain ⟨⟨ca, h1, h2⟩, h3, h4, h5, h6⟩ := h
  exact ⟨⟨ca, h1.below hb, h2⟩, h3, h4, Blk.below h5 hb (Blk.lt h5), h6⟩
theorem ownD_lt {w : World} {p gs : Nat} {vp : Value} {S : List (List Int)} {P : List PW} {dn st : Bool} {ca : Int} (h : DiskAt w p gs vp S P dn st ca) {i : Nat} (hi : ownD p gs vp i) : i < w.heap.size := by
  rcases hi with e | e | e
  · rw [e]; exact h.blk.lt
  · rw [e]; exact h.sec.lt
  · exact (World.ownsRow.lt h.pend i e).2
theorem apart_new {w0 : World} {p gs : Nat} {vp vp' : Value} {j : Nat} (h : ¬ ownD p gs vp j) (hv : newB w0 vp vp') (hj : j < w0.heap.size) : ¬ ownD p gs vp' j := fun e => by
  rcases e with e | e | e
  · exact h (.inl e)
  · exact h (.inr (.inl e))
  · rcases hv with hv | hv
    · exact h (.inr (.inr (by rw [← hv]; exact e)))
    · have := hv j e; omega
theorem newB_up {w0 w : World} {vp vp' : Value} (h : newB w0 vp vp') (hw : w.heap.size ≤ w0.heap.size) : newB w vp vp' := by
  rcases h with h | h
  · exact .inl h
  · exact .inr (fun i hi => Nat.le_trans hw (h i hi))
theorem newB_two {w w1 : World} {vp vp1 vp2 : Value} (h1 : newB w vp vp1) (h2 : newB w1 vp1 vp2) (hw : w.heap.size ≤ w1.heap.size) : newB w vp vp2 := by
  rcases h2 with h | h
  · rcases h1 with g | g
    · exact .inl (h.trans g)
    · exact .inr (fun i hi => g i (by rw [← h]; exact hi))
  · exact .inr (fun i hi => Nat.le_trans hw (h i hi))
theorem enc_cons (r : List Int) : ∃ b B, encB r = b :: B ∧ b.length = 64 := by
  cases hE : encB r with
  | nil => have := encB_len r; have := nb_pos r.length; rw [hE] at *; simp at *; omega
  | cons b B => exact ⟨b, B, rfl, encB_all b (by rw [hE]; exact List.mem_cons_self ..)⟩
set_option maxRecDepth 100000 in
set_option maxHeartbeats 1000000 in
theorem add_full {w : World} {jb p gs : Nat} {vp : Value} {S R : List (List Int)} {st : Bool} (h : JUp w jb p gs vp S R st) (s : ByteArray) (hs : s.size ≤ 60000) (hf : S.length < (encsOf R).length + nbOf s.size) :
    Calls Tryz.prog 78 #[.pointer (some ⟨jb, 0, none⟩), .string s] w fun e w' => e = .returned (.int .i64 72) ∧ ∃ n, w' = w.drewN n := by
  have hs' : ¬ (60000 : Int) < (s.size : Int) := by omega
  obtain ⟨ca, hD, _⟩ := h.disk
  have HDN := Lib.hid (down_any hD)
  have hu := h.recs.used
  have j0 := h.at_.cell 0
  have j1 := h.at_.cell 1
  have jl := h.at_.lt
  have d0 := hD.blk.cell 0
  have zp := hD.blk.lt
  simp at j0 j1 d0
  have g1 : (S.length : Int) - ((encsOf R).length : Int) < (nbOf s.size : Int) := by omega
  have HBF := Lib.hid (fun W => blocksFor_eq s.size (by omega) W)
  have hrm := h.room
  generalize (encsOf R).length = u at *
  clear hD h
  go_enter Tryz.func78, Tryz.ntmps78
  go_wp2_with fail
  refine HDN.out.mono ?_
  rintro e w1 ⟨rfl, rfl⟩
  clear HDN
  go_upto_region 5 with fail
  go_quiet ((go_at_call 74; exact Calls.quiet_of_same (HBF.out _)))
  go_wp2_with fail
  go_ret
  exact ⟨rfl, nq, rfl⟩
set_option maxRecDepth 100000 in
set_option maxHeartbeats 2000000 in
theorem add_any {w : World} {jb p gs : Nat} {vp : Value} {S R : List (List Int)} {st : Bool} (h : JUp w jb p gs vp S R st) (s : ByteArray) (hs : s.size ≤ 60000) (hf : (encsOf R).length + nbOf s.size ≤ S.length) :
    Calls Tryz.prog 78 #[.pointer (some ⟨jb, 0, none⟩), .string s] w fun e w' =>
      ((e = .returned (.int .i64 0) ∧ ∃ vp', JUp w' jb p gs vp' (splice S (encsOf R).length (encB (bsOf s))) (R ++ [bsOf s]) st ∧ newB w vp vp') ∨ (st = true ∧ e = .returned (.int .i64 70) ∧ ∃ vp', JDn w' jb p gs vp' S.length R (some (bsOf s)) ∧ newB w vp vp')) ∧ Keeps (fun i => ownD p gs vp i ∨ i = jb) w w' := by
  have hs' : ¬ (60000 : Int) < (s.size : Int) := by omega
  obtain ⟨ca, hD, hca⟩ := h.disk
  have HDN := Lib.hid (down_any hD)
  have hu := h.recs.used
  have j0 := h.at_.cell 0
  have j1 := h.at_.cell 1
  have jl := h.at_.lt
  have d0 := hD.blk.cell 0
  have zp := hD.blk.lt
  simp at j0 j1 d0
  obtain ⟨u, hue⟩ : ∃ u, u = (encsOf R).length := ⟨_, rfl⟩
  have HUE := Lib.hid hue
  rw [← hue] at j1 hf hu
  clear hue
  have g1 : ¬ (S.length : Int) - (u : Int) < (nbOf s.size : Int) := by omega
  have HBF := Lib.hid (fun W => blocksFor_eq s.size (by omega) W)
  have hrm := h.room
  have HJ := Lib.hid h
  clear hD h
  go_enter Tryz.func78, Tryz.ntmps78
  go_wp2_with fail
  refine HDN.out.mono ?_
  rintro e w1 ⟨rfl, rfl⟩
  clear HDN
  go_upto_region 5 with fail
  go_quiet ((go_at_call 74; exact Calls.quiet_of_same (HBF.out _)))
  have HJ1 := Lib.hid (HJ.out.drewN nq)
  have HK1 := Lib.hid ((Keeps.refl (fun i => ownD p gs vp i ∨ i = jb) w).drewN nq)
  have hz1 : w.heap.size ≤ (w.drewN nq).heap.size := Nat.le_refl _
  generalize w.drewN nq = w1 at HJ1 HK1 hz1 ⊢
  clear HBF j0 j1 jl d0 zp
  go_wp2_with fail
  refine (blocksOf_any s hs w1).mono ?_
  rintro e w2 ⟨gB, rfl, kB, hgB, hB2⟩
  have HJ2 := Lib.hid (HJ1.out.below hB2)
  have HK2 := Lib.hid (HK1.out.trans (Keeps.of_new (S := fun _ => False) hB2) (fun _ _ e => e.elim))
  have hz2 : w1.heap.size ≤ w2.heap.size := hB2.size
  have hbl := encB_len (bsOf s)
  rw [bsOf_len] at hbl
  have hrB : w2.rangeAt gB 0 ((encB (bsOf s)).flatMap cellsB) := fun j v hv => by
    rw [Nat.zero_add, kB.cell j, List.getElem?_toArray, hv]
  have HRB := Lib.hid hrB
  have HKB := Lib.hid kB
  have hgBl := kB.lt
  have hnb := nb_pos s.size
  have j1 := HJ2.out.at_.cell 1
  have jl := HJ2.out.at_.lt
  rw [← HUE.out] at j1
  simp at j1
  clear hrB kB hB2 HJ1 HK1
  go_upto_region 8 with fail
  refine wp_region_still_tail 8 (by kernel_rfl) (by kernel_rfl) ?_
  simp only [List.take_succ_cons, List.take_zero, List.drop_succ_cons, List.drop_zero]
  change wpStill _ _ w2.drew _ _ _
  have j1d : w2.drew.cell? ⟨jb, 1, none⟩ = some (.int .i64 (u : Int)) := j1
  have jld : jb < w2.drew.heap.size := jl
  have hwu : IntKind.i64.wrap ((u : Int) + 1) = (u : Int) + 1 := wrap64_id _ (by omega) (by omega)
  have hn1 : 1 ≤ nbOf s.size := hnb
  have hn2 : (1 : Int) ≤ (nbOf s.size : Int) := by omega
  clear j1 jl
  iterate 8 still_step
  refine wpStill_nil ?_
  change wpList _ _ _ _ _ w2.drew
  obtain ⟨A1, hA1⟩ : ∃ A1 : Option Addr, A1 = if nbOf s.size = 1 then some ⟨gB, 0, none⟩ else some ⟨gB, 64, none⟩ := ⟨_, rfl⟩
  rw [← hA1]
  obtain ⟨ca2, hD2, hca2⟩ := HJ2.out.disk
  have hown : ¬ ownD p gs vp gB := fun e => by
    have hdw := HJ.out.disk
    obtain ⟨ca0, hD0, _⟩ := hdw
    have := ownD_lt hD0 e
    omega
  have hjg : jb ≠ gB := by have := HJ.out.at_.lt; omega
  have hdl : ((encB (bsOf s)).drop 1).length = nbOf s.size - 1 := by rw [List.length_drop, hbl]
  have hok := HJ2.out.recs
  have hW1 := jwrite_any (hD2.below (w' := w2.drew) (Below.refl _ _).drew) hca2 hrm (show JAt w2.drew jb p (encsOf R).length R.length from Blk.drew HJ2.out.at_) HJ2.out.apart (u + 1) ((encB (bsOf s)).drop 1) (fun b hb => (enc_rest hb).1) (by omega) (by omega) A1 (nbOf s.size - 1) (by omega) (fun h0 => by
    rw [hdl] at h0
    rw [hA1, if_neg (by omega)]
    refine ⟨gB, 64, rfl, fun j v hv => ?_, hown⟩
    have h1 := HRB.out (64 + j) v (by
      obtain ⟨b, B, hbB, hb64⟩ := enc_cons (bsOf s)
      rw [hbB] at hv ⊢
      rw [List.drop_succ_cons, List.drop_zero] at hv
      rw [List.flatMap_cons, List.getElem?_append_right (by rw [cellsB_len, hb64]; omega), cellsB_len, hb64, Nat.add_sub_cancel_left]
      exact hv)
    rw [Nat.zero_add] at h1
    exact h1)
  rw [hdl, Int.natCast_add] at hW1
  have HW1 := Lib.hid hW1
  have HOW := Lib.hid hown
  clear hW1 hA1 hD2 hown hok
  go_wp2_with fail
  refine HW1.out.mono ?_
  rintro e w3 ⟨(⟨rfl, vp3, ca3, hD3, hca3, hv3⟩ | ⟨rfl, rfl, k, hk, hWK⟩), hK3⟩
  rotate_left
  · have HF : Hid ((∃ vp', JDn w3 jb p gs vp' S.length R (some (bsOf s)) ∧ newB w vp vp') ∧ Keeps (fun i => ownD p gs vp i ∨ i = jb) w w3) := Lib.hid (by
      rw [HUE.out] at hWK
      obtain ⟨vp', S', P', ca', q1, q2, q3, q4, q5, q6⟩ := down_rest HJ2.out.recs (by rw [← HUE.out, bsOf_len]; exact hf) hWK (by rw [hdl]; exact hk)
      refine ⟨⟨vp', ⟨⟨S', P', ca', q1, q2, by omega, q4, fun K => ⟨by rw [crashed_len, q2], .inl (q6 K)⟩⟩, hrm, Blk.keep (Blk.drew HJ2.out.at_) hK3 HJ2.out.apart, apart_new HJ2.out.apart q5 (by have := HJ2.out.at_.lt; exact this)⟩, newB_up q5 (by show w.heap.size ≤ w2.heap.size; omega)⟩, HK2.out.drew.trans (hK3.mono (fun i _ e => .inl e)) (fun i _ e => e)⟩)
    clear hWK hK3 HW1
    go_wp2_with fail
    go_ret
    exact ⟨.inr ⟨rfl, HF.out.1⟩, HF.out.2⟩
  · have hjA3 : JAt w3 jb p (encsOf R).length R.length := Blk.keep (Blk.drew HJ2.out.at_) hK3 HJ2.out.apart
    have hj3 : ¬ ownD p gs vp3 jb := apart_new HJ2.out.apart hv3 (by have := HJ2.out.at_.lt; exact this)
    have hg3 : ¬ ownD p gs vp3 gB := apart_new HOW.out hv3 (by exact hgBl)
    have hgw3 : gB < w3.heap.size := Nat.lt_of_lt_of_le hgBl hK3.size
    have hr3 : w3.rangeAt gB 0 ((encB (bsOf s)).flatMap cellsB) := fun j v hv => (hK3.cell (b := gB) (o := 0 + j) hgBl HOW.out).trans (HRB.out j v hv)
    have hsl : (splice S (u + 1) ((encB (bsOf s)).drop 1)).length = S.length := length_splice _ _ _ (by omega)
    have htl : ((encB (bsOf s)).take 1).length = 1 := by rw [List.length_take]; omega
    have hW2 := jwrite_any (hD3.below (w' := w3.drew) (Below.refl _ _).drew) hca3 (by omega) (show JAt w3.drew jb p (encsOf R).length R.length from Blk.drew hjA3) hj3 u ((encB (bsOf s)).take 1) (fun b hb => encB_all b (List.mem_of_mem_take hb)) (by omega) (by omega) (some ⟨gB, 0, none⟩) (nbOf s.size) (by omega) (fun _ => ⟨gB, 0, rfl, fun j v hv => by
      obtain ⟨b, B, hbB, hb64⟩ := enc_cons (bsOf s)
      refine hr3 j v ?_
      rw [hbB] at hv ⊢
      have hjl := (List.getElem?_eq_some_iff.1 hv).1
      rw [show (b :: B).take 1 = [b] from rfl, List.flatMap_singleton] at hv hjl
      rw [List.flatMap_cons, List.getElem?_append_left hjl]
      exact hv, hg3⟩)
    rw [htl] at hW2
    have HW2 := Lib.hid hW2
    have HKw3 := Lib.hid (HK2.out.drew.trans (hK3.mono (fun i _ e => .inl e)) (fun i _ e => e))
    have hz3 : w.heap.size ≤ w3.heap.size := by have h1 := hK3.size; have h2 : w2.drew.heap.size = w2.heap.size := rfl; omega
    have HNB3 : Hid (newB w vp vp3) := Lib.hid (newB_up hv3 (by show w.heap.size ≤ w2.heap.size; omega))
    have HJA3 := Lib.hid hjA3
    have HJ3 := Lib.hid hj3
    have j1 := hjA3.cell 1
    have jl := hjA3.lt
    rw [← HUE.out] at j1
    simp at j1
    clear hjA3 hj3 hg3 hgw3 hr3 hW2 hD3 hv3 hK3 HW1
    go_upto_region 11 with fail
    refine wp_region_still_tail 7 (by kernel_rfl) (by kernel_rfl) ?_
    simp only [List.take_succ_cons, List.take_zero, List.drop_succ_cons, List.drop_zero]
    change wpStill _ _ w3.drew _ _ _
    have j1e : w3.drew.cell? ⟨jb, 1, none⟩ = some (.int .i64 (u : Int)) := j1
    have jle : jb < w3.drew.heap.size := jl
    clear j1 jl j1d jld
    iterate 7 still_step
    refine wpStill_nil ?_
    change wpList _ _ _ _ _ w3.drew
    go_wp2_with fail
    refine HW2.out.mono ?_
    rintro e w4 ⟨(⟨rfl, vp4, ca4, hD4, hca4, hv4⟩ | ⟨rfl, rfl, k, hk, hWK⟩), hK4⟩
    · have hjA4 : JAt w4 jb p (encsOf R).length R.length := Blk.keep (Blk.drew HJA3.out) hK4 HJ3.out
      have hj4 : ¬ ownD p gs vp4 jb := apart_new HJ3.out hv4 (by have := HJA3.out.lt; exact this)
      have hDe : splice (splice S (u + 1) ((encB (bsOf s)).drop 1)) u ((encB (bsOf s)).take 1) = splice S u (encB (bsOf s)) := by
        have h0 : (encB (bsOf s))[0]? = some (blkJ (bsOf s) 0 1) := by rw [encB_at (by rw [bsOf_len]; exact hnb), if_pos rfl]
        have h1 := splice_at (splice S (u + 1) ((encB (bsOf s)).drop 1)) u (encB (bsOf s)) (k := 0) h0 (by omega)
        rw [Nat.zero_add] at h1
        rw [h1, List.take_zero, splice_nil, Nat.add_zero]
        exact splice_two (by rw [bsOf_len]; exact hf)
      rw [hDe] at hD4
      have hks : Keeps (fun i => i = jb) w4 ((w4.setCell ⟨jb, 1, none⟩ (.int .i64 ((u : Int) + (nbOf s.size : Int)))).setCell ⟨jb, 2, none⟩ (.int .i64 ((R.length : Int) + 1))) := ((Keeps.refl (fun i => i = jb) w4).setCell (p := ⟨jb, 1, none⟩) (fun _ => rfl) _).setCell (p := ⟨jb, 2, none⟩) (fun _ => rfl) _
      have HF : Hid ((∃ vp', JUp ((w4.setCell ⟨jb, 1, none⟩ (.int .i64 ((u : Int) + (nbOf s.size : Int)))).setCell ⟨jb, 2, none⟩ (.int .i64 ((R.length : Int) + 1))) jb p gs vp' (splice S (encsOf R).length (encB (bsOf s))) (R ++ [bsOf s]) st ∧ newB w vp vp') ∧ Keeps (fun i => ownD p gs vp i ∨ i = jb) w ((w4.setCell ⟨jb, 1, none⟩ (.int .i64 ((u : Int) + (nbOf s.size : Int)))).setCell ⟨jb, 2, none⟩ (.int .i64 ((R.length : Int) + 1)))) := Lib.hid (by
        rw [HUE.out] at hD4 hks ⊢
        refine ⟨⟨vp4, ⟨⟨ca4, hD4.keep hks (fun i hi e => hj4 (by rw [← e]; exact hi)), hca4⟩, by rw [length_splice _ _ _ (by rw [hbl, ← HUE.out]; exact hf)]; exact hrm, HJ2.out.recs.add ⟨by rw [bsOf_len]; exact hs, bsOf_range s⟩ (by rw [bsOf_len, ← HUE.out]; exact hf), ?_, hj4⟩, newB_two HNB3.out hv4 (by exact hz3)⟩, ?_⟩
        · rw [encsOf_snoc, List.length_append, List.length_append, hbl]
          have := (hjA4.set 1 (.int .i64 (((encsOf R).length : Int) + (nbOf s.size : Int)))).set 2 (.int .i64 ((R.length : Int) + 1))
          unfold JAt
          rw [Int.natCast_add, Int.natCast_add]
          exact this
        · exact ((HKw3.out.drew.trans hK4 (fun i hi e => by
            rcases e with e | e | e
            · exact .inl (.inl e)
            · exact .inl (.inr (.inl e))
            · rcases HNB3.out with h | h
              · exact .inl (.inr (.inr (by rw [← h]; exact e)))
              · have := h i e; omega)).trans hks (fun i _ e => .inr e)))
      have j1 := hjA4.cell 1
      have j2 := hjA4.cell 2
      have jf1 := hjA4.frozen 1
      have jf2 := hjA4.frozen 2
      have jl := hjA4.lt
      rw [← HUE.out] at j1
      simp at j1 j2
      have hul : u + nbOf s.size ≤ 65536 := by omega
      have hRl : R.length ≤ 65536 := by have := encsOf_len R; have := HUE.out; omega
      clear hjA4 hj4 hDe hD4 hks hv4 hK4 HW2 j1e jle
      go_wp2_with fail
      go_ret
      exact ⟨.inl ⟨rfl, HF.out.1⟩, HF.out.2⟩
    · have HF : Hid ((∃ vp', JDn w4 jb p gs vp' S.length R (some (bsOf s)) ∧ newB w vp vp') ∧ Keeps (fun i => ownD p gs vp i ∨ i = jb) w w4) := Lib.hid (by
        rw [HUE.out] at hWK
        obtain ⟨vp', S', P', ca', q1, q2, q3, q4, q5, q6⟩ := down_head HJ2.out.recs ⟨by rw [bsOf_len]; exact hs, bsOf_range s⟩ (by rw [← HUE.out, bsOf_len]; exact hf) hWK (by omega)
        refine ⟨⟨vp', ⟨⟨S', P', ca', q1, q2, by omega, q4, fun K => ⟨by rw [crashed_len, q2], (q6 K).imp id (fun h => ⟨_, rfl, h⟩)⟩⟩, hrm, Blk.keep (Blk.drew HJA3.out) hK4 HJ3.out, apart_new HJ3.out q5 (by have := HJA3.out.lt; exact this)⟩, newB_two HNB3.out q5 (by exact hz3)⟩, HKw3.out.drew.trans hK4 (fun i hi e => by
            rcases e with e | e | e
            · exact .inl (.inl e)
            · exact .inl (.inr (.inl e))
            · rcases HNB3.out with h | h
              · exact .inl (.inr (.inr (by rw [← h]; exact e)))
              · have := h i e; omega)⟩)
      clear hWK hK4 HW2
      go_wp2_with fail
      go_ret
      exact ⟨.inr ⟨rfl, HF.out.1⟩, HF.out.2⟩
end Go.Proofs.YthgfbaekmhpiaaaGreatDoor
