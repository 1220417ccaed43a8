/- The contract of Open: the records that lie in the sectors are returned. Conditions: the disk lies in memory, the records in its sectors. -/
import Derived.Test.YthieonekjmdelaaJText
namespace Go.Proofs.Ythieonekjmdelaa
open Go.RowKit

/-- A journal behind jb: of the disk behind p, with u sectors and n records. -/
def JAt (w : World) (jb p u n : Nat) : Prop := Blk w jb 65 #[.pointer (some ⟨p, 0, none⟩), .int .i64 (u : Int), .int .i64 (n : Int)]
theorem open_down {w : World} {p gs : Nat} {vp : Value} {S : List (List Int)} {P : List PW} {st : Bool} {ca : Int} (h : DiskAt w p gs vp S P true st ca) :
    Calls Try.prog 17 #[.pointer (some ⟨p, 0, none⟩)] w fun e w' => e = .returned (.tuple #[.pointer none, .slice none 0 0, .int .i64 70]) ∧ w = w' := by
  have HR := Lib.hid (refuses_any h)
  clear h
  go_enter Try.func17, Try.ntmps17
  go_wp2_with fail
  refine HR.out.mono ?_
  rintro e w1 ⟨rfl, rfl⟩
  go_wp2_with fail
  go_ret3
  exact ⟨rfl, rfl⟩
set_option maxRecDepth 100000 in
set_option maxHeartbeats 2000000 in
theorem open_ok {w : World} {p gs : Nat} {vp : Value} {S : List (List Int)} {P : List PW} {st : Bool} {ca : Int} (h : DiskAt w p gs vp S P false st ca) (hS : S.length ≤ 65536) (R : List (List Int)) (hJ : Jr R S) :
    Calls Try.prog 17 #[.pointer (some ⟨p, 0, none⟩)] w fun e w' => ∃ jb A c, e = .returned (.tuple #[.pointer (some ⟨jb, 0, none⟩), .slice A R.length c, .int .i64 0]) ∧ JAt w' jb p (encsOf R).length R.length ∧ OwnT w' (w.heap.size + 1) (.slice A R.length c) (R.map sJ) ∧ jb = w.heap.size ∧ Below w.heap.size w w' := by
  have hRl := encsOf_len R
  have hU := hJ.used
  have HR := Lib.hid (refuses_any h)
  have HD := Lib.hid h
  have HJ := Lib.hid hJ
  have hz := h.blk.lt
  clear h hJ
  go_enter Try.func17, Try.ntmps17
  go_wp2_with fail
  refine HR.out.mono ?_
  rintro e w1 ⟨rfl, rfl⟩
  have kJ : JAt (w.alloc (.cells #[.pointer (some ⟨p, 0, none⟩), .int .i64 0, .int .i64 0] 65)) w.heap.size p 0 0 := Blk.new w _ _
  have hB0 : Below w.heap.size w (w.alloc (.cells #[.pointer (some ⟨p, 0, none⟩), .int .i64 0, .int .i64 0] 65)) := (Below.refl _ _).alloc (Nat.le_refl _) _
  have KJ := Lib.hid kJ
  have HB0 := Lib.hid hB0
  clear HR kJ hB0
  go_wp2_with fail
  go_loopw [7] (fun v wr => ∃ k : Nat, k ≤ R.length ∧ (∃ A c, v = .slice A k c) ∧ OwnT wr (w.heap.size + 1) v ((R.take k).map sJ) ∧ JAt wr w.heap.size p (encsOf (R.take k)).length 0 ∧ Below w.heap.size w wr) (fun v _ => R.length - lenV v)
  case atStart => exact ⟨0, Nat.zero_le _, ⟨none, 0, rfl⟩, World.ownsRow_nil _ _ _ _, KJ.out, HB0.out⟩
  case round =>
    obtain ⟨k, hk, ⟨A, c, rfl⟩, hO, hj, hB⟩ := hrel
    have HBr := Lib.hid hB
    have hDr := HD.out.below hB
    have HDr := Lib.hid hDr
    have KJr := Lib.hid hj
    have j0 := hj.cell 0
    have j1 := hj.cell 1
    have j2 := hj.cell 2
    have jf1 := hj.frozen 1
    have jf2 := hj.frozen 2
    have jl := hj.lt
    have d0 := hDr.blk.cell 0
    have zpr := hDr.blk.lt
    simp at d0 j0 j1 j2
    by_cases hlt : k < R.length
    · obtain ⟨r, hr⟩ : ∃ r, R[k]? = some r := ⟨_, List.getElem?_eq_getElem hlt⟩
      have hrok := HJ.out.1 r (List.mem_of_getElem? hr)
      obtain ⟨T, hST, hU1⟩ := HJ.out.rec hr
      have hnb := nb_pos r.length
      have hlenS : (encsOf (R.take k)).length + nbOf r.length ≤ S.length := by rw [hST, List.length_append, List.length_append, encB_len]; omega
      have hblk : S[(encsOf (R.take k)).length]? = some (blkJ r 0 1) := by
        rw [hST, List.getElem?_append_right (Nat.le_refl _), Nat.sub_self, List.getElem?_append_left (by rw [encB_len]; exact hnb), encB_at hnb, if_pos rfl]
      have c63 := hDr.range hblk 63 (.int .u8 1) (by unfold cellsB; rw [List.getElem?_map, blkJ_last]; rfl)
      have HRC := Lib.hid (fun W (hb : Below w.heap.size w W) => record_ok (HD.out.below hb) hS (encsOf (R.take k)).length r hrok _ T rfl hST)
      have HU1 : Hid ((encsOf (R.take (k + 1))).length = (encsOf (R.take k)).length + nbOf r.length) := Lib.hid (by rw [hU1, List.length_append, encB_len])
      have HO := Lib.hid hO
      have HTK : Hid ((R.take (k + 1)).map sJ = (R.take k).map sJ ++ [sJ r]) := Lib.hid (by rw [List.take_add_one, hr]; simp)
      have hrl := hrok.1
      generalize (encsOf (R.take k)).length = u at *
      have g1 : decide ((u : Int) < (S.length : Int)) = true := decide_eq_true (by omega)
      have g2 : (u : Int) < (S.length : Int) := by omega
      clear hO hDr hj hB hr hST hU1 hblk hrok
      go_upto_region 6 with fail
      go_quiet (fail)
      have KJ2 : Hid (JAt (wr.drewN nq) w.heap.size p u 0) := Lib.hid (Blk.drewN KJr.out nq)
      have HB2 := Lib.hid (below_dr HBr.out nq)
      have HO2 : Hid (OwnT (wr.drewN nq) (w.heap.size + 1) (.slice A k c) ((R.take k).map sJ)) := Lib.hid HO.out
      generalize wr.drewN nq = wq at KJ2 HB2 HO2 ⊢
      clear j0 j1 j2 jf1 jf2 jl d0 zpr c63 HO HBr HDr KJr
      have j1 := KJ2.out.cell 1
      have jl := KJ2.out.lt
      simp at j1
      go_wp2_with fail
      refine (HRC.out wq HB2.out).mono ?_
      rintro e w2 ⟨rfl, hB3⟩
      unfold sJ
      have hKJ3 := Blk.below KJ2.out hB3 KJ2.out.lt
      have hO3 := HO2.out.below hB3
      have hB4 := HB2.out.trans (hB3.mono HB2.out.size)
      have hLk : ((R.take k).map sJ).length = k := by rw [List.length_map, List.length_take]; omega
      obtain ⟨A', c', w3, hrun, hO4, hK4, hv4⟩ := append_text hO3 (by rw [hLk]; omega) (by have := hB4.size; have := hKJ3.lt; omega) (strOfNums r)
      rw [hLk] at hrun hO4 hv4
      have hne : (Value.slice A k c).ownBlock ≠ some w.heap.size := fun e => by have := (World.ownsRow.lt hO3 _ e).1; omega
      have hKJ4 := Blk.keep hKJ3 hK4 hne
      have hB5 := hB4.trans (hK4.below (B := w.heap.size) (fun i hi e => by have := (World.ownsRow.lt hO3 _ e).1; omega) hB4.size)
      have hO5 : OwnT w3 (w.heap.size + 1) (.slice A' (k + 1) c') ((R.take (k + 1)).map sJ) := by rw [HTK.out]; exact hO4
      have HO5 := Lib.hid hO5
      have HKJ4 := Lib.hid hKJ4
      have HB5 := Lib.hid hB5
      have j1b := hKJ4.cell 1
      have j1f := hKJ4.frozen 1
      have jl4 := hKJ4.lt
      have hne2 : (Value.slice A' (k + 1) c').ownBlock ≠ some w.heap.size := fun e => by have := (World.ownsRow.lt hO5 _ e).1; omega
      have HNE2 := Lib.hid hne2
      simp at j1b
      clear KJ2 HB2 HO2 j1 jl hB3 hKJ3 hO3 hB4 hO4 hK4 hv4 hne hKJ4 hB5 hO5 hne2 HRC
      go_upto_region 11 with (first | (at_builtin; refine Lib.wpList_append_run _ rfl _ _ _ _ rfl _ _ rfl rfl _ _ hrun ?_))
      refine wp_region_still_tail 12 (by kernel_rfl) (by kernel_rfl) ?_
      simp only [List.take_succ_cons, List.take_zero, List.drop_succ_cons, List.drop_zero]
      change wpStill _ _ w3.drew _ _ _
      have j1c : w3.drew.cell? ⟨w.heap.size, 1, none⟩ = some (.int .i64 (u : Int)) := j1b
      have jfc : w3.drew.frozen? ⟨w.heap.size, 1, none⟩ = false := j1f
      have jlc : w.heap.size < w3.drew.heap.size := jl4
      have hsr : (strOfNums r).size = r.length := strOfNums_size r
      have HBF := Lib.hid (fun W => blocksFor_eq r.length (by omega) W)
      clear j1b j1f jl4 hrun
      iterate 7 still_step
      still_call (HBF.out _)
      iterate 4 still_step
      refine wpStill_nil ?_
      change wpList _ _ _ _ _ w3.drew
      have HJ5 : Hid (JAt (w3.drew.setCell ⟨w.heap.size, 1, none⟩ (.int .i64 ((u : Int) + (nbOf r.length : Int)))) w.heap.size p (u + nbOf r.length) 0) := Lib.hid (by
        have := (Blk.drew HKJ4.out).set 1 (.int .i64 ((u : Int) + (nbOf r.length : Int)))
        unfold JAt
        rw [Int.natCast_add]
        exact this)
      have HKs := Lib.hid ((Keeps.refl (fun i => i = w.heap.size) w3).drew.setCell (p := ⟨w.heap.size, 1, none⟩) (fun _ => rfl) (.int .i64 ((u : Int) + (nbOf r.length : Int))))
      go_wp2_with fail
      go_roundw
      case rel =>
        refine ⟨k + 1, by omega, ⟨A', c', rfl⟩, HO5.out.keep HKs.out (fun i e e2 => HNE2.out (by rw [← e2]; exact e)), ?_, HB5.out.trans (HKs.out.below (fun i hi e => by omega) HB5.out.size)⟩
        rw [HU1.out]
        exact HJ5.out
      case measure => show R.length - (k + 1) < R.length - k; omega
    · obtain rfl : k = R.length := by omega
      have ht : R.take R.length = R := List.take_length
      rw [ht] at hO j1 hj
      have HEND : Hid (∀ s, S[(encsOf R).length]? = some s → wr.cell? ⟨gs, (encsOf R).length * 64 + 63, none⟩ = some (.int .u8 0)) := Lib.hid (fun s hs => hDr.range hs 63 (.int .u8 0) (by unfold cellsB; rw [List.getElem?_map, (HJ.out.at_end hs).2]; rfl))
      have HO := Lib.hid hO
      have HJ0 : Hid (JAt wr w.heap.size p (encsOf R).length 0) := Lib.hid hj
      obtain ⟨u, hu⟩ : ∃ u, u = (encsOf R).length := ⟨_, rfl⟩
      rw [← hu] at HJ0 HEND j1 hU
      have HU := Lib.hid hu
      clear hO hDr hj hB hlt KJr hu
      by_cases hlu : u < S.length
      case' pos =>
        have c63 := HEND.out _ (List.getElem?_eq_getElem hlu)
        have g1 : decide ((u : Int) < (S.length : Int)) = true := decide_eq_true (by omega)
        have g2 : (u : Int) < (S.length : Int) := by omega
        go_upto_region 6 with fail
        go_quiet (fail)
      case' neg =>
        have g1 : decide ((u : Int) < (S.length : Int)) = false := decide_eq_false (by omega)
        have g2 : ¬ (u : Int) < (S.length : Int) := by omega
        go_upto_region 6 with fail
        go_quiet (fail)
      all_goals
        have KJ2 : Hid (JAt (wr.drewN nq) w.heap.size p u 0) := Lib.hid (Blk.drewN HJ0.out nq)
        have HB2 := Lib.hid (below_dr HBr.out nq)
        have HO2 : Hid (OwnT (wr.drewN nq) (w.heap.size + 1) (.slice A R.length c) (R.map sJ)) := Lib.hid HO.out
        generalize wr.drewN nq = wq at KJ2 HB2 HO2 ⊢
        clear j0 j1 j2 jf1 jf2 jl d0 zpr
        have j2 := KJ2.out.cell 2
        have j2f := KJ2.out.frozen 2
        have jl := KJ2.out.lt
        have HNE : Hid ((Value.slice A R.length c).ownBlock ≠ some w.heap.size) := Lib.hid (fun e => by have := (World.ownsRow.lt HO2.out _ e).1; omega)
        have HJ5 : Hid (JAt (wq.setCell ⟨w.heap.size, 2, none⟩ (.int .i64 (R.length : Int))) w.heap.size p u R.length) := Lib.hid (KJ2.out.set 2 (.int .i64 (R.length : Int)))
        have HKs := Lib.hid ((Keeps.refl (fun i => i = w.heap.size) wq).setCell (p := ⟨w.heap.size, 2, none⟩) (fun _ => rfl) (.int .i64 (R.length : Int)))
        simp at j2
        go_wp2_with fail
        go_ret3
        exact ⟨w.heap.size, A, c, rfl, by rw [← HU.out]; exact HJ5.out, HO2.out.keep HKs.out (fun i e e2 => HNE.out (by rw [← e2]; exact e)), rfl, HB2.out.trans (HKs.out.below (fun i hi e => by omega) HB2.out.size)⟩
end Go.Proofs.Ythieonekjmdelaa
