/- The contracts of the reference's Send, Take and Repeat. Conditions: the network lies in memory. The contracts of the reference's Take and Repeat. Conditions: the network lies in memory. The contract of the reference's Repeat. Conditions: the network lies in memory. -/
import Derived.Test.YthgfbaekmhpiaaaGreatDoorNetB
import Derived.Test.YthgfbaekmhpiaaaGreatDoorCutA
namespace Go.Proofs.YthgfbaekmhpiaaaGreatDoor
open Go.RowKit

theorem append_text_at {w : World} {base : Nat} {v : Value} {L : List Value} (hO : OwnT w base v L) (hL : L.length ≤ 1000000000) (hb : base ≤ w.heap.size) (x : ByteArray) {q : Nat} (hq : w.cell? ⟨q, 0, none⟩ = some (.string x)) :
    ∃ A c w', (Builtin.append_ #[70, 70] 70 #[v, .slice (some ⟨q, 0, none⟩) 1 1]).run Tryz.prog w = .ok (.slice A (L.length + 1) c) w' ∧
      OwnT w' base (.slice A (L.length + 1) c) (L ++ [.string x]) ∧ Keeps (fun i => v.ownBlock = some i) w w' ∧ (v.ownBlock = (Value.slice A (L.length + 1) c).ownBlock ∨ ∀ i, (Value.slice A (L.length + 1) c).ownBlock = some i → w.heap.size ≤ i) := by
  obtain ⟨i0, hi, hz0, hz1, hz2⟩ := info_parts infoText
  obtain ⟨v', w', hrun, hO3, hg, _, hv⟩ := run_append_own_at (P := Tryz.prog) w base 70 70 9 i0 _ 1 16 rowText hi hz0 hz1 hz2 rfl (by decide) v L.length L hO ⟨q, 0, none⟩ 1 1 [.string x] rfl (fun j u hu => by
      rw [Addr.add_mid, Nat.zero_add]
      rcases j with _ | j
      · rw [hq]; exact hu
      · simp at hu) (fun u hu => by rw [List.mem_singleton.1 hu]; rfl) (by unfold maxLen; omega) (by omega) hb
  obtain ⟨A, c, rfl⟩ : ∃ A c, v' = .slice A (L.length + 1) c := by
    rcases hO3.2 with ⟨rfl, h1⟩ | ⟨g', cap, cur, rfl, _⟩
    · omega
    · exact ⟨_, cap, rfl⟩
  refine ⟨A, c, w', hrun, ?_, Keeps.of_grown (S := fun i => v.ownBlock = some i) hg (fun k hk _ => hk), ?_⟩
  · unfold OwnT
    rw [List.length_append]
    exact hO3
  · rcases hv with e | e
    · exact .inl e.symm
    · refine .inr (fun i hi => ?_)
      rw [e] at hi
      cases hi
      exact Nat.le_refl _
set_option maxRecDepth 100000 in
set_option maxHeartbeats 4000000 in
theorem rsend_any {w : World} {base p : Nat} {o : Int} {vs : List Value} {ls : List (List ByteArray)} (h : NetAt 94 w base p o vs ls) (hb : base ≤ w.heap.size) (f t : Int) (m : ByteArray) :
    Calls Tryz.prog 11 #[.pointer (some ⟨p, 0, none⟩), .int .i64 f, .int .i64 t, .string m] w fun e w' => e = .returned (.int .i64 (sendR o ls f t m)) ∧ NetTo 94 w base p o vs (sendL o ls f t m) w' := by
  have HN := Lib.hid h
  have HB := Lib.hid hb
  have HL := Lib.hid (rline_any h f t)
  have zp := h.blk.lt
  rcases hlb : onL o f t with _ | _
  · have HR : Hid (sendR o ls f t m = 1 ∧ sendL o ls f t m = ls) := Lib.hid (by
      have h1 : sendR o ls f t m = 1 := by unfold sendR; rw [if_pos hlb]
      exact ⟨h1, by unfold sendL; rw [h1, if_neg (by decide)]⟩)
    rw [HR.out.1, HR.out.2]
    rw [hlb] at HL
    clear h hb hlb
    go_enter Tryz.func11, Tryz.ntmps11
    go_wp2_with fail
    refine HL.out.mono ?_
    rintro e w1 ⟨rfl, rfl⟩
    go_wp2_with fail
    go_ret
    exact ⟨rfl, NetTo.same HN.out⟩
  · rw [hlb] at HL
    obtain ⟨a, b, rfl, rfl, ha, hb8, hne, ha2, hb2⟩ := onL_nat hlb h.off.2
    obtain ⟨A, c, l, hv, hl, hO, hl100⟩ := h.at (k := a * 8 + b) (by omega)
    have c1 := h.cellL hv
    have ha3 : (a : Int) < 8 := by omega
    have hb3 : (b : Int) < 8 := by omega
    by_cases hm : 60000 < m.size
    · have hmi : (60000 : Int) < (m.size : Int) := by omega
      have HR : Hid (sendR o ls (a : Int) (b : Int) m = 2 ∧ sendL o ls (a : Int) (b : Int) m = ls) := Lib.hid (by
        have h1 : sendR o ls (a : Int) (b : Int) m = 2 := by unfold sendR; rw [if_neg (by rw [hlb]; decide), if_pos hm]
        exact ⟨h1, by unfold sendL; rw [h1, if_neg (by decide)]⟩)
      rw [HR.out.1, HR.out.2]
      clear h hb hlb hm hO hv hl hne ha2 hb2
      go_enter Tryz.func11, Tryz.ntmps11
      go_wp2_with fail
      refine HL.out.mono ?_
      rintro e w1 ⟨rfl, rfl⟩
      go_wp2_with fail
      go_ret
      exact ⟨rfl, NetTo.same HN.out⟩
    · have hmi : ¬ (60000 : Int) < (m.size : Int) := by omega
      by_cases hf : 100 ≤ l.length
      · have hfi : (100 : Int) ≤ (l.length : Int) := by omega
        have HR : Hid (sendR o ls (a : Int) (b : Int) m = 72 ∧ sendL o ls (a : Int) (b : Int) m = ls) := Lib.hid (by
          have h1 : sendR o ls (a : Int) (b : Int) m = 72 := by unfold sendR; rw [if_neg (by rw [hlb]; decide), if_neg hm, lineL_of hl, if_pos hf]
          exact ⟨h1, by unfold sendL; rw [h1, if_neg (by decide)]⟩)
        rw [HR.out.1, HR.out.2]
        clear h hb hlb hm hO hv hl hne ha2 hb2 hf
        go_enter Tryz.func11, Tryz.ntmps11
        go_wp2_with fail
        refine HL.out.mono ?_
        rintro e w1 ⟨rfl, rfl⟩
        go_wp2_with fail
        go_ret
        exact ⟨rfl, NetTo.same HN.out⟩
      · have hfi : ¬ (100 : Int) ≤ (l.length : Int) := by omega
        have HR : Hid (sendR o ls (a : Int) (b : Int) m = 0 ∧ sendL o ls (a : Int) (b : Int) m = ls.set (a * 8 + b) (l ++ [m])) := Lib.hid (by
          have h1 : sendR o ls (a : Int) (b : Int) m = 0 := by unfold sendR; rw [if_neg (by rw [hlb]; decide), if_neg hm, lineL_of hl, if_neg hf]
          exact ⟨h1, by unfold sendL; rw [h1, if_pos rfl, lineL_of hl, Int.toNat_natCast, Int.toNat_natCast]⟩)
        rw [HR.out.1, HR.out.2]
        have HT := Lib.hid (texts_any (w := (w.alloc (.cells #[.string m] 9)).drew) (hO.below (((Below.refl _ w).alloc (Nat.le_refl _) (.cells #[.string m] 9)).drew)) (by omega))
        have HT2 := Lib.hid (texts_any (w := w.drew) (hO.below (Below.refl _ w).drew) (by omega))
        have kX := Blk.new w 9 #[.string m]
        have hxa : (w.alloc (.cells #[.string m] 9)).heap.size = w.heap.size + 1 := by simp
        have c1d : w.drew.cell? ⟨p, 1 + a * 8 + b, none⟩ = some (.slice A l.length c) := c1
        have hBA : Below w.heap.size w (w.alloc (.cells #[.string m] 9)) := (Below.refl _ w).alloc (Nat.le_refl _) _
        have c1a : (w.alloc (.cells #[.string m] 9)).cell? ⟨p, 1 + a * 8 + b, none⟩ = some (.slice A l.length c) := (hBA.cell (p := ⟨p, 1 + a * 8 + b, none⟩) zp).trans c1
        have KX := Lib.hid kX
        have HXA := Lib.hid hxa
        have HBA := Lib.hid hBA
        clear kX hxa hBA
        have HV := Lib.hid hv
        have HF := Lib.hid (show l.length < 100 by omega)
        clear h hb hlb hm hO hv hl hne ha2 hb2 hf hl100
        go_enter Tryz.func11, Tryz.ntmps11
        go_wp2_with fail
        refine HL.out.mono ?_
        rintro e w1 ⟨rfl, rfl⟩
        go_upto_region 7 with fail
        go_region_law (first
          | (refine Lib.wp_append_run _ _ _ _ _ rfl _ _ rfl rfl _ _ hrun ?_)
          | (rw [if_pos (by rfl)]; refine Lib.wp_append_run _ _ _ _ _ rfl _ _ rfl rfl _ _ hrun ?_)
          | (go_simp; go_at_call 52; (with_reducible refine HT.out.mono ?_); rintro e wI ⟨A2, c2, rfl, hOI, hBI⟩
             have hBI2 : Below (w.heap.size + 1) (w.alloc (.cells #[.string m] 9)) wI := ⟨hBI.os, hBI.tape, hBI.output, hBI.size, fun k hk => hBI.block k (by rw [← HXA.out] at hk; exact hk)⟩
             have hcx : wI.cell? ⟨w.heap.size, 0, none⟩ = some (.string m) := (hBI2.cell (p := ⟨w.heap.size, 0, none⟩) (Nat.lt_succ_self _)).trans (KX.out.cell 0)
             have hWI : Below w.heap.size w wI := HBA.out.trans (hBI2.mono (Nat.le_succ _))
             have hOI2 : OwnT wI w.heap.size (.slice A2 l.length c2) (l.map Value.string) := Go.Joins.ownsRow_le hOI (by show w.heap.size ≤ (w.alloc _).heap.size; rw [HXA.out]; exact Nat.le_succ _)
             obtain ⟨A3, c3, w3, hrun, hO3, hK3, hv3⟩ := append_text_at hOI2 (by rw [List.length_map]; have := HF.out; omega) hWI.size m hcx
             rw [List.length_map] at hrun hO3 hv3
             have hpI : wI.heap[p]? = w.heap[p]? := hWI.block p zp
             have hp3 : w3.heap[p]? = w.heap[p]? := (hK3.block p (Nat.lt_of_lt_of_le zp hWI.size) (fun e => by have h1 := (World.ownsRow.lt hOI2 p e).1; exact absurd h1 (Nat.not_le.2 zp))).trans hpI
             have hc3 : w3.cell? ⟨p, 1 + a * 8 + b, none⟩ = some (.slice A l.length c) := (World.cell?_of_block hp3).trans c1
             have hf3 : w3.frozen? ⟨p, 1 + a * 8 + b, none⟩ = false := (World.frozen?_of_block hp3).trans (HN.out.blk.frozen _)
             have hz3 : p < w3.heap.size := Nat.lt_of_lt_of_le zp (Nat.le_trans hWI.size hK3.size)
             have HO3 := Lib.hid hO3
             have HK3 := Lib.hid hK3
             have HV3 := Lib.hid hv3
             have HOI := Lib.hid hOI2
             have HBI := Lib.hid hWI
             clear hO3 hK3 hv3 hOI hBI hpI hp3 hBI2 hWI hOI2 hcx
             dsimp only)
          | (go_simp; go_at_call 52; (with_reducible refine HT2.out.mono ?_); rintro e wI ⟨A2, c2, rfl, hOI, hBI⟩
             have hWI : Below w.heap.size w wI := ⟨hBI.os, hBI.tape, hBI.output, hBI.size, hBI.block⟩
             have hOI2 : OwnT wI w.heap.size (.slice A2 l.length c2) (l.map Value.string) := hOI
             obtain ⟨A3, c3, w3, hrun, hO3, hK3, hv3⟩ := append_text hOI2 (by rw [List.length_map]; have := HF.out; omega) hWI.size m
             rw [List.length_map] at hrun hO3 hv3
             have hpI : wI.heap[p]? = w.heap[p]? := hWI.block p zp
             have hp3 : w3.heap[p]? = w.heap[p]? := (hK3.block p (Nat.lt_of_lt_of_le zp hWI.size) (fun e => by have h1 := (World.ownsRow.lt hOI2 p e).1; exact absurd h1 (Nat.not_le.2 zp))).trans hpI
             have hc3 : w3.cell? ⟨p, 1 + a * 8 + b, none⟩ = some (.slice A l.length c) := (World.cell?_of_block hp3).trans c1
             have hf3 : w3.frozen? ⟨p, 1 + a * 8 + b, none⟩ = false := (World.frozen?_of_block hp3).trans (HN.out.blk.frozen _)
             have hz3 : p < w3.heap.size := Nat.lt_of_lt_of_le zp (Nat.le_trans hWI.size hK3.size)
             have HO3 := Lib.hid hO3
             have HK3 := Lib.hid hK3
             have HV3 := Lib.hid hv3
             have HOI := Lib.hid hOI2
             have HBI := Lib.hid hWI
             clear hO3 hK3 hv3 hOI hBI hpI hp3 hWI hOI2
             dsimp only))
        all_goals
          have HKW : Hid (Keeps (fun i => (Value.slice A l.length c).ownBlock = some i) w w3) := Lib.hid ((Keeps.of_new (S := fun i => (Value.slice A l.length c).ownBlock = some i) HBI.out).trans HK3.out (fun i hi e => by have h1 := (World.ownsRow.lt HOI.out i e).1; exact absurd h1 (Nat.not_le.2 hi)))
          have HPT := Lib.hid (HN.out.put (l' := l ++ [m]) HV.out (w' := w3) HKW.out (by rw [List.map_append]; exact Go.Joins.ownsRow_le HO3.out HB.out) ⟨A3, c3, by rw [List.length_append, List.length_singleton]⟩ (by rw [List.length_append, List.length_singleton]; have := HF.out; omega) (fun j hj => .inr (by
            rcases HV3.out with e | e
            · exact (World.ownsRow.lt HOI.out j (e.trans hj)).1
            · exact Nat.le_trans HBI.out.size (e j hj))) (q := 1 + a * 8 + b) (by omega))
          go_wp2_with fail
          go_ret
          exact ⟨rfl, _, HPT.out⟩
end Go.Proofs.YthgfbaekmhpiaaaGreatDoor
namespace Go.Proofs.YthgfbaekmhpiaaaGreatDoor
open Go.RowKit

theorem take_erase {α : Type} {l : List α} {k i : Nat} {x : α} (hx : l[k]? = some x) : (l.take (k + 1)).eraseIdx i = if k = i then (l.take k).eraseIdx i else (l.take k).eraseIdx i ++ [x] := by
  have hk := (List.getElem?_eq_some_iff.1 hx).1
  rw [List.take_add_one, hx]
  show (l.take k ++ [x]).eraseIdx i = _
  have hlk : (l.take k).length = k := by rw [List.length_take]; omega
  split
  · rename_i h
    subst h
    rw [List.eraseIdx_of_length_le (l := l.take k) (by rw [hlk]; exact Nat.le_refl _), List.eraseIdx_append_of_length_le (by rw [hlk]; exact Nat.le_refl _), hlk, Nat.sub_self]
    simp
  · rename_i h
    by_cases h2 : i < k
    · rw [List.eraseIdx_append_of_lt_length (by omega)]
    · rw [List.eraseIdx_of_length_le (l := l.take k) (by omega), List.eraseIdx_of_length_le (l := l.take k ++ [x]) (by rw [List.length_append, hlk, List.length_singleton]; omega)]
set_option maxRecDepth 100000 in
set_option maxHeartbeats 2000000 in
theorem rtake_any {w : World} {base p : Nat} {o : Int} {vs : List Value} {ls : List (List ByteArray)} (h : NetAt 94 w base p o vs ls) (hb : base ≤ w.heap.size) (f t i : Int) :
    Calls Tryz.prog 15 #[.pointer (some ⟨p, 0, none⟩), .int .i64 f, .int .i64 t, .int .i64 i] w fun e w' => e = .returned (.tuple #[.string (peekT o ls f t i), .int .i64 (peekE o ls f t i)]) ∧ NetTo 94 w base p o vs (takeL o ls f t i) w' := by
  have HH := Lib.hid (rhas_any h f t i)
  have HN := Lib.hid h
  have HB := Lib.hid hb
  rcases hh : hasB o ls f t i with _ | _
  · rw [show takeL o ls f t i = ls by unfold takeL; rw [if_neg (by rw [hh]; decide)], show peekT o ls f t i = ⟨#[]⟩ by unfold peekT; rw [if_neg (by rw [hh]; decide)], show peekE o ls f t i = 5 by unfold peekE; rw [if_neg (by rw [hh]; decide)]]
    rw [hh] at HH
    clear h hh hb
    go_enter Tryz.func15, Tryz.ntmps15
    go_wp2_with fail
    refine HH.out.mono ?_
    rintro e w1 ⟨rfl, rfl⟩
    go_wp2_with fail
    go_ret2
    exact ⟨rfl, NetTo.same HN.out⟩
  · have hh2 := hh
    unfold hasB at hh2
    simp only [Bool.and_eq_true, decide_eq_true_eq] at hh2
    obtain ⟨hlb, hi0, hi1⟩ := hh2
    obtain ⟨a, b, rfl, rfl, ha, hb8, hne, ha2, hb2⟩ := onL_nat hlb h.off.2
    obtain ⟨A, c, l, hv, hl, hO, hl100⟩ := h.at (k := a * 8 + b) (by omega)
    have c1 := h.cellL hv
    have hli := lineL_of hl
    rw [hli] at hi1
    obtain ⟨k, rfl⟩ : ∃ k : Nat, i = (k : Int) := ⟨i.toNat, by omega⟩
    obtain ⟨x, hx⟩ : ∃ x, l[k]? = some x := ⟨_, List.getElem?_eq_getElem (by omega)⟩
    obtain ⟨g, rfl, hg, cx⟩ := hO.cell (k := k) (x := .string x) (by rw [List.getElem?_map, hx]; rfl)
    rw [show takeL o ls (a : Int) (b : Int) (k : Int) = ls.set (a * 8 + b) (l.eraseIdx k) by unfold takeL; rw [if_pos hh, hli, Int.toNat_natCast, Int.toNat_natCast, Int.toNat_natCast], show peekT o ls (a : Int) (b : Int) (k : Int) = x by unfold peekT; rw [if_pos hh, hli, Int.toNat_natCast, List.getD_eq_getElem?_getD, hx]; rfl, show peekE o ls (a : Int) (b : Int) (k : Int) = 0 by unfold peekE; rw [if_pos hh]]
    rw [hh] at HH
    have zp := h.blk.lt
    have ha3 : (a : Int) < 8 := by omega
    have hb3 : (b : Int) < 8 := by omega
    have hgp : g ≠ p := h.ne hv rfl
    have HV := Lib.hid hv
    have HO := Lib.hid hO
    have HL1 := Lib.hid hl100
    have HI1 := Lib.hid hi1
    have hkl : (k : Int) < (l.length : Int) := hi1
    clear h hb hh hlb hi0 hi1 hv hl hO hne ha2 hb2 hli
    go_enter Tryz.func15, Tryz.ntmps15
    go_wp2_with fail
    refine HH.out.mono ?_
    rintro e w1 ⟨rfl, rfl⟩
    go_wp2_with fail
    have HXX := Lib.hid hx
    clear hx hl100 cx hg hkl
    go_loopw [12, 13] (fun v j wr => ∃ n : Nat, n ≤ l.length ∧ j = .int .i64 (n : Int) ∧ (∃ A' c', v = .slice A' ((l.take n).eraseIdx k).length c') ∧ OwnT wr w.heap.size v (((l.take n).eraseIdx k).map Value.string) ∧ Below w.heap.size w wr) (fun _ j _ => l.length - (intOf j).toNat)
    case atStart => exact ⟨0, Nat.zero_le _, rfl, ⟨none, 0, by simp⟩, ⟨by simp, .inl ⟨rfl, by simp⟩⟩, Below.refl _ _⟩
    case round =>
      obtain ⟨n, hn, rfl, ⟨A', c', rfl⟩, hv, hb⟩ := hrel
      have HBr := Lib.hid hb
      have HVr := Lib.hid hv
      by_cases hlt : n < l.length
      · obtain ⟨y, hy⟩ : ∃ y, l[n]? = some y := ⟨_, List.getElem?_eq_getElem hlt⟩
        obtain ⟨g2, hg2, hgz, cy⟩ := (HO.out.below HBr.out).cell (k := n) (x := .string y) (by rw [List.getElem?_map, hy]; rfl)
        simp only [Option.some.injEq, Addr.mk.injEq, and_true] at hg2
        subst hg2
        have hni : (n : Int) < (l.length : Int) := by omega
        have hn1 : (n : Int) < 100 := by have := HL1.out; omega
        have HLT := Lib.hid hlt
        have HTE := Lib.hid (take_erase (i := k) hy)
        by_cases hnk : n = k
        · have hnkb : ((n : Int) != (k : Int)) = false := by simp [hnk]
          have HNK := Lib.hid hnk
          clear hnk hv hb hy hlt
          go_wp2_with fail
          go_roundw
          case rel => exact ⟨n + 1, HLT.out, by go_num, ⟨A', c', by rw [HTE.out, if_pos HNK.out]⟩, by rw [HTE.out, if_pos HNK.out]; exact HVr.out, HBr.out⟩
          case measure => exact meas_up _ _ HLT.out
        · have hnkb : ((n : Int) != (k : Int)) = true := by simp only [bne_iff_ne, ne_eq]; omega
          have HNK := Lib.hid hnk
          obtain ⟨A2, c2, w2, hrun, hO2, hK2, hv2⟩ := append_text hv (by rw [List.length_map]; have h1 := List.length_eraseIdx_le (l.take n) k; rw [List.length_take] at h1; have h2 := HL1.out; omega) hb.size y
          rw [List.length_map] at hrun hO2
          have HO2 : Hid (OwnT w2 w.heap.size (.slice A2 (((l.take n).eraseIdx k).length + 1) c2) (((l.take (n + 1)).eraseIdx k).map Value.string)) := Lib.hid (by
            rw [HTE.out, if_neg HNK.out, List.map_append]
            exact hO2)
          have HE2 : Hid (((l.take n).eraseIdx k).length + 1 = ((l.take (n + 1)).eraseIdx k).length) := Lib.hid (by rw [HTE.out, if_neg HNK.out, List.length_append, List.length_singleton])
          have HB2 := Lib.hid (hb.trans (hK2.below (B := w.heap.size) (fun i hi e => by have := (World.ownsRow.lt hv i e).1; omega) hb.size))
          clear hnk hv hb hy hlt hO2 hK2 hv2
          generalize ((l.take n).eraseIdx k).length = q at *
          go_wp2_with (at_builtin; refine Lib.wpList_append_run _ rfl _ _ _ _ rfl _ _ rfl rfl _ _ hrun ?_)
          go_roundw
          case rel => exact ⟨n + 1, HLT.out, by go_num, ⟨A2, c2, by rw [HE2.out]⟩, HO2.out, HB2.out⟩
          case measure => exact meas_up _ _ HLT.out
      · obtain rfl : n = l.length := by omega
        have hni : ¬ ((l.length : Nat) : Int) < (l.length : Int) := by omega
        have hte : (l.take l.length).eraseIdx k = l.eraseIdx k := by rw [List.take_length]
        rw [hte] at hv ⊢
        clear hte
        have hpr := HBr.out.block p zp
        have hcr : wr.cell? ⟨p, 1 + a * 8 + b, none⟩ = some (.slice (some ⟨g, 0, none⟩) l.length c) := (World.cell?_of_block hpr).trans c1
        have hfr : wr.frozen? ⟨p, 1 + a * 8 + b, none⟩ = false := (World.frozen?_of_block hpr).trans (HN.out.blk.frozen _)
        have hzr := Nat.lt_of_lt_of_le zp HBr.out.size
        have HPT := Lib.hid (HN.out.put (l' := l.eraseIdx k) HV.out (w' := wr) (Keeps.of_new HBr.out) (Go.Joins.ownsRow_le hv HB.out) ⟨A', c', rfl⟩ (by have h1 := List.length_eraseIdx_le l k; have := HL1.out; omega) (fun j hj => .inr (World.ownsRow.lt hv j hj).1) (q := 1 + a * 8 + b) (by omega))
        clear hv hb hn hlt hpr HVr
        go_wp2_with fail
        go_ret2
        exact ⟨rfl, _, HPT.out⟩
end Go.Proofs.YthgfbaekmhpiaaaGreatDoor
namespace Go.Proofs.YthgfbaekmhpiaaaGreatDoor
open Go.RowKit

/-- What the reference's Repeat returns, and the lines behind it. -/
def rrepR (o : Int) (ls : List (List ByteArray)) (f t i : Int) : Int := if hasB o ls f t i = true then (if 100 ≤ (lineL_ ls f t).length then 72 else 0) else 5
def rrepL (o : Int) (ls : List (List ByteArray)) (f t i : Int) : List (List ByteArray) := if rrepR o ls f t i = 0 then ls.set (f.toNat * 8 + t.toNat) (lineL_ ls f t ++ [peekT o ls f t i]) else ls
set_option maxRecDepth 100000 in
set_option maxHeartbeats 4000000 in
theorem rrepeat_any {w : World} {base p : Nat} {o : Int} {vs : List Value} {ls : List (List ByteArray)} (h : NetAt 94 w base p o vs ls) (hb : base ≤ w.heap.size) (f t i : Int) :
    Calls Tryz.prog 18 #[.pointer (some ⟨p, 0, none⟩), .int .i64 f, .int .i64 t, .int .i64 i] w fun e w' => e = .returned (.int .i64 (rrepR o ls f t i)) ∧ NetTo 94 w base p o vs (rrepL o ls f t i) w' := by
  have HH := Lib.hid (rhas_any h f t i)
  have HN := Lib.hid h
  have HB := Lib.hid hb
  rcases hh : hasB o ls f t i with _ | _
  · rw [show rrepL o ls f t i = ls by unfold rrepL rrepR; rw [if_neg (c := hasB o ls f t i = true) (by rw [hh]; decide), if_neg (by decide)], show rrepR o ls f t i = 5 by unfold rrepR; rw [if_neg (by rw [hh]; decide)]]
    rw [hh] at HH
    clear h hh hb
    go_enter Tryz.func18, Tryz.ntmps18
    go_wp2_with fail
    refine HH.out.mono ?_
    rintro e w1 ⟨rfl, rfl⟩
    go_wp2_with fail
    go_ret
    exact ⟨rfl, NetTo.same HN.out⟩
  · have hh2 := hh
    unfold hasB at hh2
    simp only [Bool.and_eq_true, decide_eq_true_eq] at hh2
    obtain ⟨hlb, hi0, hi1⟩ := hh2
    obtain ⟨a, b, rfl, rfl, ha, hb8, hne, ha2, hb2⟩ := onL_nat hlb h.off.2
    obtain ⟨A, c, l, hv, hl, hO, hl100⟩ := h.at (k := a * 8 + b) (by omega)
    have c1 := h.cellL hv
    have hli := lineL_of hl
    rw [hli] at hi1
    obtain ⟨k, rfl⟩ : ∃ k : Nat, i = (k : Int) := ⟨i.toNat, by omega⟩
    obtain ⟨x, hx⟩ : ∃ x, l[k]? = some x := ⟨_, List.getElem?_eq_getElem (by omega)⟩
    obtain ⟨g, rfl, hg, cx⟩ := hO.cell (k := k) (x := .string x) (by rw [List.getElem?_map, hx]; rfl)
    have hpk : peekT o ls (a : Int) (b : Int) (k : Int) = x := by unfold peekT; rw [if_pos hh, hli, Int.toNat_natCast, List.getD_eq_getElem?_getD, hx]; rfl
    have zp := h.blk.lt
    have ha3 : (a : Int) < 8 := by omega
    have hb3 : (b : Int) < 8 := by omega
    have hkl : (k : Int) < (l.length : Int) := hi1
    have hgp : g ≠ p := h.ne hv rfl
    by_cases hf : 100 ≤ l.length
    · have hfi : (100 : Int) ≤ (l.length : Int) := by omega
      have hr : rrepR o ls (a : Int) (b : Int) (k : Int) = 72 := by unfold rrepR; rw [if_pos hh, hli, if_pos hf]
      rw [show rrepL o ls (a : Int) (b : Int) (k : Int) = ls by unfold rrepL; rw [hr, if_neg (by decide)], hr]
      rw [hh] at HH
      clear h hb hh hlb hi0 hi1 hv hl hO hne ha2 hb2 hli hl100 hx hf hr hpk
      go_enter Tryz.func18, Tryz.ntmps18
      go_wp2_with fail
      refine HH.out.mono ?_
      rintro e w1 ⟨rfl, rfl⟩
      go_wp2_with fail
      go_ret
      exact ⟨rfl, NetTo.same HN.out⟩
    · have hfi : ¬ (100 : Int) ≤ (l.length : Int) := by omega
      have hr : rrepR o ls (a : Int) (b : Int) (k : Int) = 0 := by unfold rrepR; rw [if_pos hh, hli, if_neg hf]
      rw [show rrepL o ls (a : Int) (b : Int) (k : Int) = ls.set (a * 8 + b) (l ++ [x]) by unfold rrepL; rw [hr, if_pos rfl, hli, hpk, Int.toNat_natCast, Int.toNat_natCast], hr]
      rw [hh] at HH
      clear hr hpk
      have HT := Lib.hid (texts_any (w := (w.alloc (.cells #[.string x] 9)).drew) (hO.below (((Below.refl _ w).alloc (Nat.le_refl _) (.cells #[.string x] 9)).drew)) (by omega))
      have HT2 := Lib.hid (texts_any (w := w.drew) (hO.below (Below.refl _ w).drew) (by omega))
      have kX := Blk.new w 9 #[.string x]
      have hxa : (w.alloc (.cells #[.string x] 9)).heap.size = w.heap.size + 1 := by simp
      have c1d : w.drew.cell? ⟨p, 1 + a * 8 + b, none⟩ = some (.slice (some ⟨g, 0, none⟩) l.length c) := c1
      have hBA : Below w.heap.size w (w.alloc (.cells #[.string x] 9)) := (Below.refl _ w).alloc (Nat.le_refl _) _
      have cxd : w.drew.cell? ⟨g, k, none⟩ = some (.string x) := cx
      have c1a : (w.alloc (.cells #[.string x] 9)).cell? ⟨p, 1 + a * 8 + b, none⟩ = some (.slice (some ⟨g, 0, none⟩) l.length c) := (hBA.cell (p := ⟨p, 1 + a * 8 + b, none⟩) zp).trans c1
      have KX := Lib.hid kX
      have HXA := Lib.hid hxa
      have HBA := Lib.hid hBA
      clear kX hxa hBA
      have HV := Lib.hid hv
      have HF := Lib.hid (show l.length < 100 by omega)
      clear h hb hh hlb hi0 hi1 hv hl hO hne ha2 hb2 hli hl100 hx hf
      go_enter Tryz.func18, Tryz.ntmps18
      go_wp2_with fail
      refine HH.out.mono ?_
      rintro e w1 ⟨rfl, rfl⟩
      go_upto_region 5 with fail
      go_region_law (first
        | (refine Lib.wp_append_run _ _ _ _ _ rfl _ _ rfl rfl _ _ hrun ?_)
        | (rw [if_pos (by rfl)]; refine Lib.wp_append_run _ _ _ _ _ rfl _ _ rfl rfl _ _ hrun ?_)
        | (go_simp; go_at_call 52; (with_reducible refine HT.out.mono ?_); rintro e wI ⟨A2, c2, rfl, hOI, hBI⟩
           have hBI2 : Below (w.heap.size + 1) (w.alloc (.cells #[.string x] 9)) wI := ⟨hBI.os, hBI.tape, hBI.output, hBI.size, fun k hk => hBI.block k (by rw [← HXA.out] at hk; exact hk)⟩
           have hcx : wI.cell? ⟨w.heap.size, 0, none⟩ = some (.string x) := (hBI2.cell (p := ⟨w.heap.size, 0, none⟩) (Nat.lt_succ_self _)).trans (KX.out.cell 0)
           have hWI : Below w.heap.size w wI := HBA.out.trans (hBI2.mono (Nat.le_succ _))
           have hOI2 : OwnT wI w.heap.size (.slice A2 l.length c2) (l.map Value.string) := Go.Joins.ownsRow_le hOI (by show w.heap.size ≤ (w.alloc _).heap.size; rw [HXA.out]; exact Nat.le_succ _)
           obtain ⟨A3, c3, w3, hrun, hO3, hK3, hv3⟩ := append_text_at hOI2 (by rw [List.length_map]; have := HF.out; omega) hWI.size x hcx
           rw [List.length_map] at hrun hO3 hv3
           have hpI : wI.heap[p]? = w.heap[p]? := hWI.block p zp
           have hcI : wI.cell? ⟨p, 1 + a * 8 + b, none⟩ = some (.slice (some ⟨g, 0, none⟩) l.length c) := (World.cell?_of_block hpI).trans c1
           have hxI : wI.cell? ⟨g, k, none⟩ = some (.string x) := (hWI.cell (p := ⟨g, k, none⟩) hg).trans cx
           have hzI : p < wI.heap.size := Nat.lt_of_lt_of_le zp hWI.size
           have hgI : g < wI.heap.size := Nat.lt_of_lt_of_le hg hWI.size
           have hp3 : w3.heap[p]? = w.heap[p]? := (hK3.block p (Nat.lt_of_lt_of_le zp hWI.size) (fun e => by have h1 := (World.ownsRow.lt hOI2 p e).1; exact absurd h1 (Nat.not_le.2 zp))).trans hpI
           have hc3 : w3.cell? ⟨p, 1 + a * 8 + b, none⟩ = some (.slice (some ⟨g, 0, none⟩) l.length c) := (World.cell?_of_block hp3).trans c1
           have hf3 : w3.frozen? ⟨p, 1 + a * 8 + b, none⟩ = false := (World.frozen?_of_block hp3).trans (HN.out.blk.frozen _)
           have hz3 : p < w3.heap.size := Nat.lt_of_lt_of_le zp (Nat.le_trans hWI.size hK3.size)
           have HO3 := Lib.hid hO3
           have HK3 := Lib.hid hK3
           have HV3 := Lib.hid hv3
           have HOI := Lib.hid hOI2
           have HBI := Lib.hid hWI
           clear hO3 hK3 hv3 hOI hBI hpI hp3 hBI2 hWI hOI2 hcx
           dsimp only)
        | (go_simp; go_at_call 52; (with_reducible refine HT2.out.mono ?_); rintro e wI ⟨A2, c2, rfl, hOI, hBI⟩
           have hWI : Below w.heap.size w wI := ⟨hBI.os, hBI.tape, hBI.output, hBI.size, hBI.block⟩
           have hOI2 : OwnT wI w.heap.size (.slice A2 l.length c2) (l.map Value.string) := hOI
           obtain ⟨A3, c3, w3, hrun, hO3, hK3, hv3⟩ := append_text hOI2 (by rw [List.length_map]; have := HF.out; omega) hWI.size x
           rw [List.length_map] at hrun hO3 hv3
           have hpI : wI.heap[p]? = w.heap[p]? := hWI.block p zp
           have hcI : wI.cell? ⟨p, 1 + a * 8 + b, none⟩ = some (.slice (some ⟨g, 0, none⟩) l.length c) := (World.cell?_of_block hpI).trans c1
           have hxI : wI.cell? ⟨g, k, none⟩ = some (.string x) := (hWI.cell (p := ⟨g, k, none⟩) hg).trans cx
           have hzI : p < wI.heap.size := Nat.lt_of_lt_of_le zp hWI.size
           have hgI : g < wI.heap.size := Nat.lt_of_lt_of_le hg hWI.size
           have hp3 : w3.heap[p]? = w.heap[p]? := (hK3.block p (Nat.lt_of_lt_of_le zp hWI.size) (fun e => by have h1 := (World.ownsRow.lt hOI2 p e).1; exact absurd h1 (Nat.not_le.2 zp))).trans hpI
           have hc3 : w3.cell? ⟨p, 1 + a * 8 + b, none⟩ = some (.slice (some ⟨g, 0, none⟩) l.length c) := (World.cell?_of_block hp3).trans c1
           have hf3 : w3.frozen? ⟨p, 1 + a * 8 + b, none⟩ = false := (World.frozen?_of_block hp3).trans (HN.out.blk.frozen _)
           have hz3 : p < w3.heap.size := Nat.lt_of_lt_of_le zp (Nat.le_trans hWI.size hK3.size)
           have HO3 := Lib.hid hO3
           have HK3 := Lib.hid hK3
           have HV3 := Lib.hid hv3
           have HOI := Lib.hid hOI2
           have HBI := Lib.hid hWI
           clear hO3 hK3 hv3 hOI hBI hpI hp3 hWI hOI2
           dsimp only))
      all_goals
        have HKW : Hid (Keeps (fun i => (Value.slice (some ⟨g, 0, none⟩) l.length c).ownBlock = some i) w w3) := Lib.hid ((Keeps.of_new (S := fun i => (Value.slice (some ⟨g, 0, none⟩) l.length c).ownBlock = some i) HBI.out).trans HK3.out (fun i hi e => by have h1 := (World.ownsRow.lt HOI.out i e).1; exact absurd h1 (Nat.not_le.2 hi)))
        have HPT := Lib.hid (HN.out.put (l' := l ++ [x]) HV.out (w' := w3) HKW.out (by rw [List.map_append]; exact Go.Joins.ownsRow_le HO3.out HB.out) ⟨A3, c3, by rw [List.length_append, List.length_singleton]⟩ (by rw [List.length_append, List.length_singleton]; have := HF.out; omega) (fun j hj => .inr (by
          rcases HV3.out with e | e
          · exact (World.ownsRow.lt HOI.out j (e.trans hj)).1
          · exact Nat.le_trans HBI.out.size (e j hj))) (q := 1 + a * 8 + b) (by omega))
        go_wp2_with fail
        go_ret
        exact ⟨rfl, _, HPT.out⟩
end Go.Proofs.YthgfbaekmhpiaaaGreatDoor
