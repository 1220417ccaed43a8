/- The contract of the reference's Flush. Conditions: the disk lies in memory. -/
import Derived.Test.YtoglkeinhpcboaaRd3
import Derived.StillTailTactics
namespace Go.Proofs.Ytoglkeinhpcboaa
open Go.RowKit

/-- The sectors with the writes of the list. -/
def applyQ (D : List (List Int)) (Q : List (Nat × List Int)) : List (List Int) := Q.foldl (fun D x => D.set x.1 x.2) D
theorem applyQ_snoc (D : List (List Int)) (Q : List (Nat × List Int)) (x : Nat × List Int) : applyQ D (Q ++ [x]) = (applyQ D Q).set x.1 x.2 := by unfold applyQ; rw [List.foldl_append]; rfl
theorem applyQ_len (D : List (List Int)) (Q : List (Nat × List Int)) : (applyQ D Q).length = D.length := by
  unfold applyQ
  induction Q generalizing D with
  | nil => rfl
  | cons x Q ih => rw [List.foldl_cons, ih, List.length_set]
section
variable {w : World} {p : Nat} {vD vQ : Value} {D : List (List Int)} {Q : List (Nat × List Int)} {L : Int} {dn : Bool}
/-- A sector gets other contents. -/
theorem RefAt.fill {g c : Nat} (h : RefAt w p (.slice (some ⟨g, 0, none⟩) D.length c) vQ D Q L dn) {k : Nat} (hk : k < D.length) {s : List Int} (hs : s.length = 64) : RefAt (w.setCell ⟨g, k, none⟩ (sStr s)) p (.slice (some ⟨g, 0, none⟩) D.length c) vQ (D.set k s) Q L dn := by
  have hK : Keeps (fun i => i = g) w (w.setCell ⟨g, k, none⟩ (sStr s)) := (Keeps.refl (fun i => i = g) w).setCell (p := ⟨g, k, none⟩) (fun _ => rfl) _
  have hgp : g ≠ p := fun e => h.ne1 (by rw [e]; rfl)
  refine ⟨h.blk.keep hK (fun e => hgp e.symm), ?_, ownsRow_kept h.pend hK (fun i e e' => h.ne3 i (by rw [e']; rfl) e), fun x hx => ?_, fun x hx => ?_, h.ne1, h.ne2, h.ne3⟩
  · have h0 := h.dur
    rw [List.length_set]
    refine ⟨by rw [List.length_map, List.length_set]; omega, ?_⟩
    rcases h0.2 with ⟨h1, h2⟩ | ⟨g', cap, cur, h1, hb, hg, hr1, hr2, hr3, hr4⟩
    · omega
    · simp only [Value.slice.injEq, Option.some.injEq, Addr.mk.injEq] at h1
      obtain ⟨⟨rfl, _, _⟩, _, rfl⟩ := h1
      refine .inr ⟨g, c, cur.setIfInBounds k (sStr s), rfl, hb, ?_, hr1, hr2, by simpa using hr3, ?_⟩
      · exact Blk.set (show Blk w g _ cur from hg) k (sStr s)
      · rw [Array.toList_setIfInBounds, List.take_set, hr4, List.map_set]
  · rcases List.mem_or_eq_of_mem_set hx with hx | rfl
    · exact h.all x hx
    · exact hs
  · rw [List.length_set]
    exact h.size x hx
theorem rflush_down (h : RefAt w p vD vQ D Q L true) :
    Calls Try.prog 19 #[.pointer (some ⟨p, 0, none⟩)] w fun e w' => e = .returned (.int .i64 70) ∧ w = w' := by
  have e3 := h.blk.cell 3
  have zp := h.blk.lt
  simp at e3
  clear h
  go_enter Try.func19, Try.ntmps19
  go_wp2_with fail
  go_ret
  exact ⟨rfl, rfl⟩
theorem rflush_stop (h : RefAt w p vD vQ D Q 0 false) :
    Calls Try.prog 19 #[.pointer (some ⟨p, 0, none⟩)] w fun e w' => e = .returned (.int .i64 70) ∧ RefAt w' p vD vQ D Q 0 true ∧ Keeps (fun i => i = p) w w' := by
  have HC := Lib.hid (call_stop h)
  have e3 := h.blk.cell 3
  have zp := h.blk.lt
  simp at e3
  clear h
  go_enter Try.func19, Try.ntmps19
  go_wp2_with fail
  refine HC.out.mono ?_
  rintro e w1 ⟨rfl, hR, hK⟩
  have HR := Lib.hid hR
  have HK := Lib.hid hK
  clear hR hK HC
  go_wp2_with fail
  go_ret
  exact ⟨rfl, HR.out, HK.out⟩
set_option maxRecDepth 100000 in
set_option maxHeartbeats 2000000 in
theorem rflush_ok (h : RefAt w p vD vQ D Q L false) (h0 : L ≠ 0) (hL : -1 ≤ L ∧ L ≤ 9223372036854775807) (hD : D.length ≤ 65536) (hQ : Q.length ≤ 100000) :
    Calls Try.prog 19 #[.pointer (some ⟨p, 0, none⟩)] w fun e w' => e = .returned (.int .i64 0) ∧ RefAt w' p vD (.slice none 0 0) (applyQ D Q) [] (leftOf L) false ∧ Keeps (ownR p vD vQ) w w' := by
  have HC := Lib.hid (call_ok h h0 hL)
  have e3 := h.blk.cell 3
  have zp := h.blk.lt
  simp at e3
  obtain ⟨⟨A, c, rfl⟩, A2, c2, rfl⟩ := h.shapes
  clear h
  go_enter Try.func19, Try.ntmps19
  go_wp2_with fail
  refine HC.out.mono ?_
  rintro e w1 ⟨rfl, hR, hK⟩
  have HR := Lib.hid hR
  have HK := Lib.hid hK
  clear hR hK HC e3 zp
  go_wp2_with fail
  go_loopw [3] (fun i wr => ∃ j : Nat, j ≤ Q.length ∧ i = .int .i64 j ∧ RefAt wr p (.slice A D.length c) (.slice A2 Q.length c2) (applyQ D (Q.take j)) Q (leftOf L) false ∧ Keeps (ownR p (.slice A D.length c) (.slice A2 Q.length c2)) w1 wr) (fun i _ => Q.length - (intOf i).toNat)
  case atStart => exact ⟨0, Nat.zero_le _, rfl, HR.out, Keeps.refl _ _⟩
  case round =>
    obtain ⟨j, hj, rfl, hRj, hKj⟩ := hrel
    have e0 := hRj.blk.cell 0
    have e1 := hRj.blk.cell 1
    have zp := hRj.blk.lt
    have hlen := applyQ_len D (Q.take j)
    simp at e0 e1
    by_cases hlt : j < Q.length
    · obtain ⟨x, hx⟩ : ∃ x, Q[j]? = some x := ⟨_, List.getElem?_eq_getElem hlt⟩
      have hxs := hRj.size x (List.mem_of_getElem? hx)
      rw [hlen] at hxs
      obtain ⟨g2, c2', hv, hgl2, q0, q1⟩ := hRj.pendAt hx
      obtain ⟨rfl, rfl⟩ : A2 = some ⟨g2, 0, none⟩ ∧ c2 = c2' := by injection hv with h1 h2 h3; exact ⟨h1, h3⟩
      obtain ⟨s, hs⟩ : ∃ s, (applyQ D (Q.take j))[x.1]? = some s := ⟨_, List.getElem?_eq_getElem (by rw [hlen]; exact hxs.1)⟩
      obtain ⟨g1, c1', hv1, hgl1, d0⟩ := hRj.durAt hs
      rw [hlen] at hv1
      obtain ⟨rfl, rfl⟩ : A = some ⟨g1, 0, none⟩ ∧ c = c1' := by injection hv1 with h1 h2 h3; exact ⟨h1, h3⟩
      have hT : Hid (applyQ D (Q.take (j + 1)) = (applyQ D (Q.take j)).set x.1 x.2) := Lib.hid (by rw [List.take_add_one, hx]; exact applyQ_snoc _ _ _)
      have hji : (j : Int) < (Q.length : Int) := by omega
      have hxi : (x.1 : Int) < (D.length : Int) := by omega
      have hdr : RefAt wr.drew p (.slice (some ⟨g1, 0, none⟩) (applyQ D (Q.take j)).length c) (.slice (some ⟨g2, 0, none⟩) Q.length c2) (applyQ D (Q.take j)) Q (leftOf L) false := by rw [hlen]; exact hRj.below (Below.refl _ _).drew
      have hF := hdr.fill (k := x.1) (by rw [hlen]; exact hxs.1) hxs.2
      have fz : wr.frozen? ⟨g1, x.1, none⟩ = false := by
        rcases hRj.dur.2 with ⟨h1, _⟩ | ⟨g', cap, cur, h1, _, hg, _⟩
        · simp at h1
        · simp only [Value.slice.injEq, Option.some.injEq, Addr.mk.injEq] at h1
          obtain ⟨⟨rfl, _, _⟩, _, _⟩ := h1
          exact Blk.frozen (show Blk wr g1 _ cur from hg) x.1
      have HF := Lib.hid hF
      have HKs : Hid (Keeps (ownR p (.slice (some ⟨g1, 0, none⟩) D.length c) (.slice (some ⟨g2, 0, none⟩) Q.length c2)) w1 (wr.drew.setCell ⟨g1, x.1, none⟩ (sStr x.2))) := Lib.hid (hKj.drew.setCell (p := ⟨g1, x.1, none⟩) (fun _ => .inr (.inl rfl)) _)
      have HLEN := Lib.hid hlen
      unfold sStr at q1 d0 HF HKs
      clear hv hv1 hx hs hRj hKj hdr hF hlen
      go_upto_region 6 with fail
      refine wp_region_still_tail 21 (by kernel_rfl) (by kernel_rfl) ?_
      simp only [List.take_succ_cons, List.take_zero, List.drop_succ_cons, List.drop_zero]
      change wpStill _ _ wr.drew _ _ _
      repeat still_step
      refine wpStill_nil ?_
      change wpList _ _ _ _ _ wr.drew
      go_wp2_with fail
      go_roundw
      case rel => exact ⟨j + 1, by omega, by go_num, by have := HF.out; rw [HLEN.out] at this; rw [hT.out]; exact this, HKs.out⟩
      case measure => simp [intOf]; omega
    · have hTk := Lib.hid (List.take_of_length_le (l := Q) (i := j) (by omega))
      have hji : ¬ (j : Int) < (Q.length : Int) := by omega
      have f1 := hRj.blk.frozen 1
      have HF := Lib.hid hRj.flushed
      have HKs := Lib.hid (hKj.setCell (p := ⟨p, 1, none⟩) (fun _ => .inl rfl) (.slice none 0 0))
      clear hRj hKj
      go_wp2_with fail
      go_ret
      exact ⟨rfl, by have := HF.out; rw [hTk.out] at this; exact this, (HK.out.mono (fun i _ e => .inl e)).trans HKs.out (fun i _ e => e)⟩
end
end Go.Proofs.Ytoglkeinhpcboaa
