/- The contracts of the reference's Write. Conditions: the disk lies in memory. -/
import Derived.Test.YtoglkeinhpcboaaRd2
import Derived.Deep.RegionHeld3
import Derived.Deep.RegionLaw
namespace Go.Proofs.Ytoglkeinhpcboaa
open Go.RowKit

theorem infoPut : (Try.prog.info? 70).map (fun i => (i.zero, i.size, i.bytes)) = some (some (.agg #[.int .i64 0, .string ⟨#[]⟩]), 2, 24) := by kernel_rfl
theorem rowPut : Try.prog.underlying 38 = some (.slice 70) := by kernel_rfl
section
variable {w : World} {p : Nat} {vD vQ : Value} {D : List (List Int)} {Q : List (Nat × List Int)} {L : Int} {dn : Bool}
/-- A further write is pending. -/
theorem append_put (h : RefAt w p vD vQ D Q L dn) (hQ : Q.length ≤ 100000) (x : Nat × List Int) (hx : x.1 < D.length ∧ x.2.length = 64) (ty : TypeId) :
    ∃ v' w', (Builtin.append_ #[38, 38] ty #[vQ, .slice (some ⟨w.heap.size, 0, none⟩) 1 1]).run Try.prog (w.alloc (.cells #[.int .i64 x.1, .string (strOfNums x.2)] 70)) = .ok v' w' ∧ w'.cell? ⟨p, 1, none⟩ = some vQ ∧ w'.frozen? ⟨p, 1, none⟩ = false ∧
      RefAt (w'.setCell ⟨p, 1, none⟩ v') p vD v' D (Q ++ [x]) L dn ∧ Keeps (ownR p vD vQ) w (w'.setCell ⟨p, 1, none⟩ v') ∧ (v'.ownBlock = vQ.ownBlock ∨ ∀ i, v'.ownBlock = some i → w.heap.size ≤ i) ∧ ∃ A c, v' = .slice A (Q.length + 1) c := by
  obtain ⟨i0, hi, hz0, hz1, hz2⟩ := info_parts infoPut
  have hA : RefAt (w.alloc (.cells #[.int .i64 x.1, .string (strOfNums x.2)] 70)) p vD vQ D Q L dn := h.below ((Below.refl _ _).alloc (Nat.le_refl _) _)
  have kN := Blk.new w 70 #[.int .i64 x.1, .string (strOfNums x.2)]
  obtain ⟨v', w', hrun, hO, hg, _, hv⟩ := run_append_own_at (P := Try.prog) (w.alloc (.cells #[.int .i64 x.1, .string (strOfNums x.2)] 70)) 0 38 ty 70 i0 _ 2 24 rowPut hi hz0 hz1 hz2 rfl (by decide) vQ Q.length _ hA.pend ⟨w.heap.size, 0, none⟩ 1 1 (cellsQ x) rfl (fun j u hj => by
      rw [Addr.add_mid, Nat.zero_add, kN.cell j]
      have hj2 : ([.int .i64 x.1, .string (strOfNums x.2)] : List Value)[j]? = some u := hj
      rw [← hj2]
      exact List.getElem?_toArray) (fun u hu => by
      unfold cellsQ sStr at hu
      simp at hu
      rcases hu with rfl | rfl <;> rfl) (by unfold maxLen; omega) (by omega) (Nat.zero_le _)
  have hk : Keeps (fun i => vQ.ownBlock = some i) (w.alloc (.cells #[.int .i64 x.1, .string (strOfNums x.2)] 70)) w' := Keeps.of_grown hg (fun k hk _ => hk)
  have hB := hA.blk.keep hk h.ne2
  have hlD := World.ownsRow.lt h.dur
  have hvp : v'.ownBlock ≠ some p := by
    have := h.blk.lt
    rcases hv with e | e
    · rw [e]; exact h.ne2
    · rw [e]; simp; omega
  have hvd : ∀ i, vD.ownBlock = some i → v'.ownBlock ≠ some i := fun i e0 => by
    have := (hlD i e0).2
    rcases hv with e | e
    · rw [e]; exact h.ne3 i e0
    · rw [e]; simp; omega
  have hkp : Keeps (fun i => i = p) w' (w'.setCell ⟨p, 1, none⟩ v') := (Keeps.refl (fun k => k = p) w').setCell (p := ⟨p, 1, none⟩) (fun _ => rfl) v'
  refine ⟨v', w', hrun, by rw [hB.cell 1]; rfl, hB.frozen 1, ⟨hB.set 1 v', ownsRow_kept (ownsRow_kept hA.dur hk (fun i e e' => h.ne3 i e e')) hkp (fun j e e' => h.ne1 (by rw [e, e'])), ?_, h.all, fun y hy => ?_, h.ne1, hvp, hvd⟩, ?_, ?_, ?_⟩
  · rw [List.length_append, List.flatMap_append, List.flatMap_singleton]
    exact ownsRow_kept hO hkp (fun j e e' => hvp (by rw [e, e']))
  · rcases List.mem_append.1 hy with hy | hy
    · exact h.size y hy
    · rw [List.mem_singleton.1 hy]; exact hx
  · exact ((((Keeps.refl _ _).alloc _).trans hk (fun i _ e => .inr (.inr e))).setCell (p := ⟨p, 1, none⟩) (fun _ => .inl rfl) v')
  · rcases hv with e | e
    · exact .inl e
    · refine .inr (fun i hi => ?_)
      rw [e] at hi
      simp at hi
      omega
  · rcases hO.2 with ⟨_, h1⟩ | ⟨g', cap, cur, rfl, _⟩
    · omega
    · exact ⟨_, cap, rfl⟩
/-- The disk lies in w'; its pending writes lie where they did, or in a block that is newer than w. -/
def RWAt (w w' : World) (p : Nat) (vD vQ : Value) (D : List (List Int)) (Q : List (Nat × List Int)) (L : Int) (dn : Bool) : Prop :=
  ∃ v', RefAt w' p vD v' D Q L dn ∧ (v'.ownBlock = vQ.ownBlock ∨ ∀ i, v'.ownBlock = some i → w.heap.size ≤ i)

set_option maxRecDepth 100000 in
set_option maxHeartbeats 2000000 in
theorem rwrite_ok (h : RefAt w p vD vQ D Q L false) (h0 : L ≠ 0) (hL : -1 ≤ L ∧ L ≤ 9223372036854775807) (hD : D.length ≤ 65536) (hQ : Q.length ≤ 100000) (k : Nat) (hk : k < D.length) (b : List Int) (hb : b.length ≤ 64) :
    Calls Try.prog 18 #[.pointer (some ⟨p, 0, none⟩), .int .i64 (k : Int), sStr b] w fun e w' => e = .returned (.int .i64 0) ∧ RWAt w w' p vD vQ D (Q ++ [(k, padB b)]) (leftOf L) false ∧ Keeps (ownR p vD vQ) w w' := by
  obtain ⟨⟨A, c, rfl⟩, A2, c2, rfl⟩ := h.shapes
  have hki : (k : Int) < (D.length : Int) := by omega
  have hkn : ¬ (D.length : Int) ≤ (k : Int) := by omega
  have hsz := str_size b
  have hbl : ¬ (64 : Int) < (b.length : Int) := by omega
  have e0 := h.blk.cell 0
  have e3 := h.blk.cell 3
  have zp := h.blk.lt
  have HC := Lib.hid (call_ok h h0 hL)
  have HP := Lib.hid (fun W => padded_any b hb W)
  simp at e0 e3
  unfold sStr at HP ⊢
  clear h
  generalize strOfNums b = x at hsz HP ⊢
  go_enter Try.func18, Try.ntmps18
  go_wp2_with fail
  refine HC.out.mono ?_
  rintro e w1 ⟨rfl, hR, hK⟩
  have hB : RefAt w1.drew p _ _ D Q (leftOf L) false := hR.below (Below.refl _ _).drew
  obtain ⟨v', w2, hrun, f1, z1, hR2, hK2, hv2, A5, c5, rfl⟩ := append_put hB hQ (k, padB b) ⟨hk, padB_len hb⟩ 38
  have e1 := hB.blk.cell 1
  have zp1 := hB.blk.lt
  have e1a : (w1.alloc (.cells #[.int .i64 (k : Int), .string (strOfNums (padB b))] 70)).cell? ⟨p, 1, none⟩ = some (.slice A2 Q.length c2) := by
    rw [(Blk.alloc hR.blk _).cell 1]
    rfl
  simp at e1
  have hrun2 : (Builtin.append_ #[38, 38] 38 #[.slice A2 Q.length c2, .slice (some ⟨w1.heap.size, 0, none⟩) 1 1]).run Try.prog (w1.alloc (.cells #[.int .i64 (k : Int), .string (strOfNums (padB b))] 70)).drew = .ok (.slice A5 (Q.length + 1) c5) w2 := hrun
  have HR2 := Lib.hid hR2
  have HK2 : Hid (Keeps (ownR p (.slice A D.length c) (.slice A2 Q.length c2)) w1 _) := Lib.hid ((Keeps.refl _ w1).drew.trans hK2 (fun i _ e => e))
  have HV2 : Hid ((Value.slice A5 (Q.length + 1) c5).ownBlock = (Value.slice A2 Q.length c2).ownBlock ∨ ∀ i, (Value.slice A5 (Q.length + 1) c5).ownBlock = some i → w.heap.size ≤ i) := Lib.hid (hv2.imp_right (fun f i hi => Nat.le_trans hK.size (f i hi)))
  have HK := Lib.hid hK
  clear hR hB hR2 hK2 hv2 hK HC
  go_upto_region 9 with fail
  go_region_law (first
    | (refine Lib.wp_append_run _ _ _ _ _ rfl _ _ rfl rfl _ _ hrun2 ?_)
    | (rw [if_pos (by rfl)]; refine Lib.wp_append_run _ _ _ _ _ rfl _ _ rfl rfl _ _ hrun2 ?_)
    | (go_simp; go_at_call 28; refine (HP.out _).mono ?_; rintro e wP ⟨rfl, rfl⟩; dsimp only))
  all_goals
    go_wp2_with fail
    go_ret
    exact ⟨rfl, ⟨_, HR2.out, HV2.out⟩, (HK.out.mono (fun i _ e => .inl e)).trans HK2.out (fun i _ e => e)⟩
theorem rwrite_bad (h : RefAt w p vD vQ D Q L dn) (hD : D.length ≤ 65536) (k : Int) (x : ByteArray) (he : secErr dn D.length k ≠ 0) :
    Calls Try.prog 18 #[.pointer (some ⟨p, 0, none⟩), .int .i64 k, .string x] w fun e w' => e = .returned (.int .i64 (secErr dn D.length k)) ∧ w = w' := by
  obtain ⟨⟨A, c, rfl⟩, A2, c2, rfl⟩ := h.shapes
  have e0 := h.blk.cell 0
  have e3 := h.blk.cell 3
  have zp := h.blk.lt
  simp at e0 e3
  cases dn
  · have hw : withinB k 0 ((D.length : Int) - 1) = false := by
      unfold secErr at he
      cases hq : withinB k 0 ((D.length : Int) - 1)
      · rfl
      · rw [hq] at he; simp at he
    have HE : Hid (secErr false D.length k = 1) := Lib.hid (by unfold secErr; rw [hw]; rfl)
    clear h he
    by_cases h1 : k < 0
    · clear hw
      go_enter Try.func18, Try.ntmps18
      go_wp2_with fail
      go_ret
      exact ⟨by rw [HE.out]; rfl, rfl⟩
    · have h2 : (D.length : Int) ≤ k := by
        unfold withinB at hw
        simp at hw
        omega
      clear hw
      go_enter Try.func18, Try.ntmps18
      go_wp2_with fail
      go_ret
      exact ⟨by rw [HE.out]; rfl, rfl⟩
  · have HE : Hid (secErr true D.length k = 70) := Lib.hid rfl
    clear h he
    go_enter Try.func18, Try.ntmps18
    go_wp2_with fail
    go_ret
    exact ⟨by rw [HE.out]; rfl, rfl⟩
theorem secErr_zero {n : Nat} {k : Int} (h : secErr dn n k = 0) : dn = false ∧ 0 ≤ k ∧ k < (n : Int) := by
  unfold secErr at h
  split at h
  · cases h
  · rename_i h1
    split at h
    · rename_i h2
      unfold withinB at h2
      simp at h2
      exact ⟨by simpa using h1, by omega, by omega⟩
    · cases h
theorem rwrite_long (h : RefAt w p vD vQ D Q L false) (hD : D.length ≤ 65536) (k : Int) (x : ByteArray) (he : secErr false D.length k = 0) (hn : 64 < x.size) :
    Calls Try.prog 18 #[.pointer (some ⟨p, 0, none⟩), .int .i64 k, .string x] w fun e w' => e = .returned (.int .i64 2) ∧ w = w' := by
  obtain ⟨⟨A, c, rfl⟩, A2, c2, rfl⟩ := h.shapes
  have e0 := h.blk.cell 0
  have e3 := h.blk.cell 3
  have zp := h.blk.lt
  obtain ⟨_, k1, k2⟩ := secErr_zero he
  have k3 : ¬ k < 0 := by omega
  have k4 : ¬ (D.length : Int) ≤ k := by omega
  have k5 : (64 : Int) < (x.size : Int) := by omega
  simp at e0 e3
  clear h he
  go_enter Try.func18, Try.ntmps18
  go_wp2_with fail
  go_ret
  exact ⟨rfl, rfl⟩
theorem rwrite_stop (h : RefAt w p vD vQ D Q 0 false) (hD : D.length ≤ 65536) (k : Int) (x : ByteArray) (he : secErr false D.length k = 0) (hn : x.size ≤ 64) :
    Calls Try.prog 18 #[.pointer (some ⟨p, 0, none⟩), .int .i64 k, .string x] w fun e w' => e = .returned (.int .i64 70) ∧ RefAt w' p vD vQ D Q 0 true ∧ Keeps (fun i => i = p) w w' := by
  have HC := Lib.hid (call_stop h)
  obtain ⟨⟨A, c, rfl⟩, A2, c2, rfl⟩ := h.shapes
  have e0 := h.blk.cell 0
  have e3 := h.blk.cell 3
  have zp := h.blk.lt
  obtain ⟨_, k1, k2⟩ := secErr_zero he
  have k3 : ¬ k < 0 := by omega
  have k4 : ¬ (D.length : Int) ≤ k := by omega
  have k5 : ¬ (64 : Int) < (x.size : Int) := by omega
  simp at e0 e3
  clear h he
  go_enter Try.func18, Try.ntmps18
  go_wp2_with fail
  refine HC.out.mono ?_
  rintro e w1 ⟨rfl, hR, hK⟩
  have HR := Lib.hid hR
  have HK := Lib.hid hK
  clear hR hK HC
  go_wp2_with fail
  go_ret
  exact ⟨rfl, HR.out, HK.out⟩
end
end Go.Proofs.Ytoglkeinhpcboaa
