/- The contract of the reference's Crash. Conditions: the disk lies in memory; so does keep. -/
import Derived.Test.YtoglkeinhpcboaaRd4
import Derived.Test.YtoglkeinhpcboaaDk5
namespace Go.Proofs.Ytoglkeinhpcboaa
open Go.RowKit

/-- How many first bytes are kept: none where nothing is said. -/
def keptO : Option Int → Nat
  | some n => (keptOf n).toNat
  | none => 0
theorem keptO_le (o : Option Int) : keptO o ≤ 64 := by
  cases o with
  | none => exact Nat.zero_le _
  | some n =>
    have := kept_range n
    show (keptOf n).toNat ≤ 64
    omega
theorem str_cut (a : List Int) (i j : Nat) : (strOfNums a).extract i j = strOfNums ((a.drop i).take (j - i)) := by
  apply ByteArray.ext
  simp [strOfNums, List.map_take, List.map_drop, List.extract_eq_take_drop]
theorem str_mix (a b : List Int) (k : Nat) (hb : b.length = 64) : (strOfNums a).extract 0 k ++ (strOfNums b).extract k 64 = strOfNums (a.take k ++ b.drop k) := by
  rw [str_cut, str_cut, str_append, List.drop_zero, Nat.sub_zero, List.take_of_length_le (l := b.drop k) (by simp; omega)]
def keepQ (K : List Int) (D : List (List Int)) (l : List ((Nat × List Int) × Nat)) : List (List Int) := l.foldl (fun D x => D.set x.1.1 (x.1.2.take (keptO K[x.2]?) ++ (D.getD x.1.1 []).drop (keptO K[x.2]?))) D
theorem keepQ_snoc (K : List Int) (D : List (List Int)) (l : List ((Nat × List Int) × Nat)) (x : (Nat × List Int) × Nat) : keepQ K D (l ++ [x]) = (keepQ K D l).set x.1.1 (x.1.2.take (keptO K[x.2]?) ++ ((keepQ K D l).getD x.1.1 []).drop (keptO K[x.2]?)) := by unfold keepQ; rw [List.foldl_append]; rfl
theorem keepQ_len (K : List Int) (D : List (List Int)) (l : List ((Nat × List Int) × Nat)) : (keepQ K D l).length = D.length := by
  unfold keepQ
  induction l generalizing D with
  | nil => rfl
  | cons x l ih => rw [List.foldl_cons, ih, List.length_set]
theorem zipQ_snoc {Q : List (Nat × List Int)} {k : Nat} {x : Nat × List Int} (hx : Q[k]? = some x) : Q.zipIdx.take (k + 1) = Q.zipIdx.take k ++ [(x, k)] := by
  rw [List.take_add_one, List.getElem?_zipIdx, hx]
  simp
section
variable {w : World} {p : Nat} {vD vQ : Value} {D : List (List Int)} {Q : List (Nat × List Int)} {L : Int} {dn : Bool}
set_option maxRecDepth 100000 in
set_option maxHeartbeats 2000000 in
theorem rcrash_any (h : RefAt w p vD vQ D Q L dn) (hD : D.length ≤ 65536) (hQ : Q.length ≤ 100000) (KA : Option Addr) (kc : Nat) (K : List Int) (hKl : K.length ≤ 9223372036854775807) (hKA : 0 < K.length → ∃ g o, KA = some ⟨g, o, none⟩ ∧ (∀ i x, K[i]? = some x → w.cell? ⟨g, o + i, none⟩ = some (.int .i64 x)) ∧ ¬ ownR p vD vQ g) :
    Calls Try.prog 22 #[.pointer (some ⟨p, 0, none⟩), .slice KA K.length kc] w fun e w' => (∃ v, e = .returned v) ∧ RefAt w' p vD (.slice none 0 0) (keepQ K D Q.zipIdx) [] (-1) false ∧ Keeps (ownR p vD vQ) w w' := by
  obtain ⟨⟨A, c, rfl⟩, A2, c2, rfl⟩ := h.shapes
  have HR := Lib.hid h
  clear h
  go_enter Try.func22, Try.ntmps22
  go_wp2_with fail
  go_loopw [4] (fun i wr => ∃ j : Nat, j ≤ Q.length ∧ i = .int .i64 j ∧ RefAt wr p (.slice A D.length c) (.slice A2 Q.length c2) (keepQ K D (Q.zipIdx.take j)) Q L dn ∧ Keeps (ownR p (.slice A D.length c) (.slice A2 Q.length c2)) w wr) (fun i _ => Q.length - (intOf i).toNat)
  case atStart => exact ⟨0, Nat.zero_le _, rfl, HR.out, Keeps.refl _ _⟩
  case round =>
    obtain ⟨j, hj, rfl, hRj, hKj⟩ := hrel
    have e1 := hRj.blk.cell 1
    have zp := hRj.blk.lt
    have hlen := keepQ_len K D (Q.zipIdx.take j)
    simp at e1
    by_cases hlt : j < Q.length
    · obtain ⟨x, hx⟩ : ∃ x, Q[j]? = some x := ⟨_, List.getElem?_eq_getElem hlt⟩
      have hxs := hRj.size x (List.mem_of_getElem? hx)
      rw [hlen] at hxs
      obtain ⟨g2, c2', hv, hgl2, q0, q1⟩ := hRj.pendAt hx
      obtain ⟨rfl, rfl⟩ : A2 = some ⟨g2, 0, none⟩ ∧ c2 = c2' := by injection hv with h1 h2 h3; exact ⟨h1, h3⟩
      have hT := Lib.hid (keepQ_snoc K D (Q.zipIdx.take j) (x, j))
      have hZ := Lib.hid (zipQ_snoc hx)
      have hji : (j : Int) < (Q.length : Int) := by omega
      have HRj := Lib.hid hRj
      have HKj := Lib.hid hKj
      have HLEN := Lib.hid hlen
      unfold sStr at q1
      obtain ⟨kp, hkp⟩ : ∃ kp, kp = keptO K[j]? := ⟨_, rfl⟩
      have hkp64 : kp ≤ 64 := by rw [hkp]; exact keptO_le _
      have HKP := Lib.hid hkp
      clear hv hx hRj hKj hlen
      by_cases hjK : j < K.length
      case' pos =>
        obtain ⟨n, hn⟩ : ∃ n, K[j]? = some n := ⟨_, List.getElem?_eq_getElem hjK⟩
        obtain ⟨gk, ok, rfl, hKc, hKn⟩ := hKA (by omega)
        have k1 : wr.cell? ⟨gk, ok + j, none⟩ = some (.int .i64 n) := (HKj.out.cell (World.block_lt_of_cell? w _ (hKc j n hn)) hKn).trans (hKc j n hn)
        have hkn : (kp : Int) = min (max n 0) 64 := by
          have h2 := kept_range n
          have h3 : keptOf n = min (max n 0) 64 := rfl
          rw [hkp, hn]
          show ((keptOf n).toNat : Int) = _
          omega
        have hjKi : (j : Int) < (K.length : Int) := by omega
        clear hkp hn hKc hKn hKA
        go_upto_region 7 with fail
      case' neg =>
        have hk0 : kp = 0 := by rw [hkp, List.getElem?_eq_none (by omega)]; rfl
        have hjKi : ¬ (j : Int) < (K.length : Int) := by omega
        clear hkp hKA
        go_upto_region 7 with fail
      case' pos => rw [show (if 64 < if n < 0 then 0 else n then 64 else if n < 0 then 0 else n) = (kp : Int) by rw [hkn]; (repeat' split) <;> omega]; clear hkn
      case' neg => rw [show (0 : Int) = (kp : Int) by omega]; clear hk0
      all_goals
        obtain ⟨w1, hw1⟩ : ∃ w1, w1 = wr.alloc (.cells #[.int .i64 (x.1 : Int), .string (strOfNums x.2)] 70) := ⟨_, rfl⟩
        have kN : Blk w1 wr.heap.size 70 #[.int .i64 (x.1 : Int), .string (strOfNums x.2)] := by rw [hw1]; exact Blk.new _ _ _
        have hR1 : RefAt w1 p (.slice A D.length c) (.slice (some ⟨g2, 0, none⟩) Q.length c2) (keepQ K D (Q.zipIdx.take j)) Q L dn := by rw [hw1]; exact HRj.out.below ((Below.refl _ _).alloc (Nat.le_refl _) _)
        have hK1 : Keeps (ownR p (.slice A D.length c) (.slice (some ⟨g2, 0, none⟩) Q.length c2)) w w1 := by rw [hw1]; exact HKj.out.alloc _
        rw [← hw1]
        clear hw1
        generalize wr.heap.size = gw at kN ⊢
        have hlen := HLEN.out
        have e0 := hR1.blk.cell 0
        have zp1 := hR1.blk.lt
        have b0 := kN.cell 0
        have b1 := kN.cell 1
        have zb := kN.lt
        obtain ⟨s, hs⟩ : ∃ s, (keepQ K D (Q.zipIdx.take j))[x.1]? = some s := ⟨_, List.getElem?_eq_getElem (by rw [hlen]; exact hxs.1)⟩
        obtain ⟨g1, c1', hv1, hgl1, d0⟩ := hR1.durAt hs
        rw [hlen] at hv1
        obtain ⟨rfl, rfl⟩ : A = some ⟨g1, 0, none⟩ ∧ c = c1' := by injection hv1 with h1 h2 h3; exact ⟨h1, h3⟩
        have hsl := hR1.all s (List.mem_of_getElem? hs)
        have hxi : (x.1 : Int) < (D.length : Int) := by omega
        have hkpi : (kp : Int) ≤ 64 := by omega
        have sz1 : (strOfNums x.2).size = 64 := by rw [str_size, hxs.2]
        have sz2 : (strOfNums s).size = 64 := by rw [str_size, hsl]
        have hdr : RefAt w1.drew p (.slice (some ⟨g1, 0, none⟩) (keepQ K D (Q.zipIdx.take j)).length c) (.slice (some ⟨g2, 0, none⟩) Q.length c2) (keepQ K D (Q.zipIdx.take j)) Q L dn := by rw [hlen]; exact hR1.below (Below.refl _ _).drew
        have hF := hdr.fill (k := x.1) (by rw [hlen]; exact hxs.1) (s := x.2.take kp ++ s.drop kp) (by simp only [List.length_append, List.length_take, List.length_drop, hxs.2, hsl]; omega)
        have fz : w1.frozen? ⟨g1, x.1, none⟩ = false := by
          rcases hR1.dur.2 with ⟨h1, _⟩ | ⟨g', cap, cur, h1, _, hg, _⟩
          · simp at h1
          · simp only [Value.slice.injEq, Option.some.injEq, Addr.mk.injEq] at h1
            obtain ⟨⟨rfl, _, _⟩, _, _⟩ := h1
            exact Blk.frozen (show Blk w1 g1 _ cur from hg) x.1
        have HF := Lib.hid hF
        have HKs := Lib.hid (fun u => hK1.drew.setCell (p := ⟨g1, x.1, none⟩) (fun _ => .inr (.inl rfl)) u)
        have HS := Lib.hid hs
        unfold sStr at d0
        simp at e0 b0 b1
        clear hv1 hs hR1 hK1 hdr hF hlen kN
        refine wp_region_still_tail 22 (by kernel_rfl) (by kernel_rfl) ?_
        simp only [List.take_succ_cons, List.take_zero, List.drop_succ_cons, List.drop_zero]
        change wpStill _ _ w1.drew _ _ _
        repeat still_step
        refine wpStill_nil ?_
        change wpList _ _ _ _ _ w1.drew
        go_wp2_with fail
        go_roundw
        case rel =>
          refine ⟨j + 1, by omega, by go_num, ?_, HKs.out _⟩
          have hf := HF.out
          unfold sStr at hf
          rw [HLEN.out] at hf
          rw [str_mix _ _ _ hsl, hZ.out, hT.out]
          simp only []
          rw [← HKP.out, List.getD_eq_getElem?_getD, HS.out]
          exact hf
        case measure => simp [intOf]; omega
    · have hTk := Lib.hid (List.take_of_length_le (l := Q.zipIdx) (i := j) (by simp; omega))
      have hji : ¬ (j : Int) < (Q.length : Int) := by omega
      have e2 := hRj.blk.cell 2
      have e3 := hRj.blk.cell 3
      have f1 := hRj.blk.frozen 1
      have f2 := hRj.blk.frozen 2
      have f3 := hRj.blk.frozen 3
      have HF := Lib.hid ((hRj.flushed.put (L' := -1) (dn' := dn) 2 (.int .i64 (-1)) rfl).put (L' := -1) (dn' := false) 3 (.bool false) rfl)
      have HKs := Lib.hid (((hKj.setCell (p := ⟨p, 1, none⟩) (fun _ => .inl rfl) (.slice none 0 0)).setCell (p := ⟨p, 2, none⟩) (fun _ => .inl rfl) (.int .i64 (-1))).setCell (p := ⟨p, 3, none⟩) (fun _ => .inl rfl) (.bool false))
      simp at e2 e3
      clear hRj hKj hlen
      go_wp2_with fail
      go_end0
      exact ⟨⟨_, rfl⟩, by have := HF.out; rw [hTk.out] at this; exact this, HKs.out⟩
end
end Go.Proofs.Ytoglkeinhpcboaa
