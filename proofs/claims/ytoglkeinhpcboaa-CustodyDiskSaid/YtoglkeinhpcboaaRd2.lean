/- The contracts of the reference's Read, Write. Conditions: the disk lies in memory. -/
import Derived.Test.YtoglkeinhpcboaaRd1
import Derived.Test.YtoglkeinhpcboaaDk6
namespace Go.Proofs.Ytoglkeinhpcboaa
open Go.RowKit

/-- What a sector contains behind the pending writes. -/
def lastOf (s : List Int) (Q : List (Nat × List Int)) (k : Nat) : List Int := Q.foldl (fun s x => if x.1 = k then x.2 else s) s
theorem lastOf_snoc (s : List Int) (Q : List (Nat × List Int)) (x : Nat × List Int) (k : Nat) : lastOf s (Q ++ [x]) k = if x.1 = k then x.2 else lastOf s Q k := by unfold lastOf; rw [List.foldl_append]; rfl
theorem flatQ_len (Q : List (Nat × List Int)) : (Q.flatMap cellsQ).length = Q.length * 2 := by
  induction Q with
  | nil => rfl
  | cons x Q ih => rw [List.flatMap_cons, List.length_append, ih, List.length_cons]; show 2 + _ = _; omega
theorem flatQ_at {Q : List (Nat × List Int)} {k : Nat} {x : Nat × List Int} (hk : Q[k]? = some x) : (Q.flatMap cellsQ)[k * 2]? = some (.int .i64 x.1) ∧ (Q.flatMap cellsQ)[k * 2 + 1]? = some (sStr x.2) := by
  induction Q generalizing k with
  | nil => simp at hk
  | cons y Q ih =>
    rw [List.flatMap_cons]
    cases k with
    | zero =>
      cases hk
      exact ⟨rfl, rfl⟩
    | succ k =>
      have hl : (cellsQ y).length = 2 := rfl
      obtain ⟨h1, h2⟩ := ih (by simpa using hk)
      refine ⟨?_, ?_⟩
      · rw [List.getElem?_append_right (by omega), hl, show (k + 1) * 2 - 2 = k * 2 by omega, h1]
      · rw [List.getElem?_append_right (by omega), hl, show (k + 1) * 2 + 1 - 2 = k * 2 + 1 by omega, h2]
section
variable {w : World} {p : Nat} {vD vQ : Value} {D : List (List Int)} {Q : List (Nat × List Int)} {L : Int} {dn : Bool}
theorem RefAt.durAt (h : RefAt w p vD vQ D Q L dn) {k : Nat} {s : List Int} (hk : D[k]? = some s) : ∃ g c, vD = .slice (some ⟨g, 0, none⟩) D.length c ∧ g < w.heap.size ∧ w.cell? ⟨g, k, none⟩ = some (sStr s) := by
  have hlt := World.ownsRow.lt h.dur
  have hkl := (List.getElem?_eq_some_iff.1 hk).1
  have h0 := h.dur
  rcases h0.2 with ⟨h1, h2⟩ | ⟨g, cap, cur, h1, hb, hg, _⟩
  · omega
  · subst h1
    refine ⟨g, cap, rfl, (hlt g rfl).2, ?_⟩
    rw [h0.cellAt k (by omega), List.getElem?_map, hk]
    rfl
theorem RefAt.pendAt (h : RefAt w p vD vQ D Q L dn) {k : Nat} {x : Nat × List Int} (hk : Q[k]? = some x) : ∃ g c, vQ = .slice (some ⟨g, 0, none⟩) Q.length c ∧ g < w.heap.size ∧ w.cell? ⟨g, k * 2, none⟩ = some (.int .i64 x.1) ∧ w.cell? ⟨g, k * 2 + 1, none⟩ = some (sStr x.2) := by
  have hlt := World.ownsRow.lt h.pend
  have hkl := (List.getElem?_eq_some_iff.1 hk).1
  have h0 := h.pend
  obtain ⟨e1, e2⟩ := flatQ_at hk
  rcases h0.2 with ⟨h1, h2⟩ | ⟨g, cap, cur, h1, hb, hg, _⟩
  · omega
  · subst h1
    exact ⟨g, cap, rfl, (hlt g rfl).2, by rw [h0.cellAt (k * 2) (by omega), e1], by rw [h0.cellAt (k * 2 + 1) (by omega), e2]⟩
theorem RefAt.shapes (h : RefAt w p vD vQ D Q L dn) : (∃ A c, vD = .slice A D.length c) ∧ ∃ A c, vQ = .slice A Q.length c := by
  refine ⟨?_, ?_⟩
  · rcases h.dur.2 with ⟨rfl, h1⟩ | ⟨g', cap, cur, rfl, _⟩
    · exact ⟨none, 0, by rw [h1]⟩
    · exact ⟨_, cap, rfl⟩
  · rcases h.pend.2 with ⟨rfl, h1⟩ | ⟨g', cap, cur, rfl, _⟩
    · exact ⟨none, 0, by rw [h1]⟩
    · exact ⟨_, cap, rfl⟩

set_option maxRecDepth 100000 in
set_option maxHeartbeats 1000000 in
theorem rread_ok (h : RefAt w p vD vQ D Q L false) (hD : D.length ≤ 65536) (hQ : Q.length ≤ 100000) (k : Nat) (s : List Int) (hk : D[k]? = some s) :
    Calls Try.prog 17 #[.pointer (some ⟨p, 0, none⟩), .int .i64 (k : Int)] w fun e w' => e = .returned (.tuple #[sStr (lastOf s Q k), .int .i64 0]) ∧ w = w' := by
  obtain ⟨⟨A, c, rfl⟩, A2, c2, rfl⟩ := h.shapes
  obtain ⟨g, cc, hv, hgl, cs⟩ := h.durAt hk
  obtain ⟨rfl, rfl⟩ : A = some ⟨g, 0, none⟩ ∧ c = cc := by injection hv with h1 h2 h3; exact ⟨h1, h3⟩
  have hkl := (List.getElem?_eq_some_iff.1 hk).1
  have hki : (k : Int) < (D.length : Int) := by omega
  have hkn : ¬ (D.length : Int) ≤ (k : Int) := by omega
  have e0 := h.blk.cell 0
  have e1 := h.blk.cell 1
  have e3 := h.blk.cell 3
  have zp := h.blk.lt
  have HR := Lib.hid h
  simp at e0 e1 e3
  unfold sStr at cs
  clear h hv hk
  go_enter Try.func17, Try.ntmps17
  go_wp2_with fail
  go_loopw [6, 7] (fun a i wr => ∃ j : Nat, j ≤ Q.length ∧ i = .int .i64 j ∧ a = sStr (lastOf s (Q.take j) k) ∧ wr = w) (fun _ i _ => Q.length - (intOf i).toNat)
  case atStart => exact ⟨0, Nat.zero_le _, rfl, rfl, rfl⟩
  case round =>
    obtain ⟨j, hj, rfl, rfl, rfl⟩ := hrel
    by_cases hlt : j < Q.length
    · obtain ⟨x, hx⟩ : ∃ x, Q[j]? = some x := ⟨_, List.getElem?_eq_getElem hlt⟩
      obtain ⟨g2, c2', hv, hgl2, q0, q1⟩ := HR.out.pendAt hx
      obtain ⟨rfl, rfl⟩ : A2 = some ⟨g2, 0, none⟩ ∧ c2 = c2' := by injection hv with h1 h2 h3; exact ⟨h1, h3⟩
      have hT : Hid (lastOf s (Q.take (j + 1)) k = if x.1 = k then x.2 else lastOf s (Q.take j) k) := Lib.hid (by rw [List.take_add_one, hx]; exact lastOf_snoc _ _ _ _)
      have hji : (j : Int) < (Q.length : Int) := by omega
      unfold sStr at q1 ⊢
      clear hv hx
      by_cases hxk : x.1 = k
      · have hT2 : Hid (lastOf s (Q.take (j + 1)) k = x.2) := Lib.hid (by rw [hT.out, if_pos hxk])
        rw [hxk] at q0
        clear hxk
        go_wp2_with fail
        go_roundw
        case rel => exact ⟨j + 1, by omega, by go_num, by rw [hT2.out], trivial⟩
        case measure => simp [intOf]; omega
      · have hT2 : Hid (lastOf s (Q.take (j + 1)) k = lastOf s (Q.take j) k) := Lib.hid (by rw [hT.out, if_neg hxk])
        have hne : ((x.1 : Int) == (k : Int)) = false := by simp; omega
        clear hxk
        go_wp2_with fail
        go_roundw
        case rel => exact ⟨j + 1, by omega, by go_num, by rw [hT2.out], trivial⟩
        case measure => simp [intOf]; omega
    · have hTk := Lib.hid (List.take_of_length_le (l := Q) (i := j) (by omega))
      have hji : ¬ (j : Int) < (Q.length : Int) := by omega
      unfold sStr
      go_wp2_with fail
      go_ret2
      exact ⟨by rw [hTk.out]; rfl, rfl⟩
theorem rread_bad (h : RefAt w p vD vQ D Q L dn) (hD : D.length ≤ 65536) (k : Int) (he : secErr dn D.length k ≠ 0) :
    Calls Try.prog 17 #[.pointer (some ⟨p, 0, none⟩), .int .i64 k] w fun e w' => e = .returned (.tuple #[.string ⟨#[]⟩, .int .i64 (secErr dn D.length k)]) ∧ w = w' := by
  obtain ⟨⟨A, c, rfl⟩, A2, c2, rfl⟩ := h.shapes
  have e0 := h.blk.cell 0
  have e3 := h.blk.cell 3
  have zp := h.blk.lt
  simp at e0 e3
  cases dn
  · have hw : withinB k 0 ((D.length : Int) - 1) = false := by
      unfold secErr at he
      cases hq : withinB k 0 ((D.length : Int) - 1)
      · rfl
      · rw [hq] at he; simp at he
    have HE : Hid (secErr false D.length k = 1) := Lib.hid (by unfold secErr; rw [hw]; rfl)
    clear h he
    by_cases h1 : k < 0
    · clear hw
      go_enter Try.func17, Try.ntmps17
      go_wp2_with fail
      go_ret2
      exact ⟨by rw [HE.out]; rfl, rfl⟩
    · have h2 : (D.length : Int) ≤ k := by
        unfold withinB at hw
        simp at hw
        omega
      clear hw
      go_enter Try.func17, Try.ntmps17
      go_wp2_with fail
      go_ret2
      exact ⟨by rw [HE.out]; rfl, rfl⟩
  · have HE : Hid (secErr true D.length k = 70) := Lib.hid rfl
    clear h he
    go_enter Try.func17, Try.ntmps17
    go_wp2_with fail
    go_ret2
    exact ⟨by rw [HE.out]; rfl, rfl⟩
end
end Go.Proofs.Ytoglkeinhpcboaa
