/- The contract of write of a journal. Conditions: the disk, the journal and the blocks lie in memory. -/
import Derived.Test.YthieonekjmdelaaJChain
import Derived.Test.YthieonekjmdelaaDk6
namespace Go.Proofs.Ythieonekjmdelaa
open Go.RowKit

/-- What a disk holds behind k writes of the blocks B from sector u on; nothing was pending before. -/
structure WrK (w0 w : World) (p gs : Nat) (vp0 : Value) (D : List (List Int)) (u : Nat) (B : List (List Int)) (k : Nat) (dn st : Bool) : Prop where
  st : ∃ vp P ca, DiskAt w p gs vp (splice D u (B.take k)) P dn st ca ∧ ChainJ D P (splice D u (B.take k)) ∧ P.length = k ∧ (∀ i x, P[i]? = some x → x.1 = u + i ∧ B[i]? = some x.2.2) ∧ (0 ≤ ca ∧ ca ≤ 9223372036854775807) ∧ (vp.ownBlock = vp0.ownBlock ∨ ∀ i, vp.ownBlock = some i → w0.heap.size ≤ i)
  keep : Keeps (ownD p gs vp0) w0 w
theorem splice_nil {α : Type} (L : List α) (u : Nat) : splice L u [] = L := by unfold splice; simp
theorem cntOf_range (st : Bool) (ca : Int) (h : 0 ≤ ca ∧ ca ≤ 9223372036854775807) : 0 ≤ cntOf st ca ∧ cntOf st ca ≤ 9223372036854775807 := by
  unfold cntOf
  split <;> omega
theorem padB_same {b : List Int} (h : b.length = 64) : padB b = b := by unfold padB; rw [h]; simp
theorem keeps_more {w0 w1 w2 : World} {p gs : Nat} {vp0 vp : Value} (h1 : Keeps (ownD p gs vp0) w0 w1) (h2 : Keeps (ownD p gs vp) w1 w2) (hv : vp.ownBlock = vp0.ownBlock ∨ ∀ i, vp.ownBlock = some i → w0.heap.size ≤ i) : Keeps (ownD p gs vp0) w0 w2 :=
  h1.trans h2 (fun i hi e => by
    rcases e with e | e | e
    · exact .inl e
    · exact .inr (.inl e)
    · rcases hv with hv | hv
      · exact .inr (.inr (by rw [← hv]; exact e))
      · have := hv i e; omega)
set_option maxRecDepth 100000 in
set_option maxHeartbeats 1000000 in
/-- One write: it is pending, or the power fails. -/
theorem write_k {w0 w : World} {p gs : Nat} {vp0 : Value} {D : List (List Int)} {u : Nat} {B : List (List Int)} {k : Nat} {st : Bool} (h : WrK w0 w p gs vp0 D u B k false st) (hD : D.length ≤ 65536) (hDa : ∀ s ∈ D, s.length = 64) (hB : ∀ b ∈ B, b.length = 64) (hl : u + B.length ≤ D.length) (hk : k < B.length) (hBl : B.length ≤ 100000)
    (g o c : Nat) (hr : w.rangeAt g o (cellsB (B.getD k []))) (hg : ¬ ownD p gs vp0 g) (hg0 : g < w0.heap.size) :
    Calls Try.prog 36 #[.pointer (some ⟨p, 0, none⟩), .int .i64 ((u + k : Nat) : Int), .slice (some ⟨g, o, none⟩) 64 c] w fun e w' => ((e = .returned (.int .i64 0) ∧ WrK w0 w' p gs vp0 D u B (k + 1) false st) ∨ (st = true ∧ e = .returned (.int .i64 70) ∧ WrK w0 w' p gs vp0 D u B k true true)) := by
  obtain ⟨⟨vp, P, ca, hDk, hC, hPl, hPx, hca, hv⟩, hK⟩ := h
  obtain ⟨b, hb⟩ : ∃ b, B[k]? = some b := ⟨_, List.getElem?_eq_getElem hk⟩
  have hbl := hB b (List.mem_of_getElem? hb)
  have hgd : B.getD k [] = b := by rw [List.getD_eq_getElem?_getD, hb]; rfl
  rw [hgd] at hr
  have hSl : (splice D u (B.take k)).length = D.length := length_splice _ _ _ (by rw [List.length_take]; omega)
  have htk : (B.take k).length = k := by rw [List.length_take]; omega
  have hold : (splice D u (B.take k))[u + k]? = D[u + k]? := splice_get D u (B.take k) (by rw [htk]; omega) (.inr (by rw [htk]; exact Nat.le_refl _))
  obtain ⟨s, hs⟩ : ∃ s, D[u + k]? = some s := ⟨_, List.getElem?_eq_getElem (by omega)⟩
  have hgn : ¬ ownD p gs vp g := fun e => by
    rcases e with e | e | e
    · exact hg (.inl e)
    · exact hg (.inr (.inl e))
    · rcases hv with hv | hv
      · exact hg (.inr (.inr (by rw [← hv]; exact e)))
      · have := hv g e; omega
  by_cases hf : st = true ∧ ca = 0
  · obtain ⟨rfl, rfl⟩ := hf
    refine (write_stop hDk (by omega) ((u + k : Nat) : Int) (some ⟨g, o, none⟩) 64 c (by unfold secErr withinB; rw [if_neg (by simp), hSl, decide_eq_true (by omega), decide_eq_true (by omega)]; rfl) (by omega)).mono ?_
    rintro e w' ⟨rfl, hD2, hK2⟩
    exact .inr ⟨rfl, rfl, ⟨vp, P, 0, hD2, hC, hPl, hPx, hca, hv⟩, keeps_more hK (hK2.mono (fun i _ e => .inl e)) hv⟩
  · have hne : st = true → ca ≠ 0 := fun h1 h2 => hf ⟨h1, h2⟩
    have hW := write_ok hDk hca hne (by omega) (by omega) (u + k) s (by rw [hold]; exact hs) (some ⟨g, o, none⟩) c b (by omega) (fun _ => ⟨g, o, rfl, hr, hgn⟩)
    rw [hbl, padB_same hbl] at hW
    refine hW.mono ?_
    rintro e w' ⟨rfl, ⟨vp', hD2, hv2⟩, hK2⟩
    refine .inl ⟨rfl, ⟨vp', P ++ [(u + k, s, b)], cntOf st ca, ?_, ?_, by rw [List.length_append, hPl]; rfl, fun i x hx => ?_, cntOf_range st ca hca, ?_⟩, keeps_more hK hK2 hv⟩
    · rw [splice_at D u B hb (by omega)]
      exact hD2
    · rw [splice_at D u B hb (by omega)]
      exact ChainJ.snoc P _ (u + k, s, b) hC (by rw [hold]; exact hs)
    · by_cases hi : i < P.length
      · rw [List.getElem?_append_left hi] at hx
        exact hPx i x hx
      · have hi2 : i = k := by
          have := (List.getElem?_eq_some_iff.1 hx).1
          simp at this
          omega
        subst hi2
        rw [List.getElem?_append_right (by omega), hPl] at hx
        simp at hx
        subst hx
        exact ⟨rfl, hb⟩
    · rcases hv2 with e | e
      · rw [e]; exact hv
      · exact .inr (fun i hi => by have := e i hi; have := hK.size; omega)
theorem WrK.drew {w0 w : World} {p gs : Nat} {vp0 : Value} {D : List (List Int)} {u : Nat} {B : List (List Int)} {k : Nat} {dn st : Bool} (h : WrK w0 w p gs vp0 D u B k dn st) : WrK w0 w.drew p gs vp0 D u B k dn st := by
  obtain ⟨⟨vp, P, ca, h1, h2⟩, hK⟩ := h
  exact ⟨⟨vp, P, ca, h1.below (Below.refl _ _).drew, h2⟩, hK.drew⟩
theorem flush_k {w0 w : World} {p gs : Nat} {vp0 : Value} {D : List (List Int)} {u : Nat} {B : List (List Int)} {st : Bool} (h : WrK w0 w p gs vp0 D u B B.length false st) :
    Calls Try.prog 25 #[.pointer (some ⟨p, 0, none⟩)] w fun e w' => ((e = .returned (.int .i64 0) ∧ (∃ vp' ca', DiskAt w' p gs vp' (splice D u B) [] false st ca' ∧ (0 ≤ ca' ∧ ca' ≤ 9223372036854775807) ∧ (vp'.ownBlock = vp0.ownBlock ∨ ∀ i, vp'.ownBlock = some i → w0.heap.size ≤ i)) ∧ Keeps (ownD p gs vp0) w0 w') ∨ (st = true ∧ e = .returned (.int .i64 70) ∧ WrK w0 w' p gs vp0 D u B B.length true true)) := by
  obtain ⟨⟨vp, P, ca, hDk, hC, hPl, hPx, hca, hv⟩, hK⟩ := h
  have ht : B.take B.length = B := List.take_length
  by_cases hf : st = true ∧ ca = 0
  · obtain ⟨rfl, rfl⟩ := hf
    refine (flush_stop hDk).mono ?_
    rintro e w' ⟨rfl, hD2, hK2⟩
    exact .inr ⟨rfl, rfl, ⟨vp, P, 0, hD2, hC, hPl, hPx, hca, hv⟩, keeps_more hK (hK2.mono (fun i _ e => .inl e)) hv⟩
  · refine (flush_ok hDk hca (fun h1 h2 => hf ⟨h1, h2⟩)).mono ?_
    rintro e w' ⟨rfl, hD2, hK2⟩
    rw [ht] at hD2
    exact .inl ⟨rfl, ⟨_, _, hD2, cntOf_range st ca hca, .inr (fun i hi => by simp [Value.ownBlock] at hi)⟩, keeps_more hK (hK2.mono (fun i _ e => .inl e)) hv⟩
set_option maxRecDepth 100000 in
set_option maxHeartbeats 1000000 in
theorem jwrite_any {w : World} {p gs jb u0 n0 : Nat} {vp : Value} {D : List (List Int)} {st : Bool} {ca : Int} (h : DiskAt w p gs vp D [] false st ca) (hca : 0 ≤ ca ∧ ca ≤ 9223372036854775807) (hD : D.length ≤ 65536) (hj : JAt w jb p u0 n0) (hjn : ¬ ownD p gs vp jb)
    (u : Nat) (B : List (List Int)) (hB : ∀ b ∈ B, b.length = 64) (hl : u + B.length ≤ D.length) (hBl : B.length ≤ 100000) (A : Option Addr) (c : Nat) (hc : B.length ≤ c) (hA : 0 < B.length → ∃ g o, A = some ⟨g, o, none⟩ ∧ w.rangeAt g o (B.flatMap cellsB) ∧ ¬ ownD p gs vp g) :
    Calls Try.prog 35 #[.pointer (some ⟨jb, 0, none⟩), .int .i64 (u : Int), .slice A B.length c] w fun e w' =>
      ((e = .returned (.int .i64 0) ∧ ∃ vp' ca', DiskAt w' p gs vp' (splice D u B) [] false st ca' ∧ (0 ≤ ca' ∧ ca' ≤ 9223372036854775807) ∧ (vp'.ownBlock = vp.ownBlock ∨ ∀ i, vp'.ownBlock = some i → w.heap.size ≤ i)) ∨ (st = true ∧ e = .returned (.int .i64 70) ∧ ∃ k, k ≤ B.length ∧ WrK w w' p gs vp D u B k true true)) ∧ Keeps (ownD p gs vp) w w' := by
  have hW0 : WrK w w p gs vp D u B 0 false st := ⟨⟨vp, [], ca, by rw [List.take_zero, splice_nil]; exact h, by rw [List.take_zero, splice_nil]; exact .nil, rfl, fun i x hx => by simp at hx, hca, .inl rfl⟩, Keeps.refl _ _⟩
  have HW0 := Lib.hid hW0
  have HDa := Lib.hid h.all
  have j0 := hj.cell 0
  have jl := hj.lt
  simp at j0
  go_enter Try.func35, Try.ntmps35
  go_wp2_with fail
  go_loopw [11] (fun i wr => ∃ k : Nat, k ≤ B.length ∧ i = .int .i64 k ∧ WrK w wr p gs vp D u B k false st) (fun i _ => B.length - (intOf i).toNat)
  case atStart => exact ⟨0, Nat.zero_le _, rfl, HW0.out⟩
  case round =>
    obtain ⟨k, hk, rfl, hWk⟩ := hrel
    have HWk := Lib.hid hWk
    have jr := (hWk.keep.cell (b := jb) (o := 0) jl hjn).trans j0
    have jrl : jb < wr.heap.size := by have := hWk.keep.size; omega
    clear hWk
    by_cases hlt : k < B.length
    · have hki : (k : Int) < (B.length : Int) := by omega
      obtain ⟨g, o, rfl, hr, hg⟩ := hA (by omega)
      go_upto_region 4 with fail
      refine wp_region_still_tail 11 (by kernel_rfl) (by kernel_rfl) ?_
      simp only [List.take_succ_cons, List.take_zero, List.drop_succ_cons, List.drop_zero]
      change wpStill _ _ wr.drew _ _ _
      have jrd : wr.drew.cell? ⟨jb, 0, none⟩ = some (.pointer (some ⟨p, 0, none⟩)) := jr
      have jrdl : jb < wr.drew.heap.size := jrl
      obtain ⟨b, hb⟩ : ∃ b, B[k]? = some b := ⟨_, List.getElem?_eq_getElem hlt⟩
      have hbl := hB b (List.mem_of_getElem? hb)
      have hgd : B.getD k [] = b := by rw [List.getD_eq_getElem?_getD, hb]; rfl
      have hg0 : g < w.heap.size := by
        have h1 : (B.flatMap cellsB)[k * 64]? = (cellsB b)[0]? := flat_at hB hb (j := 0) (by omega)
        rw [show (cellsB b)[0]? = some (.int .u8 b[0]) by unfold cellsB; rw [List.getElem?_map, List.getElem?_eq_getElem (by omega)]; rfl] at h1
        exact World.block_lt_of_cell? w _ (hr _ _ h1)
      have hrb : wr.drew.rangeAt g (o + k * 64) (cellsB (B.getD k [])) := fun j v hv => by
        rw [hgd] at hv
        have hj64 : j < 64 := by
          have := (List.getElem?_eq_some_iff.1 hv).1
          rw [cellsB_len, hbl] at this
          exact this
        have h1 := hr (k * 64 + j) v (by rw [flat_at hB hb hj64]; exact hv)
        rw [Nat.add_assoc]
        exact (HWk.out.keep.drew.cell (b := g) (o := o + (k * 64 + j)) hg0 hg).trans h1
      have HWR := Lib.hid (write_k HWk.out.drew hD HDa.out hB hl hlt hBl g (o + k * 64) 64 hrb hg hg0)
      rw [Int.natCast_add] at HWR
      have hwj : IntKind.i64.wrap ((u : Int) + (k : Int)) = (u : Int) + (k : Int) := wrap64_id _ (by omega) (by omega)
      have hkl : k < B.length := hlt
      clear hr hg hb hbl hgd hrb HWk jr jrl
      iterate 11 still_step
      refine wpStill_nil ?_
      change wpList _ _ _ _ _ wr.drew
      go_wp2_with fail
      refine HWR.out.mono ?_
      rintro e w2 (⟨rfl, hW2⟩ | ⟨rfl, rfl, hW2⟩)
      · have HW2 := Lib.hid hW2
        clear hW2 HWR
        go_wp2_with fail
        go_roundw
        case rel => exact ⟨k + 1, by omega, by go_num, HW2.out⟩
        case measure => simp [intOf]; omega
      · have HW2 := Lib.hid hW2
        clear hW2 HWR
        go_wp2_with fail
        go_ret
        exact ⟨.inr ⟨rfl, k, by omega, HW2.out⟩, HW2.out.keep⟩
    · have hki : ¬ (k : Int) < (B.length : Int) := by omega
      obtain rfl : k = B.length := by omega
      by_cases hn : B.length = 0
      · have hB0 : B = [] := List.eq_nil_of_length_eq_zero hn
        subst hB0
        have HF : Hid ((∃ vp' ca', DiskAt wr p gs vp' (splice D u []) [] false st ca' ∧ (0 ≤ ca' ∧ ca' ≤ 9223372036854775807) ∧ (vp'.ownBlock = vp.ownBlock ∨ ∀ i, vp'.ownBlock = some i → w.heap.size ≤ i)) ∧ Keeps (ownD p gs vp) w wr) := Lib.hid (by
          obtain ⟨⟨vp', P', ca', h1, h2, h3, h4, h5, h6⟩, h7⟩ := HWk.out
          obtain rfl : P' = [] := List.eq_nil_of_length_eq_zero h3
          exact ⟨⟨vp', ca', h1, h5, h6⟩, h7⟩)
        clear HWk
        go_wp2_with fail
        go_ret
        exact ⟨.inl ⟨rfl, HF.out.1⟩, HF.out.2⟩
      · have hni : ¬ (B.length : Int) = 0 := by omega
        have hni2 : ((B.length : Int) == 0) = false := by simpa using hn
        have hni3 : ¬ B = [] := fun e => hn (by rw [e]; rfl)
        have HFL := Lib.hid (flush_k HWk.out)
        clear HWk
        go_wp2_with fail
        refine HFL.out.mono ?_
        rintro e w2 (⟨rfl, hW2⟩ | ⟨rfl, rfl, hW2⟩)
        · have HW2 := Lib.hid hW2
          clear hW2 HFL
          go_wp2_with fail
          go_ret
          exact ⟨.inl ⟨rfl, HW2.out.1⟩, HW2.out.2⟩
        · have HW2 := Lib.hid hW2
          clear hW2 HFL
          go_wp2_with fail
          go_ret
          exact ⟨.inr ⟨rfl, B.length, Nat.le_refl _, HW2.out⟩, HW2.out.keep⟩
end Go.Proofs.Ythieonekjmdelaa
