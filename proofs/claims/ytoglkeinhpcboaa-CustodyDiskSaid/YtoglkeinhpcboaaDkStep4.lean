/- The contract of step at Write. Conditions: the disk and its reference lie in memory; so do the bytes. -/
import Derived.Test.YtoglkeinhpcboaaDkStep3
import Derived.Test.YtoglkeinhpcboaaTorn
import Derived.Deep.RegionHeld3
namespace Go.Proofs.Ytoglkeinhpcboaa
open Go.RowKit

theorem conv_any {w : World} {A : Option Addr} {l : List Int} (h : BytesAt w A l) (c : Nat) : (convert 33 9 (.slice A l.length c)).run Try.prog w = .ok (.string (strOfNums l)) w := by
  by_cases h0 : 0 < l.length
  · obtain ⟨g, o, rfl, hr⟩ := h h0
    exact run_convert_bytes_arg (P := Try.prog) w 33 5 rowU8 u8Int g o l.length c l rfl (fun i hi => hr i _ (by unfold cellsB; rw [List.getElem?_map, List.getD_eq_getElem?_getD, List.getElem?_eq_getElem hi]; rfl)) 9 strDesc
  · obtain rfl : l = [] := List.eq_nil_of_length_eq_zero (by omega)
    cases A with
    | none => exact run_convert_bytes_nil (P := Try.prog) w 33 5 rowU8 u8Int 0 c 9 strDesc
    | some ad =>
      have h1 : (loadCells ad 0).run Try.prog w = .ok (([] : List Int).map (Value.int .u8)).toArray w := by simp [loadCells, loadCellsFrom]
      have h2 := run_convert_bytes_string (P := Try.prog) w 33 9 5 (some ad) 0 c rowU8 u8Int strDesc
      exact h2.trans (run_bytesToString w ad 0 c [] h1)
/-- The bytes of a slice lie below B. -/
def BytesIn (w : World) (B : Nat) (A : Option Addr) (b : List Int) : Prop := BytesAt w A b ∧ (0 < b.length → ∀ g o, A = some ⟨g, o, none⟩ → g < B)
theorem BytesIn.below {w w' : World} {B : Nat} {A : Option Addr} {b : List Int} (h : BytesIn w B A b) (hb : Below B w w') (hB : B ≤ w.heap.size) : BytesIn w' B A b := ⟨fun h0 => by
  obtain ⟨g, o, h1, h2⟩ := h.1 h0
  have h3 := h.2 h0 g o h1
  exact ⟨g, o, h1, fun j v hv => ((Keeps.of_below (S := fun i => B ≤ i) hb (fun k h1 _ => h1)).cell (by omega) (by omega)).trans (h2 j v hv)⟩, h.2⟩

theorem Pair.wrote {B m N : Nat} {w w2 w3 : World} {p q gs : Nat} {vp vD vQ v2 v3 : Value} {S S' : List (List Int)} {P P' : List PW} {D : List (List Int)} {dn dn' st st' : Bool} {ca ca' L L' : Int} (h : Pair B m N w p q gs vp vD vQ S P D dn st ca L) (hBw : B ≤ w.heap.size) (hz : w.heap.size ≤ w2.heap.size)
    (hD2 : DiskAt w2 p gs v2 S' P' dn' st' ca') (hD3 : DiskAt w3 p gs v2 S' P' dn' st' ca') (hR3 : RefAt w3 q vD v3 D (putsOf P') L' dn') (hc : Chain D P' S') (hl : leftSame st' ca' L') (hP : P'.length ≤ P.length + 1)
    (hv2 : v2.ownBlock = vp.ownBlock ∨ ∀ i, v2.ownBlock = some i → w.heap.size ≤ i) (hv3 : v3.ownBlock = vQ.ownBlock ∨ ∀ i, v3.ownBlock = some i → w2.heap.size ≤ i) : Both B (m + 1) N w3 p q dn' := by
  have r1 := h.ref.blk.lt
  have r2 := World.ownsRow.lt h.ref.dur
  have r3 := World.ownsRow.lt h.ref.pend
  have d1 := hD2.blk.lt
  have d2 := hD2.sec.lt
  have d3 := World.ownsRow.lt hD2.pend
  have hR : ∀ i, ownR q vD vQ i → i < w.heap.size := fun i hi => by
    rcases hi with e | e | e
    · omega
    · exact (r2 i e).2
    · exact (r3 i e).2
  have hDl : ∀ i, ownD p gs v2 i → i < w2.heap.size := fun i hi => by
    rcases hi with e | e | e
    · omega
    · omega
    · exact (d3 i e).2
  have hp : ∀ i, ownD p gs v2 i → ownD p gs vp i ∨ w.heap.size ≤ i := fun i hi => by
    rcases hi with e | e | e
    · exact .inl (.inl e)
    · exact .inl (.inr (.inl e))
    · rcases hv2 with f | f
      · exact .inl (.inr (.inr (f ▸ e)))
      · exact .inr (f i e)
  have hq : ∀ i, ownR q vD v3 i → ownR q vD vQ i ∨ w2.heap.size ≤ i := fun i hi => by
    rcases hi with e | e | e
    · exact .inl (.inl e)
    · exact .inl (.inr (.inl e))
    · rcases hv3 with f | f
      · exact .inl (.inr (.inr (f ▸ e)))
      · exact .inr (f i e)
  refine ⟨gs, v2, vD, v3, S', P', D, st', ca', L', hD3, hR3, hc, hl, h.len, h.room, by have := h.few; omega, fun i h1 h2 => ?_, fun i h1 => ?_, fun i h1 => ?_⟩
  · rcases hq i h2 with f | f
    · rcases hp i h1 with e | e
      · exact h.apart i e f
      · have := hR i f; omega
    · have := hDl i h1; omega
  · rcases hp i h1 with e | e
    · exact h.base1 i e
    · omega
  · rcases hq i h1 with e | e
    · exact h.base2 i e
    · omega
set_option maxRecDepth 100000 in
set_option maxHeartbeats 4000000 in
theorem step_write {B m N : Nat} {w : World} {p q : Nat} {dn : Bool} (hB : Both B m N w p q dn) (hm : m ≤ 1000) (hBw : B ≤ w.heap.size) (kind sector n : Int) (hkind : kind.tmod 5 = 1) (u4 : Value) (dA : Option Addr) (dc : Nat) (b : List Int) (hb : b.length ≤ 200) (hbm : BytesIn w B dA b) :
    Calls Try.prog 9 #[.pointer (some ⟨p, 0, none⟩), .pointer (some ⟨q, 0, none⟩), .agg #[.int .u8 kind, .int .i64 sector, .slice dA b.length dc, .int .i64 n, u4]] w (StepTo B m N w p q) := by
  obtain ⟨gs, vp, vD, vQ, S, P, D, st, ca, L, h0⟩ := hB
  have hA : Below w.heap.size w (w.alloc (.cells #[.int .u8 kind, .int .i64 sector, .slice dA b.length dc, .int .i64 n, u4] 36)) := below_al (Below.refl _ _) _
  have h : Pair B m N (w.alloc (.cells #[.int .u8 kind, .int .i64 sector, .slice dA b.length dc, .int .i64 n, u4] 36)) p q gs vp vD vQ S P D dn st ca L := ⟨h0.disk.below hA, h0.ref.below hA, h0.chain, h0.left, h0.len, h0.room, h0.few, h0.apart, h0.base1, h0.base2⟩
  have hBa : Below B w (w.alloc (.cells #[.int .u8 kind, .int .i64 sector, .slice dA b.length dc, .int .i64 n, u4] 36)) := hA.mono hBw
  have hBs : B ≤ (w.alloc (.cells #[.int .u8 kind, .int .i64 sector, .slice dA b.length dc, .int .i64 n, u4] 36)).heap.size := by simp; omega
  have HH := Lib.hid h
  have HBa := Lib.hid hBa
  have HBs := Lib.hid hBs
  have HBM := Lib.hid (hbm.below hBa hBw)
  have HKB := Lib.hid (Blk.new w 36 #[.int .u8 kind, .int .i64 sector, .slice dA b.length dc, .int .i64 n, u4])
  have hp := h0.disk.blk.lt
  have hgs := h0.disk.sec.lt
  have hsl := h0.slen
  have hvl := Lib.hid (World.ownsRow.lt h0.disk.pend)
  have hnb : ∀ i, ownR q vD vQ i → i ≠ w.heap.size := fun i hi => by
    rcases hi with e | e | e
    · have := h0.ref.blk.lt; omega
    · have := (World.ownsRow.lt h0.ref.dur i e).2; omega
    · have := (World.ownsRow.lt h0.ref.pend i e).2; omega
  have HNB := Lib.hid hnb
  clear hnb
  clear h0 hA h hBa hBs hbm
  go_enter Try.func9, Try.ntmps9
  go_upto_region 7 with fail
  generalize w.alloc (.cells #[.int .u8 kind, .int .i64 sector, .slice dA b.length dc, .int .i64 n, u4] 36) = W1 at HH HBa HBs HKB HBM ⊢
  have b1 := HKB.out.drew.cell 1
  have b2 := HKB.out.drew.cell 2
  have zb := HKB.out.lt
  simp at b1 b2
  have hDd := HH.out.disk.below (w' := W1.drew) (Below.refl _ _).drew
  have hRd := HH.out.ref.below (w' := W1.drew) (Below.refl _ _).drew
  have hcv := conv_any (HBM.out.below (w' := W1.drew) (Below.refl _ _).drew HBs.out).1 dc
  have hroom := HH.out.room
  have hlenD := HH.out.len
  by_cases he : secErr dn N sector = 0
  · obtain ⟨rfl, q1, q2⟩ := secErr_zero he
    obtain ⟨k, rfl⟩ : ∃ k : Nat, sector = (k : Int) := ⟨sector.toNat, by omega⟩
    by_cases hbl : b.length ≤ 64
    · by_cases hne : st = true → ca ≠ 0
      · obtain ⟨l1, l2, l3⟩ := left_ne HH.out.left hne
        obtain ⟨s, hs⟩ : ∃ s, S[k]? = some s := ⟨_, List.getElem?_eq_getElem (by omega)⟩
        have K1 := Lib.hid (write_ok hDd ⟨HH.out.left.1, HH.out.left.2.1⟩ hne (by omega) (by have := HH.out.few; omega) k s hs dA dc b hbl (fun h0 => by
          have hx := HBM.out.below (w' := W1.drew) (Below.refl _ _).drew HBs.out
          obtain ⟨g, o, e1, e2⟩ := hx.1 h0
          exact ⟨g, o, e1, e2, fun e => by have := HH.out.base1 g e; have := hx.2 h0 g o e1; omega⟩))
        have HSW : Hid (∀ W2, Keeps (fun i => B ≤ i ∧ i ≠ w.heap.size) W1.drew W2 → W2.cell? ⟨w.heap.size, 1, none⟩ = some (.int .i64 (k : Int)) ∧ W2.cell? ⟨w.heap.size, 2, none⟩ = some (.slice dA b.length dc) ∧ (convert 33 9 (.slice dA b.length dc)).run Try.prog W2 = .ok (.string (strOfNums b)) W2) := Lib.hid (fun W2 hK => ⟨(HKB.out.drew.keep hK (fun e => e.2 rfl)).cell 1, (HKB.out.drew.keep hK (fun e => e.2 rfl)).cell 2, (conv_any ((HBM.out.below (w' := W1.drew) (Below.refl _ _).drew HBs.out).below (w' := W2) (hK.below (fun i h1 h2 => by have := h2.1; omega) (by exact HBs.out)) (by exact HBs.out)).1 dc)⟩)
        have HRd := Lib.hid hRd
        have HSk := Lib.hid hs
        have HL := Lib.hid (left_step HH.out.left hne)
        have HNE1 : Hid (∀ i, ownD p gs vp i → B ≤ i ∧ i ≠ w.heap.size) := Lib.hid (fun i hi => ⟨HH.out.base1 i hi, by
          rcases hi with e | e | e
          · omega
          · omega
          · have := (hvl.out i e).2; omega⟩)
        have hrl : ∀ i, ownR q vD vQ i → B ≤ i ∧ i ≠ w.heap.size := fun i hi => ⟨HH.out.base2 i hi, HNB.out i hi⟩
        have HNE2 := Lib.hid hrl
        clear hDd hRd he hs hne hrl
        go_region_held3 (fun W => W.cell? ⟨w.heap.size, 1, none⟩ = some (.int .i64 (k : Int)) ∧ W.cell? ⟨w.heap.size, 2, none⟩ = some (.slice dA b.length dc) ∧ (convert 33 9 (.slice dA b.length dc)).run Try.prog W = .ok (.string (strOfNums b)) W) (first | exact ⟨b1, b2, hcv⟩ | exact hS2 | exact hS3) (first
          | (go_at_call 11; refine K1.out.mono ?_; rintro e W2 ⟨rfl, hw2, hK2⟩; have hS2 := HSW.out W2 (hK2.mono (fun i _ e => HNE1.out i e)); have HW2 := Lib.hid hw2; have HK2 := Lib.hid hK2; have hx1 := hS2.1; have hx2 := hS2.2.1; have hx3 := hS2.2.2; clear hw2 hK2)
          | (go_at_call 18; refine (rwrite_ok (HRd.out.keep HK2.out (fun i f1 f2 => HH.out.apart i f2 f1)) l1 ⟨l2, l3⟩ (by omega) (by unfold putsOf; rw [List.length_map]; have := HH.out.few; omega) k (by omega) b hbl).mono ?_; rintro e W3 ⟨rfl, hw3, hK3⟩; have hS3 := HSW.out W3 ((HK2.out.mono (fun i _ e => HNE1.out i e)).trans hK3 (fun i _ e => HNE2.out i e)); have HW3 := Lib.hid hw3; have HK3 := Lib.hid hK3; clear hw3 hK3))
        all_goals
          obtain ⟨v2, hD2, hv2⟩ := HW2.out
          obtain ⟨v3, hR3, hv3⟩ := HW3.out
          have hz2 : W1.drew.heap.size ≤ W2.heap.size := HK2.out.size
          have hap2 : ∀ i, ownD p gs v2 i → ¬ ownR q vD vQ i := fun i f1 f2 => by
            have hri : i < W1.heap.size := by
              rcases f2 with e | e | e
              · have := HH.out.ref.blk.lt; omega
              · exact (World.ownsRow.lt HH.out.ref.dur i e).2
              · exact (World.ownsRow.lt HH.out.ref.pend i e).2
            rcases f1 with e | e | e
            · exact HH.out.apart i (.inl e) f2
            · exact HH.out.apart i (.inr (.inl e)) f2
            · rcases hv2 with f | f
              · exact HH.out.apart i (.inr (.inr (f ▸ e))) f2
              · have := f i e; have h5 : W1.drew.heap.size = W1.heap.size := rfl; omega
          have HF : Hid (Both B (m + 1) N W3 p q false) := Lib.hid (HH.out.wrote HBs.out hz2 hD2 (hD2.keep HK3.out hap2) (P' := P ++ [(k, s, padB b)]) (by rw [putsOf_snoc]; exact hR3) (.snoc _ _ (k, s, padB b) HH.out.chain HSk.out) HL.out (by simp) hv2 hv3)
          have HBB := Lib.hid ((HBa.out.drew.trans (HK2.out.below (fun i hi e => by have := HH.out.base1 i e; omega) HBs.out)).trans (HK3.out.below (fun i hi e => by have := HH.out.base2 i e; omega) (by have := HBs.out; have h5 : W1.drew.heap.size = W1.heap.size := rfl; omega)))
          clear hD2 hv2 hR3 hv3 hap2
          go_wp2_with fail
          go_ret
          exact ⟨by first | rfl | simp, ⟨_, HF.out⟩, HBB.out⟩
      · have hst : st = true ∧ ca = 0 := by
          cases st
          · exact absurd (fun h => by cases h) hne
          · exact ⟨rfl, Classical.byContradiction (fun hc => hne (fun _ => hc))⟩
        obtain ⟨rfl, rfl⟩ := hst
        have hL0 : L = 0 := by have := HH.out.left.2.2; simpa using this
        subst hL0
        have K1 := Lib.hid (write_stop hDd (by omega) (k : Int) dA b.length dc (by rw [hsl]; exact he) hbl)
        have HRd := Lib.hid hRd
        have hbx : (strOfNums b).size ≤ 64 := by rw [str_size]; exact hbl
        have HE := Lib.hid he
        have HSW : Hid (∀ W2, Keeps (fun i => B ≤ i ∧ i ≠ w.heap.size) W1.drew W2 → W2.cell? ⟨w.heap.size, 1, none⟩ = some (.int .i64 (k : Int)) ∧ W2.cell? ⟨w.heap.size, 2, none⟩ = some (.slice dA b.length dc) ∧ (convert 33 9 (.slice dA b.length dc)).run Try.prog W2 = .ok (.string (strOfNums b)) W2) := Lib.hid (fun W2 hK => ⟨(HKB.out.drew.keep hK (fun e => e.2 rfl)).cell 1, (HKB.out.drew.keep hK (fun e => e.2 rfl)).cell 2, (conv_any ((HBM.out.below (w' := W1.drew) (Below.refl _ _).drew HBs.out).below (w' := W2) (hK.below (fun i h1 h2 => by have := h2.1; omega) (by exact HBs.out)) (by exact HBs.out)).1 dc)⟩)
        have HNE1 : Hid (∀ i, i = p → B ≤ i ∧ i ≠ w.heap.size) := Lib.hid (fun i hi => ⟨HH.out.base1 i (.inl hi), by omega⟩)
        have HNE2 : Hid (∀ i, i = q → B ≤ i ∧ i ≠ w.heap.size) := Lib.hid (fun i hi => ⟨HH.out.base2 i (.inl hi), HNB.out i (.inl hi)⟩)
        clear hDd hRd he hne
        go_region_held3 (fun W => W.cell? ⟨w.heap.size, 1, none⟩ = some (.int .i64 (k : Int)) ∧ W.cell? ⟨w.heap.size, 2, none⟩ = some (.slice dA b.length dc) ∧ (convert 33 9 (.slice dA b.length dc)).run Try.prog W = .ok (.string (strOfNums b)) W) (first | exact ⟨b1, b2, hcv⟩ | exact hS2 | exact hS3) (first
          | (go_at_call 11; refine K1.out.mono ?_; rintro e W2 ⟨rfl, hw2, hK2⟩; have hS2 := HSW.out W2 (hK2.mono (fun i _ e => HNE1.out i e)); have HW2 := Lib.hid hw2; have HK2 := Lib.hid hK2; have hx1 := hS2.1; have hx2 := hS2.2.1; have hx3 := hS2.2.2; clear hw2 hK2)
          | (go_at_call 18; refine (rwrite_stop (HRd.out.keep HK2.out (fun i f1 f2 => HH.out.apart i (.inl f2) f1)) (by omega) (k : Int) (strOfNums b) (by rw [hlenD]; exact HE.out) hbx).mono ?_; rintro e W3 ⟨rfl, hw3, hK3⟩; have hS3 := HSW.out W3 ((HK2.out.mono (fun i _ e => HNE1.out i e)).trans hK3 (fun i _ e => HNE2.out i e)); have HW3 := Lib.hid hw3; have HK3 := Lib.hid hK3; clear hw3 hK3))
        all_goals
          have HF : Hid (Both B (m + 1) N W3 p q true) := Lib.hid (HH.out.done (HW2.out.keep HK3.out (fun i f1 f2 => HH.out.apart i f1 (.inl f2))) HW3.out HH.out.chain HH.out.left rfl (by omega) (.inl rfl) (.inl rfl))
          have hz2 : W1.drew.heap.size ≤ W2.heap.size := HK2.out.size
          have HBB := Lib.hid ((HBa.out.drew.trans (HK2.out.below (fun i hi e => by have := HH.out.base1 i (.inl e); omega) HBs.out)).trans (HK3.out.below (fun i hi e => by have := HH.out.base2 i (.inl e); omega) (by have := HBs.out; have h5 : W1.drew.heap.size = W1.heap.size := rfl; omega)))
          go_wp2_with fail
          go_ret
          exact ⟨by first | rfl | simp, ⟨_, HF.out⟩, HBB.out⟩
    · have K1 := Lib.hid (write_long hDd (by omega) (k : Int) dA b.length dc (by rw [hsl]; exact he) (by omega))
      have K2 := Lib.hid (rwrite_long hRd (by omega) (k : Int) (strOfNums b) (by rw [hlenD]; exact he) (by rw [str_size]; omega))
      have HF : Hid (Both B (m + 1) N W1.drew p q false) := Lib.hid (HH.out.done hDd hRd HH.out.chain HH.out.left rfl (by omega) (.inl rfl) (.inl rfl))
      clear hDd hRd he
      go_region_held3 (fun W => W.cell? ⟨w.heap.size, 1, none⟩ = some (.int .i64 (k : Int)) ∧ W.cell? ⟨w.heap.size, 2, none⟩ = some (.slice dA b.length dc) ∧ (convert 33 9 (.slice dA b.length dc)).run Try.prog W = .ok (.string (strOfNums b)) W) (exact ⟨b1, b2, hcv⟩) (first
        | (go_at_call 11; refine K1.out.mono ?_; rintro e W2 ⟨rfl, rfl⟩)
        | (go_at_call 18; refine K2.out.mono ?_; rintro e W3 ⟨rfl, rfl⟩))
      all_goals
        go_wp2_with fail
        go_ret
        exact ⟨by first | rfl | simp, ⟨_, HF.out⟩, HBa.out.drew⟩
  · have K1 := Lib.hid (write_bad hDd (by omega) sector dA b.length dc (by rw [hsl]; exact he))
    have K2 := Lib.hid (rwrite_bad hRd (by omega) sector (strOfNums b) (by rw [hlenD]; exact he))
    rw [hsl] at K1
    rw [hlenD] at K2
    have HF : Hid (Both B (m + 1) N W1.drew p q dn) := Lib.hid (HH.out.done hDd hRd HH.out.chain HH.out.left rfl (by omega) (.inl rfl) (.inl rfl))
    generalize secErr dn N sector = x at K1 K2
    clear hDd hRd he
    go_region_held3 (fun W => W.cell? ⟨w.heap.size, 1, none⟩ = some (.int .i64 sector) ∧ W.cell? ⟨w.heap.size, 2, none⟩ = some (.slice dA b.length dc) ∧ (convert 33 9 (.slice dA b.length dc)).run Try.prog W = .ok (.string (strOfNums b)) W) (exact ⟨b1, b2, hcv⟩) (first
      | (go_at_call 11; refine K1.out.mono ?_; rintro e W2 ⟨rfl, rfl⟩)
      | (go_at_call 18; refine K2.out.mono ?_; rintro e W3 ⟨rfl, rfl⟩))
    all_goals
      go_wp2_with fail
      go_ret
      exact ⟨by first | rfl | simp, ⟨_, HF.out⟩, HBa.out.drew⟩
end Go.Proofs.Ytoglkeinhpcboaa
