/- The contract of step at Stop. Conditions: the disk and its reference lie in memory. -/
import Derived.Test.YtoglkeinhpcboaaDkStep2
import Derived.Deep.RegionLaw
namespace Go.Proofs.Ytoglkeinhpcboaa
open Go.RowKit

set_option maxRecDepth 100000 in
set_option maxHeartbeats 2000000 in
theorem step_stop {B m N : Nat} {w : World} {p q : Nat} {dn : Bool} (hB : Both B m N w p q dn) (hBw : B ≤ w.heap.size) (kind sector n : Int) (hn : -9223372036854775808 ≤ n ∧ n ≤ 9223372036854775807) (hkind : kind.tmod 5 = 3) (u2 u4 : Value) :
    Calls Try.prog 9 #[.pointer (some ⟨p, 0, none⟩), .pointer (some ⟨q, 0, none⟩), .agg #[.int .u8 kind, .int .i64 sector, u2, .int .i64 n, u4]] w (StepTo B m N w p q) := by
  obtain ⟨gs, vp, vD, vQ, S, P, D, st, ca, L, h0⟩ := hB
  have hA : Below w.heap.size w (w.alloc (.cells #[.int .u8 kind, .int .i64 sector, u2, .int .i64 n, u4] 36)) := below_al (Below.refl _ _) _
  have h : Pair B m N (w.alloc (.cells #[.int .u8 kind, .int .i64 sector, u2, .int .i64 n, u4] 36)) p q gs vp vD vQ S P D dn st ca L := ⟨h0.disk.below hA, h0.ref.below hA, h0.chain, h0.left, h0.len, h0.room, h0.few, h0.apart, h0.base1, h0.base2⟩
  have hBa : Below B w (w.alloc (.cells #[.int .u8 kind, .int .i64 sector, u2, .int .i64 n, u4] 36)) := hA.mono hBw
  have hBs : B ≤ (w.alloc (.cells #[.int .u8 kind, .int .i64 sector, u2, .int .i64 n, u4] 36)).heap.size := by simp; omega
  have HH := Lib.hid h
  have HBa := Lib.hid hBa
  have HBs := Lib.hid hBs
  have HKB := Lib.hid (Blk.new w 36 #[.int .u8 kind, .int .i64 sector, u2, .int .i64 n, u4])
  have hp := h0.disk.blk.lt
  clear h0 hA h hBa hBs
  go_enter Try.func9, Try.ntmps9
  go_upto_region 11 with fail
  generalize w.alloc (.cells #[.int .u8 kind, .int .i64 sector, u2, .int .i64 n, u4] 36) = W1 at HH HBa HBs HKB ⊢
  have b3 := HKB.out.drew.cell 3
  have zb := HKB.out.lt
  simp at b3
  have hDd := HH.out.disk.below (w' := W1.drew) (Below.refl _ _).drew
  have hRd := HH.out.ref.below (w' := W1.drew) (Below.refl _ _).drew
  cases dn
  · by_cases hn0 : n < 0
    · have K1 := Lib.hid (stop_neg hDd n hn0)
      have K2 := Lib.hid (rstop_neg hRd n hn0)
      have HF : Hid (Both B (m + 1) N W1.drew p q false) := Lib.hid (HH.out.done hDd hRd HH.out.chain HH.out.left rfl (by omega) (.inl rfl) (.inl rfl))
      clear hDd hRd
      go_region_law (first
        | (go_simp; go_at_call 20; refine K1.out.mono ?_; rintro e W2 ⟨rfl, rfl⟩; dsimp only)
        | (go_simp; go_at_call 21; refine K2.out.mono ?_; rintro e W3 ⟨rfl, rfl⟩; dsimp only))
      all_goals
        go_wp2_with fail
        go_ret
        exact ⟨by first | rfl | simp, ⟨_, HF.out⟩, HBa.out.drew⟩
    · have K1 := Lib.hid (stop_ok hDd n (by omega))
      have hb3 : ∀ W2, Keeps (fun i => i = p) W1.drew W2 → W2.cell? ⟨w.heap.size, 3, none⟩ = some (.int .i64 n) ∧ w.heap.size < W2.heap.size := fun W2 hK => ⟨(HKB.out.drew.keep hK (by omega)).cell 3, by have := hK.size; have h5 : W1.drew.heap.size = W1.heap.size := rfl; omega⟩
      have HB3 := Lib.hid hb3
      have HRd := Lib.hid hRd
      clear hDd hRd hb3
      go_region_law (first
        | (go_simp; go_at_call 20; refine K1.out.mono ?_; rintro e W2 ⟨rfl, hD2, hK2⟩; have hbx := (HB3.out W2 hK2).1; have hzx := (HB3.out W2 hK2).2; have HD2 := Lib.hid hD2; have HK2 := Lib.hid hK2; clear hD2 hK2; dsimp only)
        | (go_simp; go_at_call 21; refine (rstop_ok (HRd.out.keep HK2.out (fun i f1 f2 => HH.out.apart i (.inl f2) f1)) n (by omega)).mono ?_; rintro e W3 ⟨rfl, hR3, hK3⟩; have HR3 := Lib.hid hR3; have HK3 := Lib.hid hK3; clear hR3 hK3; dsimp only))
      all_goals
        have HF : Hid (Both B (m + 1) N W3 p q false) := Lib.hid (HH.out.done (HD2.out.keep HK3.out (fun i f1 f2 => HH.out.apart i f1 (.inl f2))) HR3.out HH.out.chain (show leftSame true n n from ⟨by omega, hn.2, rfl⟩) rfl (by omega) (.inl rfl) (.inl rfl))
        have HBB := Lib.hid ((HBa.out.drew.trans (HK2.out.below (fun i hi e => by have := HH.out.base1 i (.inl e); omega) HBs.out)).trans (HK3.out.below (fun i hi e => by have := HH.out.base2 i (.inl e); omega) (by have := HK2.out.size; have := HBs.out; have h5 : W1.drew.heap.size = W1.heap.size := rfl; omega)))
        go_wp2_with fail
        go_ret
        exact ⟨by first | rfl | simp, ⟨_, HF.out⟩, HBB.out⟩
  · have K1 := Lib.hid (stop_down hDd n)
    have K2 := Lib.hid (rstop_down hRd n)
    have HF : Hid (Both B (m + 1) N W1.drew p q true) := Lib.hid (HH.out.done hDd hRd HH.out.chain HH.out.left rfl (by omega) (.inl rfl) (.inl rfl))
    clear hDd hRd
    go_region_law (first
      | (go_simp; go_at_call 20; refine K1.out.mono ?_; rintro e W2 ⟨rfl, rfl⟩; dsimp only)
      | (go_simp; go_at_call 21; refine K2.out.mono ?_; rintro e W3 ⟨rfl, rfl⟩; dsimp only))
    all_goals
      go_wp2_with fail
      go_ret
      exact ⟨by first | rfl | simp, ⟨_, HF.out⟩, HBa.out.drew⟩
end Go.Proofs.Ytoglkeinhpcboaa
