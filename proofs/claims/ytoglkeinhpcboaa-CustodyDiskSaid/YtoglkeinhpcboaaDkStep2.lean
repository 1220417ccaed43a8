/- The contract of step at Flush and Crash. Conditions: the disk and its reference lie in memory. -/
import Derived.Test.YtoglkeinhpcboaaDkStep
namespace Go.Proofs.Ytoglkeinhpcboaa
open Go.RowKit

theorem left_step {st : Bool} {ca L : Int} (h : leftSame st ca L) (hne : st = true → ca ≠ 0) : leftSame st (cntOf st ca) (leftOf L) := by
  obtain ⟨h1, h2, h3⟩ := h
  unfold leftSame cntOf leftOf
  cases st
  · simp only [Bool.false_eq_true, if_false, false_and] at h3 ⊢
    subst h3
    exact ⟨h1, h2, by decide⟩
  · have h0 := hne rfl
    simp only [if_true, true_and] at h3 ⊢
    subst h3
    rw [if_pos h0, if_pos (by omega)]
    exact ⟨by omega, by omega, rfl⟩
theorem left_ne {st : Bool} {ca L : Int} (h : leftSame st ca L) (hne : st = true → ca ≠ 0) : L ≠ 0 ∧ -1 ≤ L ∧ L ≤ 9223372036854775807 := by
  obtain ⟨h1, h2, h3⟩ := h
  cases st
  · simp at h3
    omega
  · have := hne rfl
    simp at h3
    omega

/-- What a call on each side leaves: the same number, and both together. -/
def StepTo (B m N : Nat) (w : World) (p q : Nat) (e : Ending) (w' : World) : Prop := e = .returned (.bool true) ∧ (∃ dn', Both B (m + 1) N w' p q dn') ∧ Below B w w'

set_option maxRecDepth 100000 in
set_option maxHeartbeats 2000000 in
theorem step_flush {B m N : Nat} {w : World} {p q : Nat} {dn : Bool} (hB : Both B m N w p q dn) (hm : m ≤ 1000) (hBw : B ≤ w.heap.size) (kind sector n : Int) (hkind : kind.tmod 5 = 2) (u2 u4 : Value) :
    Calls Try.prog 9 #[.pointer (some ⟨p, 0, none⟩), .pointer (some ⟨q, 0, none⟩), .agg #[.int .u8 kind, .int .i64 sector, u2, .int .i64 n, u4]] w (StepTo B m N w p q) := by
  obtain ⟨gs, vp, vD, vQ, S, P, D, st, ca, L, h0⟩ := hB
  have hA : Below w.heap.size w (w.alloc (.cells #[.int .u8 kind, .int .i64 sector, u2, .int .i64 n, u4] 36)) := below_al (Below.refl _ _) _
  have h : Pair B m N (w.alloc (.cells #[.int .u8 kind, .int .i64 sector, u2, .int .i64 n, u4] 36)) p q gs vp vD vQ S P D dn st ca L := ⟨h0.disk.below hA, h0.ref.below hA, h0.chain, h0.left, h0.len, h0.room, h0.few, h0.apart, h0.base1, h0.base2⟩
  have hBa : Below B w (w.alloc (.cells #[.int .u8 kind, .int .i64 sector, u2, .int .i64 n, u4] 36)) := hA.mono hBw
  have hBs : B ≤ (w.alloc (.cells #[.int .u8 kind, .int .i64 sector, u2, .int .i64 n, u4] 36)).heap.size := by simp; omega
  have HH := Lib.hid h
  have HBa := Lib.hid hBa
  have HBs := Lib.hid hBs
  clear h0 hA h hBa hBs
  go_enter Try.func9, Try.ntmps9
  go_wp2_with fail
  generalize w.alloc (.cells #[.int .u8 kind, .int .i64 sector, u2, .int .i64 n, u4] 36) = W1 at HH HBa HBs ⊢
  have h := HH.out
  cases dn
  · by_cases hne : st = true → ca ≠ 0
    · obtain ⟨l1, l2, l3⟩ := left_ne h.left hne
      refine (flush_ok h.disk ⟨h.left.1, h.left.2.1⟩ hne).mono ?_
      rintro e W2 ⟨rfl, hD2, hK2⟩
      obtain ⟨hR2, hB2⟩ := h.keepD HBs.out (hK2.mono (S' := ownD p gs vp) (fun i _ e => .inl e))
      have HR2 := Lib.hid hR2
      have HB2 := Lib.hid hB2
      have HD2 := Lib.hid hD2
      have HL := Lib.hid (left_step h.left hne)
      clear h hD2 hK2 hR2 hB2
      go_wp2_with fail
      have hR2 := HR2.out
      refine (rflush_ok hR2 l1 ⟨l2, l3⟩ (by have := HH.out.len; have := HH.out.room; omega) (by unfold putsOf; rw [List.length_map]; have := HH.out.few; omega)).mono ?_
      rintro e W3 ⟨rfl, hR3, hK3⟩
      have hD3 : DiskAt W3 p gs (.slice none 0 0) S [] false st (cntOf st ca) := HD2.out.keep hK3 (fun i h1 h2 => by
        rcases h1 with e | e | e
        · exact HH.out.apart i (.inl e) h2
        · exact HH.out.apart i (.inr (.inl e)) h2
        · simp [Value.ownBlock] at e)
      have HF : Hid (Both B (m + 1) N W3 p q false) := Lib.hid (HH.out.done hD3 (D' := applyQ D (putsOf P)) (P' := []) hR3 (by rw [HH.out.chain.apply]; exact .nil) HL.out (applyQ_len _ _) (by simp) (.inr rfl) (.inr rfl))
      have HB3 := Lib.hid ((HBa.out.trans HB2.out).trans (hK3.below (fun i hi e => by have := HH.out.base2 i e; omega) (by have := HB2.out.size; have := HBs.out; omega)))
      clear hR2 hR3 hK3 hD3 HR2 HB2 HD2 HL
      go_wp2_with fail
      go_ret
      exact ⟨by first | rfl | simp, ⟨_, HF.out⟩, HB3.out⟩
    · have hst : st = true ∧ ca = 0 := by
        cases st
        · exact absurd (fun h => by cases h) hne
        · exact ⟨rfl, Classical.byContradiction (fun hc => hne (fun _ => hc))⟩
      obtain ⟨rfl, rfl⟩ := hst
      have hL0 : L = 0 := by have := h.left.2.2; simpa using this
      subst hL0
      clear hne
      refine (flush_stop h.disk).mono ?_
      rintro e W2 ⟨rfl, hD2, hK2⟩
      obtain ⟨hR2, hB2⟩ := h.keepD HBs.out (hK2.mono (S' := ownD p gs vp) (fun i _ e => .inl e))
      have HR2 := Lib.hid hR2
      have HB2 := Lib.hid hB2
      have HD2 := Lib.hid hD2
      clear h hD2 hK2 hR2 hB2
      go_wp2_with fail
      refine (rflush_stop HR2.out).mono ?_
      rintro e W3 ⟨rfl, hR3, hK3⟩
      have hD3 : DiskAt W3 p gs vp S P true true 0 := HD2.out.keep hK3 (fun i h1 h2 => HH.out.apart i h1 (.inl h2))
      have HF : Hid (Both B (m + 1) N W3 p q true) := Lib.hid (HH.out.done hD3 hR3 HH.out.chain HH.out.left rfl (by omega) (.inl rfl) (.inl rfl))
      have HB3 := Lib.hid ((HBa.out.trans HB2.out).trans (hK3.below (fun i hi e => by have := HH.out.base2 i (.inl e); omega) (by have := HB2.out.size; have := HBs.out; omega)))
      clear hR3 hK3 hD3 HR2 HB2 HD2
      go_wp2_with fail
      go_ret
      exact ⟨by first | rfl | simp, ⟨_, HF.out⟩, HB3.out⟩
  · refine (flush_down h.disk).mono ?_
    rintro e W2 ⟨rfl, rfl⟩
    clear h
    go_wp2_with fail
    refine (rflush_down HH.out.ref).mono ?_
    rintro e W3 ⟨rfl, rfl⟩
    have HF : Hid (Both B (m + 1) N W1 p q true) := Lib.hid (HH.out.done HH.out.disk HH.out.ref HH.out.chain HH.out.left rfl (by omega) (.inl rfl) (.inl rfl))
    go_wp2_with fail
    go_ret
    exact ⟨by first | rfl | simp, ⟨_, HF.out⟩, HBa.out⟩
/-- The numbers of a slice lie below B. -/
def KeepIn (w : World) (B : Nat) (A : Option Addr) (K : List Int) : Prop := 0 < K.length → ∃ g o, A = some ⟨g, o, none⟩ ∧ (∀ i x, K[i]? = some x → w.cell? ⟨g, o + i, none⟩ = some (.int .i64 x)) ∧ g < B
theorem KeepIn.below {w w' : World} {B : Nat} {A : Option Addr} {K : List Int} (h : KeepIn w B A K) (hb : Below B w w') (hB : B ≤ w.heap.size) : KeepIn w' B A K := fun h0 => by
  obtain ⟨g, o, h1, h2, h3⟩ := h h0
  exact ⟨g, o, h1, fun i x hx => ((Keeps.of_below (S := fun i => B ≤ i) hb (fun k h1 _ => h1)).cell (by omega) (by omega)).trans (h2 i x hx), h3⟩
set_option maxRecDepth 100000 in
set_option maxHeartbeats 2000000 in
theorem step_crash {B m N : Nat} {w : World} {p q : Nat} {dn : Bool} (hB : Both B m N w p q dn) (hm : m ≤ 1000) (hBw : B ≤ w.heap.size) (kind sector n : Int) (hkind : kind.tmod 5 = 4) (u2 : Value) (kA : Option Addr) (kc : Nat) (K : List Int) (hKl : K.length ≤ 9223372036854775807) (hKi : ∀ x ∈ K, -9223372036854775808 ≤ x ∧ x ≤ 9223372036854775807) (hK : KeepIn w B kA K) :
    Calls Try.prog 9 #[.pointer (some ⟨p, 0, none⟩), .pointer (some ⟨q, 0, none⟩), .agg #[.int .u8 kind, .int .i64 sector, u2, .int .i64 n, .slice kA K.length kc]] w (StepTo B m N w p q) := by
  obtain ⟨gs, vp, vD, vQ, S, P, D, st, ca, L, h0⟩ := hB
  have hA : Below w.heap.size w (w.alloc (.cells #[.int .u8 kind, .int .i64 sector, u2, .int .i64 n, .slice kA K.length kc] 36)) := below_al (Below.refl _ _) _
  have h : Pair B m N (w.alloc (.cells #[.int .u8 kind, .int .i64 sector, u2, .int .i64 n, .slice kA K.length kc] 36)) p q gs vp vD vQ S P D dn st ca L := ⟨h0.disk.below hA, h0.ref.below hA, h0.chain, h0.left, h0.len, h0.room, h0.few, h0.apart, h0.base1, h0.base2⟩
  have hBa : Below B w (w.alloc (.cells #[.int .u8 kind, .int .i64 sector, u2, .int .i64 n, .slice kA K.length kc] 36)) := hA.mono hBw
  have hBs : B ≤ (w.alloc (.cells #[.int .u8 kind, .int .i64 sector, u2, .int .i64 n, .slice kA K.length kc] 36)).heap.size := by simp; omega
  have HH := Lib.hid h
  have HBa := Lib.hid hBa
  have HBs := Lib.hid hBs
  have HK1 := Lib.hid (hK.below hBa hBw)
  have kB := Blk.new w 36 #[.int .u8 kind, .int .i64 sector, u2, .int .i64 n, .slice kA K.length kc]
  have HKB := Lib.hid kB
  have hp := h0.disk.blk.lt
  have hgs := h0.disk.sec.lt
  clear h0 hA h hBa hBs hK kB
  go_enter Try.func9, Try.ntmps9
  go_wp2_with fail
  generalize w.alloc (.cells #[.int .u8 kind, .int .i64 sector, u2, .int .i64 n, .slice kA K.length kc] 36) = W1 at HH HBa HBs HK1 HKB ⊢
  have h := HH.out
  have hroom := h.room
  refine (crash_any h.disk (by have := h.slen; omega) (by have := h.few; omega) kA kc K hKl hKi (fun hk0 => by
    obtain ⟨g, o, e1, e2, e3⟩ := HK1.out hk0
    exact ⟨g, o, e1, e2, fun e => by have := h.base1 g e; omega⟩)).mono ?_
  rintro e W2 ⟨⟨v, rfl⟩, hD2, hK2⟩
  obtain ⟨hR2, hB2⟩ := h.keepD HBs.out (hK2.mono (S' := ownD p gs vp) (fun i _ e => e.elim .inl (fun f => .inr (.inl f))))
  have b4 := (HKB.out.keep hK2 (by omega)).cell 4
  have zb2 : w.heap.size < W2.heap.size := by have := hK2.size; have := HKB.out.lt; omega
  have HK3 := Lib.hid (HK1.out.below hB2 HBs.out)
  have HR2 := Lib.hid hR2
  have HB2 := Lib.hid hB2
  have HD2 := Lib.hid hD2
  simp at b4
  clear h hD2 hK2 hR2 hB2 hp hgs
  go_wp2_with fail
  refine (rcrash_any HR2.out (by have := HH.out.len; omega) (by unfold putsOf; rw [List.length_map]; have := HH.out.few; omega) kA kc K hKl (fun hk0 => by
    obtain ⟨g, o, e1, e2, e3⟩ := HK3.out hk0
    exact ⟨g, o, e1, e2, fun e => by have := HH.out.base2 g e; omega⟩)).mono ?_
  rintro e W3 ⟨⟨v3, rfl⟩, hR3, hK3⟩
  have hD3 : DiskAt W3 p gs (.slice none 0 0) (crashed S P K) [] false false ca := HD2.out.keep hK3 (fun i h1 h2 => by
    rcases h1 with e | e | e
    · exact HH.out.apart i (.inl e) h2
    · exact HH.out.apart i (.inr (.inl e)) h2
    · simp [Value.ownBlock] at e)
  have HF : Hid (Both B (m + 1) N W3 p q false) := Lib.hid (HH.out.done hD3 (D' := keepQ K D (putsOf P).zipIdx) (P' := []) hR3 (by rw [HH.out.chain.crash K (fun x hx => by have := (HH.out.disk.size x hx).1; rw [HH.out.chain.len] at this; exact this)]; exact .nil) ⟨HH.out.left.1, HH.out.left.2.1, rfl⟩ (keepQ_len _ _ _) (by simp) (.inr rfl) (.inr rfl))
  have HB3 := Lib.hid ((HBa.out.trans HB2.out).trans (hK3.below (fun i hi e => by have := HH.out.base2 i e; omega) (by have := HB2.out.size; have := HBs.out; omega)))
  clear hR3 hK3 hD3 HR2 HB2 HD2 HK3
  go_wp2_with fail
  go_ret
  exact ⟨by first | rfl | simp, ⟨_, HF.out⟩, HB3.out⟩
end Go.Proofs.Ytoglkeinhpcboaa
