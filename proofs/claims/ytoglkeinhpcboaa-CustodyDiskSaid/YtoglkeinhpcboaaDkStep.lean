/- The contract of step at Read and Flush. Conditions: the disk and its reference lie in memory. -/
import Derived.Test.YtoglkeinhpcboaaDkLaw1
import Derived.Test.YtoglkeinhpcboaaDisks
namespace Go.Proofs.Ytoglkeinhpcboaa
open Go.RowKit

theorem Pair.below {B m N : Nat} {w w' : World} {p q gs : Nat} {vp vD vQ : Value} {S : List (List Int)} {P : List PW} {D : List (List Int)} {dn st : Bool} {ca L : Int} (h : Pair B m N w p q gs vp vD vQ S P D dn st ca L) (hb : Below w.heap.size w w') : Pair B (m + 1) N w' p q gs vp vD vQ S P D dn st ca L :=
  ⟨h.disk.below hb, h.ref.below hb, h.chain, h.left, h.len, h.room, Nat.le_succ_of_le h.few, h.apart, h.base1, h.base2⟩
theorem Pair.slen {B m N : Nat} {w : World} {p q gs : Nat} {vp vD vQ : Value} {S : List (List Int)} {P : List PW} {D : List (List Int)} {dn st : Bool} {ca L : Int} (h : Pair B m N w p q gs vp vD vQ S P D dn st ca L) : S.length = N := h.chain.len.trans h.len

set_option maxRecDepth 100000 in
set_option maxHeartbeats 2000000 in
theorem step_read {B m N : Nat} {w : World} {p q : Nat} {dn : Bool} (hB : Both B m N w p q dn) (hm : m ≤ 1000) (hBw : B ≤ w.heap.size) (kind sector n : Int) (hkind : kind.tmod 5 = 0) (u2 u4 : Value) :
    Calls Try.prog 9 #[.pointer (some ⟨p, 0, none⟩), .pointer (some ⟨q, 0, none⟩), .agg #[.int .u8 kind, .int .i64 sector, u2, .int .i64 n, u4]] w fun e w' => e = .returned (.bool true) ∧ Both B (m + 1) N w' p q dn ∧ Below w.heap.size w w' := by
  obtain ⟨gs, vp, vD, vQ, S, P, D, st, ca, L, h⟩ := hB
  have hws : ∀ W', Below w.heap.size w W' → Both B (m + 1) N W' p q dn := fun W' hW => ⟨_, _, _, _, _, _, _, _, _, _, h.below hW⟩
  have hsl := h.slen
  have hA : Below w.heap.size w (w.alloc (.cells #[.int .u8 kind, .int .i64 sector, u2, .int .i64 n, u4] 36)) := below_al (Below.refl _ _) _
  have hD1 := h.disk.below hA
  have hR1 := h.ref.below hA
  by_cases he : secErr dn N sector = 0
  · obtain ⟨rfl, h1, h2⟩ := secErr_zero he
    obtain ⟨k, rfl⟩ : ∃ k : Nat, sector = (k : Int) := ⟨sector.toNat, by omega⟩
    obtain ⟨s, hs⟩ : ∃ s, S[k]? = some s := ⟨_, List.getElem?_eq_getElem (by omega)⟩
    obtain ⟨d, hd⟩ : ∃ d, D[k]? = some d := ⟨_, List.getElem?_eq_getElem (by have := h.len; omega)⟩
    have hsd := h.chain.last hs hd
    have hs64 := h.disk.all s (List.mem_of_getElem? hs)
    have K1 := Lib.hid (read_ok hD1 (by have := h.room; omega) k s hs)
    have K2 := Lib.hid (fun W (hW : Below (w.alloc (.cells #[.int .u8 kind, .int .i64 (k : Int), u2, .int .i64 n, u4] 36)).heap.size (w.alloc (.cells #[.int .u8 kind, .int .i64 (k : Int), u2, .int .i64 n, u4] 36)) W) => rread_ok (hR1.below hW) (by have := h.len; have := h.room; omega) (by unfold putsOf; rw [List.length_map]; have := h.few; omega) k d hd)
    have HWS := Lib.hid hws
    have HA := Lib.hid hA
    have HSD := Lib.hid hsd
    clear h hD1 hR1 hs hd hsd he hsl hws hA
    go_enter Try.func9, Try.ntmps9
    go_wp2_with fail
    have kB := Blk.new w 36 #[.int .u8 kind, .int .i64 (k : Int), u2, .int .i64 n, u4]
    generalize w.alloc (.cells #[.int .u8 kind, .int .i64 (k : Int), u2, .int .i64 n, u4] 36) = W1 at HA K1 K2 kB ⊢
    have zb := kB.lt
    refine K1.out.mono ?_
    rintro e W2 ⟨A', c', rfl, hO, hb2⟩
    have b1 := (kB.below hb2 kB.lt).cell 1
    have zb2 : w.heap.size < W2.heap.size := by have := hb2.size; omega
    simp at b1
    have HO := Lib.hid hO
    have HB2 := Lib.hid hb2
    have K3 := Lib.hid (K2.out W2 hb2)
    clear hO hb2 K1 K2 kB
    go_wp2_with fail
    refine K3.out.mono ?_
    rintro e W3 ⟨rfl, rfl⟩
    obtain ⟨g, rfl, _, hgl, hc⟩ := OwnU.at (l := s) (by rw [hs64]; exact HO.out) (by omega)
    have hcv := run_convert_bytes_arg (P := Try.prog) W2 33 5 rowU8 u8Int g 0 64 c' s hs64 (fun i hi => by
      rw [Nat.zero_add]
      exact hc i _ (by rw [List.getD_eq_getElem?_getD, List.getElem?_eq_getElem (by omega)]; rfl)) 9 strDesc
    rw [HSD.out] at hcv
    unfold sStr
    generalize strOfNums (lastOf d (putsOf P) k) = x at hcv ⊢
    clear hc K3
    go_wp2_with fail
    go_ret
    have hB3 := HA.out.trans (HB2.out.mono HA.out.size)
    exact ⟨by simp, HWS.out _ hB3, hB3⟩
  · have K1 := Lib.hid (read_bad hD1 (by have := h.room; omega) sector (by rw [hsl]; exact he))
    have K2 := Lib.hid (fun W (hW : Below (w.alloc (.cells #[.int .u8 kind, .int .i64 sector, u2, .int .i64 n, u4] 36)).heap.size (w.alloc (.cells #[.int .u8 kind, .int .i64 sector, u2, .int .i64 n, u4] 36)) W) => rread_bad (hR1.below hW) (by have := h.len; have := h.room; omega) sector (by rw [h.len]; exact he))
    have hx := secErr_cases _ _ _ he
    rw [hsl] at K1
    rw [h.len] at K2
    have HWS := Lib.hid hws
    have HA := Lib.hid hA
    generalize secErr dn N sector = x at hx K1 K2
    clear h hD1 hR1 he hsl hws hA
    go_enter Try.func9, Try.ntmps9
    go_wp2_with fail
    have kB := Blk.new w 36 #[.int .u8 kind, .int .i64 sector, u2, .int .i64 n, u4]
    generalize w.alloc (.cells #[.int .u8 kind, .int .i64 sector, u2, .int .i64 n, u4] 36) = W1 at HA K1 K2 kB ⊢
    have zb := kB.lt
    refine K1.out.mono ?_
    rintro e W2 ⟨rfl, rfl⟩
    have b1 := kB.cell 1
    simp at b1
    have K3 := Lib.hid (K2.out W1 (Below.refl _ _))
    clear K1 K2 kB
    go_wp2_with fail
    refine K3.out.mono ?_
    rintro e W3 ⟨rfl, rfl⟩
    have hcv := run_convert_bytes_nil (P := Try.prog) W1 33 5 rowU8 u8Int 0 0 9 strDesc
    clear K3
    rcases hx with rfl | rfl
    all_goals
      go_wp2_with fail
      go_ret
      exact ⟨by first | rfl | simp, HWS.out _ HA.out, HA.out⟩

theorem Pair.done {B m N : Nat} {w w' : World} {p q gs : Nat} {vp vD vQ vp' vQ' : Value} {S S' : List (List Int)} {P P' : List PW} {D D' : List (List Int)} {dn dn' st st' : Bool} {ca ca' L L' : Int} (h : Pair B m N w p q gs vp vD vQ S P D dn st ca L) (hd : DiskAt w' p gs vp' S' P' dn' st' ca') (hr : RefAt w' q vD vQ' D' (putsOf P') L' dn') (hc : Chain D' P' S') (hl : leftSame st' ca' L') (hlen : D'.length = D.length) (hP : P'.length ≤ P.length + 1)
    (hv : vp'.ownBlock = vp.ownBlock ∨ vp'.ownBlock = none) (hQ : vQ'.ownBlock = vQ.ownBlock ∨ vQ'.ownBlock = none) : Both B (m + 1) N w' p q dn' := by
  have hp : ∀ i, ownD p gs vp' i → ownD p gs vp i := fun i hi => by
    rcases hi with e | e | e
    · exact .inl e
    · exact .inr (.inl e)
    · rcases hv with f | f
      · exact .inr (.inr (f ▸ e))
      · rw [f] at e; cases e
  have hq : ∀ i, ownR q vD vQ' i → ownR q vD vQ i := fun i hi => by
    rcases hi with e | e | e
    · exact .inl e
    · exact .inr (.inl e)
    · rcases hQ with f | f
      · exact .inr (.inr (f ▸ e))
      · rw [f] at e; cases e
  exact ⟨gs, vp', vD, vQ', S', P', D', st', ca', L', hd, hr, hc, hl, hlen.trans h.len, h.room, by have := h.few; omega, fun i h1 h2 => h.apart i (hp i h1) (hq i h2), fun i h1 => h.base1 i (hp i h1), fun i h1 => h.base2 i (hq i h1)⟩
theorem Pair.keepD {B m N : Nat} {w w' : World} {p q gs : Nat} {vp vD vQ : Value} {S : List (List Int)} {P : List PW} {D : List (List Int)} {dn st : Bool} {ca L : Int} (h : Pair B m N w p q gs vp vD vQ S P D dn st ca L) (hb : B ≤ w.heap.size) (hk : Keeps (ownD p gs vp) w w') : RefAt w' q vD vQ D (putsOf P) L dn ∧ Below B w w' :=
  ⟨h.ref.keep hk (fun i h1 h2 => h.apart i h2 h1), hk.below (fun i hi e => by have := h.base1 i e; omega) hb⟩
end Go.Proofs.Ytoglkeinhpcboaa
