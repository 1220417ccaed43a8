/- The law of CustodyTorn. Conditions: the bytes lie in memory. -/
import Derived.Test.YtoglkeinhpcboaaDisks
namespace Go.Proofs.Ytoglkeinhpcboaa
open Go.RowKit

/-- The bytes of a slice lie in memory. -/
def BytesAt (w : World) (A : Option Addr) (b : List Int) : Prop := 0 < b.length → ∃ g o, A = some ⟨g, o, none⟩ ∧ w.rangeAt g o (cellsB b)
theorem BytesAt.below {w w' : World} {A : Option Addr} {b : List Int} (h : BytesAt w A b) (hb : Below w.heap.size w w') : BytesAt w' A b := fun h0 => by
  obtain ⟨g, o, h1, h2⟩ := h h0
  refine ⟨g, o, h1, fun j v hv => ?_⟩
  have h3 := h2 j v hv
  exact ((Keeps.of_new (S := fun _ => False) hb).cell (World.block_lt_of_cell? w _ h3) (fun e => e)).trans h3
theorem BytesAt.lt {w : World} {A : Option Addr} {b : List Int} (h : BytesAt w A b) (h0 : 0 < b.length) : ∃ g o, A = some ⟨g, o, none⟩ ∧ w.rangeAt g o (cellsB b) ∧ g < w.heap.size := by
  obtain ⟨g, o, h1, h2⟩ := h h0
  refine ⟨g, o, h1, h2, ?_⟩
  have h3 : (cellsB b)[0]? = some (.int .u8 b[0]) := by unfold cellsB; rw [List.getElem?_map, List.getElem?_eq_getElem h0]; rfl
  exact World.block_lt_of_cell? w _ (h2 0 _ h3)
theorem padB_at {b : List Int} {i : Nat} (hb : b.length ≤ 64) (hi : i < 64) : (padB b)[i]? = some (b.getD i 0) := by
  unfold padB
  rw [List.getD_eq_getElem?_getD]
  by_cases h : i < b.length
  · rw [List.getElem?_append_left h, List.getElem?_eq_getElem h]
    rfl
  · rw [List.getElem?_append_right (by omega), List.getElem?_eq_none (l := b) (by omega), List.getElem?_replicate, if_pos (by omega)]
    rfl
theorem mix_at {o nw : List Int} {n : Int} {i : Nat} (ho : o.length ≤ 64) (hn : nw.length ≤ 64) (hi : i < 64) : (mix n (padB o) (padB nw))[i]? = some (if (i : Int) < n then nw.getD i 0 else o.getD i 0) := by
  have hk := kept_range n
  have hkd : keptOf n = min (max n 0) 64 := rfl
  have l1 := padB_len ho
  have l2 := padB_len hn
  unfold mix
  have ht : ((padB nw).take (keptOf n).toNat).length = (keptOf n).toNat := by rw [List.length_take, l2]; omega
  by_cases h : (i : Int) < n
  · rw [if_pos h, List.getElem?_append_left (by rw [ht]; omega), List.getElem?_take, if_pos (by omega), padB_at hn hi]
  · rw [if_neg h, List.getElem?_append_right (by rw [ht]; omega), ht, List.getElem?_drop, show (keptOf n).toNat + (i - (keptOf n).toNat) = i by omega, padB_at ho hi]

theorem at_mod (sector : Int) : ∃ k : Nat, k < 16 ∧ wrap64 ((IntKind.u64.wrap sector).tmod 16) = (k : Int) := by
  have h0 : 0 ≤ IntKind.u64.wrap sector := by
    unfold IntKind.wrap
    exact Int.emod_nonneg _ (by decide)
  have h1 := Int.tmod_nonneg 16 h0
  have h2 := Int.tmod_lt_of_pos (IntKind.u64.wrap sector) (show (0 : Int) < 16 by decide)
  refine ⟨((IntKind.u64.wrap sector).tmod 16).toNat, by omega, ?_⟩
  generalize (IntKind.u64.wrap sector).tmod 16 = x at h1 h2
  unfold wrap64
  omega
set_option maxRecDepth 100000 in
set_option maxHeartbeats 400000 in
theorem torn_any (sector keep : Int) (hs : -9223372036854775808 ≤ sector ∧ sector ≤ 9223372036854775807) (hk : -9223372036854775808 ≤ keep ∧ keep ≤ 9223372036854775807) (A1 A2 : Option Addr) (c1 c2 : Nat) (old nw : List Int) (hl1 : old.length ≤ 9223372036854775807) (hl2 : nw.length ≤ 9223372036854775807) (w : World) (hA1 : BytesAt w A1 old) (hA2 : BytesAt w A2 nw) :
    Calls Try.prog 4 #[.int .i64 sector, .slice A1 old.length c1, .slice A2 nw.length c2, .int .i64 keep] w fun e w' => e = .returned (.bool true) ∧ Below w.heap.size w w' := by
  have HDS := Lib.hid disks_any
  have HA1' := Lib.hid hA1
  have HA2' := Lib.hid hA2
  go_enter Try.func4, Try.ntmps4
  by_cases h1 : old.length ≤ 64
  rotate_left
  · have h1' : (64 : Int) < (old.length : Int) := by omega
    go_wp2_with fail
    refine (HDS.out _).mono ?_
    rintro e w1 ⟨rfl, hb⟩
    go_wp2_with fail
    go_ret
    exact ⟨rfl, hb⟩
  by_cases h2 : nw.length ≤ 64
  rotate_left
  · have h1' : ¬ (64 : Int) < (old.length : Int) := by omega
    have h2' : (64 : Int) < (nw.length : Int) := by omega
    go_wp2_with fail
    refine (HDS.out _).mono ?_
    rintro e w1 ⟨rfl, hb⟩
    go_wp2_with fail
    go_ret
    exact ⟨rfl, hb⟩
  have h1' : ¬ (64 : Int) < (old.length : Int) := by omega
  have h2' : ¬ (64 : Int) < (nw.length : Int) := by omega
  go_wp2_with fail
  obtain ⟨k, hk16, hke⟩ := at_mod sector
  rw [hke]
  clear hke
  refine (newDisk_ok 16 (by decide) (by decide) _).mono ?_
  rintro e w1 ⟨rfl, hD1, hB1⟩
  obtain ⟨S, hS⟩ : ∃ S, S = List.replicate 16 zeroS := ⟨_, rfl⟩
  have hSl : S.length = 16 := by rw [hS]; exact List.length_replicate ..
  have hS0 : S[k]? = some zeroS := by rw [hS, List.getElem?_replicate, if_pos hk16]
  rw [← hS] at hD1
  clear hS
  have hX1 := hA1.below hB1
  obtain ⟨p, hp⟩ : ∃ p, p = w.heap.size + 1 := ⟨_, rfl⟩
  obtain ⟨gs, hgs⟩ : ∃ gs, gs = w.heap.size := ⟨_, rfl⟩
  rw [← hp, ← hgs] at hD1
  rw [← hp]
  have hpl : w.heap.size ≤ p := by omega
  have hgl0 : w.heap.size ≤ gs := by omega
  clear hp hgs
  have kB' : ∀ (v : Value) (W W' : World), (∀ i, v.ownBlock = some i → w.heap.size ≤ i) → Keeps (ownD p gs v) W W' → Below w.heap.size w W → Below w.heap.size w W' := fun v W W' hv hK hB => hB.trans (hK.below (fun i hi e => by
    rcases e with e | e | e
    · omega
    · omega
    · have := hv i e; omega) hB.size)
  have kB := Lib.hid kB'
  clear kB'
  have hf1' : 0 < old.length → ∃ g o, A1 = some ⟨g, o, none⟩ ∧ w1.rangeAt g o (cellsB old) ∧ ¬ ownD p gs (.slice none 0 0) g := fun h0 => by
    obtain ⟨g, o, e1, e2, e3⟩ := hA1.lt h0
    obtain ⟨g', o', e1', e2'⟩ := hX1 h0
    rw [e1] at e1'
    cases e1'
    refine ⟨g, o, e1, e2', ?_⟩
    rintro (e | e | e)
    · omega
    · omega
    · simp [Value.ownBlock] at e
  have hf1 := Lib.hid hf1'
  have HA2 := Lib.hid hA2
  have HW1 := Lib.hid (write_ok hD1 (by decide) (by simp) (by omega) (by simp) k zeroS hS0 A1 c1 old h1 hf1.out)
  clear hf1' hf1 hX1 hA1 hA2 hD1 hS0
  go_wp2_with fail
  refine HW1.out.mono ?_
  rintro e w2 ⟨rfl, ⟨v2, hD2, hv2⟩, hK2⟩
  have hB2 := kB.out _ _ _ (by simp [Value.ownBlock]) hK2 hB1
  have hv2' : ∀ i, v2.ownBlock = some i → w.heap.size ≤ i := fun i hi => by
    rcases hv2 with e | e
    · rw [e] at hi; simp [Value.ownBlock] at hi
    · have := e i hi; have := hB1.size; omega
  clear HW1 hv2 hK2
  have HF := Lib.hid (flush_ok hD2 (by decide) (by simp))
  have HB2 := Lib.hid hB2
  have HV2 := Lib.hid hv2'
  clear hB2 hv2' hD2
  go_wp2_with fail
  refine HF.out.mono ?_
  rintro e w3 ⟨rfl, hD3, hK3⟩
  have hB3 := kB.out v2 _ _ HV2.out (hK3.mono (fun i _ e => .inl e)) HB2.out
  clear HF hK3 HB2 hB1 HV2
  have hA2 := HA2.out
  have hX2 := hA2.below hB3
  have hS1 : (S.set k (padB old))[k]? = some (padB old) := List.getElem?_set_self (by omega)
  have hf2' : 0 < nw.length → ∃ g o, A2 = some ⟨g, o, none⟩ ∧ w3.rangeAt g o (cellsB nw) ∧ ¬ ownD p gs (.slice none 0 0) g := fun h0 => by
    obtain ⟨g, o, e1, e2, e3⟩ := hA2.lt h0
    obtain ⟨g', o', e1', e2'⟩ := hX2 h0
    rw [e1] at e1'
    cases e1'
    refine ⟨g, o, e1, e2', ?_⟩
    rintro (e | e | e)
    · omega
    · omega
    · simp [Value.ownBlock] at e
  have HW2 := Lib.hid (write_ok hD3 (by decide) (by simp) (by rw [List.length_set]; omega) (by simp) k _ hS1 A2 c2 nw h2 hf2')
  have HB3 := Lib.hid hB3
  clear hf2' hX2 hA2 hD3 hS1 hB3
  go_wp2_with fail
  refine HW2.out.mono ?_
  rintro e w4 ⟨rfl, ⟨v4, hD4, hv4⟩, hK4⟩
  have hB4 := kB.out _ _ _ (by simp [Value.ownBlock]) hK4 HB3.out
  have HB4 := Lib.hid hB4
  have HD4 := Lib.hid hD4
  clear HW2 hK4 hB4 hD4 hv4 HB3
  go_wp2_with fail
  have hD4 := HD4.out
  have hB4 := HB4.out
  have hD7 := hD4.below (below_al (Below.refl _ _) (.cells #[.int .i64 keep] 3))
  have z1 := hD4.blk.lt
  have z2 := hD4.sec.lt
  have hl6 := World.ownsRow.lt hD4.pend
  refine (crash_any hD7 (by simp only [List.length_set]; omega) (by simp) (some ⟨w4.heap.size, 0, none⟩) 1 [keep] (by simp) (by simp; omega) (fun _ => ⟨_, 0, rfl, fun i x hx => ?_, ?_⟩)).mono ?_
  · rw [(Blk.new w4 3 #[.int .i64 keep]).cell]
    rcases i with _ | i
    · cases hx
      rfl
    · simp at hx
  · rintro (e | e | e)
    · omega
    · omega
    · have := (hl6 _ e).2
      omega
  rintro e w5 ⟨⟨v, rfl⟩, hD8, hK8⟩
  have hB5 := kB.out (.slice none 0 0) _ _ (by simp [Value.ownBlock]) (hK8.mono (S' := ownD p gs (.slice none 0 0)) (fun i _ e => by rcases e with e | e <;> first | exact .inl e | exact .inr (.inl e))) (hB4.alloc hB4.size _)
  rw [List.nil_append, crashed_one _ _ _ _ _ (by simp only [List.length_set]; omega)] at hD8
  simp only [List.set_set] at hD8
  have hSm : (S.set k (mix keep (padB old) (padB nw)))[k]? = some (mix keep (padB old) (padB nw)) := List.getElem?_set_self (by omega)
  have hml := mix_len keep (padB_len h1) (padB_len h2)
  have HRD := Lib.hid (read_ok hD8 (by rw [List.length_set]; omega) k _ hSm)
  have HB5 := Lib.hid hB5
  have HD8 := Lib.hid hD8
  clear hD4 hD7 hl6 z1 z2 hK8 hB4 HD4 HB4 hD8 hB5 hSm
  go_wp2_with fail
  refine HRD.out.mono ?_
  rintro e w6 ⟨A, c, rfl, hO, hB6⟩
  have hB := HB5.out.trans (hB6.mono HB5.out.size)
  have hD9 := HD8.out.below hB6
  have hmx := Lib.hid (fun i hi => mix_at (o := old) (nw := nw) (n := keep) (i := i) h1 h2 hi)
  generalize mix keep (padB old) (padB nw) = M at hml hO hmx hD9
  rw [← hml] at hO
  obtain ⟨g, rfl, _, hgl, hc⟩ := hO.at (by omega)
  have HBB := Lib.hid hB
  have HD9 := Lib.hid hD9
  have HC := Lib.hid hc
  clear HD8 hO HB5 hB6 HRD hB hD9 hc
  go_wp2_with fail
  refine (down_any HD9.out).mono ?_
  rintro e w7 ⟨rfl, rfl⟩
  have hXo := Lib.hid (HA1'.out.below HBB.out)
  have hXn := Lib.hid (HA2'.out.below HBB.out)
  clear HD9 kB
  go_wp2_with fail
  go_loopw [17, 18] (fun a _ wr => ∃ i : Nat, i ≤ 64 ∧ a = .int .i64 i ∧ wr = w6) (fun a _ _ => 64 - (intOf a).toNat)
  case atStart => exact ⟨0, by omega, rfl, rfl⟩
  case round =>
    obtain ⟨i, hi, rfl, rfl⟩ := hrel
    by_cases hlt : i < 64
    · have cS := HC.out i _ (hmx.out i hlt)
      have hli : (i : Int) < 64 := by omega
      by_cases hik : (i : Int) < keep
      · rw [if_pos hik] at cS
        by_cases hin : i < nw.length
        · obtain ⟨g2, o2, rfl, hr2⟩ := hXn.out (by omega)
          have c2 := hr2 i (.int .u8 (nw.getD i 0)) (by unfold cellsB; rw [List.getElem?_map, List.getD_eq_getElem?_getD, List.getElem?_eq_getElem hin]; rfl)
          generalize nw.getD i 0 = x at cS c2
          have hini : (i : Int) < (nw.length : Int) := by omega
          have hnk : ¬ keep ≤ (i : Int) := by omega
          clear hr2
          go_wp2_with fail
          go_roundw
          case rel => exact ⟨i + 1, by omega, by go_num, trivial⟩
          case measure => simp [intOf]; omega
        · rw [show nw.getD i 0 = 0 by rw [List.getD_eq_getElem?_getD, List.getElem?_eq_none (by omega)]; rfl] at cS
          have hini : ¬ (i : Int) < (nw.length : Int) := by omega
          have hnk : ¬ keep ≤ (i : Int) := by omega
          go_wp2_with fail
          go_roundw
          case rel => exact ⟨i + 1, by omega, by go_num, trivial⟩
          case measure => simp [intOf]; omega
      · rw [if_neg hik] at cS
        have hnk : keep ≤ (i : Int) := by omega
        by_cases hio : i < old.length
        · obtain ⟨g1, o1, rfl, hr1⟩ := hXo.out (by omega)
          have c2 := hr1 i (.int .u8 (old.getD i 0)) (by unfold cellsB; rw [List.getElem?_map, List.getD_eq_getElem?_getD, List.getElem?_eq_getElem hio]; rfl)
          generalize old.getD i 0 = x at cS c2
          have hioi : (i : Int) < (old.length : Int) := by omega
          clear hr1
          go_wp2_with fail
          go_roundw
          case rel => exact ⟨i + 1, by omega, by go_num, trivial⟩
          case measure => simp [intOf]; omega
        · rw [show old.getD i 0 = 0 by rw [List.getD_eq_getElem?_getD, List.getElem?_eq_none (by omega)]; rfl] at cS
          have hioi : ¬ (i : Int) < (old.length : Int) := by omega
          go_wp2_with fail
          go_roundw
          case rel => exact ⟨i + 1, by omega, by go_num, trivial⟩
          case measure => simp [intOf]; omega
    · have hli : ¬ (i : Int) < 64 := by omega
      go_wp2_with fail
      refine (HDS.out _).mono ?_
      rintro e w8 ⟨rfl, hb⟩
      have HB8 := Lib.hid (HBB.out.trans (hb.mono HBB.out.size))
      clear hb
      go_wp2_with fail
      go_ret
      exact ⟨rfl, HB8.out⟩
end Go.Proofs.Ytoglkeinhpcboaa
