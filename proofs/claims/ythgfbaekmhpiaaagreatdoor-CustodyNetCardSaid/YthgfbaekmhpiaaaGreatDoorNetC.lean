/- CustodyNet returns true for every number of offices and every script of operations, and leaves its arguments as they were; the package variables that it names start as the program's text lays them (the card ties them). -/
import Derived.Test.YthgfbaekmhpiaaaGreatDoorNetD
import Derived.Test.YthgfbaekmhpiaaaGreatDoorNilB
import Derived.Test.YthgfbaekmhpiaaaGreatDoorOpenA
namespace Go.Proofs.YthgfbaekmhpiaaaGreatDoor
open Go.RowKit Go.Shelf Go.Sort

/-- No message on a line is longer than a network takes. -/
def ShortL (ls : List (List ByteArray)) : Prop := ∀ l ∈ ls, ∀ m ∈ l, m.size ≤ 60000
theorem shortL_set {ls : List (List ByteArray)} {k : Nat} {l : List ByteArray} (h : ShortL ls) (hl : ∀ m ∈ l, m.size ≤ 60000) : ShortL (ls.set k l) := fun l' h' => by
  rcases List.mem_or_eq_of_mem_set h' with e | e
  · exact h l' e
  · subst e; exact hl
theorem lineL_mem (ls : List (List ByteArray)) (f t : Int) : lineL_ ls f t ∈ ls ∨ lineL_ ls f t = [] := by
  unfold lineL_
  rw [List.getD_eq_getElem?_getD]
  cases h : ls[f.toNat * 8 + t.toNat]? with
  | none => exact .inr rfl
  | some l => exact .inl (List.mem_of_getElem? h)
theorem lineL_short {ls : List (List ByteArray)} (h : ShortL ls) (f t : Int) : ∀ m ∈ lineL_ ls f t, m.size ≤ 60000 := fun m hm => by
  rcases lineL_mem ls f t with e | e
  · exact h _ e m hm
  · rw [e] at hm; cases hm
theorem short_send {ls : List (List ByteArray)} (h : ShortL ls) (o f t : Int) (m : ByteArray) : ShortL (sendL o ls f t m) := by
  unfold sendL
  split
  · rename_i hr
    refine shortL_set h (fun x hx => ?_)
    rcases List.mem_append.1 hx with e | e
    · exact lineL_short h f t x e
    · rw [List.mem_singleton] at e
      subst e
      unfold sendR at hr
      split at hr
      · cases hr
      · split at hr
        · cases hr
        · omega
  · exact h
theorem short_take {ls : List (List ByteArray)} (h : ShortL ls) (o f t i : Int) : ShortL (takeL o ls f t i) := by
  unfold takeL
  split
  · exact shortL_set h (fun x hx => lineL_short h f t x (List.mem_of_mem_eraseIdx hx))
  · exact h
theorem rep_same {ls : List (List ByteArray)} (h : ShortL ls) (o f t i : Int) : rrepR o ls f t i = repR o ls f t i ∧ rrepL o ls f t i = repL o ls f t i ∧ ShortL (repL o ls f t i) := by
  have hs := short_send h o f t (peekT o ls f t i)
  rcases hh : hasB o ls f t i with _ | _
  · have h1 : rrepR o ls f t i = 5 := by unfold rrepR; rw [if_neg (by rw [hh]; decide)]
    have h2 : repR o ls f t i = 5 := by unfold repR; rw [if_neg (by rw [hh]; decide)]
    have h3 : repL o ls f t i = ls := by unfold repL; rw [if_neg (by rw [hh]; decide)]
    exact ⟨by rw [h1, h2], by unfold rrepL; rw [h1, h3, if_neg (by decide)], by rw [h3]; exact h⟩
  · have h3 : repL o ls f t i = sendL o ls f t (peekT o ls f t i) := by unfold repL; rw [if_pos hh]
    have h2 : repR o ls f t i = sendR o ls f t (peekT o ls f t i) := by unfold repR; rw [if_pos hh]
    have hb := hh
    unfold hasB at hb
    rw [Bool.and_eq_true] at hb
    have hm : (peekT o ls f t i).size ≤ 60000 := by
      unfold peekT
      rw [if_pos hh]
      rw [List.getD_eq_getElem?_getD]
      cases hx : (lineL_ ls f t)[i.toNat]? with
      | none => decide
      | some x => exact lineL_short h f t x (List.mem_of_getElem? hx)
    have h1 : rrepR o ls f t i = sendR o ls f t (peekT o ls f t i) := by
      unfold rrepR sendR
      rw [if_pos hh, if_neg (c := onL o f t = false) (by rw [hb.1]; decide), if_neg (c := 60000 < (peekT o ls f t i).size) (by omega)]
    refine ⟨by rw [h1, h2], ?_, by rw [h3]; exact hs⟩
    rw [h3]
    unfold rrepL sendL
    rw [h1]
/-- A network and its reference, their blocks apart, all of them new. -/
structure Nets (B : Nat) (w : World) (p q : Nat) (o : Int) (ls : List (List ByteArray)) : Prop where
  ex : ∃ vs us, NetAt 92 w B p o vs ls ∧ NetAt 94 w B q o us ls ∧ (∀ i, ownN p vs i → ¬ ownN q us i) ∧ (∀ i, ownN p vs i → B ≤ i) ∧ (∀ i, ownN q us i → B ≤ i)
  short : ShortL ls
theorem Nets.below {B : Nat} {w w' : World} {p q : Nat} {o : Int} {ls : List (List ByteArray)} (h : Nets B w p q o ls) (hb : Below w.heap.size w w') : Nets B w' p q o ls := by
  obtain ⟨⟨vs, us, h1, h2, h3, h4, h5⟩, hs⟩ := h
  exact ⟨⟨vs, us, h1.below hb, h2.below hb, h3, h4, h5⟩, hs⟩
/-- An operation of the program's network, then one of the reference's, that leave the same lines. -/
theorem Nets.step {B : Nat} {w w1 w2 : World} {p q : Nat} {o : Int} {vs us : List Value} {ls ls' : List (List ByteArray)} (h1 : NetAt 92 w B p o vs ls) (h2 : NetAt 94 w B q o us ls) (h3 : ∀ i, ownN p vs i → ¬ ownN q us i) (h4 : ∀ i, ownN p vs i → B ≤ i) (h5 : ∀ i, ownN q us i → B ≤ i) (hB : B ≤ w.heap.size)
    (hp : NetTo 92 w B p o vs ls' w1) (hq : NetTo 94 w1 B q o us ls' w2) (hs : ShortL ls') : Nets B w2 p q o ls' ∧ Below B w w2 := by
  obtain ⟨vs', n1, e1, k1⟩ := hp
  obtain ⟨us', n2, e2, k2⟩ := hq
  refine ⟨⟨⟨vs', us', n1.keep k2 (fun i hi hj => ?_), n2, fun i hi hj => ?_, fun i hi => ?_, fun i hi => ?_⟩, hs⟩, ?_⟩
  · rcases e1 i hi with e | e
    · exact h3 i e hj
    · have := h2.lt hj; omega
  · rcases e2 i hj with e | e
    · rcases e1 i hi with f | f
      · exact h3 i f e
      · have := h2.lt e; omega
    · have := n1.lt hi; omega
  · rcases e1 i hi with e | e
    · exact h4 i e
    · omega
  · rcases e2 i hi with e | e
    · exact h5 i e
    · have := k1.size; omega
  · exact (k1.below (B := B) (fun i hi e => by have := h4 i e; omega) hB).trans (k2.below (B := B) (fun i hi e => by have := h5 i e; omega) (Nat.le_trans hB k1.size))
/-- The same, the reference first. -/
theorem Nets.step2 {B : Nat} {w w1 w2 : World} {p q : Nat} {o : Int} {vs us : List Value} {ls ls' : List (List ByteArray)} (h1 : NetAt 92 w B p o vs ls) (h2 : NetAt 94 w B q o us ls) (h3 : ∀ i, ownN p vs i → ¬ ownN q us i) (h4 : ∀ i, ownN p vs i → B ≤ i) (h5 : ∀ i, ownN q us i → B ≤ i) (hB : B ≤ w.heap.size)
    (hq : NetTo 94 w B q o us ls' w1) (hp : NetTo 92 w1 B p o vs ls' w2) (hs : ShortL ls') : Nets B w2 p q o ls' ∧ Below B w w2 := by
  obtain ⟨us', n2, e2, k2⟩ := hq
  obtain ⟨vs', n1, e1, k1⟩ := hp
  refine ⟨⟨⟨vs', us', n1, n2.keep k1 (fun i hi hj => ?_), fun i hi hj => ?_, fun i hi => ?_, fun i hi => ?_⟩, hs⟩, ?_⟩
  · rcases e2 i hi with e | e
    · exact h3 i hj e
    · have := h1.lt hj; omega
  · rcases e1 i hi with e | e
    · rcases e2 i hj with f | f
      · exact h3 i e f
      · have := h1.lt e; omega
    · have := n2.lt hj; omega
  · rcases e1 i hi with e | e
    · exact h4 i e
    · have := k2.size; omega
  · rcases e2 i hi with e | e
    · exact h5 i e
    · omega
  · exact (k2.below (B := B) (fun i hi e => by have := h5 i e; omega) hB).trans (k1.below (B := B) (fun i hi e => by have := h4 i e; omega) (Nat.le_trans hB k2.size))
theorem NetAt.fresh_low {T : TypeId} {w : World} {base base' p : Nat} {o : Int} (h : NetAt T w base p o (List.replicate 64 (Value.slice none 0 0)) (List.replicate 64 [])) : NetAt T w base' p o (List.replicate 64 (Value.slice none 0 0)) (List.replicate 64 []) := NetAt.fresh h.blk h.off h.ty
theorem own_fresh {p i : Nat} (h : ownN p (List.replicate 64 (Value.slice none 0 0)) i) : i = p := by
  rcases h with h | ⟨k, v, hv, hb⟩
  · exact h
  · obtain rfl : v = Value.slice none 0 0 := List.eq_of_mem_replicate (List.mem_of_getElem? hv)
    simp [Value.ownBlock] at hb
/-- The script's row. -/
def OpsN (w : World) (A : Option Addr) (l : List OpN) : Prop :=
  l = [] ∨ ∃ b off, A = some ⟨b, off, none⟩ ∧ b < w.heap.size ∧ ∀ k x, l[k]? = some x → ∀ j v, (opnCells x)[j]? = some v → w.cell? ⟨b, off + k * 5 + j, none⟩ = some v
theorem OpsN.at {w : World} {A : Option Addr} {l : List OpN} (h : OpsN w A l) {k : Nat} {x : OpN} (hx : l[k]? = some x) : ∃ b off, A = some ⟨b, off, none⟩ ∧ b < w.heap.size ∧ w.cell? ⟨b, off + k * 5, none⟩ = some (.int .u8 x.kind) ∧ w.cell? ⟨b, off + k * 5 + 1, none⟩ = some (.int .i64 x.src) ∧ w.cell? ⟨b, off + k * 5 + 2, none⟩ = some (.int .i64 x.dst) ∧ w.cell? ⟨b, off + k * 5 + 3, none⟩ = some (.int .i64 x.at_) ∧ w.cell? ⟨b, off + k * 5 + 4, none⟩ = some (.string x.text) := by
  rcases h with rfl | ⟨b, off, h1, h2, h3⟩
  · simp at hx
  · exact ⟨b, off, h1, h2, h3 k x hx 0 _ rfl, h3 k x hx 1 _ rfl, h3 k x hx 2 _ rfl, h3 k x hx 3 _ rfl, h3 k x hx 4 _ rfl⟩
set_option maxRecDepth 100000 in
set_option maxHeartbeats 16000000 in
theorem net_walk (o : Int) (A : Option Addr) (c : Nat) (l : List OpN) (hl : l.length ≤ 9223372036854775807) (w : World) (h : OpsN w A l) (hk : ∀ x ∈ l, 0 ≤ x.kind ∧ x.kind ≤ 255) (hx : ∀ x ∈ l, x.text.size ≤ 9223372036854775807) (hP : PowAt w) :
    Calls Tryz.prog 3 #[.int .i64 o, .slice A l.length c] w fun e w' => e = .returned (.bool true) ∧ Below w.heap.size w w' := by
  have KH := Lib.hid (fun W (hW : Below w.heap.size w W) => shipped_ok W (PowAt.up hP hW))
  clear hP
  by_cases ho : 1 ≤ o ∧ o ≤ 8
  rotate_left
  · have K1 := Lib.hid (newNet_bad o ho w)
    have K2 := Lib.hid (rnewNet_bad o ho w)
    go_enter Tryz.func3, Tryz.ntmps3
    go_wp2_with fail
    refine K1.out.mono ?_
    rintro e w1 ⟨rfl, rfl⟩
    go_wp2_with fail
    refine K2.out.mono ?_
    rintro e w1 ⟨rfl, rfl⟩
    go_wp2_with fail
    refine (KH.out _ (Below.refl _ _)).mono ?_
    rintro e wz ⟨rfl, hbz⟩
    have HBZ := Lib.hid hbz
    clear hbz
    go_wp2_with fail
    go_ret
    exact ⟨rfl, HBZ.out⟩
  have K1 := Lib.hid (newNet_ok o ho w)
  have K2 := Lib.hid (fun W => rnewNet_ok o ho W)
  have HO := Lib.hid h
  have HKD := Lib.hid hk
  have HTX := Lib.hid hx
  clear h hk hx
  go_enter Tryz.func3, Tryz.ntmps3
  go_wp2_with fail
  refine K1.out.mono ?_
  rintro e w1 ⟨rfl, hn1, hb1⟩
  have HN1 := Lib.hid hn1
  have HB1 := Lib.hid hb1
  clear hn1 hb1 K1
  go_wp2_with fail
  refine (K2.out w1).mono ?_
  rintro e w2 ⟨rfl, hn2, hb2⟩
  obtain ⟨p, hp⟩ : ∃ p, p = w.heap.size := ⟨_, rfl⟩
  obtain ⟨q, hq⟩ : ∃ q, q = w1.heap.size := ⟨_, rfl⟩
  have hpl : p < q := by rw [hp, hq]; exact HN1.out.blk.lt
  have HB2 := Lib.hid (HB1.out.trans (hb2.mono HB1.out.size))
  have HNS : Hid (Nets w.heap.size w2 p q o (List.replicate 64 [])) := Lib.hid (by
    refine ⟨⟨_, _, by rw [hp]; exact HN1.out.below hb2, by rw [hq]; exact hn2.fresh_low, fun i hi hj => ?_, fun i hi => ?_, fun i hi => ?_⟩, fun l hl => ?_⟩
    · have e1 := own_fresh hi
      have e2 := own_fresh hj
      omega
    · have e1 := own_fresh hi
      omega
    · have e2 := own_fresh hi
      have := HB1.out.size
      omega
    · obtain rfl := List.eq_of_mem_replicate hl
      intro m hm
      cases hm)
  rw [← hp, ← hq]
  clear hp hq hpl hn2 hb2 K2 HN1 HB1
  by_cases h400 : (400 : Int) < (l.length : Int)
  · go_wp2_with fail
    refine (KH.out _ HB2.out).mono ?_
    rintro e wz ⟨rfl, hbz⟩
    have HBZ := Lib.hid (HB2.out.trans (hbz.mono HB2.out.size))
    clear hbz
    go_wp2_with fail
    go_ret
    exact ⟨rfl, HBZ.out⟩
  go_wp2_with fail
  go_loopw [9, 10] (fun s i wr => ∃ (k : Nat) (T : Int) (ls : List (List ByteArray)), k ≤ l.length ∧ s = .int .i64 T ∧ (0 ≤ T ∧ T ≤ 200000) ∧ i = .int .i64 (k : Int) ∧ Nets w.heap.size wr p q o ls ∧ Below w.heap.size w wr) (fun _ i _ => l.length - (intOf i).toNat)
  case atStart => exact ⟨0, 0, _, Nat.zero_le _, rfl, by omega, rfl, HNS.out, HB2.out⟩
  case round =>
    clear HNS HB2
    obtain ⟨k, T, ls, hkl, rfl, ⟨hT0, hT1⟩, rfl, hns, hb⟩ := hrel
    have HBR := Lib.hid hb
    by_cases hlt : k < l.length
    rotate_left
    · have hki : ¬ (k : Int) < (l.length : Int) := by omega
      clear hns hb hlt
      go_wp2_with fail
      refine (KH.out _ HBR.out).mono ?_
      rintro e wz ⟨rfl, hbz⟩
      have HBZ := Lib.hid (HBR.out.trans (hbz.mono HBR.out.size))
      clear hbz
      go_wp2_with fail
      go_ret
      exact ⟨rfl, HBZ.out⟩
    obtain ⟨x, hx⟩ : ∃ x, l[k]? = some x := ⟨_, List.getElem?_eq_getElem hlt⟩
    have hm := List.mem_of_getElem? hx
    have hkd := HKD.out x hm
    have htx := HTX.out x hm
    obtain ⟨bb, off, rfl, hbb, q0, q1, q2, q3, q4⟩ := HO.out.at hx
    have t0 := (hb.cell (p := ⟨bb, off + k * 5, none⟩) hbb).trans q0
    have t1 := (hb.cell (p := ⟨bb, off + k * 5 + 1, none⟩) hbb).trans q1
    have t2 := (hb.cell (p := ⟨bb, off + k * 5 + 2, none⟩) hbb).trans q2
    have t3 := (hb.cell (p := ⟨bb, off + k * 5 + 3, none⟩) hbb).trans q3
    have t4 := (hb.cell (p := ⟨bb, off + k * 5 + 4, none⟩) hbb).trans q4
    have tz := Nat.lt_of_lt_of_le hbb hb.size
    have hki : (k : Int) < (l.length : Int) := by omega
    obtain ⟨kind, f, t, ix, tx⟩ := x
    dsimp only at t0 t1 t2 t3 t4 hkd htx
    have hal : Below wr.heap.size wr (wr.alloc (.cells #[.int .u8 kind, .int .i64 f, .int .i64 t, .int .i64 ix, .string tx] 32)) := (Below.refl _ _).alloc (Nat.le_refl _) _
    obtain ⟨⟨vs, us, r1, r2, a3, a4, a5⟩, ash⟩ := hns
    have HLP := Lib.hid (fun i (hi : ownN p vs i) => r1.lt hi)
    have HLQ := Lib.hid (fun i (hi : ownN q us i) => r2.lt hi)
    have HN1 := Lib.hid (r1.below hal)
    have HN2 := Lib.hid (r2.below hal)
    have A3 := Lib.hid a3
    have A4 := Lib.hid a4
    have A5 := Lib.hid a5
    have ASH := Lib.hid ash
    have HXB := Lib.hid (Blk.new wr 32 #[.int .u8 kind, .int .i64 f, .int .i64 t, .int .i64 ix, .string tx])
    have HBB := Lib.hid (hb.trans (hal.mono hb.size))
    have HLT := Lib.hid hlt
    have hk400 : (k : Int) < 400 := by omega
    have HTT := Lib.hid (show 0 ≤ T ∧ T ≤ 200000 from ⟨hT0, hT1⟩)
    clear hb hal hx hm q0 q1 q2 q3 q4 hkl hlt r1 r2 a3 a4 a5 ash
    go_upto_region 12 with fail
    obtain ⟨X, hX⟩ : ∃ X, X = wr.heap.size := ⟨_, rfl⟩
    have HXR := Lib.hid (Nat.le_of_eq hX)
    have HXR2 := Lib.hid (Nat.le_of_eq hX.symm)
    rw [← hX] at HXB ⊢
    clear hX t0 t1 t2 t3 t4 tz hbb
    generalize wr.alloc _ = wB at HXB HN1 HN2 HBB ⊢
    have x0 := (HXB.out).cell 0
    have x1 := (HXB.out).cell 1
    have x2 := (HXB.out).cell 2
    have x3 := (HXB.out).cell 3
    have x4 := (HXB.out).cell 4
    have xz := (HXB.out).lt
    simp at x0 x1 x2 x3 x4
    by_cases h5 : (100000 : Int) < (tx.size : Int)
    · go_wp2_with fail
      refine (KH.out _ HBB.out).mono ?_
      rintro e wz ⟨rfl, hbz⟩
      have HBZ := Lib.hid (HBB.out.trans (hbz.mono HBB.out.size))
      clear hbz
      go_wp2_with fail
      go_ret
      exact ⟨rfl, HBZ.out⟩
    by_cases h6 : (200000 : Int) < T + (tx.size : Int)
    · go_wp2_with fail
      refine (KH.out _ HBB.out).mono ?_
      rintro e wz ⟨rfl, hbz⟩
      have HBZ := Lib.hid (HBB.out.trans (hbz.mono HBB.out.size))
      clear hbz
      go_wp2_with fail
      go_ret
      exact ⟨rfl, HBZ.out⟩
    have HT6 := Lib.hid (show 0 ≤ T + (tx.size : Int) ∧ T + (tx.size : Int) ≤ 200000 by omega)
    have hc1 := Int.tmod_nonneg 5 hkd.1
    have hc2 := Int.tmod_lt_of_pos kind (show (0 : Int) < 5 by decide)
    have hc : kind.tmod 5 = 0 ∨ kind.tmod 5 = 1 ∨ kind.tmod 5 = 2 ∨ kind.tmod 5 = 3 ∨ kind.tmod 5 = 4 := by omega
    clear hc1 hc2 hkd htx
    have HXP : Hid (∀ i, ownN p vs i → i ≠ X) := Lib.hid (fun i hi e => by have h1 := HLP.out i hi; have h2 := HXR2.out; omega)
    have HXQ : Hid (∀ i, ownN q us i → i ≠ X) := Lib.hid (fun i hi e => by have h1 := HLQ.out i hi; have h2 := HXR2.out; omega)
    have HSZ := Lib.hid HBB.out.size
    have hd : Below wB.heap.size wB wB.drew := (Below.refl _ wB).drew
    have HD1 := Lib.hid (HN1.out.below hd)
    have HD2 := Lib.hid (HN2.out.below hd)
    have HXD := Lib.hid (HXB.out.drew)
    have hTw : IntKind.i64.wrap (T + (tx.size : Int)) = T + (tx.size : Int) := wrap_id _ (by have := HT6.out; omega) (by have := HT6.out; omega)
    have HS : Hid (∀ W : World, W.heap[X]? = wB.heap[X]? → W.cell? ⟨X, 0, none⟩ = some (.int .u8 kind) ∧ W.cell? ⟨X, 1, none⟩ = some (.int .i64 f) ∧ W.cell? ⟨X, 2, none⟩ = some (.int .i64 t) ∧ W.cell? ⟨X, 3, none⟩ = some (.int .i64 ix) ∧ W.cell? ⟨X, 4, none⟩ = some (.string tx)) := Lib.hid (fun W hW => by
      refine ⟨?_, ?_, ?_, ?_, ?_⟩ <;> (rw [World.cell?_of_block hW]; assumption))
    clear hd hT0 hT1
    rcases hc with hc | hc | hc | hc | hc
    · obtain ⟨r, hr⟩ : ∃ r, r = sendR o ls f t tx := ⟨_, rfl⟩
      obtain ⟨l2, hl2⟩ : ∃ l2, l2 = sendL o ls f t tx := ⟨_, rfl⟩
      have hr2 := Lib.hid hr.symm
      have hl3 := Lib.hid hl2.symm
      have hsh := Lib.hid (short_send ASH.out o f t tx)
      rw [← hl2] at hsh
      have S1 := Lib.hid (nsend_any HD1.out HSZ.out f t tx)
      have S2 := Lib.hid (fun W (hW : NetAt 94 W w.heap.size q o us ls) (hz : w.heap.size ≤ W.heap.size) => rsend_any hW hz f t tx)
      rw [← hr, ← hl2] at S1
      clear hr hl2
      go_upto_region 19 with fail
      have hd0 := HS.out wB.drew rfl
      go_region_held3 (fun W => W.cell? ⟨X, 0, none⟩ = some (.int .u8 kind) ∧ W.cell? ⟨X, 1, none⟩ = some (.int .i64 f) ∧ W.cell? ⟨X, 2, none⟩ = some (.int .i64 t) ∧ W.cell? ⟨X, 3, none⟩ = some (.int .i64 ix) ∧ W.cell? ⟨X, 4, none⟩ = some (.string tx))
        (exact HS.out _ (by repeat (first | (with_reducible assumption) | (with_reducible rfl) | (with_reducible refine heap_dr ?_))))
        (first
        | (go_at_call 10; refine S1.out.mono ?_; rintro e wI ⟨rfl, hT1⟩
           obtain ⟨vs2, m1, e1, k1⟩ := hT1
           have hxI : wI.heap[X]? = wB.heap[X]? := k1.block X HXB.out.lt (fun hi => HXP.out X hi rfl)
           have hxl : X < wI.heap.size := Nat.lt_of_lt_of_le HXB.out.lt k1.size
           have hn2 := HD2.out.keep k1 (fun i hi hj => A3.out i hj hi)
           have hzI : w.heap.size ≤ wI.heap.size := Nat.le_trans HSZ.out k1.size
           have S3 := Lib.hid (S2.out wI hn2 hzI)
           rw [hr2.out, hl3.out] at S3
           have HT1 := Lib.hid (show NetTo 92 wB.drew w.heap.size p o vs l2 wI from ⟨vs2, m1, e1, k1⟩)
           clear m1 e1 k1 hn2 hzI)
        | (go_at_call 11; refine S3.out.mono ?_; rintro e wJ ⟨rfl, hT2⟩
           have hxJ : wJ.heap[X]? = wB.heap[X]? := by
             obtain ⟨us2, _, _, k2⟩ := hT2
             exact (k2.block X hxl (fun hi => HXQ.out X hi rfl)).trans hxI
           have HT2 := Lib.hid hT2
           clear hT2))
      all_goals
        have HNX := Lib.hid (Nets.step HD1.out HD2.out A3.out A4.out A5.out HSZ.out HT1.out HT2.out hsh.out)
        have HBE := Lib.hid (HBB.out.drew.trans (HNX.out.2))
        clear S1 S2 S3 HT1 HT2 hsh
        go_wp2_with fail
        go_roundw
        case rel => exact ⟨k + 1, _, _, HLT.out, rfl, HT6.out, by go_num, HNX.out.1, HBE.out⟩
        case measure => exact meas_up _ _ HLT.out
    · have S1 := Lib.hid (nwait_any HD1.out f t)
      have S2 := Lib.hid (rwait_any HD2.out f t)
      generalize (if onL o f t = true then ((lineL_ ls f t).length : Int) else 0) = r at S1 S2
      go_upto_region 21 with fail
      have hd0 := HS.out wB.drew rfl
      go_region_held3 (fun W => W.cell? ⟨X, 0, none⟩ = some (.int .u8 kind) ∧ W.cell? ⟨X, 1, none⟩ = some (.int .i64 f) ∧ W.cell? ⟨X, 2, none⟩ = some (.int .i64 t) ∧ W.cell? ⟨X, 3, none⟩ = some (.int .i64 ix) ∧ W.cell? ⟨X, 4, none⟩ = some (.string tx))
        (exact HS.out _ (by repeat (first | (with_reducible assumption) | (with_reducible rfl) | (with_reducible refine heap_dr ?_))))
        (first
        | (go_at_call 12; refine S1.out.mono ?_; rintro e wI ⟨rfl, rfl⟩)
        | (go_at_call 13; refine S2.out.mono ?_; rintro e wJ ⟨rfl, rfl⟩))
      all_goals
        have HNX : Hid (Nets w.heap.size wB.drew p q o ls ∧ True) := Lib.hid ⟨⟨⟨vs, us, HD1.out, HD2.out, A3.out, A4.out, A5.out⟩, ASH.out⟩, trivial⟩
        have HBE := Lib.hid (HBB.out.drew)
        clear S1 S2
        go_wp2_with fail
        go_roundw
        case rel => exact ⟨k + 1, _, _, HLT.out, rfl, HT6.out, by go_num, HNX.out.1, HBE.out⟩
        case measure => exact meas_up _ _ HLT.out
    · have S1 := Lib.hid (ntake_any HN1.out f t ix)
      have S2 := Lib.hid (fun W (hW : NetAt 94 W w.heap.size q o us ls) (hz : w.heap.size ≤ W.heap.size) => rtake_any hW hz f t ix)
      have hsh := Lib.hid (short_take ASH.out o f t ix)
      generalize peekT o ls f t ix = y at S1 S2
      generalize peekE o ls f t ix = r at S1 S2
      generalize takeL o ls f t ix = l2 at S1 S2 hsh
      have hyy : (y.toList == y.toList) = true := by simp
      go_wp2_with fail
      refine S1.out.mono ?_
      rintro e wI ⟨rfl, vs2, m1, e1, k1⟩
      have HXI := Lib.hid (HXB.out.keep k1 (fun hi => HXP.out X hi rfl))
      clear x0 x1 x2 x3 x4 xz
      have x0 := (HXI.out).cell 0
      have x1 := (HXI.out).cell 1
      have x2 := (HXI.out).cell 2
      have x3 := (HXI.out).cell 3
      have x4 := (HXI.out).cell 4
      have xz := (HXI.out).lt
      simp at x0 x1 x2 x3 x4
      have S3 := Lib.hid (S2.out wI (HN2.out.keep k1 (fun i hi hj => A3.out i hj hi)) (Nat.le_trans HSZ.out k1.size))
      have HT1 := Lib.hid (show NetTo 92 wB w.heap.size p o vs l2 wI from ⟨vs2, m1, e1, k1⟩)
      clear m1 e1 k1 S1 S2
      go_wp2_with fail
      refine S3.out.mono ?_
      rintro e wJ ⟨rfl, hT2⟩
      have HNX := Lib.hid (Nets.step HN1.out HN2.out A3.out A4.out A5.out HSZ.out HT1.out hT2 hsh.out)
      have HBE := Lib.hid (HBB.out.trans (HNX.out.2))
      clear S3 HT1 hT2 hsh
      go_wp2_with fail
      go_roundw
      case rel => exact ⟨k + 1, _, _, HLT.out, rfl, HT6.out, by go_num, HNX.out.1, HBE.out⟩
      case measure => exact meas_up _ _ HLT.out
    · have S1 := Lib.hid (rtake_any HN2.out HSZ.out f t ix)
      have S2 := Lib.hid (fun W (hW : NetAt 92 W w.heap.size p o vs ls) => nlose_any hW f t ix)
      have hsh := Lib.hid (short_take ASH.out o f t ix)
      generalize peekT o ls f t ix = y at S1
      generalize peekE o ls f t ix = r at S1 S2
      generalize takeL o ls f t ix = l2 at S1 S2 hsh
      go_wp2_with fail
      refine S1.out.mono ?_
      rintro e wI ⟨rfl, us2, m1, e1, k1⟩
      have HXI := Lib.hid (HXB.out.keep k1 (fun hi => HXQ.out X hi rfl))
      clear x0 x1 x2 x3 x4 xz
      have x0 := (HXI.out).cell 0
      have x1 := (HXI.out).cell 1
      have x2 := (HXI.out).cell 2
      have x3 := (HXI.out).cell 3
      have x4 := (HXI.out).cell 4
      have xz := (HXI.out).lt
      simp at x0 x1 x2 x3 x4
      have S3 := Lib.hid (S2.out wI (HN1.out.keep k1 (fun i hi hj => A3.out i hi hj)))
      have HT1 := Lib.hid (show NetTo 94 wB w.heap.size q o us l2 wI from ⟨us2, m1, e1, k1⟩)
      clear m1 e1 k1 S1 S2
      go_wp2_with fail
      refine S3.out.mono ?_
      rintro e wJ ⟨rfl, hT2⟩
      have HNX := Lib.hid (Nets.step2 HN1.out HN2.out A3.out A4.out A5.out HSZ.out HT1.out hT2 hsh.out)
      have HBE := Lib.hid (HBB.out.trans (HNX.out.2))
      clear S3 HT1 hT2 hsh
      go_wp2_with fail
      go_roundw
      case rel => exact ⟨k + 1, _, _, HLT.out, rfl, HT6.out, by go_num, HNX.out.1, HBE.out⟩
      case measure => exact meas_up _ _ HLT.out
    · have hrs := rep_same ASH.out o f t ix
      obtain ⟨r, hr⟩ : ∃ r, r = repR o ls f t ix := ⟨_, rfl⟩
      obtain ⟨l2, hl2⟩ : ∃ l2, l2 = repL o ls f t ix := ⟨_, rfl⟩
      have hr2 := Lib.hid (show rrepR o ls f t ix = r from hrs.1.trans hr.symm)
      have hl3 := Lib.hid (show rrepL o ls f t ix = l2 from hrs.2.1.trans hl2.symm)
      have hsh := Lib.hid hrs.2.2
      rw [← hl2] at hsh
      clear hrs
      have S1 := Lib.hid (nrepeat_any HD1.out HSZ.out f t ix)
      have S2 := Lib.hid (fun W (hW : NetAt 94 W w.heap.size q o us ls) (hz : w.heap.size ≤ W.heap.size) => rrepeat_any hW hz f t ix)
      rw [← hr, ← hl2] at S1
      clear hr hl2
      go_upto_region 17 with fail
      have hd0 := HS.out wB.drew rfl
      go_region_held3 (fun W => W.cell? ⟨X, 0, none⟩ = some (.int .u8 kind) ∧ W.cell? ⟨X, 1, none⟩ = some (.int .i64 f) ∧ W.cell? ⟨X, 2, none⟩ = some (.int .i64 t) ∧ W.cell? ⟨X, 3, none⟩ = some (.int .i64 ix) ∧ W.cell? ⟨X, 4, none⟩ = some (.string tx))
        (exact HS.out _ (by repeat (first | (with_reducible assumption) | (with_reducible rfl) | (with_reducible refine heap_dr ?_))))
        (first
        | (go_at_call 17; refine S1.out.mono ?_; rintro e wI ⟨rfl, hT1⟩
           obtain ⟨vs2, m1, e1, k1⟩ := hT1
           have hxI : wI.heap[X]? = wB.heap[X]? := k1.block X HXB.out.lt (fun hi => HXP.out X hi rfl)
           have hxl : X < wI.heap.size := Nat.lt_of_lt_of_le HXB.out.lt k1.size
           have hn2 := HD2.out.keep k1 (fun i hi hj => A3.out i hj hi)
           have hzI : w.heap.size ≤ wI.heap.size := Nat.le_trans HSZ.out k1.size
           have S3 := Lib.hid (S2.out wI hn2 hzI)
           rw [hr2.out, hl3.out] at S3
           have HT1 := Lib.hid (show NetTo 92 wB.drew w.heap.size p o vs l2 wI from ⟨vs2, m1, e1, k1⟩)
           clear m1 e1 k1 hn2 hzI)
        | (go_at_call 18; refine S3.out.mono ?_; rintro e wJ ⟨rfl, hT2⟩
           have hxJ : wJ.heap[X]? = wB.heap[X]? := by
             obtain ⟨us2, _, _, k2⟩ := hT2
             exact (k2.block X hxl (fun hi => HXQ.out X hi rfl)).trans hxI
           have HT2 := Lib.hid hT2
           clear hT2))
      all_goals
        have HNX := Lib.hid (Nets.step HD1.out HD2.out A3.out A4.out A5.out HSZ.out HT1.out HT2.out hsh.out)
        have HBE := Lib.hid (HBB.out.drew.trans (HNX.out.2))
        clear S1 S2 S3 HT1 HT2 hsh
        go_wp2_with fail
        go_roundw
        case rel => exact ⟨k + 1, _, _, HLT.out, rfl, HT6.out, by go_num, HNX.out.1, HBE.out⟩
        case measure => exact meas_up _ _ HLT.out
end Go.Proofs.YthgfbaekmhpiaaaGreatDoor
namespace Go.Proofs.YthgfbaekmhpiaaaGreatDoor
open Go.ChangeShapes Go.WideShapes Go.ChangeAt Go.Deep Go.RowKit

theorem opnsRow : Tryz.prog.underlying 22 = some (.slice 32) := by kernel_rfl
section
variable {H : Type} {enc : TypeId × Value → H} {W : World}
set_option maxRecDepth 100000 in
theorem open_opnC {n : Nat} {cs : List Value} {x : DataW H × List MemPlace} (h : DataW.trod enc Tryz.prog W 0 (fun _ => true) true n 32 cs = some x) : ∃ o : OpN, cs = opnCells o ∧ o.text.size ≤ maxLen ∧ (0 ≤ o.kind ∧ o.kind ≤ 255) := by
  obtain ⟨hlen, m, hat⟩ := opnAt h
  match cs, hlen with
  | [c0, c1, c2, c3, c4], _ =>
    obtain ⟨_, h0⟩ := hat 0 _ _ rfl
    obtain ⟨_, h1⟩ := hat 1 _ _ rfl
    obtain ⟨_, h2⟩ := hat 2 _ _ rfl
    obtain ⟨_, h3⟩ := hat 3 _ _ rfl
    obtain ⟨_, h4⟩ := hat 4 _ _ rfl
    rw [cU8] at h0
    rw [cInt] at h1 h2 h3
    rw [cStr] at h4
    obtain ⟨n0, e0, _, w0⟩ := DataW.trod_int u8RowO h0
    obtain ⟨n1, e1, _, _⟩ := DataW.trod_int intRowO h1
    obtain ⟨n2, e2, _, _⟩ := DataW.trod_int intRowO h2
    obtain ⟨n3, e3, _, _⟩ := DataW.trod_int intRowO h3
    obtain ⟨s4, e4, _, w4⟩ := DataW.trod_string strRowO h4
    simp at e0 e1 e2 e3 e4
    subst e0 e1 e2 e3 e4
    exact ⟨⟨n0, n1, n2, n3, s4⟩, rfl, w4, isU8_wf w0⟩
theorem opnCells_lt (o : OpN) (j : Nat) (v : Value) (h : (opnCells o)[j]? = some v) : j < 5 := (List.getElem?_eq_some_iff.1 h).1
set_option maxRecDepth 100000 in
theorem open_opns {base : Nat} {v : Value} {d : DataW H} {ps : List MemPlace} (hval : Value.okWide Tryz.prog W .any base 22 v) (h : DataW.Trod enc Tryz.prog W 0 (fun _ => true) true 22 v d ps) :
    ∃ A c, ∃ l : List OpN, v = .slice A l.length c ∧ l.length ≤ maxLen ∧ OpsN W A l ∧ ∀ o ∈ l, o.text.size ≤ maxLen ∧ (0 ≤ o.kind ∧ o.kind ≤ 255) := by
  obtain ⟨A0, n0, c0, rfl⟩ := okWide_slice opnsRow hval
  obtain ⟨fuel, hf⟩ := h
  rcases open_slice opnsRow hf with ⟨hcs, hx⟩ | ⟨a, len, cap, m, n, D, Pl, hcs, _, hl, hm, hmm, hx, hi⟩
  · simp [Value.cells] at hcs
    obtain ⟨rfl, rfl, rfl⟩ := hcs
    exact ⟨none, 0, [], rfl, Nat.zero_le _, .inl rfl, by simp⟩
  · simp [Value.cells] at hcs
    obtain ⟨rfl, rfl, rfl⟩ := hcs
    simp only [if_true] at hmm
    subst hmm
    rw [opnCellsN] at hi
    have hE : ∀ i, i < n0 → ∃ o : OpN, (o.text.size ≤ maxLen ∧ (0 ≤ o.kind ∧ o.kind ≤ 255)) ∧ ∀ j u, (opnCells o)[j]? = some u → W.cell? (a.add (i * 5 + j)) = some u := by
      intro i hi'
      obtain ⟨cs', hc, ht⟩ := hi i (by omega)
      obtain ⟨e, rfl, he⟩ := open_opnC ht
      obtain ⟨_, _, hat⟩ := World.cells?_some hc
      refine ⟨e, he, fun j u hu => ?_⟩
      rw [← Go.Deep.add_add, hat j (opnCells_lt e j u hu), hu]
    obtain ⟨l, hll, hP⟩ := list_of hE
    refine ⟨some a, m, l, by rw [hll], by rw [hll]; omega, ?_, ?_⟩
    · cases hl0 : l with
      | nil => exact .inl rfl
      | cons e0 l' =>
        rw [← hl0]
        have h0 := hP 0 e0 (by rw [hl0]; rfl)
        have hc0 := h0.2 0 _ rfl
        have hsp0 : (a.add (0 * 5 + 0)).spot = none := World.cell?_spot hc0
        obtain ⟨b, off, spot⟩ := a
        obtain rfl : spot = none := by simpa [Addr.add] using hsp0
        have hlt : b < W.heap.size := by
          have := hc0
          rw [Addr.add_lit] at this
          exact World.block_lt_of_cell? W _ this
        refine .inr ⟨b, off, rfl, hlt, fun k x hk j v hj => ?_⟩
        have := (hP k x hk).2 j v hj
        rw [Addr.add_lit] at this
        rw [Nat.add_assoc]
        exact this
    · intro e he
      obtain ⟨i, hi2⟩ := List.getElem?_of_mem he
      exact (hP i e hi2).1
end
theorem custodyNet_rd0 : Tryz.prog.readableRec 3 = true ∧ (3 : TypeId) < Tryz.prog.types.size := ⟨by kernel_rfl, of_decide_eq_true (by kernel_rfl)⟩
theorem custodyNet_rd1 : Tryz.prog.readableRec 22 = true ∧ (22 : TypeId) < Tryz.prog.types.size := ⟨by kernel_rfl, of_decide_eq_true (by kernel_rfl)⟩
set_option maxRecDepth 100000 in
theorem custodyNet_contract (H : Type) (enc : TypeId × Value → H) (W : World) (base : Nat) (args : Array Value) (ds gs : List (DataW H)) (before : List MemPlace)
    (hval : ∀ (j : Nat) t v, Tryz.f3.params[j]? = some t → args[j]? = some v → Value.okWide Tryz.prog W .any base t v)
    (hW : DataW.Whole enc Tryz.prog Tryz.f3.params.toList Rows.custodyNetSpec.vars false W args.toList ds gs before)
    (hlaid : laidMetH Tryz.prog Rows.custodyNetRow.laid W) :
    Calls Tryz.prog 3 args W fun e W' => ∃ v, e = .returned v ∧ Rows.custodyNetSpec.post enc Tryz.prog Tryz.f3 false true false false W args v W' := by
  have hW' := hW
  obtain ⟨p, q, hA, hV, rfl, hfz, hnd⟩ := hW
  have hA0 : DataW.TrodAll enc Tryz.prog W 0 (fun _ => true) true [3, 22] args.toList ds p := hA
  obtain ⟨v0, vs0, d0, ds0, p0, q0, hargs, rfl, rfl, h0, r0⟩ := trodAll_cons hA0
  obtain ⟨v1, vs1, d1, ds1, p1, q1, rfl, rfl, rfl, h1, r1⟩ := trodAll_cons r0
  obtain ⟨rfl, rfl, rfl⟩ := trodAll_nil r1
  obtain rfl : args = #[v0, v1] := by cases args; simp_all
  obtain ⟨rfl, rfl⟩ := trodVars_none hV
  obtain ⟨n, rfl, rfl, rfl, _⟩ := open_int intRowO (hval 0 3 v0 rfl rfl) h0
  obtain ⟨A, c, l, rfl, hl, hL, hs⟩ := open_opns (hval 1 22 v1 rfl rfl) h1
  obtain ⟨hP, _⟩ := cu_laid (by exact hlaid)
  unfold maxLen at hl hs
  refine (net_walk n A c l (by omega) W hL (fun x hx => (hs x hx).2) (fun x hx => by have := (hs x hx).1; omega) hP).mono fun e W' ⟨he, hb⟩ => ?_
  subst he
  exact law_post rfl (fun t ht => by
    have ht' : t ∈ [(3 : TypeId), 22] := ht
    simp at ht'
    rcases ht' with rfl | rfl
    · exact custodyNet_rd0
    · exact custodyNet_rd1) rfl hW' rfl hb
theorem custodyNet_laid_met (os : Os) : laidMetH Tryz.prog Rows.custodyNetRow.laid ((doorW os).forCall (fun _ _ => 0) ⟨#[], #[.int .i64 0, .slice none 0 0], []⟩).memory :=
  by rw [Go.MakeChecks.laidMetH_plain _ _ _ (by kernel_rfl)]; exact laidMet_laidAll _ (by kernel_rfl) (by kernel_rfl)
theorem custodyNet_reads (os : Os) {H : Type} (enc : TypeId × Value → H) : ∃ places, DataW.whole enc Tryz.prog ((doorW os).forCall (fun _ _ => 0) ⟨#[], #[.int .i64 0, .slice none 0 0], []⟩).memory Tryz.f3.params.toList Rows.custodyNetSpec.vars false (#[.int .i64 0, .slice none 0 0] : Array Value).toList 8 = some ([.lit (.int .i64 0), .nil], [], places) :=
  ⟨[], by kernel_rfl⟩
set_option maxRecDepth 100000 in
theorem custodyNet_lifted (os : Os) (started : os.Started) (H : Type) (enc : TypeId × Value → H) (F : Stop.Interp) :
    ReturnsInHanded {} Tryz.checked os 3 .any ((OpenSpec.ofChange Rows.custodyNetSpec).preRow enc Tryz.prog Tryz.f3 Rows.custodyNetRow.domain false Rows.custodyNetRow.laid) (((OpenSpec.ofChange Rows.custodyNetSpec).at F).post enc Tryz.prog Tryz.f3 false true false false) := by
  obtain ⟨places, hx⟩ := custodyNet_reads os enc
  refine returnsInHanded_of_row (C := Tryz.checked) (s := OpenSpec.ofChange Rows.custodyNetSpec) ownKnobA started (by kernel_rfl) Tryz.func3
    (witness_zip (enc := enc) (C := Tryz.checked) false (doorW os) #[.int .i64 0, .slice none 0 0] (World.laidAll_os _ _ _) (by kernel_rfl) (by kernel_rfl) (by kernel_rfl)
      (OpenSpec.preRow_of_cond 8 hx (by kernel_rfl) (fun k hk => by cases hk) (by kernel_rfl) (custodyNet_laid_met os))) ?_
  intro W base args ds gs before hval hW _ _ _ hlaid hsh _
  exact custodyNet_contract H enc W base args ds gs before hval hW hlaid
theorem custodyNet_said : Rows.CustodyNetSaid :=
  OpenClaim.holds_of_cond 3 Tryz.f3 rfl rfl rfl rfl rfl rfl rfl ⟨rfl, rfl, rfl, rfl, rfl⟩ rfl rfl rfl rfl rfl (by kernel_rfl) Tryz.func3 (by kernel_rfl)
    (of_decide_eq_true (by kernel_rfl)) (by unfold Func.isWrapper; first | (rw [if_pos (by decide +kernel)]; kernel_rfl) | (rw [if_neg (by decide +kernel)]; exact ⟨rfl, rfl⟩))
    (fun os started H enc _ F => by rw [OpenClaim.pre_eq_preRow]; exact custodyNet_lifted os started H enc F)
theorem custodyNet_plain (f : FuncId) (fn : Func) (hf : Tryz.pinned.checked.prog.funcNamed "restante/restantelaw07.CustodyNet" = some f) (hfn : Tryz.pinned.checked.prog.funcs[f]? = some fn) :
    true = Tryz.pinned.checked.prog.looks [] ∧ ∀ (j : Nat) t, fn.params[j]? = some t → Tryz.pinned.checked.prog.wantsStandIn t = false := by
  obtain rfl : f = 3 := Option.some.inj ((show Tryz.prog.funcNamed "restante/restantelaw07.CustodyNet" = some 3 by kernel_rfl).symm.trans hf) |>.symm
  obtain rfl : fn = Tryz.f3 := (Option.some.inj (Tryz.func3.symm.trans hfn)).symm
  refine ⟨by kernel_rfl, fun j t ht => ?_⟩
  rw [Tryz.params3] at ht
  have ht' := Array.mem_of_getElem? ht
  simp at ht'
  rcases ht' with rfl | rfl
  · exact (show Tryz.prog.wantsStandIn 3 = false by kernel_rfl)
  · exact (show Tryz.prog.wantsStandIn 22 = false by kernel_rfl)
theorem custodyNet_card : Rows.CustodyNetCardSaid :=
  Claim7.holds_tied_plain_at .later [] _ _ _ _ custodyNet_said (fun _ h => by cases h) (by kernel_rfl) (fun _ h => by cases h) custodyNet_row_tie rfl ⟨rfl, rfl⟩ (by kernel_rfl) rfl custodyNet_plain (by kernel_rfl)
#print axioms custodyNet_card
end Go.Proofs.YthgfbaekmhpiaaaGreatDoor
