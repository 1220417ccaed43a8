/- Following and circles: a route that loops goes through a circle; from a pair of a circle, where nobody refuses, the route is this circle. No conditions. The contract of the law's circled, where the hops go through a circle of the list. Conditions: the hops and the circles lie in memory; sizes. -/
import Derived.Test.YtlbehpbhmmppiaaGreatDoorPLoopsA
import Derived.Test.YtlbehpbhmmppiaaGreatDoorFolA
import Derived.Test.YtlbehpbhmmppiaaGreatDoorAddPA
import Derived.Test.YtlbehpbhmmppiaaGreatDoorFolC
import Derived.IntWalk
namespace Go.Proofs.YtlbehpbhmmppiaaGreatDoor
open Go.RowKit Go.Shelf

theorem nx_of {l : List OEnt} {d : Int} {c : Int × Int} (h : (hopAt l d c).2 = true) : nxAt l d c = some (hopAt l d c).1.2.1 := by
  unfold nxAt
  rw [if_pos h]
theorem of_nx {l : List OEnt} {d : Int} {c y : Int × Int} (h : nxAt l d c = some y) : (hopAt l d c).2 = true ∧ (hopAt l d c).1.2.1 = y := by
  unfold nxAt at h
  split at h
  · rename_i h1
    exact ⟨h1, Option.some.inj h⟩
  · cases h
/-- What the hops of a way are: a chain of the step. -/
theorem chain_way {l : List OEnt} {d s : Int} {hs : List HopV} {e : Int × Int} {r : Rt} (h : Fol l d s hs e r) : ChainC (nxAt l d) (froms hs) e → (froms hs ++ [e]).Nodup → r.kind = 6 → ∃ i : Nat, r.back = i ∧ i < r.hops.length ∧ ∃ a, CycC (nxAt l d) ((froms r.hops).drop i) a := by
  induction h with
  | @ends hs e k f h1 =>
    intro _ _ hk
    have := (arrive_kind h1).2.1
    dsimp only at hk
    omega
  | @loop hs e i h1 h2 =>
    intro hc hn _
    have hl := arrive_none h1
    have hi := backTo_some h2
    have hf : froms (hs ++ [hopV l d e]) = froms hs ++ [e] := by simp [froms, hopV]
    refine ⟨i, rfl, ?_, (hopAt l d e).1.2.1, ?_⟩
    · have := (List.getElem?_eq_some_iff.1 hi).1
      simpa [froms] using this
    · rw [hf]
      exact cyc_of_walk (chainC_snoc hc (nx_of hl)) hn i hi
  | @on hs e r h1 h2 _ ih =>
    intro hc hn hk
    have hl := arrive_none h1
    have hf : froms (hs ++ [hopV l d e]) = froms hs ++ [e] := by simp [froms, hopV]
    refine ih (by rw [hf]; exact chainC_snoc hc (nx_of hl)) ?_ hk
    rw [hf, List.nodup_append]
    refine ⟨hn, by simp, fun a ha b hb e => ?_⟩
    rw [List.mem_singleton.1 hb] at e
    subst e
    exact backTo_none h2 ha
/-- The least pair of some. -/
theorem least_at : ∀ (q : List PairP), q ≠ [] → ∃ (k : Nat) (m : PairP), q[k]? = some m ∧ ∀ x, x ∈ q → ¬ ltC x m
  | [], h => absurd rfl h
  | [a], _ => ⟨0, a, rfl, fun x hx => by rw [List.mem_singleton.1 hx]; exact ltC_irr _⟩
  | a :: b :: q, _ => by
    obtain ⟨k, m, h1, h2⟩ := least_at (b :: q) (by simp)
    by_cases hl : ltC a m
    · refine ⟨0, a, rfl, fun x hx => ?_⟩
      rcases List.mem_cons.1 hx with rfl | hx
      · exact ltC_irr _
      · intro hxa
        exact h2 x hx (ltC_trans hxa hl)
    · refine ⟨k + 1, m, by simpa using h1, fun x hx => ?_⟩
      rcases List.mem_cons.1 hx with rfl | hx
      · exact hl
      · exact h2 x hx
/-- A turn, element by element. -/
theorem turn_at {α : Type} (q : List α) (t : Nat) (ht : t ≤ q.length) (h0 : 0 < q.length) (j : Nat) (hj : j < q.length) : (q.drop t ++ q.take t)[j]? = q[(t + j) % q.length]? := by
  by_cases h : j < q.length - t
  · rw [List.getElem?_append_left (by simpa using h), List.getElem?_drop, Nat.mod_eq_of_lt (by omega)]
  · rw [List.getElem?_append_right (by simp; omega), List.length_drop, List.getElem?_take_of_lt (by omega)]
    congr 1
    have : t + j = (j - (q.length - t)) + q.length := by omega
    rw [this, Nat.add_mod_right, Nat.mod_eq_of_lt (by omega)]
theorem turn_back {α : Type} {q Q : List α} {t : Nat} (ht : t < q.length) (hQ : Q = q.drop t ++ q.take t) : ∃ k, k < Q.length ∧ ∀ i, i < q.length → q[i]? = Q[(k + i) % Q.length]? := by
  have hl : Q.length = q.length := by rw [hQ]; simp; omega
  have h0 : 0 < q.length := by omega
  refine ⟨(q.length - t) % q.length, by rw [hl]; exact Nat.mod_lt _ h0, fun i hi => ?_⟩
  have hm := Nat.mod_lt ((q.length - t) % q.length + i) h0
  rw [hl]
  subst hQ
  rw [turn_at q t (by omega) h0 _ hm]
  congr 1
  by_cases h0t : t = 0
  · subst h0t
    rw [Nat.sub_zero, Nat.mod_self, Nat.zero_add, Nat.zero_add, Nat.mod_mod, Nat.mod_eq_of_lt hi]
  · rw [Nat.mod_eq_of_lt (show q.length - t < q.length by omega), Nat.add_mod_mod, show t + (q.length - t + i) = i + q.length by omega, Nat.add_mod_right, Nat.mod_eq_of_lt hi]
/-- That some hops go through a circle of a list of circles. -/
def Circled (fs : List PairP) (R : List (List PairP)) : Prop := ∃ (j k : Nat) (Q : List PairP), R[j]? = some Q ∧ k < Q.length ∧ Q.length = fs.length ∧ ∀ i, i < fs.length → fs[i]? = Q[(k + i) % Q.length]?
theorem circled_loop {l : List OEnt} {d s : Int} {c : Int × Int} {r : Rt} {R : List (List PairP)} (h : Fol l d s [] c r) (hk : r.kind = 6) (hR : ∀ Q, Q ∈ R ↔ CanonC (nxAt l d) Q) : ∃ i : Nat, r.back = i ∧ i < r.hops.length ∧ Circled ((froms r.hops).drop i) R := by
  obtain ⟨i, h1, h2, a, hc⟩ := chain_way h (chainC_nil _) (by simp [froms]) hk
  refine ⟨i, h1, h2, ?_⟩
  generalize (froms r.hops).drop i = q at hc
  have hne : q ≠ [] := fun e => by have := hc.head; rw [e] at this; cases this
  obtain ⟨t, m, ht, hm⟩ := least_at q hne
  obtain ⟨h3, _⟩ := canon_turn hc t ht hm
  have htl := (List.getElem?_eq_some_iff.1 ht).1
  obtain ⟨j, hj⟩ := List.getElem?_of_mem ((hR _).2 h3)
  obtain ⟨k, hk1, hk2⟩ := turn_back htl rfl
  exact ⟨j, k, _, hj, hk1, by simp; omega, hk2⟩
theorem arrive_goes {l : List OEnt} {d s : Int} {c : Int × Int} (h : (hopAt l d c).2 = true) (hn : refusesOf (deadOf l d) l d c s = false) : arrive l d s c = none := by
  unfold arrive
  rw [if_neg (fun h' => hop_leads h h'.2), if_neg (by rw [hn]; simp), if_neg (by rw [h]; simp), if_pos h]
theorem froms_map (l : List OEnt) (d : Int) (q : List PairP) : froms (q.map (hopV l d)) = q := by
  unfold froms
  rw [List.map_map]
  exact (List.map_congr_left (fun x _ => rfl)).trans (List.map_id _)
/-- Following a circle from its head. -/
theorem fol_cyc {l : List OEnt} {d s : Int} {q : List PairP} {a : PairP} (h : CycC (nxAt l d) q a) (hn : ∀ c, refusesOf (deadOf l d) l d c s = false) : Fol l d s [] a ⟨6, a, q.map (hopV l d), 0⟩ := by
  suffices H : ∀ (t i : Nat) (c : PairP), i + t + 1 = q.length → q[i]? = some c → Fol l d s ((q.take i).map (hopV l d)) c ⟨6, a, q.map (hopV l d), 0⟩ by
    have h0 := (List.getElem?_eq_some_iff.1 h.head).1
    have := H (q.length - 1) 0 a (by omega) h.head
    simpa using this
  intro t
  induction t with
  | zero =>
    intro i c hi hc
    have hx := h.chain i c hc
    rw [List.getElem?_append_right (by omega), show i + 1 - q.length = 0 by omega] at hx
    obtain ⟨h1, h2⟩ := of_nx (show nxAt l d c = some a from hx)
    have hq : q.take i ++ [c] = q := by
      have := List.take_add_one (l := q) (i := i)
      rw [hc] at this
      rw [show q = q.take (i + 1) by rw [List.take_of_length_le (by omega)]]
      rw [List.take_take, show min i (i + 1) = i by omega]
      exact this.symm
    have hb : backTo (froms ((q.take i).map (hopV l d)) ++ [c]) (hopAt l d c).1.2.1 = some 0 := by
      rw [froms_map, hq, h2]
      unfold backTo
      rw [List.findIdx?_eq_some_iff_getElem]
      refine ⟨(List.getElem?_eq_some_iff.1 h.head).1, ?_, fun j hj => by omega⟩
      have := h.head
      rw [List.getElem?_eq_getElem (List.getElem?_eq_some_iff.1 h.head).1] at this
      simpa using this
    have := Fol.loop (arrive_goes h1 (hn c)) hb
    rw [h2] at this
    have he : (q.take i).map (hopV l d) ++ [hopV l d c] = q.map (hopV l d) := by
      rw [← hq]
      simp [List.take_append, show (q.take i).length = i by simp; omega]
    rw [he] at this
    exact this
  | succ t ih =>
    intro i c hi hc
    obtain ⟨y, hy⟩ : ∃ y, q[i + 1]? = some y := ⟨_, List.getElem?_eq_getElem (by omega)⟩
    have hx := h.chain i c hc
    rw [List.getElem?_append_left (by omega), hy] at hx
    obtain ⟨h1, h2⟩ := of_nx hx
    have hT : q.take (i + 1) = q.take i ++ [c] := by rw [List.take_add_one, hc]; rfl
    have hb : backTo (froms ((q.take i).map (hopV l d)) ++ [c]) (hopAt l d c).1.2.1 = none := by
      rw [froms_map, h2, ← hT]
      unfold backTo
      rw [List.findIdx?_eq_none_iff]
      intro x hxm
      rw [decide_eq_false_iff_not]
      rintro rfl
      obtain ⟨j, hj⟩ := List.getElem?_of_mem hxm
      have hjl : j < i + 1 := by
        have := (List.getElem?_eq_some_iff.1 hj).1
        simp only [List.length_take] at this
        omega
      rw [List.getElem?_take_of_lt hjl] at hj
      have := (List.getElem?_inj (by omega) h.nodup).1 (hj.trans hy.symm)
      omega
    refine Fol.on (arrive_goes h1 (hn c)) hb ?_
    rw [h2]
    have := ih (i + 1) y (by omega) hy
    rw [hT, List.map_append] at this
    exact this
/-- From each pair of a circle. -/
theorem fol_circ {l : List OEnt} {d s : Int} {Q : List PairP} {p : PairP} {r : Rt} (hQ : CanonC (nxAt l d) Q) (hp : p ∈ Q) (hn : ∀ c, refusesOf (deadOf l d) l d c s = false) (h : Fol l d s [] p r) : r.kind = 6 ∧ r.back = 0 ∧ r.hops.length = Q.length ∧ Circled (froms r.hops) [Q] := by
  obtain ⟨a, ha, _⟩ := hQ
  obtain ⟨t, ht⟩ := List.getElem?_of_mem hp
  have htl := (List.getElem?_eq_some_iff.1 ht).1
  have hT := cyc_turn ha t ht
  obtain rfl := h.unique (fol_cyc hT hn)
  refine ⟨rfl, rfl, by simp; omega, ?_⟩
  dsimp only
  rw [froms_map]
  have hl : (Q.drop t ++ Q.take t).length = Q.length := by simp; omega
  exact ⟨0, t, Q, rfl, htl, hl.symm, fun i hi => turn_at Q t (by omega) (by omega) i (by omega)⟩
end Go.Proofs.YtlbehpbhmmppiaaGreatDoor
namespace Go.Proofs.YtlbehpbhmmppiaaGreatDoor
open Go.RowKit Go.Shelf Go.Sort
attribute [local go_sem] Oper.semAt_some

/-- The circle, and the place in it, that is looked for. -/
def WitC (fs : List PairP) (R : List (List PairP)) (js ks : Nat) (Q : List PairP) : Prop := R[js]? = some Q ∧ ks < Q.length ∧ Q.length = fs.length ∧ ∀ i, i < fs.length → fs[i]? = Q[(ks + i) % Q.length]?

set_option maxRecDepth 100000 in
set_option maxHeartbeats 8000000 in
theorem circled_any (k : Int) (e : Int × Int) (gh ch b : Nat) (hs : List HopV) (A : Option Addr) (c : Nat) (R : List (List PairP)) (w : World) (hH : RowH w gh hs) (hC : CircsAt w A R) (hb : b < hs.length) (hlen : hs.length ≤ 1000) (hR : R.length ≤ 1000) (hq : ∀ q, q ∈ R → q.length ≤ 1000) (hX : Circled ((froms hs).drop b) R) :
    Calls Tryz.prog 11 #[.agg #[.int .u8 k, .int .i64 e.1, .int .i64 e.2, .slice (some ⟨gh, 0, none⟩) hs.length ch, .int .i64 b], .slice A R.length c] w fun e w' => e = .returned (.bool true) ∧ Below w.heap.size w w' := by
  obtain ⟨js, ks, QQ, hwit⟩ := hX
  have HWI : Hid (WitC ((froms hs).drop b) R js ks QQ) := Lib.hid hwit
  have hjs := (List.getElem?_eq_some_iff.1 hwit.1).1
  have hfl : ((froms hs).drop b).length = hs.length - b := by simp [froms]
  have HFL := Lib.hid hfl
  have HFR : Hid (∀ i x, hs[b + i]? = some x → ((froms hs).drop b)[i]? = some x.2.1) := Lib.hid fun i x hx => by
    rw [List.getElem?_drop]
    unfold froms
    rw [List.getElem?_map, hx]
    rfl
  have HQ := Lib.hid hq
  generalize (froms hs).drop b = fs at HWI HFL HFR
  obtain ⟨n, hn⟩ : ∃ n : Nat, (hs.length : Int) - (b : Int) = (n : Int) := ⟨hs.length - b, by omega⟩
  have hn1 : 1 ≤ n ∧ b + n = hs.length := by omega
  have HN : Hid (fs.length = n) := Lib.hid (by rw [HFL.out]; omega)
  have hB0 : Below w.heap.size w (w.alloc (.cells #[.int .u8 k, .int .i64 e.1, .int .i64 e.2, .slice (some ⟨gh, 0, none⟩) hs.length ch, .int .i64 b] 36)) := below_al (Below.refl _ _) _
  have kR0 := Blk.new w 36 #[.int .u8 k, .int .i64 e.1, .int .i64 e.2, .slice (some ⟨gh, 0, none⟩) hs.length ch, .int .i64 b]
  have HHn := Lib.hid hn
  clear hwit hfl hq hn
  go_enter Tryz.func11, Tryz.ntmps11
  go_upto_region 1 with fail
  generalize w.alloc (.cells _ 36) = W0 at hB0 kR0 ⊢
  have r3 := kR0.cell 3
  have r4 := kR0.cell 4
  have zR := kR0.lt
  simp at r3 r4
  go_wp2_with fail
  try rw [HHn.out]
  clear r3 r4 zR
  go_loopw [19] (fun i wr => ∃ j : Nat, j ≤ R.length ∧ i = .int .i64 j ∧ Hid (j ≤ js) ∧ Below w.heap.size w wr ∧ Blk wr w.heap.size 36 #[.int .u8 k, .int .i64 e.1, .int .i64 e.2, .slice (some ⟨gh, 0, none⟩) hs.length ch, .int .i64 b]) (fun i _ => R.length - (intOf i).toNat)
  case atStart => exact ⟨0, Nat.zero_le _, rfl, Lib.hid (Nat.zero_le _), hB0, kR0⟩
  case round =>
    clear hB0 kR0
    obtain ⟨j, hj, rfl, HJ, hB, kR⟩ := hrel
    have hlt : j < R.length := by have := HJ.out; omega
    obtain ⟨q, hq⟩ : ∃ q, R[j]? = some q := ⟨_, List.getElem?_eq_getElem hlt⟩
    obtain ⟨g, v, hA, hg, hcell, gq, oq, cq, rfl, hP, hne⟩ := (hC.up hB) j q hq
    subst hA
    have HQJ := Lib.hid hq
    have hql := HQ.out q (List.mem_of_getElem? hq)
    clear hq
    have HBo := Lib.hid hB
    have HPo := Lib.hid hP
    clear hP
    go_wp2_with fail
    clear hcell hg
    obtain ⟨wo, rfl⟩ : ∃ wo : World, wo = wr := ⟨_, rfl⟩
    go_loopw [25] (fun i wr => ∃ kk : Nat, kk ≤ q.length ∧ i = .int .i64 kk ∧ Hid (j = js → kk ≤ ks) ∧ Below wo.heap.size wo wr ∧ Blk wr w.heap.size 36 #[.int .u8 k, .int .i64 e.1, .int .i64 e.2, .slice (some ⟨gh, 0, none⟩) hs.length ch, .int .i64 b]) (fun i _ => q.length - (intOf i).toNat)
    case atStart => exact ⟨0, Nat.zero_le _, rfl, Lib.hid (fun _ => Nat.zero_le _), Below.refl _ _, kR⟩
    case round =>
      clear kR
      obtain ⟨kk, hkk, rfl, HK, hB2, kR⟩ := hrel
      by_cases hltk : kk < q.length
      · go_wp2_with fail
        obtain ⟨wm, rfl⟩ : ∃ wm : World, wm = wr := ⟨_, rfl⟩
        go_loopw [9, 10] (fun sv i wr => ∃ (sm : Bool) (i0 : Nat), i0 ≤ n ∧ sv = .bool sm ∧ i = .int .i64 i0 ∧ Hid (sm = true → q.length = n) ∧ Hid (j = js ∧ kk = ks → sm = true) ∧ Below wm.heap.size wm wr ∧ Blk wr w.heap.size 36 #[.int .u8 k, .int .i64 e.1, .int .i64 e.2, .slice (some ⟨gh, 0, none⟩) hs.length ch, .int .i64 b]) (fun _ i _ => n - (intOf i).toNat)
        case atStart =>
          refine ⟨((q.length : Int) == (n : Int)), 0, Nat.zero_le _, rfl, rfl, Lib.hid (fun h => by have := eq_of_beq h; omega), Lib.hid (fun h => ?_), Below.refl _ _, kR⟩
          have h1 := HWI.out.1
          rw [← h.1, HQJ.out] at h1
          cases h1
          have := HWI.out.2.2.1
          rw [HN.out] at this
          rw [this]
          simp
        case round =>
          clear kR
          obtain ⟨sm, i0, hi, rfl, rfl, HS1, HS2, hB3, kR⟩ := hrel
          have HBx : Hid (Below w.heap.size w wr ∧ Below wo.heap.size wo wr) := Lib.hid ⟨HBo.out.trans ((hB2.trans (hB3.mono hB2.size)).mono HBo.out.size), hB2.trans (hB3.mono hB2.size)⟩
          have HNX : Hid (sm = false → j = js → kk + 1 ≤ ks) := Lib.hid (fun h h1 => by
            have h2 := HK.out h1
            have h3 : kk ≠ ks := fun e => by have := HS2.out ⟨h1, e⟩; rw [h] at this; cases this
            omega)
          by_cases hlti : i0 < n
          · cases sm
            · have HNX' := Lib.hid (HNX.out rfl)
              clear HNX HS1 HS2 HK
              go_wp2_with fail
              go_roundw
              case rel => exact ⟨kk + 1, by omega, by go_num, HNX', HBx.out.2, kR⟩
              case measure => simp [intOf]; omega
            · have hqn := HS1.out rfl
              obtain ⟨x, hx⟩ : ∃ x, hs[b + i0]? = some x := ⟨_, List.getElem?_eq_getElem (by omega)⟩
              have hpn : (kk + i0) % n < n := Nat.mod_lt _ (by omega)
              have hm : Int.tmod ((kk : Int) + (i0 : Int)) (n : Int) = (((kk + i0) % n : Nat) : Int) := by
                rw [Int.tmod_eq_emod_of_nonneg (by omega), ← Int.natCast_add, ← Int.natCast_emod]
              obtain ⟨p, hp⟩ : ∃ p, p = (kk + i0) % n := ⟨_, rfl⟩
              rw [← hp] at hpn hm
              obtain ⟨y, hy⟩ : ∃ y, q[p]? = some y := ⟨_, List.getElem?_eq_getElem (by omega)⟩
              have HY : Hid (j = js ∧ kk = ks → x.2.1 = y) := Lib.hid (fun h => by
                have h1 := HWI.out
                rw [← h.1, ← h.2] at h1
                obtain ⟨h2, _, h4, h5⟩ := h1
                rw [HQJ.out] at h2
                cases h2
                have h6 := h5 i0 (by rw [HN.out]; exact hlti)
                rw [HFR.out i0 x hx, hqn, ← hp, hy] at h6
                exact Option.some.inj h6)
              have hcx := hH.2 (b + i0) x hx
              have f1 := (HBx.out.1.cell (p := ⟨gh, (b + i0) * 6 + 1, none⟩) hH.1).trans (hcx 1 (by omega))
              have f2 := (HBx.out.1.cell (p := ⟨gh, (b + i0) * 6 + 2, none⟩) hH.1).trans (hcx 2 (by omega))
              have zh := Nat.lt_of_lt_of_le hH.1 HBx.out.1.size
              obtain ⟨y0, y1⟩ := (HPo.out.up HBx.out.2 HPo.out.lt).at' p y hy
              have zq := (HPo.out.up HBx.out.2 HPo.out.lt).lt
              simp [hopCells] at f1 f2
              have r3 := kR.cell 3
              have r4 := kR.cell 4
              have zR := kR.lt
              simp at r3 r4
              have s1 : IntKind.i64.wrap ((b : Int) + (i0 : Int)) = (b : Int) + (i0 : Int) := IntWalk.i64_in _ (by omega)
              have s2 : (0 : Int) ≤ (b : Int) + (i0 : Int) := by omega
              have s3 : (b : Int) + (i0 : Int) < (hs.length : Int) := by omega
              have s4 : ((b : Int) + (i0 : Int)).toNat = b + i0 := by omega
              have s5 : IntKind.i64.wrap ((kk : Int) + (i0 : Int)) = (kk : Int) + (i0 : Int) := IntWalk.i64_in _ (by omega)
              have s6 : ((n : Int) == 0) = false := by simp; omega
              have s7 : IntKind.i64.wrap (p : Int) = (p : Int) := IntWalk.i64_in _ (by omega)
              have s8 : (p : Int) < (q.length : Int) := by omega
              have s9 : p < q.length := by omega
              have heq := eqCand x.2.1 y
              have hng := fun a b => noGuardCand .eql a b x.2.1 y
              unfold candVal at heq hng
              have HQN := Lib.hid hqn
              clear hx hy hp hcx hqn HNX HS2
              go_wp2_with fail
              go_quiet (fail)
              have hB4 := below_dr hB3 nq
              have kR4 : Blk (wr.drewN nq) w.heap.size 36 #[.int .u8 k, .int .i64 e.1, .int .i64 e.2, .slice (some ⟨gh, 0, none⟩) hs.length ch, .int .i64 b] := kR
              clear hB3 kR f1 f2 y0 y1 r3 r4 s1 s2 s3 s4 s5 s6 s7 s8 heq hng hm
              generalize wr.drewN nq = w9 at hB4 kR4 ⊢
              go_wp2_with fail
              go_roundw
              case rel => exact ⟨decide (x.2.1 = y), i0 + 1, by omega, rfl, by go_num, Lib.hid (fun _ => HQN.out), Lib.hid (fun h => decide_eq_true (HY.out h)), hB4, kR4⟩
              case measure => simp [intOf]; omega
          · obtain rfl : i0 = n := by omega
            cases sm
            · have HNX' := Lib.hid (HNX.out rfl)
              clear HNX HS1 HS2 HK
              go_wp2_with fail
              go_roundw
              case rel => exact ⟨kk + 1, by omega, by go_num, HNX', HBx.out.2, kR⟩
              case measure => simp [intOf]; omega
            · go_wp2_with fail
              go_ret
              exact ⟨rfl, HBx.out.1⟩
      · obtain rfl : kk = q.length := by omega
        have HJN : Hid (j + 1 ≤ js) := Lib.hid (by
          have h1 := HJ.out
          have h2 : j ≠ js := fun e => by
            have h3 := HK.out e
            have h4 := HWI.out
            rw [← e] at h4
            have h5 := h4.1
            rw [HQJ.out] at h5
            cases h5
            have := h4.2.1
            omega
          omega)
        have HBx : Hid (Below w.heap.size w wr) := Lib.hid (HBo.out.trans (hB2.mono HBo.out.size))
        clear HK hB2
        go_wp2_with fail
        go_roundw
        case rel => exact ⟨j + 1, by omega, by go_num, HJN, HBx.out, kR⟩
        case measure => simp [intOf]; omega
end Go.Proofs.YtlbehpbhmmppiaaGreatDoor
