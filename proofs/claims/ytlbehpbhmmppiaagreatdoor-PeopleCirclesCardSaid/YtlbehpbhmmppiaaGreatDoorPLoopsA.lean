/- The contract of Loops: all circles of a day, each from its least pair on, in ascending order. Conditions: the list lies in memory; at most 2 * 10^12 entries. -/
import Derived.Test.YtlbehpbhmmppiaaGreatDoorTgA
import Derived.Test.YtlbehpbhmmppiaaGreatDoorCircA
import Derived.Test.YtlbehpbhmmppiaaGreatDoorPairSlA
import Derived.Test.YtlbehpbhmmppiaaGreatDoorCircSA
import Derived.Test.YtlbehpbhmmppiaaGreatDoorOnA
namespace Go.Proofs.YtlbehpbhmmppiaaGreatDoor
open Go.RowKit Go.Shelf Go.Sort

/-- The slice v shows the pairs q in a block of pairs of the call's own. -/
def CircT (w : World) (base : Nat) (v : Value) (q : List (Int × Int)) : Prop := CircAt w v q ∧ ∀ g, v.ownBlock = some g → base ≤ g ∧ ∃ cs, w.heap[g]? = some (.cells cs 33 (0, 0))
theorem CircT.keep {S : Nat → Prop} {w w' : World} {base : Nat} {v : Value} {q : List (Int × Int)} (h : CircT w base v q) (hk : Keeps S w w') (hS : ∀ g, v.ownBlock = some g → ¬ S g) : CircT w' base v q :=
  ⟨h.1.keep hk hS, fun g hg => by
    obtain ⟨h1, cs, h2⟩ := h.2 g hg
    exact ⟨h1, cs, (hk.block g (h.1.lt g hg) (hS g hg)).trans h2⟩⟩
theorem CircT.below {w w' : World} {base : Nat} {v : Value} {q : List (Int × Int)} (h : CircT w base v q) (hb : Below w.heap.size w w') : CircT w' base v q :=
  h.keep (S := fun _ => False) (Keeps.of_new hb) (fun _ _ h => h)
theorem CircT.of_own {w : World} {base : Nat} {A : Option Addr} {c : Nat} {q : List (Int × Int)} (h : OwnC w base (.slice A q.length c) q) (hne : q ≠ []) : CircT w base (.slice A q.length c) q := by
  obtain ⟨g, rfl, _⟩ := h.some hne
  exact ⟨⟨g, 0, c, rfl, OwnC.from h, hne⟩, fun g' hg => ⟨(h.own_lt g' hg).1, h.cells g' hg⟩⟩
/-- The slices vs show the circles C. -/
def CircsT (w : World) (base : Nat) (vs : List Value) (C : List (List (Int × Int))) : Prop := vs.length = C.length ∧ ∀ (j : Nat) v q, vs[j]? = some v → C[j]? = some q → CircT w base v q
theorem CircsT.keep {S : Nat → Prop} {w w' : World} {base : Nat} {vs : List Value} {C : List (List (Int × Int))} (h : CircsT w base vs C) (hk : Keeps S w w') (hS : ∀ (g : Nat) cs, S g → w.heap[g]? ≠ some (.cells cs 33 (0, 0))) : CircsT w' base vs C :=
  ⟨h.1, fun j v q hv hq => (h.2 j v q hv hq).keep hk (fun g hg hs => by
    obtain ⟨_, cs, h2⟩ := (h.2 j v q hv hq).2 g hg
    exact hS g cs hs h2)⟩
theorem CircsT.below {w w' : World} {base : Nat} {vs : List Value} {C : List (List (Int × Int))} (h : CircsT w base vs C) (hb : Below w.heap.size w w') : CircsT w' base vs C :=
  h.keep (S := fun _ => False) (Keeps.of_new hb) (fun _ _ h => h.elim)
theorem CircsT.snoc {w : World} {base : Nat} {vs : List Value} {C : List (List (Int × Int))} (h : CircsT w base vs C) {v : Value} {q : List (Int × Int)} (hv : CircT w base v q) : CircsT w base (vs ++ [v]) (C ++ [q]) := by
  obtain ⟨h1, h2⟩ := h
  refine ⟨by simp [h1], fun j u r hu hr => ?_⟩
  by_cases hj : j < vs.length
  · rw [List.getElem?_append_left hj] at hu
    rw [List.getElem?_append_left (by omega)] at hr
    exact h2 j u r hu hr
  · rw [List.getElem?_append_right (by omega)] at hu
    rw [List.getElem?_append_right (by omega)] at hr
    have h0 : j - vs.length = 0 := by
      have := (List.getElem?_eq_some_iff.1 hu).1
      simp only [List.length_singleton] at this
      omega
    rw [h0] at hu
    rw [show j - C.length = 0 by omega] at hr
    cases hu
    cases hr
    exact hv
/-- What stands after some targets. -/
structure LoopsAt (l : List OEnt) (d : Int) (ms : List (Int × Int)) (C : List (List (Int × Int))) (T : List (Int × Int)) : Prop where
  nodup : ms.Nodup
  tg : ∀ x, x ∈ ms → x ∈ l.map (tgOf l d)
  inv : CycInv (nxAt l d) ms C
  met : ∀ x, x ∈ T → x ∈ ms
theorem LoopsAt.none {l : List OEnt} {d : Int} {ms wk : List (Int × Int)} {C : List (List (Int × Int))} {T : List (Int × Int)} {c : Int × Int} (h : LoopsAt l d ms C T) (hp : CircP (nxAt l d) ms wk c []) (hw : ∀ x, x ∈ wk → x ∈ l.map (tgOf l d)) : LoopsAt l d (ms ++ wk) C (T ++ [c]) :=
  ⟨List.nodup_append.2 ⟨h.nodup, hp.nodup, fun a ha b hb e => hp.fresh b hb (e ▸ ha)⟩, fun x hx => (List.mem_append.1 hx).elim (h.tg x) (hw x), cycInv_none h.inv hp, fun x hx => by
    rcases List.mem_append.1 hx with hx | hx
    · exact List.mem_append_left _ (h.met x hx)
    · rw [List.mem_singleton.1 hx]; exact hp.met⟩
theorem LoopsAt.some {l : List OEnt} {d : Int} {ms wk q q' : List (Int × Int)} {C : List (List (Int × Int))} {T : List (Int × Int)} {c : Int × Int} (h : LoopsAt l d ms C T) (hp : CircP (nxAt l d) ms wk c q) (hw : ∀ x, x ∈ wk → x ∈ l.map (tgOf l d)) (hq : CanonC (nxAt l d) q') (hs : ∀ x, x ∈ q' ↔ x ∈ q) : LoopsAt l d (ms ++ wk) (C ++ [q']) (T ++ [c]) :=
  ⟨List.nodup_append.2 ⟨h.nodup, hp.nodup, fun a ha b hb e => hp.fresh b hb (e ▸ ha)⟩, fun x hx => (List.mem_append.1 hx).elim (h.tg x) (hw x), cycInv_some h.inv hp hq hs, fun x hx => by
    rcases List.mem_append.1 hx with hx | hx
    · exact List.mem_append_left _ (h.met x hx)
    · rw [List.mem_singleton.1 hx]; exact hp.met⟩
/-- All circles, in ascending order. -/
def AllCirc (l : List OEnt) (d : Int) (R : List (List (Int × Int))) : Prop := R.Pairwise ltL ∧ ∀ Q, Q ∈ R ↔ CanonC (nxAt l d) Q
theorem canon_ne {nx : PairP → Option PairP} {q : List PairP} (h : CanonC nx q) : q ≠ [] := fun e => by
  obtain ⟨a, ha, _⟩ := h
  have := ha.head
  rw [e] at this
  cases this
theorem hdP_of {q : List PairP} {x : PairP} (h : q[0]? = some x) : hdP q = x := by
  cases q with
  | nil => cases h
  | cons y q => exact Option.some.inj h
theorem LoopsAt.end {l : List OEnt} {d : Int} {ms : List (Int × Int)} {C R : List (List (Int × Int))} {T : List (Int × Int)} (h : LoopsAt l d ms C T) (hT : ∀ x, x ∈ T ↔ x ∈ targetsOf l d) (hp : R.Perm C) (hs : R.Pairwise (fun a b => ¬ ltC (hdP b) (hdP a))) : AllCirc l d R := by
  have hall : ∀ Q, Q ∈ R ↔ CanonC (nxAt l d) Q := fun Q => (hp.mem_iff).trans (cycInv_all h.inv (T := T) (fun x y hxy => (hT y).2 (by
    unfold nxAt at hxy
    split at hxy
    · rename_i h1
      cases hxy
      exact hop_target h1
    · cases hxy)) h.met Q)
  refine ⟨loops_sorted (nx := nxAt l d) (fun q hq => (hall q).1 hq) ((hp.pairwise_iff (fun {a b} hab x hx hx' => hab x hx' hx)).2 h.inv.apart) (hs.imp (fun {a b} hab x y hx hy => by rwa [hdP_of hx, hdP_of hy] at hab)), hall⟩
theorem circ_len {l : List OEnt} {d : Int} {ms wk q : List (Int × Int)} {c : Int × Int} (hp : CircP (nxAt l d) ms wk c q) (hw : ∀ x, x ∈ wk → x ∈ l.map (tgOf l d)) : q.length ≤ l.length := by
  rcases hp.circ with rfl | ⟨a, ha⟩
  · exact Nat.zero_le _
  · have := nodup_le q (l.map (tgOf l d)) ha.nodup (fun x hx => hw x (hp.sub x hx))
    simpa using this

set_option maxRecDepth 100000 in
set_option maxHeartbeats 8000000 in
theorem pLoops_any (A : Option Addr) (c : Nat) (l : List OEnt) (d : Int) (hI : ∀ x ∈ l, intB x.1.place ∧ intB x.1.at') (h60 : l.length ≤ 2000000000000) (w : World) (hL : EntsLie w w.heap.size A (l.map (·.1))) (hd : isDayB d = true) :
    Calls Tryz.prog 7 #[.slice A l.length c, .int .i64 d] w fun e w' => ∃ A' c' R, e = .returned (.tuple #[.slice A' R.length c', .int .i64 0]) ∧ CircsAt w' A' R ∧ Hid (AllCirc l d R) ∧ R.length ≤ l.length ∧ Below w.heap.size w w' := by
  have hmm := @run_makeMap Tryz.prog
  have HO := Lib.hid (on_any A c l d w hL (by unfold maxLen; omega))
  go_enter Tryz.func7, Tryz.ntmps7
  go_wp2_with fail
  refine (isDay_any d _).mono ?_
  rintro e w0 ⟨rfl, rfl⟩
  rw [hd]
  go_wp2_with fail
  refine HO.out.mono ?_
  rintro e w1 ⟨b1, b2, rfl, hD, hb1⟩
  have hzb : b1 < w1.heap.size ∧ b2 < w1.heap.size := ⟨hD.dead.lt, hD.canc.lt⟩
  have hAb : ∀ x, x ∈ l → ∀ b off, A = some ⟨b, off, none⟩ → b < w1.heap.size := fun x hx b off e => by
    rcases hD.list with h | ⟨b', off', h1, h2, _⟩
    · cases l with
      | nil => cases hx
      | cons y l => simp at h
    · rw [e] at h1
      cases h1
      exact h2
  have HB1 := Lib.hid hb1
  have HT : Hid (∀ W, Below w1.heap.size w1 W → _) := Lib.hid fun W (hW : Below w1.heap.size w1 W) => targets_any A c l d hI h60 b1 b2 W (hD.below hW)
  have HDW : Hid (∀ W, Below w1.heap.size w1 W → DirIn W A l b1 b2 (deadOf l d) (cancOf l d)) := Lib.hid fun W hW => hD.below hW
  clear HO hD hb1
  unfold dirVal at HT ⊢
  go_upto_region 6 with fail
  have hB2 : Below w1.heap.size w1 ((w1.alloc (.cells #[.slice A l.length c, .int .i64 d, .map (some b1), .map (some b2)] 49)).alloc (.map #[] 0)) := below_al (below_al (Below.refl _ _) _) _
  have kD : Blk ((w1.alloc (.cells #[.slice A l.length c, .int .i64 d, .map (some b1), .map (some b2)] 49)).alloc (.map #[] 0)) w1.heap.size 49 #[.slice A l.length c, .int .i64 d, .map (some b1), .map (some b2)] := (Blk.new w1 _ _).alloc _
  have hS : SetT 33 ((w1.alloc (.cells #[.slice A l.length c, .int .i64 d, .map (some b1), .map (some b2)] 49)).alloc (.map #[] 0)) (w1.heap.size + 1) 0 (keysP []) := (SetT.new_of (at_new (by simp))).congr (fun k => keysP_nil k)
  generalize (w1.alloc (.cells _ 49)).alloc (.map #[] 0) = w2 at hB2 kD hS ⊢
  have d0 := kD.cell 0
  have d1 := kD.cell 1
  have d2 := kD.cell 2
  have d3 := kD.cell 3
  have zD := kD.lt
  simp at d0 d1 d2 d3
  go_wp2_with fail
  refine (HT.out _ hB2).mono ?_
  rintro e w3 ⟨Ar, cr, r, rfl, hP, HR, hr60, hb3⟩
  replace kD := kD.below hb3 kD.lt
  replace hS := hS.below hb3 hS.lt
  have hB3 := hB2.trans (hb3.mono hB2.size)
  have hz3 : w1.heap.size + 1 < w3.heap.size := hS.lt
  clear HT hB2 hb3 d0 d1 d2 d3 zD
  have HL0 : Hid (LoopsAt l d [] [] (r.take 0)) := Lib.hid ⟨.nil, fun x hx => by simp at hx, cycInv_nil, fun x hx => by simp at hx⟩
  go_wp2_with fail
  go_loopw [8, 22] (fun v i wr => ∃ (k : Nat) (ms : List (Int × Int)) (vs : List Value) (C : List (List (Int × Int))), k ≤ r.length ∧ i = .int .i64 k ∧ OwnQ wr w3.heap.size v vs ∧ vs.length ≤ k ∧ SetT 33 wr (w1.heap.size + 1) ms.length (keysP ms) ∧ Blk wr w1.heap.size 49 #[.slice A l.length c, .int .i64 d, .map (some b1), .map (some b2)] ∧ Hid (LoopsAt l d ms C (r.take k)) ∧ Hid (CircsT wr 0 vs C) ∧ PairsAt wr Ar r ∧ Below w1.heap.size w1 wr ∧ w3.heap.size ≤ wr.heap.size) (fun _ i _ => r.length - (intOf i).toNat)
  case atStart => exact ⟨0, [], [], [], Nat.zero_le _, rfl, OwnQ.nil _ _, Nat.le_refl _, hS, kD, HL0, Lib.hid ⟨rfl, fun j v q h => by simp at h⟩, hP, hB3, Nat.le_refl _⟩
  case round =>
    have HP0 := Lib.hid hP
    clear hS kD hP hB3 HL0
    obtain ⟨k, ms, vs, C, hk, rfl, hO, hvk, hS, kD, HL, HC, hP, hB, hz⟩ := hrel
    obtain ⟨Av, cv, rfl⟩ := hO.shape
    have d0 := kD.cell 0
    have d1 := kD.cell 1
    have d2 := kD.cell 2
    have d3 := kD.cell 3
    have zD := kD.lt
    simp at d0 d1 d2 d3
    by_cases hlt : k < r.length
    · obtain ⟨x, hx⟩ : ∃ x, r[k]? = some x := ⟨_, List.getElem?_eq_getElem hlt⟩
      obtain ⟨gr, hAr, hgr, c0, c1⟩ := hP k x hx
      subst hAr
      have hg3 : gr < w3.heap.size := by
        obtain ⟨g', e, h, _⟩ := HP0.out k x hx
        cases e
        exact h
      have hxt : x ∈ targetsOf l d := (HR.out.2 x).1 (List.mem_of_getElem? hx)
      have hx0 := targets_in hxt
      have HTK : Hid (r.take (k + 1) = r.take k ++ [x]) := Lib.hid (by rw [List.take_add_one, hx]; rfl)
      have hne : b1 ≠ w1.heap.size + 1 ∧ b2 ≠ w1.heap.size + 1 ∧ ∀ b off, A = some ⟨b, off, none⟩ → b ≠ w1.heap.size + 1 := by
        obtain ⟨y, hy, _⟩ := List.mem_map.1 hx0
        exact ⟨by omega, by omega, fun b off e => by have := hAb y hy b off e; omega⟩
      have HCI := Lib.hid (fun W hDW hSW => circle_any A c l d hI h60 x hx0 b1 b2 (w1.heap.size + 1) ms HL.out.nodup HL.out.tg HL.out.inv.closed W hDW hne hSW)
      clear hx hxt hx0 hne
      unfold dirVal candVal at HCI
      go_wp2_with fail
      have hB4 := below_al hB (.cells #[.int .i64 x.1, .int .i64 x.2] 33)
      have hO4 : OwnQ (wr.alloc (.cells #[.int .i64 x.1, .int .i64 x.2] 33)) w3.heap.size (.slice Av vs.length cv) vs := hO.keep ((Keeps.refl (fun _ => False) wr).alloc _) (fun _ _ h => h)
      have hS4 := hS.alloc (.cells #[.int .i64 x.1, .int .i64 x.2] 33)
      have kD4 := kD.alloc (.cells #[.int .i64 x.1, .int .i64 x.2] 33)
      have HC4 := Lib.hid (HC.out.keep ((Keeps.refl (fun _ => False) wr).alloc (.cells #[.int .i64 x.1, .int .i64 x.2] 33)) (fun _ _ h => h.elim))
      have hP4 := hP.below ((Below.refl _ wr).alloc (Nat.le_refl _) (.cells #[.int .i64 x.1, .int .i64 x.2] 33))
      have hz4 : w3.heap.size ≤ (wr.alloc (.cells #[.int .i64 x.1, .int .i64 x.2] 33)).heap.size := by simp; omega
      clear hB hO hS kD HC hP d0 d1 d2 d3 zD c0 c1 hgr hz
      generalize wr.alloc (.cells _ 33) = w4 at hB4 hO4 hS4 kD4 HC4 hP4 hz4 ⊢
      refine (HCI.out w4 (HDW.out _ hB4) hS4).mono ?_
      rintro e w5 ⟨wk, q, A', c', rfl, hp, hq, hS5, hwk, hk5⟩
      have HM : Hid (∀ g v o, w4.cell? ⟨g, o, none⟩ = some v → g ≠ w1.heap.size + 1) := Lib.hid fun g v o hc e => by
        subst e
        obtain ⟨D, ⟨es, ck, hm, _⟩, _⟩ := hS4
        simp [World.cell?, hm] at hc
      have HMc : Hid (∀ g cs t z, w4.heap[g]? = some (.cells cs t z) → g ≠ w1.heap.size + 1) := Lib.hid fun g cs t z hc e => by
        subst e
        obtain ⟨D, ⟨es, ck, hm, _⟩, _⟩ := hS4
        rw [hm] at hc
        cases hc
      have hB5 : Below w1.heap.size w1 w5 := hB4.trans (hk5.below (fun i hi e => by omega) hB4.size)
      have hO5 := hO4.keep hk5 (fun g hg => by
        obtain ⟨cs, h⟩ := hO4.cells g hg
        exact HMc.out g cs _ _ h)
      have kD5 := kD4.keep hk5 (by omega)
      have HC5 := Lib.hid (HC4.out.keep hk5 (fun g cs hg h => HMc.out g cs _ _ h hg))
      have hP5 : PairsAt w5 (some ⟨gr, 0, none⟩) r := fun j y hy => by
        obtain ⟨g', h1, h2, h3, h4⟩ := hP4 j y hy
        have hne := HM.out g' _ _ h3
        exact ⟨g', h1, Nat.lt_of_lt_of_le h2 hk5.size, (hk5.cell h2 hne).trans h3, (hk5.cell h2 hne).trans h4⟩
      have hz5 : w3.heap.size ≤ w5.heap.size := Nat.le_trans hz4 hk5.size
      have hql := circ_len hp hwk
      clear hB4 hO4 hS4 kD4 HC4 hP4 HM HMc hk5 HCI
      by_cases hq0 : q = []
      · subst hq0
        have HL5 := Lib.hid (HL.out.none hp hwk)
        rw [← HTK.out] at HL5
        clear hp hq hwk HL HTK hql
        simp only [List.length_nil]
        go_wp2_with fail
        go_roundw
        case rel => exact ⟨k + 1, ms ++ wk, vs, C, by omega, by go_num, hO5, by omega, hS5, kD5, HL5, HC5, hP5, hB5, hz5⟩
        case measure => simp [intOf]; omega
      · obtain ⟨gq, oq, rfl, hgq, hPF, hqc, hcm⟩ := hq hq0
        have HF := Lib.hid (fromLeast_any gq oq c' q hq0 (by omega) hqc hcm w5 hPF)
        have hq1 : (0 : Int) < (q.length : Int) := by
          have := List.length_pos_iff.2 hq0
          omega
        have hq2 : 0 < q.length := List.length_pos_iff.2 hq0
        clear hPF hqc hcm hq
        go_wp2_with fail
        refine HF.out.mono ?_
        rintro e w6 ⟨v6, kk, m, rfl, hm, hmin, hO6, hb6⟩
        have HLS : Hid (LoopsAt l d (ms ++ wk) (C ++ [q.drop kk ++ q.take kk]) (r.take (k + 1)) ∧ q.drop kk ++ q.take kk ≠ [] ∧ (q.drop kk ++ q.take kk).length = q.length) := Lib.hid (by
          obtain ⟨a, ha⟩ := hp.circ.resolve_left hq0
          obtain ⟨h1, h2⟩ := canon_turn ha kk hm hmin
          rw [HTK.out]
          exact ⟨HL.out.some hp hwk h1 h2, canon_ne h1, by simp; omega⟩)
        generalize q.drop kk ++ q.take kk = q' at hO6 HLS
        obtain ⟨A6, c6, rfl⟩ := hO6.shape
        have hOq := hO5.below hb6
        have HC6 := Lib.hid (HC5.out.below hb6)
        have HN6 := Lib.hid (CircT.of_own (hO6.mono (Nat.zero_le _)) HLS.out.2.1)
        have hB6 := hB5.trans (hb6.mono hB5.size)
        have hS6 := hS5.below hb6 hS5.lt
        have kD6 := kD5.below hb6 kD5.lt
        have hP6 := hP5.below hb6
        obtain ⟨v7, w7, hrun, hO7, hk7⟩ := append_circ hOq A6 q'.length c6 (Nat.le_trans hz5 hb6.size) (by omega) 25
        have hcq := hOq.cells
        have hlq := hOq.own_lt
        have HC7 : Hid (CircsT w7 0 (vs ++ [.slice A6 q'.length c6]) (C ++ [q'])) := Lib.hid ((HC6.out.snoc HN6.out).keep hk7 (fun g cs hg h => by
          obtain ⟨cs', h'⟩ := hcq g hg
          rw [h] at h'
          simp at h'))
        have hB7 : Below w1.heap.size w1 w7 := hB6.trans (hk7.below (fun i hi e => by have := (hlq i e).1; omega) hB6.size)
        have hS7 := hS6.keep hk7 (fun h => by
          obtain ⟨cs', h'⟩ := hcq _ h
          obtain ⟨D, ⟨es, ck, hm, _⟩, _⟩ := hS6
          rw [hm] at h'
          cases h')
        have kD7 := kD6.keep hk7 (fun h => by
          obtain ⟨cs', h'⟩ := hcq _ h
          have h2 : w6.heap[w1.heap.size]? = _ := kD6
          rw [h2] at h'
          simp at h')
        have hP7 : PairsAt w7 (some ⟨gr, 0, none⟩) r := fun j y hy => by
          obtain ⟨g', h1, h2, h3, h4⟩ := hP6 j y hy
          have hne : ¬ (Value.slice Av vs.length cv).ownBlock = some g' := fun h => by
            have h5 := (hlq g' h).1
            cases h1
            omega
          exact ⟨g', h1, Nat.lt_of_lt_of_le h2 hk7.size, (hk7.cell h2 hne).trans h3, (hk7.cell h2 hne).trans h4⟩
        have hz7 : w3.heap.size ≤ w7.heap.size := Nat.le_trans hz5 (Nat.le_trans hb6.size hk7.size)
        obtain ⟨A7, c7, rfl⟩ := hO7.shape
        have HO7 : Hid (OwnQ w7 w3.heap.size (.slice A7 (vs.length + 1) c7) (vs ++ [Value.slice A6 q'.length c6])) := Lib.hid (by simpa using hO7)
        have HV7 : Hid ((vs ++ [Value.slice A6 q'.length c6]).length ≤ k + 1) := Lib.hid (by simp; omega)
        clear hO7 hOq HC6 HN6 hB6 hS6 kD6 hP6 hk7 hcq hlq hO6 hO5 hb6 HC5 kD5 hS5 hP5 hB5 hm hmin hp hwk hq1 hq2
        go_wp2_with (first | (at_builtin; refine Lib.wpList_append_run _ rfl _ _ _ _ rfl _ _ rfl rfl _ _ hrun ?_))
        go_roundw
        case rel => exact ⟨k + 1, ms ++ wk, _, C ++ [q'], by omega, by go_num, HO7.out, HV7.out, hS7, kD7, Lib.hid HLS.out.1, HC7, hP7, hB7, hz7⟩
        case measure => simp [intOf]; omega
    · obtain rfl : k = r.length := by omega
      have hcl := HC.out.1
      have hcq := hO.cells
      have hlq := hO.own_lt
      have HS := Lib.hid (sortCircs_any w3.heap.size Av cv vs C wr hO hcl (by omega) (fun j v q hv hq => ⟨(HC.out.2 j v q hv hq).1, fun g hA h => by
        obtain ⟨_, cs, h1⟩ := (HC.out.2 j v q hv hq).2 g h
        obtain ⟨cs', h2⟩ := hcq g (by rw [hA]; rfl)
        rw [h1] at h2
        simp at h2⟩))
      have HCL := Lib.hid hcl
      clear hS kD hP d0 d1 d2 d3 zD hcl
      go_wp2_with fail
      refine HS.out.mono ?_
      rintro e w5 ⟨rfl, R, HRp, hR, hk5⟩
      have hRl : R.length = vs.length := by rw [HRp.out.1.length_eq, HCL.out]
      have hB5 : Below w1.heap.size w1 w5 := hB.trans (hk5.below (fun i hi h => by
        obtain ⟨g, hA, rfl⟩ := h
        have := (hlq i (by rw [hA]; rfl)).1
        omega) hB.size)
      have HAC : Hid (AllCirc l d R) := Lib.hid ((by have := HL.out; rwa [List.take_length] at this : LoopsAt l d ms C r).end HR.out.2 HRp.out.1 HRp.out.2)
      have HRL := Lib.hid hRl
      clear HS HRp hk5 hB HC hO hlq hcq hRl
      go_wp2_with fail
      go_ret2
      exact ⟨Av, cv, R, by rw [HRL.out]; rfl, hR, HAC, by have := HRL.out; omega, HB1.out.trans (hB5.mono HB1.out.size)⟩
end Go.Proofs.YtlbehpbhmmppiaaGreatDoor
