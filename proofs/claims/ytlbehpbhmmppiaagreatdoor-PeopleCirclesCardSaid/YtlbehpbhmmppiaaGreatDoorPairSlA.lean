/- Slices of pairs from an address on: slices.Index, slices.MinFunc by comparePairs, slices.Grow from nil, slices.Concat of two. Conditions: the pairs lie in memory; sizes. slices.MinFunc by comparePairs: a least pair. Conditions: the pairs lie in memory; there is one. slices.Grow from nil and slices.Concat of two, at pairs. Conditions: the pairs lie in memory; sizes. The contract of fromLeast: the circle from a least pair on. Conditions: the pairs lie in memory; there is one; sizes. -/
import Derived.Test.YtlbehpbhmmppiaaGreatDoorSetSA
import Derived.Lib.AppendZeros
import Derived.Lib.QuietBelow
import Derived.Deep.RegionHeld3
namespace Go.Proofs.YtlbehpbhmmppiaaGreatDoor
open Go.RowKit Go.Shelf
attribute [local go_sem] Oper.semAt_some

/-- The pairs q lie in block g from a cell on. -/
structure PairsF (w : World) (g off : Nat) (q : List (Int × Int)) : Prop where
  lt : g < w.heap.size
  at' : ∀ k x, q[k]? = some x → w.cell? ⟨g, off + k * 2, none⟩ = some (.int .i64 x.1) ∧ w.cell? ⟨g, off + k * 2 + 1, none⟩ = some (.int .i64 x.2)
theorem PairsF.up {w w' : World} {g off : Nat} {q : List (Int × Int)} (h : PairsF w g off q) {B : Nat} (hb : Below B w w') (hg : g < B) : PairsF w' g off q :=
  ⟨Nat.lt_of_lt_of_le h.lt hb.size, fun k x hx => ⟨(hb.cell (p := ⟨g, off + k * 2, none⟩) hg).trans (h.at' k x hx).1, (hb.cell (p := ⟨g, off + k * 2 + 1, none⟩) hg).trans (h.at' k x hx).2⟩⟩
theorem PairsF.below {w w' : World} {g off : Nat} {q : List (Int × Int)} (h : PairsF w g off q) (hb : Below w.heap.size w w') : PairsF w' g off q := h.up hb h.lt
theorem PairsF.drop {w : World} {g off : Nat} {q : List (Int × Int)} (h : PairsF w g off q) (k : Nat) : PairsF w g (off + k * 2) (q.drop k) :=
  ⟨h.lt, fun j x hx => by
    rw [List.getElem?_drop] at hx
    have := h.at' _ x hx
    rwa [show off + (k + j) * 2 = off + k * 2 + j * 2 by omega] at this⟩
theorem PairsF.take {w : World} {g off : Nat} {q : List (Int × Int)} (h : PairsF w g off q) (k : Nat) : PairsF w g off (q.take k) :=
  ⟨h.lt, fun j x hx => by
    rw [List.getElem?_take] at hx
    split at hx
    · exact h.at' j x hx
    · cases hx⟩
theorem PairsF.keep {S : Nat → Prop} {w w' : World} {g off : Nat} {q : List (Int × Int)} (h : PairsF w g off q) (hk : Keeps S w w') (hn : ¬ S g) : PairsF w' g off q :=
  ⟨Nat.lt_of_lt_of_le h.lt hk.size, fun k x hx => ⟨(hk.cell h.lt hn).trans (h.at' k x hx).1, (hk.cell h.lt hn).trans (h.at' k x hx).2⟩⟩
theorem flatC_len (l : List (Int × Int)) : (l.flatMap candCells).length = l.length * 2 := by
  induction l with
  | nil => rfl
  | cons x l ih => rw [List.flatMap_cons, List.length_append, ih, List.length_cons]; simp [candCells]; omega
theorem oneCell_pairs (l : List (Int × Int)) : ∀ u ∈ l.flatMap candCells, u.oneCell' = true := by
  intro u hu
  obtain ⟨x, _, hx⟩ := List.mem_flatMap.1 hu
  simp [candCells] at hx
  rcases hx with h | h <;> subst h <;> rfl
theorem PairsF.flat {w : World} {g off : Nat} {q : List (Int × Int)} (h : PairsF w g off q) : ∀ j u, (q.flatMap candCells)[j]? = some u → w.cell? ((⟨g, off, none⟩ : Addr).add j) = some u := by
  intro j u hu
  have hj := (List.getElem?_eq_some_iff.1 hu).1
  rw [flatC_len] at hj
  have hk : j / 2 < q.length := by omega
  obtain ⟨x, hx⟩ : ∃ x, q[j / 2]? = some x := ⟨_, List.getElem?_eq_getElem hk⟩
  have h1 := flatC_at q (j / 2) x hx (j % 2) (Nat.mod_lt _ (by omega))
  rw [show j / 2 * 2 + j % 2 = j by omega, hu] at h1
  have h2 := h.at' (j / 2) x hx
  have h3 : w.cell? ⟨g, off + j, none⟩ = some u := by
    rcases Nat.mod_two_eq_zero_or_one j with e | e
    · rw [e] at h1
      have h4 : u = .int .i64 x.1 := by simpa [candCells] using h1
      rw [h4, ← h2.1, show off + j / 2 * 2 = off + j by omega]
    · rw [e] at h1
      have h4 : u = .int .i64 x.2 := by simpa [candCells] using h1
      rw [h4, ← h2.2, show off + j / 2 * 2 + 1 = off + j by omega]
  simp only [Addr.add]
  split
  · rename_i h0; subst h0; exact h3
  · exact h3
theorem OwnC.from {w : World} {base : Nat} {g c : Nat} {l : List (Int × Int)} (h : OwnC w base (.slice (some ⟨g, 0, none⟩) l.length c) l) : PairsF w g 0 l := by
  have hl := (h.own_lt g rfl).2
  refine ⟨hl, fun k x hx => ?_⟩
  have hk := (List.getElem?_eq_some_iff.1 hx).1
  have h' := h
  unfold OwnC at h'
  have e0 := h'.cellAt (k * 2) (by omega)
  have e1 := h'.cellAt (k * 2 + 1) (by omega)
  have f0 := flatC_at l k x hx 0 (by omega)
  have f1 := flatC_at l k x hx 1 (by omega)
  rw [Nat.zero_add]
  refine ⟨?_, ?_⟩
  · rw [e0]
    exact f0
  · rw [e1]
    exact f1

/-- Where a pair stands in a list; -1 if it doesn't. -/
def indexP (q : List (Int × Int)) (x : Int × Int) : Int := match q.findIdx? (fun y => decide (x = y)) with | some i => i | none => -1

set_option maxRecDepth 100000 in
set_option maxHeartbeats 1000000 in
theorem indexP_any (g off c : Nat) (q : List (Int × Int)) (x : Int × Int) (hq : q.length ≤ 2000000000000) (w : World) (hP : PairsF w g off q) :
    Calls Tryz.prog 34 #[.slice (some ⟨g, off, none⟩) q.length c, candVal x] w fun e w' => e = .returned (.int .i64 (indexP q x)) ∧ Below w.heap.size w w' := by
  have hB0 : Below w.heap.size w (w.alloc (.cells #[.int .i64 x.1, .int .i64 x.2] 33)) := (Below.refl _ _).alloc (Nat.le_refl _) _
  have hX0 := Blk.new w 33 #[.int .i64 x.1, .int .i64 x.2]
  unfold candVal
  go_enter Tryz.func34, Tryz.ntmps34
  go_wp2_with fail
  generalize w.alloc (.cells _ 33) = W0 at hB0 hX0 ⊢
  go_loopw [8] (fun i wr => ∃ k : Nat, k ≤ q.length ∧ i = .int .i64 k ∧ Below w.heap.size w wr ∧ Blk wr w.heap.size 33 #[.int .i64 x.1, .int .i64 x.2] ∧ Hid (∀ y, y ∈ q.take k → x ≠ y)) (fun i _ => q.length - (intOf i).toNat)
  case atStart => exact ⟨0, Nat.zero_le _, rfl, hB0, hX0, Lib.hid (by simp)⟩
  case round =>
    clear hB0 hX0
    obtain ⟨k, hk, rfl, hB, hX, H⟩ := hrel
    have x0 := hX.cell 0
    have x1 := hX.cell 1
    have hzx := hX.lt
    simp at x0 x1
    by_cases hlt : k < q.length
    · obtain ⟨y, hy⟩ : ∃ y, q[k]? = some y := ⟨_, List.getElem?_eq_getElem hlt⟩
      have hPw := hP.up hB hP.lt
      obtain ⟨c0, c1⟩ := hPw.at' k y hy
      have hgl := hPw.lt
      have hT : Hid (q.take (k + 1) = q.take k ++ [y]) := Lib.hid (by rw [List.take_add_one, hy]; rfl)
      have hq2 := eqCand x y
      have hq3 := fun a b => noGuardCand .eql a b x y
      by_cases he : x = y
      · have HR : Hid (indexP q x = k) := Lib.hid (by
          unfold indexP
          have : q.findIdx? (fun y => decide (x = y)) = some k := by
            rw [List.findIdx?_eq_some_iff_getElem]
            refine ⟨hlt, ?_, fun j hj => ?_⟩
            · have : q[k] = y := by rw [List.getElem?_eq_getElem hlt] at hy; exact Option.some.inj hy
              simp [this, he]
            · have hm : q[j] ∈ q.take k := List.mem_of_getElem? (i := j) (by rw [List.getElem?_take_of_lt hj, List.getElem?_eq_getElem (by omega)])
              simpa using H.out _ hm
          rw [this])
        simp only [decide_eq_true he] at hq2
        unfold candVal at hq2 hq3
        clear he H hy hPw hT
        go_wp2_with fail
        go_quiet (fail)
        all_goals go_wp2_with fail
        all_goals go_ret
        all_goals exact ⟨by rw [HR.out]; rfl, below_dr hB _⟩
      · simp only [decide_eq_false he] at hq2
        unfold candVal at hq2 hq3
        have HN : Hid (∀ z, z ∈ q.take (k + 1) → x ≠ z) := Lib.hid (by
          intro z hz
          rw [hT.out] at hz
          rcases List.mem_append.1 hz with hz | hz
          · exact H.out z hz
          · rw [List.mem_singleton.1 hz]; exact he)
        clear he H hy hPw hT
        go_wp2_with fail
        go_quiet (fail)
        all_goals go_wp2_with fail
        all_goals go_roundw
        case rel => exact ⟨k + 1, by omega, by go_num, below_dr hB _, hX.drewN _, HN⟩
        case measure => simp [intOf]; omega
    · have HR : Hid (indexP q x = -1) := Lib.hid (by
        unfold indexP
        have : q.findIdx? (fun y => decide (x = y)) = none := by
          rw [List.findIdx?_eq_none_iff]
          intro y hy
          have := H.out y (by rw [List.take_of_length_le (by omega)]; exact hy)
          simpa using this
        rw [this])
      clear H
      go_wp2_with fail
      go_ret
      exact ⟨by rw [HR.out]; rfl, hB⟩
end Go.Proofs.YtlbehpbhmmppiaaGreatDoor
namespace Go.Proofs.YtlbehpbhmmppiaaGreatDoor
open Go.RowKit Go.Shelf Go.Sort
attribute [local go_sem] Oper.semAt_some

theorem compareB_any (x y : Int × Int) (W : World) : Calls Tryz.prog 20 #[.agg #[.int .i64 x.1, .int .i64 x.2], .agg #[.int .i64 y.1, .int .i64 y.2]] W fun e w' => e = .returned (.int .i64 (cmpP x y)) ∧ Below W.heap.size W w' :=
  (comparePairs_any x y W).mono fun _ _ ⟨he, q, os, hw⟩ => ⟨he, by
    subst hw
    exact ⟨rfl, rfl, rfl, by simp [grow, World.drewN], fun j hj => by simp [grow, World.drewN, Array.getElem?_append, hj]⟩⟩
theorem cmpP_lt (x y : Int × Int) : cmpP x y < 0 ↔ ltC x y := by
  have := ltP x y
  unfold ltOf at this
  rwa [decide_eq_true_iff] at this

set_option maxRecDepth 100000 in
set_option maxHeartbeats 1000000 in
theorem minFunc_any (g off c : Nat) (q : List (Int × Int)) (h0 : q ≠ []) (hq : q.length ≤ 2000000000000) (w : World) (hP : PairsF w g off q) :
    Calls Tryz.prog 35 #[.slice (some ⟨g, off, none⟩) q.length c, .func (.func 20) #[] #[]] w fun e w' => ∃ m, e = .returned (candVal m) ∧ m ∈ q ∧ (∀ x, x ∈ q → ¬ ltC x m) ∧ Below w.heap.size w w' := by
  obtain ⟨a, r, rfl⟩ := List.exists_cons_of_ne_nil h0
  have hq1 : 1 ≤ (a :: r).length := by simp
  have h00 : (a :: r)[0]? = some a := rfl
  generalize hqq : a :: r = q at *
  have hB0 : Below w.heap.size w (w.alloc (.cells #[.int .i64 0, .int .i64 0] 33)) := (Below.refl _ _).alloc (Nat.le_refl _) _
  have hR0 := Blk.new w 33 #[.int .i64 0, .int .i64 0]
  clear hqq h0
  have hP0 := hP.up hB0 hP.lt
  obtain ⟨c0, c1⟩ := hP0.at' 0 a h00
  have hgl := hP0.lt
  simp only [Nat.zero_mul, Nat.add_zero] at c0 c1
  have HA := Lib.hid (List.mem_of_getElem? h00)
  have HF : Hid (∀ x, x ∈ q.take 1 → ¬ ltC x a) := Lib.hid (fun x hx => by
    have h1 : q.take 1 = [a] := by
      rw [show (1 : Nat) = 0 + 1 from rfl, List.take_add_one, h00]; rfl
    rw [h1] at hx
    rw [List.mem_singleton.1 hx]
    intro h; unfold ltC at h; omega)
  go_enter Tryz.func35, Tryz.ntmps35
  go_wp2_with fail
  have hB1 := hB0.alloc hB0.size (.cells #[.int .i64 a.1, .int .i64 a.2] 33)
  have hR1 := hR0.alloc (.cells #[.int .i64 a.1, .int .i64 a.2] 33)
  have hM1 : Blk ((w.alloc (.cells #[.int .i64 0, .int .i64 0] 33)).alloc (.cells #[.int .i64 a.1, .int .i64 a.2] 33)) (w.heap.size + 1) 33 #[.int .i64 a.1, .int .i64 a.2] := at_new (by simp)
  clear hB0 hR0 hP0 c0 c1 hgl
  try simp only [Nat.add_assoc, Nat.reduceAdd]
  generalize (w.alloc (.cells _ 33)).alloc (.cells _ 33) = W0 at hB1 hR1 hM1 ⊢
  go_loopw [6] (fun i wr => ∃ (k : Nat) (m : Int × Int), 1 ≤ k ∧ k ≤ q.length ∧ i = .int .i64 k ∧ Below w.heap.size w wr ∧ Blk wr w.heap.size 33 #[.int .i64 0, .int .i64 0] ∧ Blk wr (w.heap.size + 1) 33 #[.int .i64 m.1, .int .i64 m.2] ∧ Hid (m ∈ q) ∧ Hid (∀ x, x ∈ q.take k → ¬ ltC x m)) (fun i _ => q.length - (intOf i).toNat)
  case atStart => exact ⟨1, a, Nat.le_refl _, hq1, rfl, hB1, hR1, hM1, HA, HF⟩
  case round =>
    clear hB1 hR1 hM1 HA HF h00
    obtain ⟨k, m, hk1, hk, rfl, hB, hR, hM, HMq, HMin⟩ := hrel
    have hPw := hP.up hB hP.lt
    have hzr := hR.lt
    have hzm := hM.lt
    by_cases hlt : k < q.length
    · obtain ⟨y, hy⟩ : ∃ y, q[k]? = some y := ⟨_, List.getElem?_eq_getElem hlt⟩
      have hT : Hid (q.take (k + 1) = q.take k ++ [y]) := Lib.hid (by rw [List.take_add_one, hy]; rfl)
      have HYq := Lib.hid (List.mem_of_getElem? hy)
      have HCB := Lib.hid (fun W => compareB_any y m W)
      have hcl := cmpP_lt y m
      generalize cmpP y m = r at HCB hcl
      obtain ⟨c0, c1⟩ := hPw.at' k y hy
      have m0 := hM.cell 0
      have m1 := hM.cell 1
      have hgl := hPw.lt
      simp at m0 m1
      have gc0 := fun d' os => cell_regrown c0 d' os
      have gc1 := fun d' os => cell_regrown c1 d' os
      have gm0 := fun d' os => cell_regrown m0 d' os
      have gm1 := fun d' os => cell_regrown m1 d' os
      have hW : ∀ d' os, Below wr.heap.size wr (grow (redrawn wr d') os) := fun d' os => below_regrown wr d' os
      have HW := Lib.hid hW
      by_cases h2 : r < 0
      · have HN : Hid (∀ x, x ∈ q.take (k + 1) → ¬ ltC x y) := Lib.hid (by
          have hym := hcl.1 h2
          intro x hx
          rw [hT.out] at hx
          rcases List.mem_append.1 hx with hx | hx
          · intro hxy
            exact HMin.out x hx (by unfold ltC at *; omega)
          · rw [List.mem_singleton.1 hx]
            intro h; unfold ltC at h; omega)
        clear hcl hy hPw hW HMin HMq hT
        go_wp2_with fail
        refine wp_region_quiet_below (by kernel_rfl) (by kernel_rfl) ?_
        repeat (go_big_quiet_step (first
          | (go_at_call 20; exact Calls.regrown_of (HCB.out _))))
        refine wpQuiet_nil ?_
        intro _ hw'
        obtain ⟨⟨dq, osq⟩, hw''⟩ := hw'
        subst hw''
        have hbq := HW.out dq osq
        have hRq := hR.below hbq hR.lt
        have hMq := hM.below hbq hM.lt
        have hBq := hB.trans (hbq.mono hB.size)
        have d0 := gc0 dq osq
        have d1 := gc1 dq osq
        have hglq := Nat.lt_of_lt_of_le hgl hbq.size
        clear gc0 gc1 gm0 gm1 HW hbq c0 c1 m0 m1 hR hM hB hzr hzm hgl
        dsimp only at d0 d1 hRq hMq hBq hglq ⊢
        generalize grow (redrawn wr dq) osq = wq at d0 d1 hRq hMq hBq hglq ⊢
        have m0 := hMq.cell 0
        have m1 := hMq.cell 1
        have f0 := hMq.frozen 0
        have f1 := hMq.frozen 1
        have zm := hMq.lt
        simp at m0 m1
        go_wp2_with fail
        go_roundw
        case rel => exact ⟨k + 1, y, by omega, by omega, by go_num, (hBq.setCell (p := ⟨w.heap.size + 1, 0, none⟩) (by simp) _).setCell (p := ⟨w.heap.size + 1, 1, none⟩) (by simp) _, (hRq.far (p := ⟨w.heap.size + 1, 0, none⟩) (by simp) _).far (p := ⟨w.heap.size + 1, 1, none⟩) (by simp) _, (hMq.set 0 (.int .i64 y.1)).set 1 (.int .i64 y.2), HYq, HN⟩
        case measure => simp [intOf]; omega
      · have HN : Hid (∀ x, x ∈ q.take (k + 1) → ¬ ltC x m) := Lib.hid (by
          intro x hx
          rw [hT.out] at hx
          rcases List.mem_append.1 hx with hx | hx
          · exact HMin.out x hx
          · rw [List.mem_singleton.1 hx]
            exact fun h => h2 (hcl.2 h))
        clear hcl hy hPw hW HMin hT
        go_wp2_with fail
        refine wp_region_quiet_below (by kernel_rfl) (by kernel_rfl) ?_
        repeat (go_big_quiet_step (first
          | (go_at_call 20; exact Calls.regrown_of (HCB.out _))))
        refine wpQuiet_nil ?_
        intro _ hw'
        obtain ⟨⟨dq, osq⟩, hw''⟩ := hw'
        subst hw''
        have hbq := HW.out dq osq
        have hRq := hR.below hbq hR.lt
        have hMq := hM.below hbq hM.lt
        have hBq := hB.trans (hbq.mono hB.size)
        clear gc0 gc1 gm0 gm1 HW hbq c0 c1 m0 m1 hR hM hB hzr hzm hgl
        dsimp only at hRq hMq hBq ⊢
        generalize grow (redrawn wr dq) osq = wq at hRq hMq hBq ⊢
        go_wp2_with fail
        go_roundw
        case rel => exact ⟨k + 1, m, by omega, by omega, by go_num, hBq, hRq, hMq, HMq, HN⟩
        case measure => simp [intOf]; omega
    · have HE : Hid (∀ x, x ∈ q → ¬ ltC x m) := Lib.hid (by
        have := HMin.out
        rwa [List.take_of_length_le (by omega)] at this)
      have m0 := hM.cell 0
      have m1 := hM.cell 1
      have r0 := hR.cell 0
      have r1 := hR.cell 1
      have g0 := hR.frozen 0
      have g1 := hR.frozen 1
      simp at m0 m1 r0 r1
      clear HMin
      have kE : Blk ((wr.setCell ⟨w.heap.size, 0, none⟩ (.int .i64 m.1)).setCell ⟨w.heap.size, 1, none⟩ (.int .i64 m.2)) w.heap.size 33 #[.int .i64 m.1, .int .i64 m.2] := (hR.set 0 (.int .i64 m.1)).set 1 (.int .i64 m.2)
      have hBE : Below w.heap.size w ((wr.setCell ⟨w.heap.size, 0, none⟩ (.int .i64 m.1)).setCell ⟨w.heap.size, 1, none⟩ (.int .i64 m.2)) := (hB.setCell (p := ⟨w.heap.size, 0, none⟩) (Nat.le_refl _) _).setCell (p := ⟨w.heap.size, 1, none⟩) (Nat.le_refl _) _
      go_wp2_with fail
      refine bodyPost_ret (results_cr rfl kE rfl rowCand sizeCand) rfl ⟨m, rfl, HMq.out, HE.out, hBE⟩
end Go.Proofs.YtlbehpbhmmppiaaGreatDoor
namespace Go.Proofs.YtlbehpbhmmppiaaGreatDoor
open Go.RowKit Go.Shelf

theorem append_pairs {w : World} {base : Nat} {v : Value} {l : List (Int × Int)} (h : OwnC w base v l) {g off : Nat} {m : List (Int × Int)} (hm : PairsF w g off m) (c : Nat) (h63 : l.length + m.length ≤ maxLen) (hb : (l.length + m.length) * 16 ≤ 140737488355328) (hbase : base ≤ w.heap.size) (ty : TypeId) :
    ∃ v' w', (Builtin.append_ #[30, 30] ty #[v, .slice (some ⟨g, off, none⟩) m.length c]).run Tryz.prog w = .ok v' w' ∧ OwnC w' base v' (l ++ m) ∧ w.grownBy w' v.ownBlock ∧ (v'.ownBlock = v.ownBlock ∨ v'.ownBlock = some w.heap.size) := by
  obtain ⟨i0, hi, hz0, hz1, hz2⟩ := info_parts infoCand
  unfold OwnC at h ⊢
  rw [List.length_append, List.flatMap_append]
  obtain ⟨v', w', hrun, h2, h3, _, h5⟩ := run_append_own_at (P := Tryz.prog) w base 30 ty 33 i0 _ 2 16 candsRow hi hz0 hz1 hz2 rfl (by decide) v l.length _ h ⟨g, off, none⟩ m.length c (m.flatMap candCells) (flatC_len m) hm.flat (oneCell_pairs m) h63 hb hbase
  exact ⟨v', w', hrun, h2, h3, h5⟩

set_option maxRecDepth 100000 in
set_option maxHeartbeats 1000000 in
theorem growC_any (n : Nat) (w : World) (hn : n * 16 ≤ 140737488355328) :
    Calls Tryz.prog 60 #[.slice none 0 0, .int .i64 n] w fun e w' => ∃ v, e = .returned v ∧ OwnC w' w.heap.size v [] ∧ Below w.heap.size w w' := by
  obtain ⟨i0, hi, hz0, hz1, hz2⟩ := info_parts infoCand
  have hn63 : (n : Int) ≤ 8796093022208 := by omega
  by_cases h0 : n = 0
  · subst h0
    go_enter Tryz.func60, Tryz.ntmps60
    go_wp2_with fail
    go_ret
    exact ⟨_, rfl, World.ownsRow_nil _ _ _ _, Below.refl _ _⟩
  · have hp : (0 : Int) < (n : Int) := by omega
    have hrun := Lib.run_append_nil_zeros (P := Tryz.prog) w 30 3 30 33 i0 _ .i64 .i64 candsRow intRow hi hz0 n (by omega) (by omega) (by omega) (by rw [hz2]; omega)
    have hg := grownCap_ge w n 0 33
    have hm := grownCap_le_maxLen w n 0 33 (by unfold maxLen; omega)
    have hend : OwnC (w.drew.alloc (.cells (Builtin.zeroCells (Value.agg #[.int .i64 0, .int .i64 0]).cells n ++ Builtin.zeroCells (Value.agg #[.int .i64 0, .int .i64 0]).cells (grownCap w n 0 33 - n)) 33)) w.heap.size (.slice (some ⟨w.heap.size, 0, none⟩) 0 (grownCap w n 0 33)) [] :=
      World.ownsRow_made w.drew _ _ (Nat.le_refl _) hm (by simp only [Array.size_append, size_zeroCells]; show n * 2 + (_ - n) * 2 = _; rw [← Nat.add_mul]; congr 1; omega)
    have hB : Below w.heap.size w (w.drew.alloc (.cells (Builtin.zeroCells (Value.agg #[.int .i64 0, .int .i64 0]).cells n ++ Builtin.zeroCells (Value.agg #[.int .i64 0, .int .i64 0]).cells (grownCap w n 0 33 - n)) 33)) := ((Below.refl _ w).drew).alloc (Nat.le_refl _) _
    generalize w.drew.alloc _ = W1 at hrun hend hB
    generalize grownCap w n 0 33 = cap at hrun hend hg hm
    have HE := Lib.hid hend
    clear hend hi hz0 hz1 hz2 hm hn h0
    have hci : (0 : Int) ≤ (cap : Int) := by omega
    have hgi : (n : Int) ≤ (cap : Int) := by omega
    go_enter Tryz.func60, Tryz.ntmps60
    go_wp2_with (at_builtin; refine Lib.wpList_append_run _ rfl _ _ _ _ rfl _ _ rfl rfl _ _ hrun ?_)
    go_ret
    exact ⟨_, rfl, HE.out, hB⟩

set_option maxRecDepth 100000 in
set_option maxHeartbeats 2000000 in
theorem concatC_any (g : Nat) (g1 o1 g2 o2 : Nat) (c c2 : Nat) (l m : List (Int × Int)) (w : World) (hG : Blk w g 30 #[.slice (some ⟨g1, o1, none⟩) l.length c, .slice (some ⟨g2, o2, none⟩) m.length c2]) (hL : PairsF w g1 o1 l) (hM : PairsF w g2 o2 m) (hb : (l.length + m.length) * 16 ≤ 140737488355328) :
    Calls Tryz.prog 36 #[.slice (some ⟨g, 0, none⟩) 2 2] w fun e w' => ∃ v, e = .returned v ∧ OwnC w' w.heap.size v (l ++ m) ∧ Below w.heap.size w w' := by
  have hlm : (l.length : Int) + (m.length : Int) ≤ 8796093022208 := by omega
  have hg0 := hG.cell 0
  have hg1 := hG.cell 1
  simp at hg0 hg1
  have hgz := hG.lt
  have HB := Lib.hid hb
  clear hb
  go_enter Tryz.func36, Tryz.ntmps36
  go_wp2_with fail
  go_loop [3, 11] (fun s i => (i = .int .i64 0 ∧ s = .int .i64 0) ∨ (i = .int .i64 1 ∧ s = .int .i64 l.length) ∨ (i = .int .i64 2 ∧ s = .int .i64 (l.length + m.length))) (fun _ i => 2 - (intOf i).toNat)
  case atStart => exact .inl ⟨rfl, rfl⟩
  case round =>
    rcases hrel with ⟨rfl, rfl⟩ | ⟨rfl, rfl⟩ | ⟨rfl, rfl⟩
    · go_wp2_with fail
      go_round
      case rel => exact .inr (.inl ⟨rfl, by first | rfl | simp⟩)
      case measure => simp [intOf]
    · go_wp2_with fail
      go_round
      case rel => exact .inr (.inr ⟨rfl, by first | rfl | simp⟩)
      case measure => simp [intOf]
    · go_wp2_with fail
      have hgr := growC_any (l.length + m.length) w HB.out
      rw [Int.natCast_add] at hgr
      refine hgr.mono ?_
      rintro e w1 ⟨v, rfl, hO, hB⟩
      have hG1 := hG.below hB hgz
      have hL1 := hL.below hB
      have hM1 := hM.below hB
      clear hg0 hg1
      go_wp2_with fail
      go_loopw [6, 27] (fun v i wr => ∃ q, Below w.heap.size w wr ∧ OwnC wr w.heap.size v q ∧ ((i = .int .i64 0 ∧ q = []) ∨ (i = .int .i64 1 ∧ q = l) ∨ (i = .int .i64 2 ∧ q = l ++ m))) (fun _ i _ => 2 - (intOf i).toNat)
      case atStart => exact ⟨[], hB, hO, .inl ⟨rfl, rfl⟩⟩
      case round =>
        clear hB hO hG1 hL1 hM1
        obtain ⟨q, hB, hO, hcase⟩ := hrel
        have hG2 := hG.below hB hgz
        have hg0 := hG2.cell 0
        have hg1 := hG2.cell 1
        simp at hg0 hg1
        rcases hcase with ⟨rfl, rfl⟩ | ⟨rfl, rfl⟩ | ⟨rfl, rfl⟩
        · obtain ⟨v', w2, hrun, hO2, hGr, hloc⟩ := append_pairs hO (hL.below hB) c (by unfold maxLen; simp; omega) (by have := HB.out; simp; omega) hB.size 30
          have hend : OwnC w2 w.heap.size v' l ∧ Below w.heap.size w w2 := ⟨by simpa using hO2, hB.trans ((Keeps.of_grown (S := fun i => w.heap.size ≤ i) hGr (fun i e _ => (hO.own_lt i e).1)).below (fun i h1 h2 => by omega) hB.size)⟩
          have HE := Lib.hid hend
          clear hend hO2 hGr hloc hO
          go_wp2_with (at_builtin; refine Lib.wpList_append_run _ rfl _ _ _ _ rfl _ _ rfl rfl _ _ hrun ?_)
          go_roundw
          case rel => exact ⟨l, HE.out.2, HE.out.1, .inr (.inl ⟨rfl, rfl⟩)⟩
          case measure => simp [intOf]
        · obtain ⟨v', w2, hrun, hO2, hGr, hloc⟩ := append_pairs hO (hM.below hB) c2 (by unfold maxLen; omega) (by have := HB.out; omega) hB.size 30
          have hend : OwnC w2 w.heap.size v' (q ++ m) ∧ Below w.heap.size w w2 := ⟨hO2, hB.trans ((Keeps.of_grown (S := fun i => w.heap.size ≤ i) hGr (fun i e _ => (hO.own_lt i e).1)).below (fun i h1 h2 => by omega) hB.size)⟩
          have HE := Lib.hid hend
          clear hend hO2 hGr hloc hO
          go_wp2_with (at_builtin; refine Lib.wpList_append_run _ rfl _ _ _ _ rfl _ _ rfl rfl _ _ hrun ?_)
          go_roundw
          case rel => exact ⟨_, HE.out.2, HE.out.1, .inr (.inr ⟨rfl, rfl⟩)⟩
          case measure => simp [intOf]
        · go_wp2_with fail
          go_ret
          exact ⟨_, rfl, hO, hB⟩
end Go.Proofs.YtlbehpbhmmppiaaGreatDoor
namespace Go.Proofs.YtlbehpbhmmppiaaGreatDoor
open Go.RowKit Go.Shelf Go.Sort
attribute [local go_sem] Oper.semAt_some

theorem indexP_of {q : List (Int × Int)} {m : Int × Int} (h : m ∈ q) : ∃ k : Nat, indexP q m = k ∧ q[k]? = some m ∧ k < q.length := by
  unfold indexP
  cases hf : q.findIdx? (fun y => decide (m = y)) with
  | none =>
    have := List.findIdx?_eq_none_iff.1 hf m h
    simp at this
  | some k =>
    obtain ⟨h1, h2, _⟩ := List.findIdx?_eq_some_iff_getElem.1 hf
    refine ⟨k, rfl, ?_, h1⟩
    rw [List.getElem?_eq_getElem h1]
    simpa using (of_decide_eq_true h2).symm

set_option maxRecDepth 100000 in
set_option maxHeartbeats 2000000 in
theorem fromLeast_any (g off c : Nat) (q : List (Int × Int)) (h0 : q ≠ []) (hq : q.length ≤ 2000000000000) (hc : q.length ≤ c) (hc2 : c ≤ maxLen) (w : World) (hP : PairsF w g off q) :
    Calls Tryz.prog 17 #[.slice (some ⟨g, off, none⟩) q.length c] w fun e w' => ∃ v k m, e = .returned v ∧ q[k]? = some m ∧ (∀ x, x ∈ q → ¬ ltC x m) ∧ OwnC w' w.heap.size v (q.drop k ++ q.take k) ∧ Below w.heap.size w w' := by
  have HM := Lib.hid (minFunc_any g off c q h0 (by omega) w hP)
  have HI : Hid (∀ W m, Below w.heap.size w W → _) := Lib.hid fun W m (hW : Below w.heap.size w W) => indexP_any g off c q m (by omega) W (hP.up hW hP.lt)
  have HP := Lib.hid (fun W (hW : Below w.heap.size w W) => hP.up hW hP.lt)
  clear h0
  unfold maxLen at hc2
  go_enter Tryz.func17, Tryz.ntmps17
  go_wp2_with fail
  refine HM.out.mono ?_
  rintro e w1 ⟨m, rfl, hm, hmin, hb1⟩
  have HMIN := Lib.hid hmin
  go_wp2_with fail
  refine (HI.out w1 m hb1).mono ?_
  rintro e w2 ⟨rfl, hb2⟩
  have hB2 := hb1.trans (hb2.mono hb1.size)
  obtain ⟨k, hk1, hk2, hk3⟩ := indexP_of hm
  rw [hk1]
  have HK2 := Lib.hid hk2
  clear HM HI hmin hm hb1 hb2 hk1 hk2 hP
  have i0 : (0 : Int) ≤ (k : Int) := by omega
  have i1 : (k : Int) ≤ (q.length : Int) := by omega
  have i2 : (q.length : Int) ≤ (c : Int) := by omega
  have i3 : (k : Int) ≤ (c : Int) := by omega
  have i4 : ¬ c = k := by omega
  go_upto_region 2 with fail
  go_cut [2] (fun v wx => OwnC wx w.heap.size v (q.drop k ++ q.take k) ∧ Below w.heap.size w wx)
  case first =>
    have hl1 : (q.drop k).length = q.length - k := by simp
    have hl2 : (q.take k).length = k := by rw [List.length_take]; omega
    have HC : Hid (∀ W, Blk W w2.heap.size 30 #[.slice (some ⟨g, off + k * 2, none⟩) (q.length - k) (c - k), .slice (some ⟨g, off, none⟩) k c] → Below w.heap.size w W → Calls Tryz.prog 36 #[.slice (some ⟨w2.heap.size, 0, none⟩) 2 2] W fun e w' => ∃ v, e = .returned v ∧ OwnC w' w.heap.size v (q.drop k ++ q.take k) ∧ Below w.heap.size w w') := Lib.hid fun W hG hBx => by
      have hPx := HP.out _ hBx
      refine (concatC_any w2.heap.size g (off + k * 2) g off (c - k) c (q.drop k) (q.take k) W (by rw [hl1, hl2]; exact hG) (hPx.drop k) (hPx.take k) (by rw [hl1, hl2]; omega)).mono ?_
      rintro e w3 ⟨v, rfl, hO, hb3⟩
      exact ⟨v, rfl, hO.mono hBx.size, hBx.trans (hb3.mono hBx.size)⟩
    have HBX := Lib.hid (fun cs => (hB2.alloc hB2.size (.cells cs 30)).drew)
    have HGX := Lib.hid (fun cs => (Blk.new w2 30 cs).drew)
    clear hl1 hl2
    go_region_held3 (fun W => True) (exact True.intro) (first | (go_at_call 36; refine (HC.out _ (HGX.out _) (HBX.out _)).mono ?_; rintro e w3 ⟨v, rfl, hO, hb3⟩))
    all_goals
      go_wp2_with fail
      go_meet
      exact ⟨hO, hb3⟩
  case rest =>
    obtain ⟨hO, hB⟩ := hcut
    go_wp2_with fail
    go_ret
    exact ⟨_, k, m, rfl, HK2.out, HMIN.out, hO, hB⟩
end Go.Proofs.YtlbehpbhmmppiaaGreatDoor
