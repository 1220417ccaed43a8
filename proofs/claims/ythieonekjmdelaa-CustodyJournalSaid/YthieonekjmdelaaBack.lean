/- The contract of slices.Backward on pending writes, as a sequence. Conditions: the writes lie in memory. -/
import Derived.Test.YthieonekjmdelaaDk3
import Derived.RangeFuncNested
import Derived.RangeFuncBound
import Derived.RangeFuncCalls
import Derived.RangeFuncLeaves
import Derived.Shelf.Abstract
import Derived.Shelf.RegionOpen
import Derived.OwnWalkIn
import Derived.TacticsInMore
import Derived.LoopNIn
import Derived.LoopIn
import Derived.Stop.RegionWithIn
import Derived.Sort.QuietIn
import Derived.Sort.CutIn
namespace Go.Proofs.Ythieonekjmdelaa
open Go.RowKit Go.Shelf
attribute [local go_sem] Oper.semAt_some

theorem yield_bool {e : Ending} {X Y : Prop} (h : (e = .returned (.bool true) ∧ X) ∨ (e = .returned (.bool false) ∧ Y)) : ∃ bb, e = .returned (.bool bb) ∧ (bb = true → X) ∧ (bb = false → Y) := by
  rcases h with ⟨h, hx⟩ | ⟨h, hy⟩
  · exact ⟨true, h, fun _ => hx, fun h => by cases h⟩
  · exact ⟨false, h, fun h => (by cases h), fun _ => hy⟩
theorem abides_new {β : Type} {B : Nat} {J : β → World → Prop} (hJ : AbidesFrom B J) {s : β} {W W' : World} (h : J s W) (hb : Below W.heap.size W W') : J s W' :=
  hJ s W W' none h ⟨hb.os, hb.tape, hb.output, hb.size, fun k hk _ => hb.block k hk⟩ (fun r e => by cases e)
theorem below_end {w W : World} {D : Nat} {o o' : Obj} (hB : Below w.heap.size w W) (hK : W.heap[D]? = some o) (hD : w.heap.size ≤ D) : Below w.heap.size w (W.putObj D o') :=
  hB.trans ((Below.refl _ W).grown (grownBy_putObj' W D o') (by have := (Array.getElem?_eq_some_iff.1 hK).1; omega) (fun k e => by cases e; omega))
theorem wpListIn_load_mid {F : Fence} {nF : Nat} {P : Program} {w : World} {ops : Array Oper} {rest : List Oper} {o : Oper} {a : Act} {Q : Exit → Act → World → Prop} (hg : o.guard = none) (ty : TypeId) (x : Operand) (hop : o.op = .load ty x)
    (b off : Nat) (hx : a.eval x = .pointer (some ⟨b, off, none⟩)) (cs : List Value) (d : TypeDesc) (hc : w.rangeAt b off cs)
    (hu : P.underlying ty = some d) (hd : d.isRow = true) (hi : (P.info? ty).map (·.size) = some cs.length)
    (hK : wpListIn F nF P ops Q rest (a.put o.dst (.agg cs.toArray)) w) : wpListIn F nF P ops Q (o :: rest) a w := by
  refine wpListIn_plain hg fun K' hK' => ?_
  unfold Oper.wpIn
  refine ⟨by simp [Oper.about, hop], ?_⟩
  rw [Oper.semAt_plain F _ _ (by rw [hop]; intro c hc'; cases hc')]
  simp only [execOp, hop, hx, Instr.loadAt, Instr.sureAddr, Sem.run_bind, Sem.run_pure, Result.andThen_ok, run_loadVar_mid w b off ty cs d hc hu hd hi]
  exact hK' _ _ hK

/-- The pending writes with their numbers, the last one first. -/
def revs (P : List PW) : List (Nat × PW) := (P.zipIdx.map fun x => (x.2, x.1)).reverse
theorem revs_len (P : List PW) : (revs P).length = P.length := by simp [revs]
theorem revs_at {P : List PW} {k : Nat} (hk : k < P.length) {x : PW} (hx : P[P.length - 1 - k]? = some x) : (revs P).take (k + 1) = (revs P).take k ++ [(P.length - 1 - k, x)] := by
  rw [List.take_add_one]
  congr 1
  unfold revs
  rw [List.getElem?_reverse (by simpa using hk)]
  simp [hx]
/-- A pending write whose sector exists and whose bytes are whole. -/
abbrev OPW (N : Nat) := { x : Nat × PW // x.2.1 < N ∧ x.2.2.1.length = 64 ∧ x.2.2.2.length = 64 }
def revsO (N : Nat) (P : List PW) (h : ∀ x ∈ P, x.1 < N ∧ x.2.1.length = 64 ∧ x.2.2.length = 64) : List (OPW N) :=
  (revs P).pmap (fun x hx => ⟨x, hx⟩) (fun x hx => by
    unfold revs at hx
    rw [List.mem_reverse, List.mem_map] at hx
    obtain ⟨y, hy, rfl⟩ := hx
    have := List.mem_zipIdx' hy
    exact h _ (by rw [this.2]; exact List.getElem_mem _))
theorem revsO_val {N : Nat} {P : List PW} (h : ∀ x ∈ P, x.1 < N ∧ x.2.1.length = 64 ∧ x.2.2.length = 64) : (revsO N P h).map Subtype.val = revs P := by
  unfold revsO
  rw [List.map_pmap]
  simp
theorem revsO_len {N : Nat} {P : List PW} (h : ∀ x ∈ P, x.1 < N ∧ x.2.1.length = 64 ∧ x.2.2.length = 64) : (revsO N P h).length = P.length := by
  have := congrArg List.length (revsO_val h)
  rwa [List.length_map, revs_len] at this
theorem revsO_at {N : Nat} {P : List PW} (h : ∀ x ∈ P, x.1 < N ∧ x.2.1.length = 64 ∧ x.2.2.length = 64) {k : Nat} (hk : k < P.length) {x : PW} (hx : P[P.length - 1 - k]? = some x) : ∃ y : OPW N, y.1 = (P.length - 1 - k, x) ∧ (revsO N P h).take (k + 1) = (revsO N P h).take k ++ [y] := by
  have hl : k < (revsO N P h).length := by rw [revsO_len]; exact hk
  refine ⟨(revsO N P h)[k], ?_, by rw [List.take_add_one, List.getElem?_eq_getElem hl]; rfl⟩
  have h1 : (revs P)[k]? = some (P.length - 1 - k, x) := by
    unfold revs
    rw [List.getElem?_reverse (by simpa using hk)]
    simp [hx]
  rw [← revsO_val h, List.getElem?_map, List.getElem?_eq_getElem hl] at h1
  simpa using h1
theorem flatP_len {P : List PW} (h : ∀ x ∈ P, x.2.1.length = 64 ∧ x.2.2.length = 64) : (P.flatMap cellsP).length = P.length * 129 := by
  induction P with
  | nil => rfl
  | cons x P ih =>
    have hx := h x (List.mem_cons_self ..)
    have hl : (cellsP x).length = 129 := by unfold cellsP; simp only [List.length_cons, List.length_append, cellsB_len, hx.1, hx.2]
    rw [List.flatMap_cons, List.length_append, hl, ih (fun y hy => h y (List.mem_cons_of_mem _ hy)), List.length_cons]
    omega
theorem cellsP_len {x : PW} (h : x.2.1.length = 64 ∧ x.2.2.length = 64) : (cellsP x).length = 129 := by unfold cellsP; simp only [List.length_cons, List.length_append, cellsB_len, h.1, h.2]
theorem flatP_at {P : List PW} (h : ∀ x ∈ P, x.2.1.length = 64 ∧ x.2.2.length = 64) {k : Nat} {x : PW} (hk : P[k]? = some x) {j : Nat} (hj : j < 129) : (P.flatMap cellsP)[k * 129 + j]? = (cellsP x)[j]? := by
  induction P generalizing k with
  | nil => simp at hk
  | cons y P ih =>
    have hy := cellsP_len (h y (List.mem_cons_self ..))
    rw [List.flatMap_cons]
    cases k with
    | zero =>
      cases hk
      rw [Nat.zero_mul, Nat.zero_add, List.getElem?_append_left (by omega)]
    | succ k =>
      rw [List.getElem?_append_right (by omega), hy, show (k + 1) * 129 + j - 129 = k * 129 + j by omega]
      exact ih (fun z hz => h z (List.mem_cons_of_mem _ hz)) (by simpa using hk)
/-- Where a pending write lies. -/
theorem pw_range {w : World} {v : Value} {P : List PW} (hv : w.ownsRow 0 72 129 v P.length (P.flatMap cellsP)) (h : ∀ x ∈ P, x.2.1.length = 64 ∧ x.2.2.length = 64) {k : Nat} {x : PW} (hk : P[k]? = some x) :
    ∃ g c, v = .slice (some ⟨g, 0, none⟩) P.length c ∧ g < w.heap.size ∧ w.rangeAt g (k * 129) (cellsP x) := by
  have hlt := World.ownsRow.lt hv
  have hkl := (List.getElem?_eq_some_iff.1 hk).1
  have h0 := hv
  rcases h0.2 with ⟨h1, h2⟩ | ⟨g, cap, cur, h1, hb, hg, _⟩
  · omega
  · subst h1
    refine ⟨g, cap, rfl, (hlt g rfl).2, fun j u hj => ?_⟩
    have hj1 := (List.getElem?_eq_some_iff.1 hj).1
    rw [cellsP_len (h x (List.mem_of_getElem? hk))] at hj1
    rw [hv.cellAt (k * 129 + j) (by omega), flatP_at h hk hj1, hj]

set_option maxRecDepth 100000 in
set_option maxHeartbeats 2000000 in
theorem back1_in (S : Nat → Prop) (n : Nat) (lp Bv : Nat) (vp : Value) (N : Nat) (P : List PW) (hPn : ∀ x ∈ P, x.1 < N ∧ x.2.1.length = 64 ∧ x.2.2.length = 64) (J Jx : List (OPW N) → World → Prop)
    (hY : ∀ pre x W, J pre W → pre.length < P.length → YieldAt Fence.wide (n - 1) Try.prog lp #[.int .i64 (x.1.1 : Nat), .agg (cellsP x.1.2).toArray] W fun e W' =>
      (e = .returned (.bool true) ∧ J (pre ++ [x]) W' ∧ Keeps S W W') ∨ (e = .returned (.bool false) ∧ Jx (pre ++ [x]) W'))
    (W : World) (hJ : AbidesFrom W.heap.size J) (hSv : ¬ S Bv) (hSp : ∀ i, vp.ownBlock = some i → ¬ S i) (hP : P.length ≤ 100000)
    (hBv : Blk W Bv 55 #[vp]) (hO : W.ownsRow 0 72 129 vp P.length (P.flatMap cellsP)) (h0 : J [] W) :
    CallsIn Fence.wide n Try.prog 33 #[.func (.yield lp) #[] #[], .pointer (some ⟨Bv, 0, none⟩)] W fun e W' => (∃ v, e = .returned v) ∧
      ((∃ ys, ys = revsO N P hPn ∧ J ys W') ∨ (∃ pre, pre <+: revsO N P hPn ∧ Jx pre W')) := by
  refine callsIn_of_wp Try.func33 rfl trivial ?_ rfl
  have hPs : ∀ x ∈ P, x.2.1.length = 64 ∧ x.2.2.length = 64 := fun x hx => (hPn x hx).2
  simp only [Try.ntmps33, List.size_toArray, List.length_cons, List.length_nil, Nat.reduceAdd, Nat.reduceSub, Array.replicate_succ, Array.replicate_zero, List.push_toArray, List.append_toArray, List.nil_append, List.cons_append]
  have d0 := hBv.cell 0
  simp at d0
  obtain ⟨A, c, rfl⟩ : ∃ A c, vp = .slice A P.length c := by
    rcases hO.2 with ⟨rfl, h1⟩ | ⟨g', cap, cur, rfl, _⟩
    · exact ⟨none, 0, by rw [h1]⟩
    · exact ⟨_, cap, rfl⟩
  gi_wp2
  gi_loopw [3] (fun i wr => ∃ k : Nat, k ≤ P.length ∧ i = .int .i64 ((P.length : Int) - 1 - k) ∧ Keeps S W wr ∧ J ((revsO N P hPn).take k) wr) (fun i _ => (intOf i + 1).toNat)
  case atStart => exact ⟨0, Nat.zero_le _, by simp, Keeps.refl _ _, h0⟩
  case round =>
    obtain ⟨k, hk, rfl, hB, hJs⟩ := hrel
    by_cases hlt : k < P.length
    · obtain ⟨m, hm⟩ : ∃ m, m = P.length - 1 - k := ⟨_, rfl⟩
      have hmi : (P.length : Int) - 1 - (k : Int) = (m : Int) := by omega
      have hml : m < P.length := by omega
      obtain ⟨x, hx⟩ : ∃ x, P[m]? = some x := ⟨_, List.getElem?_eq_getElem hml⟩
      obtain ⟨y, hyx, hS0⟩ := revsO_at hPn hlt (x := x) (by rw [← hm]; exact hx)
      have hS := Lib.hid hS0
      rw [← hm] at hyx
      obtain ⟨fn, tmps, assign, body, hy, hR⟩ := hY _ y wr hJs (by rw [List.length_take, revsO_len]; omega)
      rw [hyx] at hy
      obtain ⟨g, cc, hv, hgl, hr⟩ := pw_range hO hPs hx
      obtain ⟨rfl, rfl⟩ : A = some ⟨g, 0, none⟩ ∧ c = cc := by injection hv with h1 h2 h3; exact ⟨h1, h3⟩
      have hgS : ¬ S g := hSp g rfl
      have hr2 : wr.rangeAt g (m * 129) (cellsP x) := fun j u hj => (hB.cell hgl hgS).trans (hr j u hj)
      have e0 := (hBv.keep hB hSv).cell 0
      have hcl := cellsP_len (hPs x (List.mem_of_getElem? hx))
      have hdP := descPW'
      generalize fieldsOf (Try.prog.underlying 72) = fs at hdP
      obtain ⟨L, hL⟩ : ∃ L, L = cellsP x := ⟨_, rfl⟩
      rw [← hL] at hr2 hcl
      simp only [← hL] at hy
      have hsL : (Try.prog.info? 72).map (·.size) = some L.length := by rw [hcl]; exact sizePW
      have HM := Lib.hid hm
      have HMI := Lib.hid hmi
      simp at e0
      rw [hmi]
      clear hm hmi hv hr hx hL hcl hgS hS0 hyx
      gi_wp2_with (first
        | (refine wpListIn_load_mid rfl _ _ rfl g (m * 129) rfl L _ hr2 hdP rfl hsL ?_)
        | (refine ⟨fun h => (by cases h), ?_⟩; refine hR.mono ?_; rintro e W' hy'; obtain ⟨bb, rfl, hyt, hyf⟩ := yield_bool hy'))
      · have hb : bb = false := by
          cases bb
          · rfl
          · contradiction
        refine bodyPost_ret (results_none rfl _ _ _) rfl ?_
        exact ⟨⟨_, rfl⟩, .inr ⟨_, by rw [← hS.out]; exact List.take_prefix _ _, hyf hb⟩⟩
      · have hb : bb = true := by
          cases bb
          · contradiction
          · rfl
        obtain ⟨hJ', hk'⟩ := hyt hb
        refine ⟨⟨k + 1, by omega, by have := HMI.out; congr 1; omega, hB.trans hk' (fun _ _ h => h), by rw [hS.out]; exact hJ'⟩, by simp [intOf]⟩
    · have hk2 : k = P.length := by omega
      subst hk2
      have HT := Lib.hid (List.take_of_length_le (l := revsO N P hPn) (i := P.length) (by rw [revsO_len]; omega))
      rw [show (P.length : Int) - 1 - (P.length : Int) = -1 by omega]
      gi_wp2
      go_end0
      exact ⟨⟨_, rfl⟩, .inl ⟨_, rfl, by rw [HT.out] at hJs; exact hJs⟩⟩

theorem back_any (n : Nat) (A : Option Addr) (l c : Nat) (w : World) :
    CallsIn Fence.wide n Try.prog 27 #[.slice A l c] w fun e w' =>
      e = .returned (.func (.func 33) #[] #[.pointer (some ⟨w.heap.size, 0, none⟩)]) ∧
        w' = w.alloc (.cells #[.slice A l c] 55) := by
  refine callsIn_of_wp Try.func27 rfl trivial ?_ rfl
  simp only [Try.ntmps27, List.size_toArray, List.length_cons, List.length_nil, Nat.reduceAdd, Nat.reduceSub, Array.replicate_succ, Array.replicate_zero, List.push_toArray, List.append_toArray, List.nil_append, List.cons_append]
  gi_wp2
  go_ret
  exact ⟨by simp, rfl⟩

/-- The sectors' block alone is written. -/
def onlyS (gs n₀ : Nat) (i : Nat) : Prop := i = gs ∨ n₀ ≤ i
theorem back_stops (n : Nat) (gs Bv : Nat) (vp : Value) (N : Nat) (P : List PW) (hPn : ∀ x ∈ P, x.1 < N ∧ x.2.1.length = 64 ∧ x.2.2.length = 64) (w : World) (hBs : Bv ≠ gs) (hvs : vp.ownBlock ≠ some gs) (hP : P.length ≤ 100000)
    (hBv : Blk w Bv 55 #[vp]) (hO : w.ownsRow 0 72 129 vp P.length (P.flatMap cellsP)) :
    SeqStopsK Fence.wide n Try.prog 33 #[.pointer (some ⟨Bv, 0, none⟩)] (fun x : OPW N => #[.int .i64 (x.1.1 : Nat), .agg (cellsP x.1.2).toArray]) (Keeps (onlyS gs w.heap.size))
      (fun ys => ys = revsO N P hPn) (fun pre => pre <+: revsO N P hPn) P.length w := fun lp J Jx W hW hJ _ hY h0 => by
  have hl := World.ownsRow.lt hO
  refine back1_in (onlyS gs w.heap.size) n lp Bv vp N P hPn J Jx hY W hJ (fun h => ?_) (fun i hi h => ?_) hP (hBv.below hW hBv.lt) ?_ h0
  · have := hBv.lt
    rcases h with h | h
    · exact hBs h
    · omega
  · have := hl i hi
    rcases h with h | h
    · exact hvs (by rw [hi, h])
    · omega
  · refine ⟨hO.1, ?_⟩
    rcases hO.2 with h0 | ⟨g, cap, cur, rfl, hb, hg, rest⟩
    · exact .inl h0
    · exact .inr ⟨g, cap, cur, rfl, hb, (hW.block g (hl g rfl).2).trans hg, rest⟩
end Go.Proofs.Ythieonekjmdelaa
