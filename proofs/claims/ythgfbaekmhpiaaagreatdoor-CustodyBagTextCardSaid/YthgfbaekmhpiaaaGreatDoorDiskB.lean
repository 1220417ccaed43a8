/- The contract of slices.Backward on pending writes, as a sequence. Conditions: the writes lie in memory. A region that draws its order, inside a round of a range over a function: no call, many operations that leave the world, then a tail in one order. Conditions: none. The contract of Write. Conditions: the disk lies in memory; the bytes lie in memory. -/
import Derived.Test.YthgfbaekmhpiaaaGreatDoorDiskA
import Derived.RangeFuncNested
import Derived.RangeFuncBound
import Derived.RangeFuncCalls
import Derived.RangeFuncLeaves
import Derived.Shelf.Abstract
import Derived.Shelf.RegionOpen
import Derived.OwnWalkIn
import Derived.TacticsInMore
import Derived.LoopNIn
import Derived.LoopIn
import Derived.Stop.RegionWithIn
import Derived.Sort.QuietIn
import Derived.Sort.CutIn
import Derived.StillTail
import Derived.OrdersIn
import Derived.Deep.WholeRow
import Derived.Deep.RegionHeld3
import Derived.StillTailTactics
namespace Go.Proofs.YthgfbaekmhpiaaaGreatDoor
open Go.RowKit Go.Shelf
attribute [local go_sem] Oper.semAt_some

theorem yield_bool {e : Ending} {X Y : Prop} (h : (e = .returned (.bool true) ∧ X) ∨ (e = .returned (.bool false) ∧ Y)) : ∃ bb, e = .returned (.bool bb) ∧ (bb = true → X) ∧ (bb = false → Y) := by
  rcases h with ⟨h, hx⟩ | ⟨h, hy⟩
  · exact ⟨true, h, fun _ => hx, fun h => by cases h⟩
  · exact ⟨false, h, fun h => (by cases h), fun _ => hy⟩
theorem abides_new {β : Type} {B : Nat} {J : β → World → Prop} (hJ : AbidesFrom B J) {s : β} {W W' : World} (h : J s W) (hb : Below W.heap.size W W') : J s W' :=
  hJ s W W' none h ⟨hb.os, hb.tape, hb.output, hb.size, fun k hk _ => hb.block k hk⟩ (fun r e => by cases e)
theorem below_end {w W : World} {D : Nat} {o o' : Obj} (hB : Below w.heap.size w W) (hK : W.heap[D]? = some o) (hD : w.heap.size ≤ D) : Below w.heap.size w (W.putObj D o') :=
  hB.trans ((Below.refl _ W).grown (grownBy_putObj' W D o') (by have := (Array.getElem?_eq_some_iff.1 hK).1; omega) (fun k e => by cases e; omega))
theorem wpListIn_load_mid {F : Fence} {nF : Nat} {P : Program} {w : World} {ops : Array Oper} {rest : List Oper} {o : Oper} {a : Act} {Q : Exit → Act → World → Prop} (hg : o.guard = none) (ty : TypeId) (x : Operand) (hop : o.op = .load ty x)
    (b off : Nat) (hx : a.eval x = .pointer (some ⟨b, off, none⟩)) (cs : List Value) (d : TypeDesc) (hc : w.rangeAt b off cs)
    (hu : P.underlying ty = some d) (hd : d.isRow = true) (hi : (P.info? ty).map (·.size) = some cs.length)
    (hK : wpListIn F nF P ops Q rest (a.put o.dst (.agg cs.toArray)) w) : wpListIn F nF P ops Q (o :: rest) a w := by
  refine wpListIn_plain hg fun K' hK' => ?_
  unfold Oper.wpIn
  refine ⟨by simp [Oper.about, hop], ?_⟩
  rw [Oper.semAt_plain F _ _ (by rw [hop]; intro c hc'; cases hc')]
  simp only [execOp, hop, hx, Instr.loadAt, Instr.sureAddr, Sem.run_bind, Sem.run_pure, Result.andThen_ok, run_loadVar_mid w b off ty cs d hc hu hd hi]
  exact hK' _ _ hK

/-- The pending writes with their numbers, the last one first. -/
def revs (P : List PW) : List (Nat × PW) := (P.zipIdx.map fun x => (x.2, x.1)).reverse
theorem revs_len (P : List PW) : (revs P).length = P.length := by simp [revs]
theorem revs_at {P : List PW} {k : Nat} (hk : k < P.length) {x : PW} (hx : P[P.length - 1 - k]? = some x) : (revs P).take (k + 1) = (revs P).take k ++ [(P.length - 1 - k, x)] := by
  rw [List.take_add_one]
  congr 1
  unfold revs
  rw [List.getElem?_reverse (by simpa using hk)]
  simp [hx]
/-- A pending write whose sector exists and whose bytes are whole. -/
abbrev OPW (N : Nat) := { x : Nat × PW // x.2.1 < N ∧ x.2.2.1.length = 64 ∧ x.2.2.2.length = 64 }
def revsO (N : Nat) (P : List PW) (h : ∀ x ∈ P, x.1 < N ∧ x.2.1.length = 64 ∧ x.2.2.length = 64) : List (OPW N) :=
  (revs P).pmap (fun x hx => ⟨x, hx⟩) (fun x hx => by
    unfold revs at hx
    rw [List.mem_reverse, List.mem_map] at hx
    obtain ⟨y, hy, rfl⟩ := hx
    have := List.mem_zipIdx' hy
    exact h _ (by rw [this.2]; exact List.getElem_mem _))
theorem revsO_val {N : Nat} {P : List PW} (h : ∀ x ∈ P, x.1 < N ∧ x.2.1.length = 64 ∧ x.2.2.length = 64) : (revsO N P h).map Subtype.val = revs P := by
  unfold revsO
  rw [List.map_pmap]
  simp
theorem revsO_len {N : Nat} {P : List PW} (h : ∀ x ∈ P, x.1 < N ∧ x.2.1.length = 64 ∧ x.2.2.length = 64) : (revsO N P h).length = P.length := by
  have := congrArg List.length (revsO_val h)
  rwa [List.length_map, revs_len] at this
theorem revsO_at {N : Nat} {P : List PW} (h : ∀ x ∈ P, x.1 < N ∧ x.2.1.length = 64 ∧ x.2.2.length = 64) {k : Nat} (hk : k < P.length) {x : PW} (hx : P[P.length - 1 - k]? = some x) : ∃ y : OPW N, y.1 = (P.length - 1 - k, x) ∧ (revsO N P h).take (k + 1) = (revsO N P h).take k ++ [y] := by
  have hl : k < (revsO N P h).length := by rw [revsO_len]; exact hk
  refine ⟨(revsO N P h)[k], ?_, by rw [List.take_add_one, List.getElem?_eq_getElem hl]; rfl⟩
  have h1 : (revs P)[k]? = some (P.length - 1 - k, x) := by
    unfold revs
    rw [List.getElem?_reverse (by simpa using hk)]
    simp [hx]
  rw [← revsO_val h, List.getElem?_map, List.getElem?_eq_getElem hl] at h1
  simpa using h1
theorem flatP_len {P : List PW} (h : ∀ x ∈ P, x.2.1.length = 64 ∧ x.2.2.length = 64) : (P.flatMap cellsP).length = P.length * 129 := by
  induction P with
  | nil => rfl
  | cons x P ih =>
    have hx := h x (List.mem_cons_self ..)
    have hl : (cellsP x).length = 129 := by unfold cellsP; simp only [List.length_cons, List.length_append, cellsB_len, hx.1, hx.2]
    rw [List.flatMap_cons, List.length_append, hl, ih (fun y hy => h y (List.mem_cons_of_mem _ hy)), List.length_cons]
    omega
theorem cellsP_len {x : PW} (h : x.2.1.length = 64 ∧ x.2.2.length = 64) : (cellsP x).length = 129 := by unfold cellsP; simp only [List.length_cons, List.length_append, cellsB_len, h.1, h.2]
theorem flatP_at {P : List PW} (h : ∀ x ∈ P, x.2.1.length = 64 ∧ x.2.2.length = 64) {k : Nat} {x : PW} (hk : P[k]? = some x) {j : Nat} (hj : j < 129) : (P.flatMap cellsP)[k * 129 + j]? = (cellsP x)[j]? := by
  induction P generalizing k with
  | nil => simp at hk
  | cons y P ih =>
    have hy := cellsP_len (h y (List.mem_cons_self ..))
    rw [List.flatMap_cons]
    cases k with
    | zero =>
      cases hk
      rw [Nat.zero_mul, Nat.zero_add, List.getElem?_append_left (by omega)]
    | succ k =>
      rw [List.getElem?_append_right (by omega), hy, show (k + 1) * 129 + j - 129 = k * 129 + j by omega]
      exact ih (fun z hz => h z (List.mem_cons_of_mem _ hz)) (by simpa using hk)
/-- Where a pending write lies. -/
theorem pw_range {w : World} {v : Value} {P : List PW} (hv : w.ownsRow 0 130 129 v P.length (P.flatMap cellsP)) (h : ∀ x ∈ P, x.2.1.length = 64 ∧ x.2.2.length = 64) {k : Nat} {x : PW} (hk : P[k]? = some x) :
    ∃ g c, v = .slice (some ⟨g, 0, none⟩) P.length c ∧ g < w.heap.size ∧ w.rangeAt g (k * 129) (cellsP x) := by
  have hlt := World.ownsRow.lt hv
  have hkl := (List.getElem?_eq_some_iff.1 hk).1
  have h0 := hv
  rcases h0.2 with ⟨h1, h2⟩ | ⟨g, cap, cur, h1, hb, hg, _⟩
  · omega
  · subst h1
    refine ⟨g, cap, rfl, (hlt g rfl).2, fun j u hj => ?_⟩
    have hj1 := (List.getElem?_eq_some_iff.1 hj).1
    rw [cellsP_len (h x (List.mem_of_getElem? hk))] at hj1
    rw [hv.cellAt (k * 129 + j) (by omega), flatP_at h hk hj1, hj]

set_option maxRecDepth 100000 in
set_option maxHeartbeats 2000000 in
theorem back1_in (S : Nat → Prop) (n : Nat) (lp Bv : Nat) (vp : Value) (N : Nat) (P : List PW) (hPn : ∀ x ∈ P, x.1 < N ∧ x.2.1.length = 64 ∧ x.2.2.length = 64) (J Jx : List (OPW N) → World → Prop)
    (hY : ∀ pre x W, J pre W → pre.length < P.length → YieldAt Fence.wide (n - 1) Tryz.prog lp #[.int .i64 (x.1.1 : Nat), .agg (cellsP x.1.2).toArray] W fun e W' =>
      (e = .returned (.bool true) ∧ J (pre ++ [x]) W' ∧ Keeps S W W') ∨ (e = .returned (.bool false) ∧ Jx (pre ++ [x]) W'))
    (W : World) (hJ : AbidesFrom W.heap.size J) (hSv : ¬ S Bv) (hSp : ∀ i, vp.ownBlock = some i → ¬ S i) (hP : P.length ≤ 100000)
    (hBv : Blk W Bv 123 #[vp]) (hO : W.ownsRow 0 130 129 vp P.length (P.flatMap cellsP)) (h0 : J [] W) :
    CallsIn Fence.wide n Tryz.prog 101 #[.func (.yield lp) #[] #[], .pointer (some ⟨Bv, 0, none⟩)] W fun e W' => (∃ v, e = .returned v) ∧
      ((∃ ys, ys = revsO N P hPn ∧ J ys W') ∨ (∃ pre, pre <+: revsO N P hPn ∧ Jx pre W')) := by
  refine callsIn_of_wp Tryz.func101 rfl trivial ?_ rfl
  have hPs : ∀ x ∈ P, x.2.1.length = 64 ∧ x.2.2.length = 64 := fun x hx => (hPn x hx).2
  simp only [Tryz.ntmps101, List.size_toArray, List.length_cons, List.length_nil, Nat.reduceAdd, Nat.reduceSub, Array.replicate_succ, Array.replicate_zero, List.push_toArray, List.append_toArray, List.nil_append, List.cons_append]
  have d0 := hBv.cell 0
  simp at d0
  obtain ⟨A, c, rfl⟩ : ∃ A c, vp = .slice A P.length c := by
    rcases hO.2 with ⟨rfl, h1⟩ | ⟨g', cap, cur, rfl, _⟩
    · exact ⟨none, 0, by rw [h1]⟩
    · exact ⟨_, cap, rfl⟩
  gi_wp2
  gi_loopw [3] (fun i wr => ∃ k : Nat, k ≤ P.length ∧ i = .int .i64 ((P.length : Int) - 1 - k) ∧ Keeps S W wr ∧ J ((revsO N P hPn).take k) wr) (fun i _ => (intOf i + 1).toNat)
  case atStart => exact ⟨0, Nat.zero_le _, by simp, Keeps.refl _ _, h0⟩
  case round =>
    obtain ⟨k, hk, rfl, hB, hJs⟩ := hrel
    by_cases hlt : k < P.length
    · obtain ⟨m, hm⟩ : ∃ m, m = P.length - 1 - k := ⟨_, rfl⟩
      have hmi : (P.length : Int) - 1 - (k : Int) = (m : Int) := by omega
      have hml : m < P.length := by omega
      obtain ⟨x, hx⟩ : ∃ x, P[m]? = some x := ⟨_, List.getElem?_eq_getElem hml⟩
      obtain ⟨y, hyx, hS0⟩ := revsO_at hPn hlt (x := x) (by rw [← hm]; exact hx)
      have hS := Lib.hid hS0
      rw [← hm] at hyx
      obtain ⟨fn, tmps, assign, body, hy, hR⟩ := hY _ y wr hJs (by rw [List.length_take, revsO_len]; omega)
      rw [hyx] at hy
      obtain ⟨g, cc, hv, hgl, hr⟩ := pw_range hO hPs hx
      obtain ⟨rfl, rfl⟩ : A = some ⟨g, 0, none⟩ ∧ c = cc := by injection hv with h1 h2 h3; exact ⟨h1, h3⟩
      have hgS : ¬ S g := hSp g rfl
      have hr2 : wr.rangeAt g (m * 129) (cellsP x) := fun j u hj => (hB.cell hgl hgS).trans (hr j u hj)
      have e0 := (hBv.keep hB hSv).cell 0
      have hcl := cellsP_len (hPs x (List.mem_of_getElem? hx))
      have hdP := descPW'
      generalize fieldsOf (Tryz.prog.underlying 130) = fs at hdP
      obtain ⟨L, hL⟩ : ∃ L, L = cellsP x := ⟨_, rfl⟩
      rw [← hL] at hr2 hcl
      simp only [← hL] at hy
      have hsL : (Tryz.prog.info? 130).map (·.size) = some L.length := by rw [hcl]; exact sizePW
      have HM := Lib.hid hm
      have HMI := Lib.hid hmi
      simp at e0
      rw [hmi]
      clear hm hmi hv hr hx hL hcl hgS hS0 hyx
      gi_wp2_with (first
        | (refine wpListIn_load_mid rfl _ _ rfl g (m * 129) rfl L _ hr2 hdP rfl hsL ?_)
        | (refine ⟨fun h => (by cases h), ?_⟩; refine hR.mono ?_; rintro e W' hy'; obtain ⟨bb, rfl, hyt, hyf⟩ := yield_bool hy'))
      · have hb : bb = false := by
          cases bb
          · rfl
          · contradiction
        refine bodyPost_ret (results_none rfl _ _ _) rfl ?_
        exact ⟨⟨_, rfl⟩, .inr ⟨_, by rw [← hS.out]; exact List.take_prefix _ _, hyf hb⟩⟩
      · have hb : bb = true := by
          cases bb
          · contradiction
          · rfl
        obtain ⟨hJ', hk'⟩ := hyt hb
        refine ⟨⟨k + 1, by omega, by have := HMI.out; congr 1; omega, hB.trans hk' (fun _ _ h => h), by rw [hS.out]; exact hJ'⟩, by simp [intOf]⟩
    · have hk2 : k = P.length := by omega
      subst hk2
      have HT := Lib.hid (List.take_of_length_le (l := revsO N P hPn) (i := P.length) (by rw [revsO_len]; omega))
      rw [show (P.length : Int) - 1 - (P.length : Int) = -1 by omega]
      gi_wp2
      go_end0
      exact ⟨⟨_, rfl⟩, .inl ⟨_, rfl, by rw [HT.out] at hJs; exact hJs⟩⟩

theorem back_any (n : Nat) (A : Option Addr) (l c : Nat) (w : World) :
    CallsIn Fence.wide n Tryz.prog 70 #[.slice A l c] w fun e w' =>
      e = .returned (.func (.func 101) #[] #[.pointer (some ⟨w.heap.size, 0, none⟩)]) ∧
        w' = w.alloc (.cells #[.slice A l c] 123) := by
  refine callsIn_of_wp Tryz.func70 rfl trivial ?_ rfl
  simp only [Tryz.ntmps70, List.size_toArray, List.length_cons, List.length_nil, Nat.reduceAdd, Nat.reduceSub, Array.replicate_succ, Array.replicate_zero, List.push_toArray, List.append_toArray, List.nil_append, List.cons_append]
  gi_wp2
  go_ret
  exact ⟨by simp, rfl⟩

/-- The sectors' block alone is written. -/
def onlyS (gs n₀ : Nat) (i : Nat) : Prop := i = gs ∨ n₀ ≤ i
theorem back_stops (n : Nat) (gs Bv : Nat) (vp : Value) (N : Nat) (P : List PW) (hPn : ∀ x ∈ P, x.1 < N ∧ x.2.1.length = 64 ∧ x.2.2.length = 64) (w : World) (hBs : Bv ≠ gs) (hvs : vp.ownBlock ≠ some gs) (hP : P.length ≤ 100000)
    (hBv : Blk w Bv 123 #[vp]) (hO : w.ownsRow 0 130 129 vp P.length (P.flatMap cellsP)) :
    SeqStopsK Fence.wide n Tryz.prog 101 #[.pointer (some ⟨Bv, 0, none⟩)] (fun x : OPW N => #[.int .i64 (x.1.1 : Nat), .agg (cellsP x.1.2).toArray]) (Keeps (onlyS gs w.heap.size))
      (fun ys => ys = revsO N P hPn) (fun pre => pre <+: revsO N P hPn) P.length w := fun lp J Jx W hW hJ _ hY h0 => by
  have hl := World.ownsRow.lt hO
  refine back1_in (onlyS gs w.heap.size) n lp Bv vp N P hPn J Jx hY W hJ (fun h => ?_) (fun i hi h => ?_) hP (hBv.below hW hBv.lt) ?_ h0
  · have := hBv.lt
    rcases h with h | h
    · exact hBs h
    · omega
  · have := hl i hi
    rcases h with h | h
    · exact hvs (by rw [hi, h])
    · omega
  · refine ⟨hO.1, ?_⟩
    rcases hO.2 with h0 | ⟨g, cap, cur, rfl, hb, hg, rest⟩
    · exact .inl h0
    · exact .inr ⟨g, cap, cur, rfl, hb, (hW.block g (hl g rfl).2).trans hg, rest⟩
end Go.Proofs.YthgfbaekmhpiaaaGreatDoor
namespace Go.Proofs.YthgfbaekmhpiaaaGreatDoor
open Go.RowKit Go.Shelf

/-- The operations of which is known here that they neither enter nor ask for anything. -/
def mild : Op → Bool
  | .move _ | .load .. | .store .. | .nilCheck _ | .fieldAddr .. | .indexAddr .. => true
  | _ => false
theorem mild_call {o : Op} (h : mild o = true) : (∀ c, o ≠ .call c) ∧ (∀ c, o ≠ .defer c) := by
  constructor <;> (intro c e; rw [e] at h; cases h)
/-- What such an operation ends in. -/
def Ends : Result Next → Prop
  | .ok (.value _) _ => True
  | .ok .skip _ => True
  | .ok _ _ => False
  | .halt _ _ => True
theorem ends_value (s : Sem Value) (P : Program) (w : World) : Ends ((do pure (Next.value (← s)) : Sem Next).run P w) := by
  rw [Sem.run_bind]
  cases s.run P w <;> trivial
theorem ends_unit (s : Sem Unit) (P : Program) (w : World) : Ends ((do s; pure Next.skip : Sem Next).run P w) := by
  rw [Sem.run_bind]
  cases s.run P w <;> trivial
theorem ends_bind {α : Type} (s : Sem α) (f : α → Sem Next) (P : Program) (w : World) (h : ∀ v w', Ends ((f v).run P w')) : Ends ((s >>= f).run P w) := by
  rw [Sem.run_bind]
  cases s.run P w with
  | halt h w' => trivial
  | ok p w1 => exact h p w1
theorem ends_panic (P : Program) (w : World) : Ends ((runtimePanic .nilDeref : Sem Next).run P w) := by
  unfold runtimePanic
  refine ends_bind _ _ _ _ fun v w' => ?_
  trivial
theorem mild_ends {o : Oper} (h : mild o.op = true) (ρ : Operand → Value) (P : Program) (w : World) : Ends ((execOp ρ o).run P w) := by
  cases ho : o.op <;> rw [ho] at h <;> try (cases h)
  · simp only [execOp, ho]; trivial
  · simp only [execOp, ho]; exact ends_value _ _ _
  · simp only [execOp, ho]; exact ends_unit _ _ _
  · rename_i x
    simp only [execOp, ho]
    split
    · exact ends_panic _ _
    · exact ends_panic _ _
    · exact ends_panic _ _
    · split
      · exact ends_panic _ _
      · refine ends_bind _ _ _ _ fun v w' => ends_bind _ _ _ _ fun v w' => ?_
        split
        · exact ends_bind _ _ _ _ fun v w' => trivial
        · trivial
      · trivial
    · trivial
  · simp only [execOp, ho]; exact ends_value _ _ _
  · simp only [execOp, ho]; exact ends_value _ _ _
theorem mild_wpIn {F : Fence} {n : Nat} {P : Program} {o : Oper} {a : Act} {w : World} {K : Act → World → Prop} {Q : Exit → Act → World → Prop} (hm : mild o.op = true) (h : o.wp P a w K Q) : o.wpIn F n P a w K Q := by
  obtain ⟨hc, hd⟩ := mild_call hm
  refine ⟨fun f hf => ?_, ?_⟩
  · unfold Oper.about at hf
    split at hf
    · rename_i c hcc
      exact absurd hcc (hc c)
    · cases hf
  · rw [Oper.semAt_plain F _ _ hd]
    have he := mild_ends hm a.eval P w
    unfold Oper.wp at h
    generalize (execOp a.eval o).run P w = r at h he
    cases r with
    | ok x w' => cases x <;> first | exact h | cases he
    | halt x w' => cases x <;> first | exact h | cases h
theorem mild_opsIn {F : Fence} {n : Nat} {P : Program} {ops : Array Oper} {Q : Exit → Act → World → Prop} (hm : ∀ (i : Nat) (o : Oper), ops[i]? = some o → mild o.op = true) (hQ : ¬ LetsOut Q) :
    ∀ (l : List Nat) (a : Act) (w : World), wpOps P ops Q l a w → wpOpsIn F n P ops Q l a w
  | [], _, _, h => h
  | i :: rest, a, w, h => by
    unfold wpOpsIn
    unfold wpOps at h
    cases ho : ops[i]? with
    | none =>
      simp only [ho] at h ⊢
      exact mild_opsIn hm hQ rest a w h
    | some o =>
      simp only [ho] at h ⊢
      by_cases hw : Region.wanted o (yielded ops a.tmps) = true
      · rw [if_pos hw] at h ⊢
        rcases h with h | h
        · exact mild_wpIn (hm i o ho) (Oper.wp_mono (fun a' w' h' => mild_opsIn hm hQ rest a' w' h') h)
        · exact absurd h.2 hQ
      · rw [if_neg hw] at h ⊢
        refine ⟨fun f hf => ?_, mild_opsIn hm hQ rest _ w h⟩
        obtain ⟨hc, _⟩ := mild_call (hm i o ho)
        unfold Oper.about at hf
        split at hf
        · rename_i c hcc
          exact absurd hcc (hc c)
        · cases hf
/-- Many operations that leave the world, then a tail in one order, inside a round. -/
theorem wpIn_still_tail {F : Fence} {m : Nat} {P : Program} {id : Nat} {Q : Exit → Act → World → Prop} {a : Act} {w : World} {l : List Oper} (n : Nat) (hm : P.follows .mixedOrders = true) (hB : Region.lexTailB .any l.toArray n = true) (hM : l.all (fun o => mild o.op) = true) (hQ : ¬ LetsOut Q)
    (h : wpStill P l.toArray { w with drawn := w.drawn + 1 } (fun a' => wpList P l.toArray Q (l.drop n) a' { w with drawn := w.drawn + 1 }) (l.take n) a) : (Code.region id l.toArray true).wpIn F m P Q a w := by
  refine wpIn_region_draw fun t => mild_opsIn (fun i o ho => ?_) hQ _ _ _ ?_
  · rw [List.getElem?_toArray] at ho
    exact List.all_eq_true.1 hM o (List.mem_of_getElem? ho)
  simp only [Region.schedule, hm, Bool.true_or, if_true]
  refine wpAny_sound _ _ _ _ _ ?_
  simp only [Region.lexTailB, Bool.and_eq_true, decide_eq_true_eq] at hB
  obtain ⟨⟨⟨⟨h1, h2⟩, h3⟩, h4⟩, h5⟩ := hB
  have e1 : (l.take n).length = n := by
    have : n < l.length := by simpa using h2
    simp; omega
  have e2 : (l.drop n).length = l.toArray.size - n := by simp
  have hh := wpAnyL_lex (md := .any) (g := l.toArray.size - n) h1 h3 h4 h2 (l.take n) 0 (Array.replicate l.toArray.size false) a (fun j hj => by
    rw [e1] at hj
    simp [hj]) (by omega) ⟨by simp, fun j oj _ hl => (by rw [getD_replicate_false] at hl; cases hl), fun t _ ht => getD_in (by simpa using ht) (getD_replicate_false _ _)⟩ (by rw [e1]; exact h5) h
  have hr := wpAny_of_head (Q' := Q) (g := l.toArray.size - n) (fun ls a' hL => by
    have hs := wpAny_of_seq (md := .any) (Q' := Q) (l.drop n) n ls a' { w with drawn := w.drawn + 1 } (fun j => by simp [List.getElem?_drop]) (by rw [e2]; exact hL.1) hL.2
    rwa [e2] at hs) _ _ _ hh
  rwa [e1, show n + (l.toArray.size - n) = l.toArray.size by have : n < l.toArray.size := h2; omega] at hr
end Go.Proofs.YthgfbaekmhpiaaaGreatDoor
namespace Go.Proofs.YthgfbaekmhpiaaaGreatDoor
open Go.RowKit

theorem list129 (X : List Value) (h : X.length = 129) : ∃ f : Nat → Value, X = (List.range 129).map f :=
  ⟨fun i => X.getD i undef, by
    apply List.ext_getElem
    · simp [h]
    · intro i h1 h2
      simp [h1]⟩
set_option maxRecDepth 100000 in
theorem build_pw (L : List Value) (hL : L.length = 129) (w : World) : (Instr.buildSlice 123 1 #[(0, .agg L.toArray)]).run Tryz.prog w = .ok (.slice (some ⟨w.heap.size, 0, none⟩) 1 1) (w.alloc (.cells L.toArray 130)) := by
  obtain ⟨f, rfl⟩ := list129 L hL
  kernel_rfl
theorem wp_build_pw {o : Oper} {a : Act} {w : World} {K : Act → World → Prop} {Q : Exit → Act → World → Prop} (x : Operand) (ho : o.op = .buildSlice 123 1 #[(0, x)]) (L : List Value) (hL : L.length = 129) (hx : a.eval x = .agg L.toArray)
    (h : K (a.put o.dst (.slice (some ⟨w.heap.size, 0, none⟩) 1 1)) (w.alloc (.cells L.toArray 130))) : o.wp Tryz.prog a w K Q := by
  unfold Oper.wp execOp
  simp only [ho, List.map_toArray, List.map_cons, List.map_nil, hx, Sem.run_bind, Sem.run_pure, Result.andThen_ok, build_pw L hL]
  exact h

/-- The disk lies in w'; its pending writes lie where they did, or in a block that is newer than w. -/
def WrAt (w w' : World) (p gs : Nat) (vp : Value) (S : List (List Int)) (P : List PW) (dn st : Bool) (ca : Int) : Prop :=
  ∃ vp', DiskAt w' p gs vp' S P dn st ca ∧ (vp'.ownBlock = vp.ownBlock ∨ ∀ i, vp'.ownBlock = some i → w.heap.size ≤ i)

set_option maxRecDepth 100000 in
set_option maxHeartbeats 1000000 in
theorem write_ok {w : World} {p gs : Nat} {vp : Value} {S : List (List Int)} {P : List PW} {st : Bool} {ca : Int} (h : DiskAt w p gs vp S P false st ca) (hca : 0 ≤ ca ∧ ca ≤ 9223372036854775807) (hne : st = true → ca ≠ 0) (hS : S.length ≤ 65536) (hP : P.length ≤ 100000)
    (k : Nat) (s : List Int) (hk : S[k]? = some s) (A : Option Addr) (c : Nat) (b : List Int) (hb : b.length ≤ 64) (hA : 0 < b.length → ∃ g o, A = some ⟨g, o, none⟩ ∧ w.rangeAt g o (cellsB b) ∧ ¬ ownD p gs vp g) :
    Calls Tryz.prog 30 #[.pointer (some ⟨p, 0, none⟩), .int .i64 (k : Int), .slice A b.length c] w fun e w' => e = .returned (.int .i64 0) ∧ WrAt w w' p gs vp (S.set k (padB b)) (P ++ [(k, s, padB b)]) false st (cntOf st ca) ∧ Keeps (ownD p gs vp) w w' := by
  have hkl := (List.getElem?_eq_some_iff.1 hk).1
  have hs := h.all s (List.mem_of_getElem? hk)
  have HR := Lib.hid (refusesSector_any h hS k)
  rw [show secErr false S.length (k : Int) = 0 by unfold secErr withinB; rw [if_neg (by simp), decide_eq_true (by omega), decide_eq_true (by omega)]; rfl] at HR
  have HF := Lib.hid (fails_ok h hca hne)
  have hb' : ¬ (64 : Int) < (b.length : Int) := by omega
  clear h hne
  go_enter Tryz.func30, Tryz.ntmps30
  go_wp2_with fail
  refine HR.out.mono ?_
  rintro e w1 ⟨rfl, rfl⟩
  go_wp2_with fail
  refine HF.out.mono ?_
  rintro e w1 ⟨rfl, hD, hk1⟩
  have c0 := hD.blk.cell 0
  have zp := hD.blk.lt
  have zs := hD.sec.lt
  simp at c0
  have hr := hD.range hk
  have hsz : (Tryz.prog.info? 121).map (·.size) = some (cellsB s).length := by rw [cellsB_len, hs]; exact sizeBlock
  clear HR HF
  have hX := hsz
  obtain ⟨i0, hi, hz0, hz1, hz2⟩ := info_parts infoPW
  obtain ⟨X, hXX⟩ : ∃ X, X = cellsB s := ⟨_, rfl⟩
  have hXl : X.length = 64 := by rw [hXX, cellsB_len, hs]
  rw [← hXX] at hr hX hsz
  have HXX := Lib.hid hXX
  obtain ⟨Z1, hZ1⟩ : ∃ Z1, Z1 = (Value.int .i64 k :: (X ++ List.replicate 64 (Value.int .u8 0))).toArray := ⟨_, rfl⟩
  have hZs : Z1.size = 129 := by rw [hZ1]; simp [hXl]
  have hZo : Z1.all (·.oneCell') = true := by
    rw [hZ1]
    refine all_oneCell_toArray (fun v hv => ?_)
    rcases List.mem_cons.1 hv with rfl | hv
    · rfl
    · rcases List.mem_append.1 hv with hv | hv
      · rw [hXX] at hv; exact cellsB_one s v hv
      · rw [(List.mem_replicate.1 hv).2]; rfl
  obtain ⟨Z0, hZ0⟩ : ∃ Z0, Z0 = (Value.int .i64 0 :: List.replicate 128 (Value.int .u8 0)).toArray := ⟨_, rfl⟩
  have hZ0s : Z0.size = 129 := by rw [hZ0]; rfl
  have hzv : ∀ W, (zeroValue 130).run Tryz.prog W = .ok (.agg Z0) W := (zero_of_info (n := 129) (by rw [hZ0]; kernel_rfl)).1
  have hfo := fold_pw (k : Int) X hXl
  rw [← hZ1, ← hZ0] at hfo
  have hZ0n : ¬ Z0 = #[] := fun e => by rw [e] at hZ0s; cases hZ0s
  have HZ1 := Lib.hid hZ1
  have hszP := sizePW
  clear hXX hZ1 hZ0
  go_upto_region 10 with (first
    | (refine wpList_load_mid rfl _ _ rfl gs (k * 64) rfl X _ hr descBlock rfl hsz ?_)
    | (refine wpList_store_row rfl _ _ _ rfl w1.heap.size Z1 rfl rfl 130 Z0 (heap_alloc_new w1 _) (by rw [hZs]; exact hszP) (by rw [hZs, hZ0s]) hZo ?_))
  rw [World.setRow_alloc_new]
  have hD2 := hD.below ((Below.refl _ w1).alloc (Nat.le_refl _) (.cells Z1 130))
  have kW := Blk.new w1 130 Z1
  have hK2 : Keeps (ownD p gs vp) w (w1.alloc (.cells Z1 130)) := (hk1.mono (fun i _ e => .inl e)).alloc _
  have hwz : w.heap.size ≤ w1.heap.size := hk1.size
  have hne1 : w1.heap.size ≠ p ∧ w1.heap.size ≠ gs ∧ vp.ownBlock ≠ some w1.heap.size := ⟨by omega, by omega, fun e => by have := World.ownsRow.lt hD.pend _ e; omega⟩
  have hs2 : (w1.alloc (.cells Z1 130)).heap.size = w1.heap.size + 1 := by simp
  generalize hgw : w1.heap.size = gw at *
  generalize w1.alloc (.cells Z1 130) = w2 at hD2 kW hK2 hs2 ⊢
  clear c0 zp zs hfo hzv hZ0n hZ0s hr hD hk1
  have hcur : w2.heap[gw]? = some (.cells Z1.toList.toArray 130 (0, 0)) := by have h : w2.heap[gw]? = _ := kW; simpa using h
  have hZl : Z1.toList.length = 129 := by simpa using hZs
  have hcopy : 0 < (cellsB b).length → (some ⟨gw, 65, none⟩ : Option Addr) = some ⟨gw, 65, none⟩ ∧ ∃ ad, A = some ad ∧ ∀ j v, (cellsB b)[j]? = some v → w2.cell? (ad.add j) = some v := fun h0 => by
    rw [cellsB_len] at h0
    obtain ⟨g, o, rfl, hrg, hng⟩ := hA h0
    refine ⟨rfl, _, rfl, fun j v hv => ?_⟩
    rw [Addr.add_mid]
    have h1 := hrg j v hv
    exact (hK2.cell (World.block_lt_of_cell? w _ h1) hng).trans h1
  have HBL := Lib.hid (cellsB_len b)
  have HLN : Hid ((cellsB b).length = Nat.min b.length 64) := Lib.hid (by rw [cellsB_len]; exact (Nat.min_eq_left hb).symm)
  have HFT : Hid (65 + (cellsB b).length ≤ Z1.toList.length) := Lib.hid (by rw [cellsB_len, hZl]; omega)
  have HCP := Lib.hid hcopy
  have HO := Lib.hid (cellsB_one b)
  obtain ⟨Y, hY⟩ : ∃ Y, Y = cellsB b := ⟨_, rfl⟩
  rw [← hY] at HBL HLN HFT HCP HO
  have HYY := Lib.hid hY
  have hszU : (Tryz.prog.info? 5).map (·.size) = some 1 := by kernel_rfl
  have hgl := kW.lt
  clear hcopy hA hY hZs hZo hX hsz hi hz0 hz1 hz2
  go_wp2_with (refine wpList_copy_splice rfl _ _ _ _ rfl 5 rowU8 hszU _ _ 64 64 b.length c rfl rfl gw 65 Z1.toList 130 hcur Y HLN.out HCP.out HFT.out HO.out gw w2 ⟨rfl, rfl, rfl, Nat.le_refl _, fun _ _ => rfl⟩ (Nat.le_refl _) ?_; intro w3 HG hB3)
  have hK3 : Keeps (fun i => i = gw) w2 w3 := Keeps.of_below hB3 (fun k h1 h2 => by omega)
  have hD3 := hD2.keep hK3 (fun i hi e => by
    subst e
    rcases hi with e | e | e
    · exact hne1.1 e
    · exact hne1.2.1 e
    · exact hne1.2.2 e)
  have hKw3 : Keeps (ownD p gs vp) w w3 := hK2.trans hK3 (fun i h1 e => by omega)
  have HL : splice Z1.toList 65 Y = cellsP (k, s, padB b) := by
    rw [HZ1.out, HYY.out, HXX.out]
    exact splice_pw k s b hs hb
  have HR : Hid (∀ j v, (splice Z1.toList 65 Y)[j]? = some v → w3.cell? ⟨gw, j, none⟩ = some v) := Lib.hid (fun j v hv => by
    have := Blk.cell HG.out j
    rw [this, List.getElem?_toArray, hv])
  have kL : Blk w3 gw 130 (splice Z1.toList 65 Y).toArray := HG.out
  obtain ⟨L, hL⟩ : ∃ L, L = splice Z1.toList 65 Y := ⟨_, rfl⟩
  rw [← hL] at HL kL
  have hLl : L.length = 129 := by rw [HL]; unfold cellsP; simp only [List.length_cons, List.length_append, cellsB_len, hs, padB_len hb]
  have hgw3 : gw < w3.heap.size := kL.lt
  have hgws : w1.heap.size = gw := hgw
  have hw13 : w1.heap.size ≤ w3.heap.size := by omega
  clear HG hL HR hcur hgl HFT HCP HO HLN HBL HYY HXX HZ1 hD2 kW hK2 hB3 hK3 hZl hszU
  have hdP := descPW'
  generalize fieldsOf (Tryz.prog.underlying 130) = fs at hdP
  have hD3d : DiskAt w3.drew p gs vp S P false st (cntOf st ca) := hD3.below (Below.refl _ _).drew
  obtain ⟨v', w4, hrun, f1, z1, hD4, hK4, hv4⟩ := append_pw hD3d hP (k, s, padB b) ⟨hkl, hs, padB_len hb⟩ 123 L HL
  have c1 := hD3d.blk.cell 1
  have zp := hD3d.blk.lt
  simp at c1
  have kLd := kL.drew
  have hr0 : w3.drew.rangeAt gw 0 L := fun j v hj => by rw [Nat.zero_add, kLd.cell j, List.getElem?_toArray, hj]
  have hsL : (Tryz.prog.info? 130).map (·.size) = some L.length := by rw [hLl]; exact hszP
  have hn1 := World.new_ne w3.drew ⟨p, 1, none⟩ (by simp; omega)
  obtain ⟨A5, c5, rfl⟩ : ∃ A5 c5, v' = .slice A5 (P ++ [(k, s, padB b)]).length c5 := by
    rcases hD4.pend.2 with ⟨rfl, h1⟩ | ⟨g', cap, cur, rfl, _⟩
    · simp at h1
    · exact ⟨_, cap, rfl⟩
  generalize (P ++ [(k, s, padB b)]).length = n5 at hrun hD4 hK4 hv4
  have c1a : (w3.alloc (.cells L.toArray 130)).cell? ⟨p, 1, none⟩ = some vp := by
    rw [(Blk.alloc hD3.blk _).cell 1]
    rfl
  have hgn : ¬ ownD p gs vp gw := fun hi => by
    rcases hi with e | e | e
    · exact hne1.1 e
    · exact hne1.2.1 e
    · exact hne1.2.2 e
  have hr5 : (w4.setCell ⟨p, 1, none⟩ (.slice A5 n5 c5)).rangeAt gw 0 L := fun j v hj => (hK4.cell hgw3 hgn).trans (hr0 j v hj)
  have hr4 : w4.rangeAt gw 0 L := fun j v hj => by
    have := hr5 j v hj
    rwa [World.cell?_setCell_other _ _ _ _ (fun e => hne1.1 (Addr.mk.inj e).1.symm)] at this
  have kL4 := Lib.hid (Blk.keep kLd hK4 hgn)
  have HD4 := Lib.hid hD4
  have HK4 : Hid (Keeps (ownD p gs vp) w3 _) := Lib.hid ((Keeps.refl (ownD p gs vp) w3).drew.trans hK4 (fun i _ e => e))
  have HL2 := Lib.hid HL
  have hv5' : (Value.slice A5 n5 c5).ownBlock = vp.ownBlock ∨ ∀ i, (Value.slice A5 n5 c5).ownBlock = some i → w.heap.size ≤ i := by
    rcases hv4 with e | e
    · exact .inl e
    · refine .inr (fun i hi => ?_)
      rw [e] at hi
      cases hi
      show w.heap.size ≤ w3.heap.size + 1
      omega
  have hv5 := Lib.hid hv5'
  clear hv5'
  clear hD4 hK4 hD3d hD3 hszP HL kL kLd
  go_cut [44] (fun sx wx => ∃ v5, DiskAt wx p gs v5 S (P ++ [(k, s, padB b)]) false st (cntOf st ca) ∧ Keeps (ownD p gs vp) w3 wx ∧ Blk wx gw 130 L.toArray ∧ (v5.ownBlock = vp.ownBlock ∨ ∀ i, v5.ownBlock = some i → w.heap.size ≤ i))
  case first =>
    refine wp_region_held_drew (S := fun W => W.rangeAt gw 0 L) (by kernel_rfl) hr0 (fun hHeld => ?_)
    refine wpAnyH_take (i := 0) (v := ?_) rfl (by kernel_rfl) (by kernel_rfl) (by kernel_rfl) (fun _ _ _ h => h) (Or.inl ⟨by rfl, ?_⟩) hHeld ?_
    rotate_left 1
    · intro w hSw
      go_simp <;> with_reducible rfl
    simp only [Act.put, List.setIfInBounds_toArray, List.set_cons_zero, List.set_cons_succ]
    refine wpAnyH_take (i := 1) (v := ?_) rfl (by kernel_rfl) (by kernel_rfl) (by kernel_rfl) (fun _ _ _ h => h) (Or.inl ⟨by rfl, ?_⟩) hHeld ?_
    rotate_left 1
    · intro w hSw
      go_simp <;> with_reducible rfl
    simp only [Act.put, List.setIfInBounds_toArray, List.set_cons_zero, List.set_cons_succ]
    refine wpAnyH_take (i := 2) (v := ?_) rfl (by kernel_rfl) (by kernel_rfl) (by kernel_rfl) (fun _ _ _ h => h) (Or.inl ⟨by rfl, ?_⟩) hHeld ?_
    rotate_left 1
    · intro w hSw
      go_simp <;> with_reducible rfl
    simp only [Act.put, List.setIfInBounds_toArray, List.set_cons_zero, List.set_cons_succ]
    refine wpAnyH_take (i := 3) (v := ?_) rfl (by kernel_rfl) (by kernel_rfl) (by kernel_rfl) (fun _ _ _ h => h) (Or.inl ⟨by rfl, ?_⟩) hHeld ?_
    rotate_left 1
    · intro w hSw
      go_simp <;> with_reducible rfl
    simp only [Act.put, List.setIfInBounds_toArray, List.set_cons_zero, List.set_cons_succ]
    refine wpAnyH_take (i := 5) rfl (by kernel_rfl) (by kernel_rfl) (by kernel_rfl) (fun _ _ _ h => h) (yieldsIf_load_mid (by rfl) _ _ rfl _ _ rfl _ _ (fun W hW => hW) hdP rfl hsL) hHeld ?_
    simp only [Act.put, List.setIfInBounds_toArray, List.set_cons_zero, List.set_cons_succ]
    refine wpAnyH_ready (rs := [4, 6]) (by kernel_rfl) (by simp) ?_
    refine AllReadyH.cons rfl (fun K hK => ?_) (AllReadyH.cons rfl (fun K hK => ?_) AllReadyH.nil)
    · go_simp
      refine hK.out _ _ hHeld (fun hHeld => ?_)
      clear hK K
      try simp only [Act.put, List.setIfInBounds_toArray, List.set_cons_zero, List.set_cons_succ]
      refine wpAnyH_ready (rs := [6]) (by kernel_rfl) (by simp) ?_
      refine AllReadyH.cons rfl (fun K hK => ?_) AllReadyH.nil
      rw [if_pos (by rfl)]
      refine wp_build_pw _ rfl L hLl rfl ?_
      refine hK.out _ _ (World.rangeAt_alloc hHeld _) (fun hHeld => ?_)
      clear hK K
      try simp only [Act.put, List.setIfInBounds_toArray, List.set_cons_zero, List.set_cons_succ]
      refine wpAnyH_ready (rs := [7]) (by kernel_rfl) (by simp) ?_
      refine AllReadyH.cons rfl (fun K hK => ?_) AllReadyH.nil
      rw [if_pos (by rfl)]
      refine Lib.wp_append_run _ _ _ _ _ rfl _ _ rfl rfl _ _ hrun ?_
      refine hK.out _ _ hr4 (fun hHeld => ?_)
      clear hK K
      try simp only [Act.put, List.setIfInBounds_toArray, List.set_cons_zero, List.set_cons_succ]
      refine wpAnyH_ready (rs := [8]) (by kernel_rfl) (by simp) ?_
      refine AllReadyH.cons rfl (fun K hK => ?_) AllReadyH.nil
      go_simp
      refine hK.out _ _ hHeld (fun hHeld => ?_)
      clear hK K
      try simp only [Act.put, List.setIfInBounds_toArray, List.set_cons_zero, List.set_cons_succ]
      refine wpAnyH_ready (rs := [9]) (by kernel_rfl) (by simp) ?_
      refine AllReadyH.cons rfl (fun K hK => ?_) AllReadyH.nil
      go_simp
      refine hK.out _ _ hHeld (fun hHeld => ?_)
      clear hK K
      try simp only [Act.put, List.setIfInBounds_toArray, List.set_cons_zero, List.set_cons_succ]
      refine wpAnyH_ready (rs := [10]) (by kernel_rfl) (by simp) ?_
      refine AllReadyH.cons rfl (fun K hK => ?_) AllReadyH.nil
      go_simp
      refine hK.out _ _ hr5 (fun hHeld => ?_)
      clear hK K
      try simp only [Act.put, List.setIfInBounds_toArray, List.set_cons_zero, List.set_cons_succ]
      refine wpAnyH_done (by kernel_rfl) ?_ _
      go_wp2_with fail
      go_meet
      exact ⟨_, HD4.out, HK4.out, kL4.out, hv5.out⟩
    · rw [if_pos (by rfl)]
      refine wp_build_pw _ rfl L hLl rfl ?_
      refine hK.out _ _ (World.rangeAt_alloc hHeld _) (fun hHeld => ?_)
      clear hK K
      try simp only [Act.put, List.setIfInBounds_toArray, List.set_cons_zero, List.set_cons_succ]
      refine wpAnyH_ready (rs := [4]) (by kernel_rfl) (by simp) ?_
      refine AllReadyH.cons rfl (fun K hK => ?_) AllReadyH.nil
      go_simp
      refine hK.out _ _ hHeld (fun hHeld => ?_)
      clear hK K
      try simp only [Act.put, List.setIfInBounds_toArray, List.set_cons_zero, List.set_cons_succ]
      refine wpAnyH_ready (rs := [7]) (by kernel_rfl) (by simp) ?_
      refine AllReadyH.cons rfl (fun K hK => ?_) AllReadyH.nil
      rw [if_pos (by rfl)]
      refine Lib.wp_append_run _ _ _ _ _ rfl _ _ rfl rfl _ _ hrun ?_
      refine hK.out _ _ hr4 (fun hHeld => ?_)
      clear hK K
      try simp only [Act.put, List.setIfInBounds_toArray, List.set_cons_zero, List.set_cons_succ]
      refine wpAnyH_ready (rs := [8]) (by kernel_rfl) (by simp) ?_
      refine AllReadyH.cons rfl (fun K hK => ?_) AllReadyH.nil
      go_simp
      refine hK.out _ _ hHeld (fun hHeld => ?_)
      clear hK K
      try simp only [Act.put, List.setIfInBounds_toArray, List.set_cons_zero, List.set_cons_succ]
      refine wpAnyH_ready (rs := [9]) (by kernel_rfl) (by simp) ?_
      refine AllReadyH.cons rfl (fun K hK => ?_) AllReadyH.nil
      go_simp
      refine hK.out _ _ hHeld (fun hHeld => ?_)
      clear hK K
      try simp only [Act.put, List.setIfInBounds_toArray, List.set_cons_zero, List.set_cons_succ]
      refine wpAnyH_ready (rs := [10]) (by kernel_rfl) (by simp) ?_
      refine AllReadyH.cons rfl (fun K hK => ?_) AllReadyH.nil
      go_simp
      refine hK.out _ _ hr5 (fun hHeld => ?_)
      clear hK K
      try simp only [Act.put, List.setIfInBounds_toArray, List.set_cons_zero, List.set_cons_succ]
      refine wpAnyH_done (by kernel_rfl) ?_ _
      go_wp2_with fail
      go_meet
      exact ⟨_, HD4.out, HK4.out, kL4.out, hv5.out⟩
  case rest =>
    obtain ⟨v5, hD5, hK5, kL5, hv5⟩ := hcut
    have HV5 := Lib.hid hv5
    have hr6 : wc.rangeAt gw 65 (cellsB (padB b)) := fun j v hj => by
      rw [kL5.cell (65 + j), List.getElem?_toArray, HL2.out]
      unfold cellsP
      rw [show 65 + j = (64 + j) + 1 by omega, List.getElem?_cons_succ, List.getElem?_append_right (by rw [cellsB_len, hs]; omega), cellsB_len, hs, show 64 + j - 64 = j by omega, hj]
    have c0 := hD5.blk.cell 0
    have zp := hD5.blk.lt
    have zs := hD5.sec.lt
    simp at c0
    have hpl := padB_len hb
    have hN : (cellsB (padB b)).length = 64 := by rw [cellsB_len, hpl]
    have hD6 := Lib.hid (hD5.below (Below.refl _ _).drew |>.fill hkl hpl)
    have hK6 := Lib.hid (Keeps.setCells (S := ownD p gs vp) (g := gs) (.inr (.inl rfl)) (cellsB (padB b)) (k * 64) _ (hKw3.trans hK5 (fun i _ e => e)).drew)
    have hth : wc.drew.there gs (k * 64) 64 := fun j hj => by
      have hD5' := hD5.below (w' := wc.drew) (Below.refl _ _).drew
      refine ⟨?_, hD5'.sec.frozen _⟩
      rw [hD5'.sec.cell, List.getElem?_toArray]
      have : k * 64 + j < (S.flatMap cellsB).length := by rw [flat_len hD5.all]; omega
      rw [List.getElem?_eq_getElem this]
      rfl
    have h1c := all_oneCell_toArray (cellsB_one (padB b))
    obtain ⟨B, hB⟩ : ∃ B, B = cellsB (padB b) := ⟨_, rfl⟩
    rw [← hB] at hr6 hD6 hK6 hN h1c
    have hr7 : wc.drew.rangeAt gw 65 B := hr6
    have hsB : (Tryz.prog.info? 121).map (·.size) = some B.length := by rw [hN]; exact sizeBlock
    have hthB : wc.drew.there gs (k * 64) B.toArray.size := by rw [List.size_toArray, hN]; exact hth
    have hsB2 : (Tryz.prog.info? 121).map (·.size) = some B.toArray.size := by rw [List.size_toArray]; exact hsB
    clear hB hr6 hth hD5 hK5 kL5 hv5
    go_upto_region 12 with fail
    refine wp_region_still_tail 8 (by kernel_rfl) (by kernel_rfl) ?_
    simp only [List.take_succ_cons, List.take_zero, List.drop_succ_cons, List.drop_zero]
    change wpStill _ _ wc.drew _ _ _
    still_step
    still_step
    still_step
    still_step
    still_step
    still_step
    refine wpStill_load_mid rfl _ _ rfl gw 65 rfl B _ hr7 descBlock rfl hsB ?_
    still_step
    refine wpStill_nil ?_
    change wpList _ _ _ _ _ wc.drew
    refine wpList_store_mid rfl _ _ _ rfl gs (k * 64) B.toArray rfl rfl hthB hsB2 h1c ?_
    go_wp2_with fail
    go_ret
    exact ⟨rfl, ⟨v5, hD6.out, HV5.out⟩, hK6.out⟩
end Go.Proofs.YthgfbaekmhpiaaaGreatDoor
