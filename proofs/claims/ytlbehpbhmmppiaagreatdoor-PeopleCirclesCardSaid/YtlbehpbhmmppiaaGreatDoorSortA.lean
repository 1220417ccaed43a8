/- maps.Keys of a map whose only possible key is known: its iterator gives that key, or nothing. Conditions: none. slices.SortFunc on a slice of at most one Candidate does nothing. No conditions. The contracts of slices.AppendSeq, slices.Collect, slices.SortedFunc and sortedPairs on a map whose only possible key is known: how many pairs come. Conditions: none. The contract of lives: a person lives at a place. Conditions: those of pairs. The contract of sortedPairs on a map whose only possible key is known; lives without further conditions. Conditions: the pair's numbers are ids. -/
import Derived.Test.YtlbehpbhmmppiaaGreatDoorOnA
import Derived.Sort.MapsRangeIn
import Derived.Sort.KeysCollected
import Derived.Maps.Views
import Derived.RangeFuncKeeps
import Derived.Test.YtlbehpbhmmppiaaGreatDoorLoopA
import Derived.Maps.OwnIn
namespace Go.Proofs.YtlbehpbhmmppiaaGreatDoor
open Go.RowKit Go.Shelf
attribute [local go_sem] Oper.semAt_some

theorem onKey_true {kl k : Lit} {q : Bool} (h : onKey kl q k = true) : k = kl ∧ q = true := by simpa [onKey] using h

/-- What comes of such a map. -/
def cameOf (q : Bool) (at' : Int × Int) : List (Int × Int) := if q = true then [at'] else []
/-- Between two rounds. -/
def CameRel (kl : Lit) (q : Bool) (at' : Int × Int) (left : Lit → Bool) (ss : List (Int × Int)) : Prop :=
  (ss = [] ∧ (q = true → left kl = true)) ∨ (q = true ∧ ss = [at'] ∧ left kl = false)
theorem CameRel.done {kl : Lit} {q : Bool} {at' : Int × Int} {left : Lit → Bool} {ss : List (Int × Int)} (h : CameRel kl q at' left ss) (hl : ∀ k, left k = false) : ss = cameOf q at' := by
  rcases h with ⟨rfl, h⟩ | ⟨rfl, rfl, _⟩
  · cases q
    · rfl
    · rw [hl] at h; cases h rfl
  · rfl
theorem CameRel.next {kl : Lit} {q : Bool} {at' : Int × Int} {left : Lit → Bool} {ss : List (Int × Int)} (h : CameRel kl q at' left ss) (hk : left kl = true) (hq : q = true) : ss = [] ∧ cameOf q at' = [at'] := by
  rcases h with ⟨rfl, h⟩ | ⟨_, _, h⟩
  · exact ⟨rfl, by rw [cameOf, if_pos hq]⟩
  · rw [hk] at h; cases h
theorem sameKey_self' {kl : Lit} (h : WideAt.IsKeyLit kl) : kl.sameKey kl = true := WideAt.sameKey_self h

set_option maxHeartbeats 1000000 in
theorem keys_any (n : Nat) (b : Nat) (w : World) :
    CallsIn Fence.wide n Tryz.prog 59 #[.map (some b)] w fun e w' =>
      e = .returned (.func (.func 94) #[] #[.pointer (some ⟨w.heap.size, 0, none⟩)]) ∧ w' = w.alloc (.cells #[.map (some b)] 51) := by
  refine callsIn_of_wp Tryz.func59 rfl trivial ?_ rfl
  simp only [Tryz.ntmps59, List.size_toArray, List.length_cons, List.length_nil, Nat.reduceAdd, Nat.reduceSub, Array.replicate_succ, Array.replicate_zero, List.push_toArray, List.append_toArray, List.nil_append, List.cons_append]
  gi_wp2
  go_ret
  exact ⟨rfl, rfl⟩

set_option maxRecDepth 100000 in
set_option maxHeartbeats 2000000 in
theorem keys1_in (n lp Bm b nn : Nat) (kl : Lit) (q : Bool) (at' : Int × Int) (hk : keyOf Tryz.prog 33 (candVal at') = some kl) (J Jx : List (Int × Int) → World → Prop)
    (hY : ∀ pre x W, J pre W → pre.length < (cameOf q at').length → YieldAt Fence.wide (n - 1) Tryz.prog lp #[candVal x] W fun e W' =>
      (e = .returned (.bool true) ∧ J (pre ++ [x]) W' ∧ KeepsWalks W W') ∨ (e = .returned (.bool false) ∧ Jx (pre ++ [x]) W'))
    (W : World) (hJ : AbidesFrom W.heap.size J) (hBm : Blk W Bm 51 #[.map (some b)]) (hS : SetT 33 W b nn (onKey kl q)) (h0 : J [] W) :
    CallsIn Fence.wide n Tryz.prog 94 #[.func (.yield lp) #[] #[], .pointer (some ⟨Bm, 0, none⟩)] W fun e W' => (∃ v, e = .returned v) ∧
      ((∃ xs, xs = cameOf q at' ∧ J xs W') ∨ (∃ pre, pre <+: cameOf q at' ∧ Jx pre W')) := by
  obtain ⟨D0, hown, hm, hp⟩ := hS
  have hin : ∀ {k : Lit} {y : DataW Unit}, (∀ zd, D0.atKey k zd = y) → k = kl ∧ q = true := by
    intro k y hy
    cases hpk : onKey kl q k
    · have h1 := hy .nil
      have h2 := hy (.lit .nil)
      rw [hp, hpk] at h1 h2
      simp at h1 h2
      rw [← h2] at h1
      cases h1
    · exact onKey_true hpk
  have hrel0 : CameRel kl q at' (Maps.has D0) [] := .inl ⟨rfl, fun hq => Maps.has_true_of_atKey (fun zd => by rw [hp, onKey_at, hq]; rfl)⟩
  have hkey : WideAt.IsKeyLit kl := lawCand.key hk
  have HP := Lib.hid hp
  clear hp
  refine callsIn_of_wp Tryz.func94 rfl trivial ?_ rfl
  simp only [Tryz.ntmps94, List.size_toArray, List.length_cons, List.length_nil, Nat.reduceAdd, Nat.reduceSub, Array.replicate_succ, Array.replicate_zero, List.push_toArray, List.append_toArray, List.nil_append, List.cons_append]
  have m0 := hBm.cell 0
  simp at m0
  gi_wp2_with (first
    | (gi_at_range; refine wpListIn_range_own _ rfl _ 51 rfl 33 4 lawCand mapCandRow _ b nn _ rfl hown ?_; intro w0 hrg0 hg0 hs0)
    | gi_in)
  go_frame
  gi_loopw [3] (fun _ wr => ∃ (left : Lit → Bool) (cnt : Nat) (ss : List (Int × Int)), wr.ranges Tryz.prog 33 (plainElem Tryz.prog 4) b W.heap.size nn D0 left cnt ∧ CameRel kl q at' left ss ∧ J ss wr)
    (fun _ wr => wr.rangeLeft b W.heap.size)
  case atStart =>
    exact ⟨_, _, [], hrg0, hrel0, hJ [] W w0 none h0 hg0 (fun r e => by cases e)⟩
  case round =>
    obtain ⟨left, cnt, ss, hrg, hC, hJs⟩ := hrel
    gi_wp2_with (first
      | (gi_at_next; refine wpListIn_next_ranges _ rfl _ rfl 33 lawCand (plainElem Tryz.prog 4) (id : Value → Value) id (fun key kl hk => ⟨key, rfl⟩) (fun v _ _ => ⟨v, rfl⟩) b W.heap.size nn _ _ _ rfl hrg ?_ ?_)
      | gi_in)
    · intro hc0 hl0
      gi_wp2
      go_end0
      exact ⟨⟨_, rfl⟩, .inl ⟨_, hC.done hl0, hJs⟩⟩
    · intro x c kl' yd yp w2 cnt2 hkey' hlk hv hat hrg2 hlt hg2 hs2 hen
      obtain ⟨rfl, hq⟩ := hin hat
      obtain rfl : x = candVal at' := lawCand.inj hkey' hk
      obtain ⟨rfl, hcame⟩ := hC.next hlk hq
      have hJ2 : J [] w2 := hJ [] wr w2 (some W.heap.size) hJs hg2 (fun r e => by cases e; exact ⟨Nat.le_refl _, hrg.iter_walk⟩)
      have hb2 : Below w2.heap.size w2 (w2.alloc (.cells #[.int .i64 at'.1, .int .i64 at'.2] 33)) := (Below.refl _ _).alloc (Nat.le_refl _) _
      have hJ3 := abides_new hJ hJ2 hb2
      have hlen : ([] : List (Int × Int)).length < (cameOf q at').length := by rw [hcame]; exact Nat.lt_succ_self _
      obtain ⟨fn, tmps, assign, body, hy, hR⟩ := hY [] at' _ hJ3 hlen
      unfold candVal at hy hen ⊢
      clear hs2
      gi_wp2
      refine ⟨fun h => (by cases h), ?_⟩
      refine hR.mono ?_
      rintro e W3 hy'
      obtain ⟨bb, rfl, hyt, hyf⟩ := yield_bool hy'
      cases bb
      · have hJx := hyf rfl
        gi_wp2
        refine bodyPost_ret (results_none rfl _ _ _) rfl ?_
        exact ⟨⟨_, rfl⟩, .inr ⟨_, by rw [hcame]; exact List.prefix_refl _, hJx⟩⟩
      · obtain ⟨hJ4, hk4⟩ := hyt rfl
        gi_wp2
        have hrg3 := (hrg2.alloc (.cells #[.int .i64 at'.1, .int .i64 at'.2] 33)).of_walks hk4
        go_roundw
        case rel => exact ⟨_, cnt2, [at'], hrg3, .inr ⟨hq, rfl, by simp [WideAt.sameKey_self hkey]⟩, hJ4⟩
        case measure => rw [hrg3.left_eq, hrg.left_eq]; exact hlt
end Go.Proofs.YtlbehpbhmmppiaaGreatDoor
namespace Go.Proofs.YtlbehpbhmmppiaaGreatDoor
open Go.RowKit
attribute [local go_sem] Oper.semAt_some

set_option maxRecDepth 100000 in
set_option maxHeartbeats 1000000 in
theorem insertion_small (v f : Value) (n : Int) (hn : n = 0 ∨ n = 1) (w : World) :
    Calls Tryz.prog 133 #[v, .int .i64 0, .int .i64 n, f] w fun e w' => e = .returned (.tuple #[]) ∧ w' = w := by
  rcases hn with rfl | rfl <;>
  · go_enter Tryz.func133, Tryz.ntmps133
    go_wp2
    go_loopw [8] (fun i wr => i = .int .i64 1 ∧ wr = w) (fun _ _ => 0)
    case atStart => exact ⟨by simp, rfl⟩
    case round =>
      obtain ⟨rfl, rfl⟩ := hrel
      go_wp2
      go_end0
      exact ⟨rfl, rfl⟩

set_option maxRecDepth 100000 in
set_option maxHeartbeats 1000000 in
theorem pdq_small (v f k : Value) (n : Int) (hn : n = 0 ∨ n = 1) (w : World) :
    Calls Tryz.prog 117 #[v, .int .i64 0, .int .i64 n, k, f] w fun e w' => e = .returned (.tuple #[]) ∧ w' = w := by
  have hi := insertion_small v f n hn
  rcases hn with rfl | rfl
  · go_enter Tryz.func117, Tryz.ntmps117
    go_wp2_with fail
    go_loopw [1, 2] (fun a b wr => a = .int .i64 0 ∧ b = .int .i64 0 ∧ wr = w) (fun _ _ _ => 0)
    case atStart => exact ⟨rfl, rfl, rfl⟩
    case round =>
      obtain ⟨rfl, rfl, rfl⟩ := hrel
      go_wp2_with fail
      refine (hi _).mono ?_
      rintro e w' ⟨rfl, rfl⟩
      go_wp2_with fail
      refine bodyPost_ret (results_none rfl _ _ _) rfl ?_
      exact ⟨rfl, rfl⟩
  · go_enter Tryz.func117, Tryz.ntmps117
    go_wp2_with fail
    go_loopw [1, 2] (fun a b wr => a = .int .i64 0 ∧ b = .int .i64 1 ∧ wr = w) (fun _ _ _ => 0)
    case atStart => exact ⟨rfl, rfl, rfl⟩
    case round =>
      obtain ⟨rfl, rfl, rfl⟩ := hrel
      go_wp2_with fail
      refine (hi _).mono ?_
      rintro e w' ⟨rfl, rfl⟩
      go_wp2_with fail
      refine bodyPost_ret (results_none rfl _ _ _) rfl ?_
      exact ⟨rfl, rfl⟩

set_option maxRecDepth 100000 in
set_option maxHeartbeats 1000000 in
theorem len64_small (n : Int) (hn : n = 0 ∨ n = 1) (w : World) :
    Calls Tryz.prog 70 #[.int .u64 n] w fun e w' => e = .returned (.int .i64 n) ∧ w' = w := by
  rcases hn with rfl | rfl
  · go_enter Tryz.func70, Tryz.ntmps70
    go_wp2
    all_goals
      go_ret
      exact ⟨by kernel_rfl, rfl⟩
  · go_enter Tryz.func70, Tryz.ntmps70
    go_wp2
    all_goals
      go_ret
      exact ⟨by kernel_rfl, rfl⟩

set_option maxRecDepth 100000 in
set_option maxHeartbeats 1000000 in
theorem len_small (n : Int) (hn : n = 0 ∨ n = 1) (w : World) :
    Calls Tryz.prog 38 #[.int .u64 n] w fun e w' => e = .returned (.int .i64 n) ∧ w' = w := by
  have hl := len64_small n hn
  rcases hn with rfl | rfl
  · go_enter Tryz.func38, Tryz.ntmps38
    go_wp2_with (go_at_call 70; refine (hl _).mono ?_; rintro e w' ⟨rfl, rfl⟩)
    go_ret
    exact ⟨rfl, rfl⟩
  · go_enter Tryz.func38, Tryz.ntmps38
    go_wp2_with (go_at_call 70; refine (hl _).mono ?_; rintro e w' ⟨rfl, rfl⟩)
    go_ret
    exact ⟨rfl, rfl⟩

set_option maxRecDepth 100000 in
set_option maxHeartbeats 1000000 in
theorem sortFunc_small (A : Option Addr) (n c : Nat) (hn : n = 0 ∨ n = 1) (f : Value) (w : World) :
    Calls Tryz.prog 93 #[.slice A n c, f] w fun e w' => e = .returned (.tuple #[]) ∧ w' = w := by
  have hl := len_small (n : Int) (by omega)
  have hp := fun v k => pdq_small v f k (n : Int) (by omega)
  rcases hn with rfl | rfl
  · go_enter Tryz.func93, Tryz.ntmps93
    go_wp2_with fail
    refine (hl _).mono ?_
    rintro e w' ⟨rfl, rfl⟩
    go_wp2_with fail
    refine (hp _ _ _).mono ?_
    rintro e w' ⟨rfl, rfl⟩
    go_wp2_with fail
    go_end0
    exact ⟨rfl, rfl⟩
  · go_enter Tryz.func93, Tryz.ntmps93
    go_wp2_with fail
    refine (hl _).mono ?_
    rintro e w' ⟨rfl, rfl⟩
    go_wp2_with fail
    refine (hp _ _ _).mono ?_
    rintro e w' ⟨rfl, rfl⟩
    go_wp2_with fail
    go_end0
    exact ⟨rfl, rfl⟩
end Go.Proofs.YtlbehpbhmmppiaaGreatDoor
namespace Go.Proofs.YtlbehpbhmmppiaaGreatDoor
open Go.RowKit Go.Shelf
attribute [local go_sem] Oper.semAt_some

theorem wpListIn_app {F : Fence} {nF : Nat} {P : Program} (w : World) {ops : Array Oper} {rest : List Oper} {o : Oper} {a : Act} {Q : Exit → Act → World → Prop} (hg : o.guard = none) (s x : Operand) (t : TypeId)
    (hop : o.op = Op.call { callee := Callee.builtin Builtin.append, args := #[s, x], argTypes := #[t, t] }) {v' : Value} {w' : World}
    (hrun : (Builtin.append_ #[t, t] o.type #[a.eval s, a.eval x]).run P w = .ok v' w') (hK : wpListIn F nF P ops Q rest (a.put o.dst v') w') : wpListIn F nF P ops Q (o :: rest) a w := by
  refine wpListIn_plain hg fun K' hK' => ?_
  unfold Oper.wpIn
  refine ⟨by simp [Oper.about, hop, resolve, Target.leads, Sem.run_pure], ?_⟩
  rw [Oper.semAt_plain F _ _ (by rw [hop]; intro c hc'; cases hc')]
  simp [execOp, hop, resolve, invoke, builtin, hrun, Result.andThen]
  exact hK' _ _ hK
theorem wpIn_gen1 {F : Fence} {n : Nat} {P : Program} {C : Code} {Q : Exit → Act → World → Prop} {a : Act} {w : World} {o0 : Obj}
    (h : ∀ W, Below w.heap.size w W → W.heap.size = w.heap.size + 1 → W.heap[w.heap.size]? = some o0 → C.wpIn F n P Q a W) :
    C.wpIn F n P Q a (w.alloc o0) := by
  refine h _ (by (repeat (first | (with_reducible exact Below.refl _ _) | (with_reducible assumption) | (with_reducible refine below_al ?_ _) | (with_reducible refine below_se' ?_ ?_ _; · (first | omega | (simp <;> omega))) | (with_reducible refine below_dr ?_ _) | (with_reducible refine below_d1 ?_) | (exact Below.refl _ _) | assumption))) (by simp) ?_ <;> (repeat (first | exact at_new (by simp) | refine at_al ?_))
theorem infoCand : (Tryz.prog.info? 33).map (fun i => (i.zero, i.size, i.bytes)) = some (some (.agg #[.int .i64 0, .int .i64 0]), 2, 16) := by kernel_rfl
theorem candsRow : Tryz.prog.underlying 30 = some (.slice 33) := by kernel_rfl

/-- What AppendSeq has between two rounds. -/
def GotAt (w : World) (Bs : Nat) (pre : List (Int × Int)) (W : World) : Prop :=
  (∃ A c, Blk W Bs 30 #[.slice A pre.length c] ∧ (pre = [] → A = none ∧ c = 0)) ∧ (Below w.heap.size w W)
theorem got_own {w : World} {Bs B : Nat} (hB : w.heap.size ≤ B) : OwnFrom B (GotAt w Bs) := fun pre X Y row hs hg hr => by
  obtain ⟨⟨A, c, h1, h2⟩, h3⟩ := hs
  exact ⟨⟨A, c, (blk_own Bs _ (fun (_ : Unit) => #[.slice A pre.length c])).from B () X Y row h1 hg hr, h2⟩, ownFrom_below (Nat.le_refl _) hB () X Y row h3 hg hr⟩

theorem keys_seq (n Bm b nn : Nat) (kl : Lit) (q : Bool) (at' : Int × Int) (hk : keyOf Tryz.prog 33 (candVal at') = some kl) (w : World) (hBm : Blk w Bm 51 #[.map (some b)]) (hS : SetT 33 w b nn (onKey kl q)) :
    SeqStopsK Fence.wide n Tryz.prog 94 #[.pointer (some ⟨Bm, 0, none⟩)] (fun x : Int × Int => #[candVal x]) KeepsWalks
      (fun ys => ys = cameOf q at') (fun pre => pre <+: cameOf q at') (cameOf q at').length w := fun lp J Jx W hW hJ _ hY h0 =>
  keys1_in n lp Bm b nn kl q at' hk J Jx hY W hJ (hBm.below hW hBm.lt) (hS.below hW hS.lt) h0

set_option maxRecDepth 100000 in
set_option maxHeartbeats 2000000 in
theorem appendSeq_in (Bm b nn : Nat) (kl : Lit) (q : Bool) (at' : Int × Int) (hk : keyOf Tryz.prog 33 (candVal at') = some kl) (w : World) (hBm : Blk w Bm 51 #[.map (some b)]) (hS : SetT 33 w b nn (onKey kl q)) :
    Calls Tryz.prog 116 #[.slice none 0 0, .func (.func 94) #[] #[.pointer (some ⟨Bm, 0, none⟩)]] w fun e w' =>
      (∃ A c, e = .returned (.slice A (cameOf q at').length c)) ∧ Below w.heap.size w w' := by
  obtain ⟨i0, hi, hz0, hz1, hz2⟩ := info_parts infoCand
  refine (callsIn_wide (n := 9)).1 (callsIn_of_wp_marks Tryz.func116 rfl trivial ?_ rfl)
  simp only [Tryz.ntmps116, List.size_toArray, List.length_cons, List.length_nil, Nat.reduceAdd, Nat.reduceSub, Array.replicate_succ, Array.replicate_zero, List.push_toArray, List.append_toArray, List.nil_append, List.cons_append]
  gi_wp2_with fail
  refine wpIn_gen1 ?_
  intro W0 hB0 hz0' k0
  have hN : (cameOf q at').length ≤ 1 := by unfold cameOf; split <;> simp
  have hg : (GotAt w w.heap.size) [] W0 := ⟨⟨none, 0, k0, fun _ => ⟨rfl, rfl⟩⟩, hB0⟩
  refine wpIn_rangeFunc_ownH (F := Fence.wide) rfl (by omega) (lb := #[.pointer (some ⟨Bm, 0, none⟩)]) rfl trivial (enters_of Tryz.func94 (by kernel_rfl) rfl)
    (keys_seq _ Bm b nn kl q at' hk W0 (hBm.below hB0 hBm.lt) (hS.below hB0 hS.lt)) KeepsWalks.trans (fun W l o o' _ h _ hw => KeepsWalks.putObj o' h hw) (Below.refl _ _) (fun _ => rfl)
    (GotAt w w.heap.size) (fun _ _ _ => False) (got_own (by omega)) (fun _ _ _ _ _ hs _ _ => hs) hg
    (fun x a' W => ∃ Bx, W0.heap.size ≤ Bx ∧ Blk W Bx 33 #[.int .i64 x.1, .int .i64 x.2] ∧ a' = { tmps := #[.slice none 0 0, .func (.func 94) #[] #[.pointer (some ⟨Bm, 0, none⟩)], .pointer (some ⟨w.heap.size, 0, none⟩), undef, .slice none 0 0, .pointer (some ⟨Bx, 0, none⟩), .func (.func 94) #[] #[.pointer (some ⟨Bm, 0, none⟩)], candVal x, undef, undef, undef, undef, undef], defers := [] })
    (fun x a' _ X Y row hs hgr hr => by obtain ⟨Bx, k1, k2, k3⟩ := hs; exact ⟨Bx, k1, blk_own Bx _ (fun (_ : Unit) => #[.int .i64 x.1, .int .i64 x.2]) () X Y row k2 hgr (fun r e => (hr r e).2), k3⟩)
    ?_ ?_ ?_ ?_
  · intro lp pre x W K hi hK
    have hz : ∀ t : Array Value, ((#[7] : Array Tmp).zip #[candVal x]).foldl (fun t (p, v) => t.setIfInBounds p v) t = t.setIfInBounds 7 (candVal x) := fun t => by simp
    rw [hz]
    have hnew := Blk.new W 33 #[.int .i64 x.1, .int .i64 x.2]
    have hK' := hK { tmps := #[.slice none 0 0, .func (.func 94) #[] #[.pointer (some ⟨Bm, 0, none⟩)], .pointer (some ⟨w.heap.size, 0, none⟩), undef, .slice none 0 0, .pointer (some ⟨W.heap.size, 0, none⟩), .func (.func 94) #[] #[.pointer (some ⟨Bm, 0, none⟩)], candVal x, undef, undef, undef, undef, undef], defers := [] } _ ((KeepsOthers.alloc W (.cells #[.int .i64 x.1, .int .i64 x.2] 33)).from _) (KeepsWalks.alloc _ _) ((got_own (B := W0.heap.size) (by omega)).alloc _ hi) ⟨W.heap.size, by have := hi.2.size; obtain ⟨⟨A, c, h1, _⟩, _⟩ := hi; have := h1.lt; omega, hnew, rfl⟩
    unfold candVal at *
    gi_wp2
    exact hK'
  · rintro lp pre x a' W _ _ hi ⟨Bx, k1, k2, rfl⟩ hlen
    obtain ⟨⟨A, c, bB, hnil⟩, hB⟩ := hi
    have hp : pre = [] := List.eq_nil_of_length_eq_zero (by omega)
    subst hp
    obtain ⟨rfl, rfl⟩ := hnil rfl
    have e0 := bB.cell 0
    have e1 := bB.frozen 0
    have x0 := k2.cell 0
    have x1 := k2.cell 1
    have z0 := bB.lt
    have z1 := k2.lt
    simp at e0 x0 x1
    obtain ⟨v', w3, hrun, hO, hg3, _, _⟩ := run_append_own_at (P := Tryz.prog) (W.alloc (.cells #[.int .i64 x.1, .int .i64 x.2] 33)) 0 30 30 33 i0 _ 2 16 candsRow hi hz0 hz1 hz2 rfl (by decide) (.slice none 0 0) 0 [] (World.ownsRow_nil _ _ _ _) ⟨W.heap.size, 0, none⟩ 1 1 [.int .i64 x.1, .int .i64 x.2] rfl (cell_two_new _ _ _ _) (fun u hu => by simp at hu; rcases hu with rfl | rfl <;> rfl) (by decide) (by decide) (Nat.zero_le _)
    have hKp : Keeps (fun i => i = w.heap.size) W w3 := ((Keeps.refl _ W).alloc _).trans (Keeps.of_grown (S := fun i => i = w.heap.size) hg3 (fun k h _ => by cases h)) (fun _ _ h => h)
    have hWk : KeepsWalks W w3 := (KeepsWalks.alloc W _).trans (KeepsWalks.of_grownBy hg3 (fun j o hj => by cases hj))
    have bB3 : Blk w3 w.heap.size 30 #[.slice none 0 0] := (hg3.block _ (by simp; omega) (fun h => by cases h)).trans (bB.alloc _)
    have hB3 : Below w.heap.size w w3 := Below.grown (hB.alloc hB.size _) hg3 (by have := hB.size; simp; omega) (fun k h => by cases h)
    have e3 := bB3.cell 0
    have f3 := bB3.frozen 0
    have z3 := bB3.lt
    simp at e3
    obtain ⟨g, cap, rfl⟩ : ∃ g cap, v' = .slice (some ⟨g, 0, none⟩) 1 cap := by
      rcases hO.2 with ⟨_, h⟩ | ⟨g, cap, cur, h, _⟩
      · exact absurd h (by decide)
      · exact ⟨g, cap, h⟩
    clear hO hg3 hi
    gi_wp2_with (gi_at_builtin; refine wpListIn_app _ rfl _ _ 30 rfl hrun ?_)
    exact ⟨keepsFrom_of (hKp.setCell (p := ⟨w.heap.size, 0, none⟩) (fun _ => rfl) _) (fun i h1 h2 => by omega), hWk.trans (KeepsWalks.setCell _ _ _), ⟨some ⟨g, 0, none⟩, cap, bB3.set 0 _, fun h => by cases h⟩, hB3.setCell (p := ⟨w.heap.size, 0, none⟩) (Nat.le_refl _) _⟩
  · rintro D ys W hD rfl hi hK
    obtain ⟨⟨A, c, bB, _⟩, hB⟩ := hi
    have e0 := bB.cell 0
    have z0 := bB.lt
    simp at e0
    obtain ⟨nn, hnn⟩ : ∃ nn, nn = (cameOf q at').length := ⟨_, rfl⟩
    rw [← hnn] at e0
    have HN := Lib.hid hnn
    clear hnn bB
    gi_wp2
    all_goals
      refine ⟨by simp, .inl ⟨_, _, rfl, run_takeDeferred hK, ?_⟩⟩
      exact ⟨_, results_tmp rfl _ _ _, ⟨A, c, by rw [← HN.out]; rfl⟩, below_end hB hK (by omega)⟩
  · rintro D co pre W _ _ h _
    exact h.elim
end Go.Proofs.YtlbehpbhmmppiaaGreatDoor
namespace Go.Proofs.YtlbehpbhmmppiaaGreatDoor
open Go.RowKit Go.Shelf
attribute [local go_sem] Oper.semAt_some

set_option maxRecDepth 100000 in
set_option maxHeartbeats 2000000 in
theorem lives_any (A : Option Addr) (c : Nat) (l : List OEnt) (d : Int) (at' : Int × Int) (kl : Lit) (hk : keyOf Tryz.prog 33 (candVal at') = some kl) (b1 b2 : Nat) (dead canc : Int → Bool) (w : World) (hD : DirIn w A l b1 b2 dead canc)
    (hS : ∀ W b n q, SetT 33 W b n (onKey kl q) → n ≤ maxLen → Calls Tryz.prog 33 #[.map (some b)] W fun e w' => (∃ A c, e = .returned (.slice A (if q = true then 1 else 0) c)) ∧ Below W.heap.size W w') :
    Calls Tryz.prog 29 #[dirVal A l.length c d (some b1) (some b2), candVal at'] w fun e w' => e = .returned (.bool (livesOf dead l d at')) ∧ Below w.heap.size w w' := by
  have hpa := fun W hW g hg => pairs_any A c l d at' kl hk b1 b2 g dead canc W hW hg hS
  clear hk hS
  obtain ⟨p, q⟩ := at'
  unfold dirVal candVal at *
  dsimp only at hpa ⊢
  generalize livesOf dead l d (p, q) = lv at *
  go_enter Tryz.func29, Tryz.ntmps29
  go_wp2_with fail
  have kC : Blk ((w.alloc (.cells #[.slice A l.length c, .int .i64 d, .map (some b1), .map (some b2)] 49)).alloc (.cells #[.int .i64 p, .int .i64 q] 33)) (w.heap.size + 1) 33 #[.int .i64 p, .int .i64 q] := at_new (by simp)
  have hB0 : Below w.heap.size w ((w.alloc (.cells #[.slice A l.length c, .int .i64 d, .map (some b1), .map (some b2)] 49)).alloc (.cells #[.int .i64 p, .int .i64 q] 33)) := by (repeat (first | (with_reducible exact Below.refl _ _) | (with_reducible assumption) | (with_reducible refine below_al ?_ _) | (with_reducible refine below_se' ?_ ?_ _; · (first | omega | (simp <;> omega))) | (with_reducible refine below_dr ?_ _) | (with_reducible refine below_d1 ?_) | (exact Below.refl _ _) | assumption))
  refine (hpa _ (hD.below hB0) _ kC).mono ?_
  rintro e w1 ⟨⟨A1, c1, rfl⟩, hb1⟩
  have hB1 : Below w.heap.size w w1 := below_two2 hb1 hB0
  clear hpa hb1 hB0 kC
  cases lv
  · go_wp2_with fail
    go_ret
    exact ⟨rfl, hB1⟩
  · go_wp2_with fail
    go_ret
    exact ⟨rfl, hB1⟩
end Go.Proofs.YtlbehpbhmmppiaaGreatDoor
namespace Go.Proofs.YtlbehpbhmmppiaaGreatDoor
open Go.RowKit Go.Shelf

theorem came_len (q : Bool) (at' : Int × Int) : (cameOf q at').length = if q = true then 1 else 0 := by cases q <;> rfl

set_option maxRecDepth 100000 in
set_option maxHeartbeats 1000000 in
theorem collect_any (Bm b nn : Nat) (kl : Lit) (q : Bool) (at' : Int × Int) (hk : keyOf Tryz.prog 33 (candVal at') = some kl) (w : World) (hBm : Blk w Bm 51 #[.map (some b)]) (hS : SetT 33 w b nn (onKey kl q)) :
    Calls Tryz.prog 92 #[.func (.func 94) #[] #[.pointer (some ⟨Bm, 0, none⟩)]] w fun e w' =>
      (∃ A c, e = .returned (.slice A (cameOf q at').length c)) ∧ Below w.heap.size w w' := by
  have hA := Lib.hid (appendSeq_in Bm b nn kl q at' hk w hBm hS)
  clear hS hBm hk
  generalize (cameOf q at').length = m at *
  go_enter Tryz.func92, Tryz.ntmps92
  go_wp2_with fail
  refine hA.out.mono ?_
  rintro e w1 ⟨⟨A, c, rfl⟩, hb⟩
  go_wp2_with fail
  go_ret
  exact ⟨⟨A, c, rfl⟩, hb⟩

set_option maxRecDepth 100000 in
set_option maxHeartbeats 1000000 in
theorem sortedFunc_any (Bm b nn : Nat) (kl : Lit) (q : Bool) (at' : Int × Int) (hk : keyOf Tryz.prog 33 (candVal at') = some kl) (f : Value) (w : World) (hBm : Blk w Bm 51 #[.map (some b)]) (hS : SetT 33 w b nn (onKey kl q)) :
    Calls Tryz.prog 58 #[.func (.func 94) #[] #[.pointer (some ⟨Bm, 0, none⟩)], f] w fun e w' =>
      (∃ A c, e = .returned (.slice A (cameOf q at').length c)) ∧ Below w.heap.size w w' := by
  have hA := Lib.hid (collect_any Bm b nn kl q at' hk w hBm hS)
  have hm : (cameOf q at').length = 0 ∨ (cameOf q at').length = 1 := by rw [came_len]; cases q <;> simp
  clear hS hBm hk
  generalize (cameOf q at').length = m at *
  have HS := Lib.hid (fun A c W => sortFunc_small A m c hm f W)
  clear hm
  go_enter Tryz.func58, Tryz.ntmps58
  go_wp2_with fail
  refine hA.out.mono ?_
  rintro e w1 ⟨⟨A, c, rfl⟩, hb⟩
  go_wp2_with fail
  refine (HS.out A c w1).mono ?_
  rintro e w' ⟨rfl, rfl⟩
  go_wp2_with fail
  go_ret
  exact ⟨⟨A, c, rfl⟩, hb⟩

set_option maxRecDepth 100000 in
set_option maxHeartbeats 1000000 in
theorem sortedPairs_any (kl : Lit) (at' : Int × Int) (hk : keyOf Tryz.prog 33 (candVal at') = some kl) (W : World) (b n : Nat) (q : Bool) (hS : SetT 33 W b n (onKey kl q)) :
    Calls Tryz.prog 33 #[.map (some b)] W fun e w' => (∃ A c, e = .returned (.slice A (if q = true then 1 else 0) c)) ∧ Below W.heap.size W w' := by
  have hz : W.heap.size ≤ (W.alloc (.cells #[.map (some b)] 51)).heap.size := by simp
  have hA := Lib.hid (fun f => sortedFunc_any W.heap.size b n kl q at' hk f (W.alloc (.cells #[.map (some b)] 51)) (Blk.new W _ _) (hS.alloc _))
  have hK := Lib.hid ((callsIn_wide (n := 5)).1 (keys_any 5 b W))
  rw [← came_len q at']
  clear hS hk
  generalize (cameOf q at').length = m at *
  go_enter Tryz.func33, Tryz.ntmps33
  go_wp2_with fail
  refine hK.out.mono ?_
  rintro e w' ⟨rfl, rfl⟩
  go_wp2_with fail
  refine (hA.out _).mono ?_
  rintro e w1 ⟨⟨A, c, rfl⟩, hb⟩
  go_wp2_with fail
  go_ret
  exact ⟨⟨A, c, rfl⟩, ((Below.refl _ W).alloc (Nat.le_refl _) _).trans (hb.mono hz)⟩

theorem livesA (A : Option Addr) (c : Nat) (l : List OEnt) (d : Int) (at' : Int × Int) (kl : Lit) (hk : keyOf Tryz.prog 33 (candVal at') = some kl) (b1 b2 : Nat) (dead canc : Int → Bool) (w : World) (hD : DirIn w A l b1 b2 dead canc) :
    Calls Tryz.prog 29 #[dirVal A l.length c d (some b1) (some b2), candVal at'] w fun e w' => e = .returned (.bool (livesOf dead l d at')) ∧ Below w.heap.size w w' :=
  lives_any A c l d at' kl hk b1 b2 dead canc w hD (fun W b n q hS _ => sortedPairs_any kl at' hk W b n q hS)
end Go.Proofs.YtlbehpbhmmppiaaGreatDoor
