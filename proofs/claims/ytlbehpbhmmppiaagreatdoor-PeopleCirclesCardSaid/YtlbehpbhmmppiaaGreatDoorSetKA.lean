/- The contracts of cmp.Compare at ints, of cmp.Or at two ints, and of comparePairs. No conditions. maps.Keys of a map whose keys are some pairs: its iterator gives each of them once. Conditions: the pairs' numbers are ints. The contracts of slices.AppendSeq and slices.Collect on the keys of a map whose keys are some pairs: each pair once, in memory of the call's own. Conditions: the pairs' numbers are ints; at most 2 * 10^12 entries. Pairs that lie in memory behind an address. No conditions. -/
import Derived.Test.YtlbehpbhmmppiaaGreatDoorLoopA
import Derived.Sort.Grow
import Derived.StillTailTactics
import Derived.Test.YtlbehpbhmmppiaaGreatDoorSortA
import Derived.Test.YtlbehpbhmmppiaaGreatDoorFolA
namespace Go.Proofs.YtlbehpbhmmppiaaGreatDoor
open Go.RowKit Go.Sort

def candCells (c : Int × Int) : List Value := [.int .i64 c.1, .int .i64 c.2]
/-- The order of integers as a number. -/
def cmpI (a b : Int) : Int := if a < b then -1 else if b < a then 1 else 0
theorem ret_int' {a b : Int} (h : a = b) : Ending.returned (.int .i64 a) = Ending.returned (.int .i64 b) := by rw [h]

theorem isNaN_int (a : Int) (w : World) :
    Calls Tryz.prog 71 #[.int .i64 a] w fun e w' => e = .returned (.bool false) ∧ w = w' := by
  go_enter Tryz.func71, Tryz.ntmps71
  go_wp2
  go_ret
  exact ⟨rfl, rfl⟩
theorem compare_int (a b : Int) (w : World) :
    Calls Tryz.prog 40 #[.int .i64 a, .int .i64 b] w fun e w' => e = .returned (.int .i64 (cmpI a b)) ∧ w = w' := by
  rcases Int.lt_trichotomy a b with h | h | h
  · have HV : Hid (cmpI a b = -1) := Lib.hid (by simp [cmpI, h])
    go_enter Tryz.func40, Tryz.ntmps40
    go_wp2_with (go_at_call 71; refine (isNaN_int _ _).mono ?_; rintro e w' ⟨rfl, rfl⟩)
    go_ret
    exact ⟨ret_int' HV.out.symm, rfl⟩
  · subst h
    have HV : Hid (cmpI a a = 0) := Lib.hid (by simp [cmpI])
    go_enter Tryz.func40, Tryz.ntmps40
    go_wp2_with (go_at_call 71; refine (isNaN_int _ _).mono ?_; rintro e w' ⟨rfl, rfl⟩)
    go_ret
    exact ⟨ret_int' HV.out.symm, rfl⟩
  · have h1 : ¬ a < b := by omega
    have HV : Hid (cmpI a b = 1) := Lib.hid (by simp [cmpI, h, h1])
    go_enter Tryz.func40, Tryz.ntmps40
    go_wp2_with (go_at_call 71; refine (isNaN_int _ _).mono ?_; rintro e w' ⟨rfl, rfl⟩)
    go_ret
    exact ⟨ret_int' HV.out.symm, rfl⟩
/-- What comparePairs returns. -/
def cmpP (x y : Int × Int) : Int := if cmpI x.1 y.1 = 0 then cmpI x.2 y.2 else cmpI x.1 y.1
def ltC (x y : Int × Int) : Prop := x.1 < y.1 ∨ (x.1 = y.1 ∧ x.2 < y.2)

set_option maxRecDepth 100000 in
set_option maxHeartbeats 1000000 in
theorem or_any (a b : Int) (g : Nat) (W : World) (hg : Blk W g 3 #[.int .i64 a, .int .i64 b]) :
    Calls Tryz.prog 39 #[.slice (some ⟨g, 0, none⟩) 2 2] W fun e w' => e = .returned (.int .i64 (if a = 0 then b else a)) ∧ w' = W := by
  have c0 := hg.cell 0
  have c1 := hg.cell 1
  simp at c0 c1
  have zg := hg.lt
  have HR : Hid (∀ x, (a ≠ 0 ∧ x = a) ∨ (a = 0 ∧ x = b) → (if a = 0 then b else a) = x) := Lib.hid (fun x h => by
    rcases h with ⟨h, rfl⟩ | ⟨h, rfl⟩
    · rw [if_neg h]
    · rw [if_pos h])
  generalize (if a = 0 then b else a) = R at HR ⊢
  go_enter Tryz.func39, Tryz.ntmps39
  go_wp2_with fail
  go_loopw [8] (fun i wr => ∃ k : Nat, k ≤ 2 ∧ i = .int .i64 k ∧ wr = W ∧ Hid (1 ≤ k → a = 0) ∧ Hid (2 ≤ k → b = 0)) (fun i _ => 2 - (intOf i).toNat)
  case atStart => exact ⟨0, by omega, rfl, rfl, Lib.hid (by omega), Lib.hid (by omega)⟩
  case round =>
    obtain ⟨k, hk, rfl, rfl, H1, H2⟩ := hrel
    rcases (show k = 0 ∨ k = 1 ∨ k = 2 by omega) with rfl | rfl | rfl
    · by_cases h : a = 0
      · subst h
        go_wp2_with fail
        go_roundw
        case rel => exact ⟨1, by omega, by go_num, by first | rfl | trivial, Lib.hid (fun _ => by simp), Lib.hid (fun h => by omega)⟩
        case measure => simp [intOf]
      · have HN := Lib.hid (HR.out a (.inl ⟨h, rfl⟩))
        go_wp2_with fail
        go_ret
        exact ⟨ret_int' HN.out.symm, rfl⟩
    · have ha := H1.out (by omega)
      subst ha
      by_cases h : b = 0
      · subst h
        go_wp2_with fail
        go_roundw
        case rel => exact ⟨2, by omega, by go_num, by first | rfl | trivial, Lib.hid (fun _ => by simp), Lib.hid (fun _ => by simp)⟩
        case measure => simp [intOf]
      · have HN := Lib.hid (HR.out b (.inr ⟨rfl, rfl⟩))
        go_wp2_with fail
        go_ret
        exact ⟨ret_int' HN.out.symm, rfl⟩
    · have ha := H1.out (by omega)
      have hb := H2.out (by omega)
      subst ha
      subst hb
      have HN := Lib.hid (HR.out 0 (.inr ⟨rfl, rfl⟩))
      go_wp2_with fail
      go_ret
      exact ⟨ret_int' HN.out.symm, rfl⟩

set_option maxRecDepth 100000 in
set_option maxHeartbeats 4000000 in
theorem comparePairs_any (x y : Int × Int) (w : World) :
    Calls Tryz.prog 20 #[.agg (candCells x).toArray, .agg (candCells y).toArray] w fun e w' => e = .returned (.int .i64 (cmpP x y)) ∧ ∃ q os', w' = grow (w.drewN q) os' := by
  obtain ⟨x1, x2⟩ := x
  obtain ⟨y1, y2⟩ := y
  have HP : Hid (cmpP (x1, x2) (y1, y2) = if cmpI x1 y1 = 0 then cmpI x2 y2 else cmpI x1 y1) := Lib.hid rfl
  have H1 := fun W => compare_int x1 y1 W
  have H2 := fun W => compare_int x2 y2 W
  generalize cmpI x1 y1 = c1 at *
  generalize cmpI x2 y2 = c2 at *
  generalize cmpP (x1, x2) (y1, y2) = R at *
  have H3 := fun W g h => or_any c1 c2 g W h
  rw [← HP.out] at H3
  unfold candCells
  go_enter Tryz.func20, Tryz.ntmps20
  go_upto_region 1 with fail
  have kX : Blk ((w.alloc (.cells #[.int .i64 x1, .int .i64 x2] 33)).alloc (.cells #[.int .i64 y1, .int .i64 y2] 33)) w.heap.size 33 #[.int .i64 x1, .int .i64 x2] := (Blk.new w _ _).alloc _
  have kY : Blk ((w.alloc (.cells #[.int .i64 x1, .int .i64 x2] 33)).alloc (.cells #[.int .i64 y1, .int .i64 y2] 33)) (w.heap.size + 1) 33 #[.int .i64 y1, .int .i64 y2] := by
    have := Blk.new (w.alloc (.cells #[.int .i64 x1, .int .i64 x2] 33)) 33 #[.int .i64 y1, .int .i64 y2]
    simpa using this
  have hE : ∃ os0, (w.alloc (.cells #[.int .i64 x1, .int .i64 x2] 33)).alloc (.cells #[.int .i64 y1, .int .i64 y2] 33) = grow (w.drewN 0) os0 := ⟨_, by rw [alloc_eq_grow, alloc_eq_grow, grow_grow]; rfl⟩
  have hz : ((w.alloc (.cells #[.int .i64 x1, .int .i64 x2] 33)).alloc (.cells #[.int .i64 y1, .int .i64 y2] 33)).heap.size = w.heap.size + 2 := by simp
  generalize (w.alloc (.cells _ 33)).alloc (.cells _ 33) = W at kX kY hE hz ⊢
  obtain ⟨os0, hE⟩ := hE
  have d0 := kX.cell 0
  have d1 := kX.cell 1
  have e0 := kY.cell 0
  have e1 := kY.cell 1
  have zX := kX.lt
  have zY := kY.lt
  simp at d0 d1 e0 e1
  have hE2 : ∀ cs, ∃ q os', W.drew.alloc (.cells cs 3) = grow (w.drewN q) os' := fun cs => ⟨1, _, by rw [alloc_eq_grow, hE, show (grow (w.drewN 0) os0).drew = grow (w.drewN 1) os0 from rfl, grow_grow]⟩
  have kS : Blk (W.drew.alloc (.cells #[.int .i64 c1, .int .i64 c2] 3)) W.heap.size 3 #[.int .i64 c1, .int .i64 c2] := Blk.new W.drew _ _
  rw [hz] at kS
  have h3 := Lib.hid (H3 _ _ kS)
  have HE2 := Lib.hid hE2
  clear H3 hE hE2 kX kY kS
  have H1' : ∀ W, Calls Tryz.prog 40 #[.int .i64 x1, .int .i64 y1] W fun e w' => e = .returned (.int .i64 c1) ∧ w' = W := fun W => (H1 W).mono fun _ _ ⟨a, b⟩ => ⟨a, b.symm⟩
  have H2' : ∀ W, Calls Tryz.prog 40 #[.int .i64 x2, .int .i64 y2] W fun e w' => e = .returned (.int .i64 c2) ∧ w' = W := fun W => (H2 W).mono fun _ _ ⟨a, b⟩ => ⟨a, b.symm⟩
  have K1 := Lib.hid H1'
  have K2 := Lib.hid H2'
  clear H1 H2 H1' H2' HP
  refine wp_region_still_tail 10 (by kernel_rfl) (by kernel_rfl) ?_
  simp only [List.take_succ_cons, List.take_zero, List.drop_succ_cons, List.drop_zero]
  change wpStill _ _ W.drew _ _ _
  still_step
  still_step
  still_step
  still_step
  still_call (K1.out _)
  still_step
  still_step
  still_step
  still_step
  still_call (K2.out _)
  refine wpStill_nil ?_
  change wpList _ _ _ _ _ W.drew
  go_wp2_with fail
  refine h3.out.mono ?_
  rintro e w' ⟨rfl, rfl⟩
  go_wp2_with fail
  go_ret
  exact ⟨rfl, HE2.out _⟩
end Go.Proofs.YtlbehpbhmmppiaaGreatDoor
namespace Go.Proofs.YtlbehpbhmmppiaaGreatDoor
open Go.RowKit Go.Shelf
attribute [local go_sem] Oper.semAt_some

theorem candVal_inj {c c' : Int × Int} (h : candVal c = candVal c') : c = c' := by
  obtain ⟨a, b⟩ := c
  obtain ⟨a', b'⟩ := c'
  simpa [candVal] using h
/-- All numbers of some pairs are ints. -/
def IntsC (cs : List (Int × Int)) : Prop := ∀ c ∈ cs, intB c.1 ∧ intB c.2
/-- The keys of some pairs. -/
noncomputable def keysP (cs : List (Int × Int)) (k : Lit) : Bool := @decide (∃ c ∈ cs, keyOf Tryz.prog 33 (candVal c) = some k) (Classical.propDecidable _)
theorem keysP_iff {cs : List (Int × Int)} {k : Lit} : keysP cs k = true ↔ ∃ c ∈ cs, keyOf Tryz.prog 33 (candVal c) = some k := by
  unfold keysP
  exact @decide_eq_true_iff _ (Classical.propDecidable _)
theorem keysP_nil (k : Lit) : keysP [] k = false := Bool.eq_false_iff.2 (fun h => by
  obtain ⟨c, hc, _⟩ := keysP_iff.1 h
  simp at hc)

theorem nodup_len : ∀ {l m : List (Int × Int)}, l.Nodup → (∀ x ∈ l, x ∈ m) → l.length ≤ m.length
  | [], _, _, _ => Nat.zero_le _
  | a :: l, m, hn, hs => by
    have ha : a ∈ m := hs a (List.mem_cons_self ..)
    have hl := nodup_len (l := l) (m := m.erase a) (List.nodup_cons.1 hn).2 (fun x hx => (List.mem_erase_of_ne (fun e => by subst e; exact (List.nodup_cons.1 hn).1 hx)).2 (hs x (List.mem_cons_of_mem _ hx)))
    rw [List.length_erase_of_mem ha] at hl
    have := List.length_pos_of_mem ha
    rw [List.length_cons]
    omega
/-- Between two rounds: what has come. -/
structure CollC (cs : List (Int × Int)) (left : Lit → Bool) (ss : List (Int × Int)) : Prop where
  nodup : ss.Nodup
  sub : ∀ c ∈ ss, c ∈ cs
  come : ∀ c ∈ cs, ∀ k, keyOf Tryz.prog 33 (candVal c) = some k → (c ∈ ss ↔ left k = false)
theorem CollC.start {cs : List (Int × Int)} {D0 : DataW Unit} (hp : ∀ k d, D0.atKey k d = if keysP cs k = true then .lit (.bool true) else d) : CollC cs (Maps.has D0) [] :=
  ⟨List.nodup_nil, fun _ h => by simp at h, fun c hc k hk => by
    have h : Maps.has D0 k = true := Maps.has_true_of_atKey (y := .lit (.bool true)) (fun z => by rw [hp, if_pos (keysP_iff.2 ⟨c, hc, hk⟩)])
    simp [h]⟩
theorem CollC.step {cs ss : List (Int × Int)} {left : Lit → Bool} (h : CollC cs left ss) {c : Int × Int} (hc : c ∈ cs) {kl : Lit} (hk : keyOf Tryz.prog 33 (candVal c) = some kl) (hl : left kl = true) : CollC cs (fun z => left z && !z.sameKey kl) (ss ++ [c]) := by
  have hn : c ∉ ss := fun hs => by
    have := (h.come c hc kl hk).1 hs
    rw [hl] at this
    cases this
  refine ⟨List.nodup_append.2 ⟨h.nodup, by simp, fun a ha b hb => by simp at hb; subst hb; exact fun e => hn (e ▸ ha)⟩, ?_, ?_⟩
  · intro x hx
    rcases List.mem_append.1 hx with hx | hx
    · exact h.sub x hx
    · simp at hx
      exact hx ▸ hc
  · intro x hx k' hk'
    rw [List.mem_append, h.come x hx k' hk']
    by_cases he : x = c
    · subst he
      obtain rfl : k' = kl := Option.some.inj (hk'.symm.trans hk)
      simp [WideAt.sameKey_self (lawCand.key hk)]
    · have hne : k' ≠ kl := fun e => he (candVal_inj (lawCand.inj (e ▸ hk') hk))
      simp [he, Maps.sameKey_ne hne]
theorem CollC.done {cs ss : List (Int × Int)} {left : Lit → Bool} (h : CollC cs left ss) (hI : IntsC cs) (hl : ∀ k, left k = false) : ss.Nodup ∧ ∀ c, c ∈ ss ↔ c ∈ cs :=
  ⟨h.nodup, fun c => ⟨h.sub c, fun hc => by
    obtain ⟨k, hk⟩ := keyCand (hI c hc)
    exact (h.come c hc k hk).2 (hl k)⟩⟩

set_option maxRecDepth 100000 in
set_option maxHeartbeats 2000000 in
theorem keysG_in (n lp Bm b nn : Nat) (cs : List (Int × Int)) (hI : IntsC cs) (J Jx : List (Int × Int) → World → Prop)
    (hY : ∀ pre x W, J pre W → pre.length < nn → YieldAt Fence.wide (n - 1) Tryz.prog lp #[candVal x] W fun e W' =>
      (e = .returned (.bool true) ∧ J (pre ++ [x]) W' ∧ KeepsWalks W W') ∨ (e = .returned (.bool false) ∧ Jx (pre ++ [x]) W'))
    (W : World) (hJ : AbidesFrom W.heap.size J) (hBm : Blk W Bm 51 #[.map (some b)]) (hS : SetT 33 W b nn (keysP cs)) (h0 : J [] W) :
    CallsIn Fence.wide n Tryz.prog 94 #[.func (.yield lp) #[] #[], .pointer (some ⟨Bm, 0, none⟩)] W fun e W' => (∃ v, e = .returned v) ∧
      ((∃ xs, (xs.Nodup ∧ ∀ c, c ∈ xs ↔ c ∈ cs) ∧ J xs W') ∨ (∃ pre, True ∧ Jx pre W')) := by
  obtain ⟨D0, hown, hm, hp⟩ := hS
  have hin : ∀ {k : Lit} {y : DataW Unit}, (∀ zd, D0.atKey k zd = y) → keysP cs k = true := by
    intro k y hy
    cases hpk : keysP cs k
    · have h1 := hy .nil
      have h2 := hy (.lit .nil)
      rw [hp, hpk] at h1 h2
      simp at h1 h2
      rw [← h2] at h1
      cases h1
    · rfl
  have hsz : Maps.size D0 ≤ nn := hown.size_le
  have hrel0 : CollC cs (Maps.has D0) [] := CollC.start hp
  have HP := Lib.hid hp
  have HI := Lib.hid hI
  clear hp hI
  refine callsIn_of_wp Tryz.func94 rfl trivial ?_ rfl
  simp only [Tryz.ntmps94, List.size_toArray, List.length_cons, List.length_nil, Nat.reduceAdd, Nat.reduceSub, Array.replicate_succ, Array.replicate_zero, List.push_toArray, List.append_toArray, List.nil_append, List.cons_append]
  have m0 := hBm.cell 0
  simp at m0
  gi_wp2_with (first
    | (gi_at_range; refine wpListIn_range_own _ rfl _ 51 rfl 33 4 lawCand mapCandRow _ b nn _ rfl hown ?_; intro w0 hrg0 hg0 hs0)
    | gi_in)
  go_frame
  gi_loopw [3] (fun _ wr => ∃ (left : Lit → Bool) (cnt : Nat) (ss : List (Int × Int)), wr.ranges Tryz.prog 33 (plainElem Tryz.prog 4) b W.heap.size nn D0 left cnt ∧ ss.length + cnt ≤ nn ∧ CollC cs left ss ∧ J ss wr)
    (fun _ wr => wr.rangeLeft b W.heap.size)
  case atStart =>
    exact ⟨_, _, [], hrg0, by simpa using hsz, hrel0, hJ [] W w0 none h0 hg0 (fun r e => by cases e)⟩
  case round =>
    obtain ⟨left, cnt, ss, hrg, hcs, hC, hJs⟩ := hrel
    gi_wp2_with (first
      | (gi_at_next; refine wpListIn_next_ranges _ rfl _ rfl 33 lawCand (plainElem Tryz.prog 4) (id : Value → Value) id (fun key kl hk => ⟨key, rfl⟩) (fun v _ _ => ⟨v, rfl⟩) b W.heap.size nn _ _ _ rfl hrg ?_ ?_)
      | gi_in)
    · intro hc0 hl0
      gi_wp2
      go_end0
      exact ⟨⟨_, rfl⟩, .inl ⟨_, hC.done HI.out hl0, hJs⟩⟩
    · intro x c kl' yd yp w2 cnt2 hkey' hlk hv hat hrg2 hlt hg2 hs2 hen
      obtain ⟨at', hmem, hk⟩ := keysP_iff.1 (hin hat)
      obtain rfl : x = candVal at' := lawCand.inj hkey' hk
      have hC2 := hC.step hmem hk hlk
      have hJ2 : J ss w2 := hJ ss wr w2 (some W.heap.size) hJs hg2 (fun r e => by cases e; exact ⟨Nat.le_refl _, hrg.iter_walk⟩)
      have hb2 : Below w2.heap.size w2 (w2.alloc (.cells #[.int .i64 at'.1, .int .i64 at'.2] 33)) := (Below.refl _ _).alloc (Nat.le_refl _) _
      have hJ3 := abides_new hJ hJ2 hb2
      obtain ⟨fn, tmps, assign, body, hy, hR⟩ := hY ss at' _ hJ3 (by omega)
      have HC2 := Lib.hid hC2
      unfold candVal at hy hen ⊢
      clear hs2 hC hC2 hmem hk hin
      gi_wp2
      refine ⟨fun h => (by cases h), ?_⟩
      refine hR.mono ?_
      rintro e W3 hy'
      obtain ⟨bb, rfl, hyt, hyf⟩ := yield_bool hy'
      cases bb
      · have hJx := hyf rfl
        gi_wp2
        refine bodyPost_ret (results_none rfl _ _ _) rfl ?_
        exact ⟨⟨_, rfl⟩, .inr ⟨_, trivial, hJx⟩⟩
      · obtain ⟨hJ4, hk4⟩ := hyt rfl
        gi_wp2
        have hrg3 := (hrg2.alloc (.cells #[.int .i64 at'.1, .int .i64 at'.2] 33)).of_walks hk4
        go_roundw
        case rel => exact ⟨_, cnt2, ss ++ [at'], hrg3, by simp; omega, HC2.out, hJ4⟩
        case measure => rw [hrg3.left_eq, hrg.left_eq]; exact hlt
end Go.Proofs.YtlbehpbhmmppiaaGreatDoor
namespace Go.Proofs.YtlbehpbhmmppiaaGreatDoor
open Go.RowKit Go.Shelf
attribute [local go_sem] Oper.semAt_some

/-- v is a slice of the pairs l in memory of the call's own, from block base on. -/
def OwnC (w : World) (base : Nat) (v : Value) (l : List (Int × Int)) : Prop := w.ownsRow base 33 2 v l.length (l.flatMap candCells)
theorem OwnC.nil (w : World) (base : Nat) : OwnC w base (.slice none 0 0) [] := World.ownsRow_nil _ _ _ _
theorem OwnC.own_lt {w : World} {base : Nat} {v : Value} {l : List (Int × Int)} (h : OwnC w base v l) : ∀ k, v.ownBlock = some k → base ≤ k ∧ k < w.heap.size := World.ownsRow.lt h
theorem OwnC.cells {w : World} {base : Nat} {v : Value} {l : List (Int × Int)} (h : OwnC w base v l) : ∀ k, v.ownBlock = some k → ∃ cs, w.heap[k]? = some (.cells cs 33 (0, 0)) := fun k hk => by
  rcases h.2 with ⟨rfl, _⟩ | ⟨g, cap, cur, rfl, _, hg, _⟩
  · simp [Value.ownBlock] at hk
  · simp [Value.ownBlock] at hk
    subst hk
    exact ⟨cur, hg⟩
theorem OwnC.keep {S : Nat → Prop} {w w' : World} {base : Nat} {v : Value} {l : List (Int × Int)} (h : OwnC w base v l) (hk : Keeps S w w') (hs : ∀ g, v.ownBlock = some g → ¬ S g) : OwnC w' base v l := by
  have hlt := h.own_lt
  unfold OwnC at h ⊢
  refine ⟨h.1, ?_⟩
  rcases h.2 with h0 | ⟨g, cap, cur, rfl, hb, hg, rest⟩
  · exact .inl h0
  · exact .inr ⟨g, cap, cur, rfl, hb, (hk.block g (hlt g rfl).2 (hs g rfl)).trans hg, rest⟩
theorem OwnC.below {w w' : World} {base : Nat} {v : Value} {l : List (Int × Int)} (h : OwnC w base v l) (hb : Below w.heap.size w w') : OwnC w' base v l :=
  h.keep (S := fun _ => False) (Keeps.of_new hb) (fun _ _ h => h)
theorem OwnC.mono {w : World} {base base' : Nat} {v : Value} {l : List (Int × Int)} (h : OwnC w base v l) (hb : base' ≤ base) : OwnC w base' v l := by
  refine ⟨h.1, ?_⟩
  rcases h.2 with h0 | ⟨g, cap, cur, rfl, hg, rest⟩
  · exact .inl h0
  · exact .inr ⟨g, cap, cur, rfl, Nat.le_trans hb hg, rest⟩
theorem OwnC.shape {w : World} {base : Nat} {v : Value} {l : List (Int × Int)} (h : OwnC w base v l) : ∃ A c, v = .slice A l.length c := by
  rcases h.2 with ⟨rfl, h0⟩ | ⟨g, cap, cur, rfl, _⟩
  · exact ⟨none, 0, by rw [h0]⟩
  · exact ⟨_, cap, rfl⟩
theorem OwnC.grown {w w' : World} {base : Nat} {v : Value} {l : List (Int × Int)} {row : Option Nat} (h : OwnC w base v l) (hg : w.grownBy w' row) (hr : ∀ r, row = some r → ∃ o : Obj, w.heap[r]? = some o ∧ o.isCells = false) : OwnC w' base v l := by
  have hc := h.cells
  unfold OwnC at h ⊢
  refine World.ownsRow.kept h hg ?_
  rcases h.2 with ⟨rfl, _⟩ | ⟨g, cap, cur, rfl, _, hgb, _⟩
  · exact .inl rfl
  · refine .inr fun e' => ?_
    obtain ⟨o, ho, hw⟩ := hr g (by simpa [Value.ownBlock] using e'.symm)
    rw [hgb] at ho
    cases ho
    cases hw
theorem keepsO_row {S : Nat → Prop} {W W' : World} (hk : Keeps S W W') (hS : ∀ i, S i → i < W.heap.size → ∃ cs t z, W.heap[i]? = some (.cells cs t z)) : KeepsOthers W W' :=
  ⟨hk.size, fun k o ho hc => (hk.block k (Array.getElem?_eq_some_iff.1 ho).1 (fun hs => by
    obtain ⟨cs, t, z, h⟩ := hS k hs (Array.getElem?_eq_some_iff.1 ho).1
    rw [h] at ho
    cases ho
    cases hc)).trans ho⟩
theorem walksO {W W' : World} (h : KeepsOthers W W') : KeepsWalks W W' := ⟨h.size, fun k o ho hw => h.same k o ho (by cases o <;> first | rfl | cases hw)⟩
theorem append_cand {w : World} {base : Nat} {v : Value} {l : List (Int × Int)} (h : OwnC w base v l) (x : Int × Int) (hbase : base ≤ w.heap.size) (hlen : l.length ≤ 2000000000000) (ty : TypeId) :
    ∃ v' w', (Builtin.append_ #[30, 30] ty #[v, .slice (some ⟨w.heap.size, 0, none⟩) 1 1]).run Tryz.prog (w.alloc (.cells #[.int .i64 x.1, .int .i64 x.2] 33)) = .ok v' w' ∧ OwnC w' base v' (l ++ [x]) ∧ Keeps (fun i => v.ownBlock = some i) w w' := by
  obtain ⟨i0, hi, hz0, hz1, hz2⟩ := info_parts infoCand
  have h1 : (w.alloc (.cells #[.int .i64 x.1, .int .i64 x.2] 33)).ownsRow base 33 2 v l.length (l.flatMap candCells) := OwnC.keep h ((Keeps.refl (fun _ => False) w).alloc _) (fun _ _ h => h)
  obtain ⟨v', w', hrun, hO, hg, _, _⟩ := run_append_own_at (P := Tryz.prog) (w.alloc (.cells #[.int .i64 x.1, .int .i64 x.2] 33)) base 30 ty 33 i0 _ 2 16 candsRow hi hz0 hz1 hz2 rfl (by decide) v l.length _ h1 ⟨w.heap.size, 0, none⟩ 1 1 [.int .i64 x.1, .int .i64 x.2] rfl (cell_two_new _ _ _ _) (fun u hu => by simp at hu; rcases hu with rfl | rfl <;> rfl) (by unfold maxLen; omega) (by omega) (by simp; omega)
  refine ⟨v', w', hrun, ?_, ((Keeps.refl (fun i => v.ownBlock = some i) w).alloc _).trans (Keeps.of_grown (S := fun i => v.ownBlock = some i) hg (fun k hk _ => hk)) (fun i _ h => h)⟩
  unfold OwnC
  rw [List.length_append, List.flatMap_append]
  exact hO

/-- What AppendSeq has between two rounds. -/
def GotC (w : World) (Bs : Nat) (pre : List (Int × Int)) (W : World) : Prop :=
  (∃ v, Blk W Bs 30 #[v] ∧ OwnC W (w.heap.size + 1) v pre) ∧ (Below w.heap.size w W)
theorem gotC_own {w : World} {Bs B : Nat} (hB : w.heap.size ≤ B) : OwnFrom B (GotC w Bs) := fun pre X Y row hs hg hr => by
  obtain ⟨⟨v, h1, h2⟩, h3⟩ := hs
  exact ⟨⟨v, (blk_own Bs _ (fun (_ : Unit) => #[v])).from B () X Y row h1 hg hr, h2.grown hg (fun r e => (hr r e).2)⟩, ownFrom_below (Nat.le_refl _) hB () X Y row h3 hg hr⟩

theorem keysG_seq (n Bm b nn : Nat) (cs : List (Int × Int)) (hI : IntsC cs) (w : World) (hBm : Blk w Bm 51 #[.map (some b)]) (hS : SetT 33 w b nn (keysP cs)) :
    SeqStopsK Fence.wide n Tryz.prog 94 #[.pointer (some ⟨Bm, 0, none⟩)] (fun x : Int × Int => #[candVal x]) KeepsWalks
      (fun ys => ys.Nodup ∧ ∀ c, c ∈ ys ↔ c ∈ cs) (fun _ => True) nn w := fun lp J Jx W hW hJ _ hY h0 =>
  keysG_in n lp Bm b nn cs hI J Jx hY W hJ (hBm.below hW hBm.lt) (hS.below hW hS.lt) h0

set_option maxRecDepth 100000 in
set_option maxHeartbeats 2000000 in
theorem appendSeqG_in (Bm b nn : Nat) (hnn : nn ≤ 2000000000000) (cs : List (Int × Int)) (hI : IntsC cs) (w : World) (hBm : Blk w Bm 51 #[.map (some b)]) (hS : SetT 33 w b nn (keysP cs)) :
    Calls Tryz.prog 116 #[.slice none 0 0, .func (.func 94) #[] #[.pointer (some ⟨Bm, 0, none⟩)]] w fun e w' =>
      ∃ v q, e = .returned v ∧ OwnC w' w.heap.size v q ∧ (q.Nodup ∧ ∀ c, c ∈ q ↔ c ∈ cs) ∧ Below w.heap.size w w' := by
  refine (callsIn_wide (n := 9)).1 (callsIn_of_wp_marks Tryz.func116 rfl trivial ?_ rfl)
  simp only [Tryz.ntmps116, List.size_toArray, List.length_cons, List.length_nil, Nat.reduceAdd, Nat.reduceSub, Array.replicate_succ, Array.replicate_zero, List.push_toArray, List.append_toArray, List.nil_append, List.cons_append]
  gi_wp2_with fail
  refine wpIn_gen1 ?_
  intro W0 hB0 hz0' k0
  have hg : (GotC w w.heap.size) [] W0 := ⟨⟨_, k0, OwnC.nil _ _⟩, hB0⟩
  refine wpIn_rangeFunc_ownH (F := Fence.wide) rfl (by omega) (lb := #[.pointer (some ⟨Bm, 0, none⟩)]) rfl trivial (enters_of Tryz.func94 (by kernel_rfl) rfl)
    (keysG_seq _ Bm b nn cs hI W0 (hBm.below hB0 hBm.lt) (hS.below hB0 hS.lt)) KeepsWalks.trans (fun W l o o' _ h _ hw => KeepsWalks.putObj o' h hw) (Below.refl _ _) (fun _ => rfl)
    (GotC w w.heap.size) (fun _ _ _ => False) (gotC_own (by omega)) (fun _ _ _ _ _ hs _ _ => hs) hg
    (fun x a' W => ∃ Bx, W0.heap.size ≤ Bx ∧ Blk W Bx 33 #[.int .i64 x.1, .int .i64 x.2] ∧ a' = { tmps := #[.slice none 0 0, .func (.func 94) #[] #[.pointer (some ⟨Bm, 0, none⟩)], .pointer (some ⟨w.heap.size, 0, none⟩), undef, .slice none 0 0, .pointer (some ⟨Bx, 0, none⟩), .func (.func 94) #[] #[.pointer (some ⟨Bm, 0, none⟩)], candVal x, undef, undef, undef, undef, undef], defers := [] })
    (fun x a' _ X Y row hs hgr hr => by obtain ⟨Bx, k1, k2, k3⟩ := hs; exact ⟨Bx, k1, blk_own Bx _ (fun (_ : Unit) => #[.int .i64 x.1, .int .i64 x.2]) () X Y row k2 hgr (fun r e => (hr r e).2), k3⟩)
    ?_ ?_ ?_ ?_
  · intro lp pre x W K hi hK
    have hz : ∀ t : Array Value, ((#[7] : Array Tmp).zip #[candVal x]).foldl (fun t (p, v) => t.setIfInBounds p v) t = t.setIfInBounds 7 (candVal x) := fun t => by simp
    rw [hz]
    have hnew := Blk.new W 33 #[.int .i64 x.1, .int .i64 x.2]
    have hK' := hK { tmps := #[.slice none 0 0, .func (.func 94) #[] #[.pointer (some ⟨Bm, 0, none⟩)], .pointer (some ⟨w.heap.size, 0, none⟩), undef, .slice none 0 0, .pointer (some ⟨W.heap.size, 0, none⟩), .func (.func 94) #[] #[.pointer (some ⟨Bm, 0, none⟩)], candVal x, undef, undef, undef, undef, undef], defers := [] } _ ((KeepsOthers.alloc W (.cells #[.int .i64 x.1, .int .i64 x.2] 33)).from _) (KeepsWalks.alloc _ _) ((gotC_own (B := W0.heap.size) (by omega)).alloc _ hi) ⟨W.heap.size, by have := hi.2.size; obtain ⟨⟨v, h1, _⟩, _⟩ := hi; have := h1.lt; omega, hnew, rfl⟩
    unfold candVal at *
    gi_wp2
    exact hK'
  · rintro lp pre x a' W _ _ hi ⟨Bx, k1, k2, rfl⟩ hlen
    obtain ⟨⟨v, bB, hO⟩, hB⟩ := hi
    have e0 := bB.cell 0
    have e1 := bB.frozen 0
    have x0 := k2.cell 0
    have x1 := k2.cell 1
    have z0 := bB.lt
    have z1 := k2.lt
    simp at e0 x0 x1
    obtain ⟨v', w3, hrun, hO3, hk3⟩ := append_cand hO x (by omega) (by omega) 30
    obtain ⟨A3, c3, hv3⟩ := hO3.shape
    rw [show (pre ++ [x]).length = pre.length + 1 by simp] at hv3
    subst hv3
    have hown := hO.own_lt
    have hcells := hO.cells
    have hown3 := hO3.own_lt
    have bB3 : Blk w3 w.heap.size 30 #[v] := (hk3.block _ z0 (fun h => by have := (hown _ h).1; omega)).trans bB
    have e3 := bB3.cell 0
    have f3 := bB3.frozen 0
    have z3 := bB3.lt
    simp at e3
    have hk4 : Keeps (fun i => v.ownBlock = some i ∨ i = w.heap.size) W (w3.setCell ⟨w.heap.size, 0, none⟩ (.slice A3 (pre.length + 1) c3)) := (hk3.mono (fun _ _ h => .inl h)).setCell (p := ⟨w.heap.size, 0, none⟩) (fun _ => .inr rfl) (.slice A3 (pre.length + 1) c3)
    have hKO := keepsO_row hk4 (fun i hi hl => by
      rcases hi with hi | hi
      · obtain ⟨cs, h⟩ := hcells i hi
        exact ⟨cs, _, _, h⟩
      · subst hi
        exact ⟨_, _, _, bB⟩)
    have hB4 : Below w.heap.size w (w3.setCell ⟨w.heap.size, 0, none⟩ (.slice A3 (pre.length + 1) c3)) := hB.trans (hk4.below (fun k hk h => by
      rcases h with h | h
      · have := (hown k h).1; omega
      · omega) hB.size)
    have hO4 : OwnC (w3.setCell ⟨w.heap.size, 0, none⟩ (.slice A3 (pre.length + 1) c3)) (w.heap.size + 1) (.slice A3 (pre.length + 1) c3) (pre ++ [x]) := hO3.keep ((Keeps.refl (fun i => i = w.heap.size) w3).setCell (p := ⟨w.heap.size, 0, none⟩) (fun _ => rfl) (.slice A3 (pre.length + 1) c3)) (fun g h1 h2 => by have := (hown3 g h1).1; omega)
    have bB4 := bB3.set 0 (.slice A3 (pre.length + 1) c3)
    simp at bB4
    have HE : Hid (KeepsFrom W0.heap.size W (w3.setCell ⟨w.heap.size, 0, none⟩ (.slice A3 (pre.length + 1) c3)) ∧ KeepsWalks W (w3.setCell ⟨w.heap.size, 0, none⟩ (.slice A3 (pre.length + 1) c3)) ∧ GotC w w.heap.size (pre ++ [x]) (w3.setCell ⟨w.heap.size, 0, none⟩ (.slice A3 (pre.length + 1) c3))) := Lib.hid ⟨hKO.from W0.heap.size, walksO hKO, ⟨_, bB4, hO4⟩, hB4⟩
    clear hO hO3 hk3 hk4 hKO hB4 hO4 bB4 hown hown3 hcells
    gi_wp2_with (gi_at_builtin; refine wpListIn_app _ rfl _ _ 30 rfl hrun ?_)
    exact ⟨HE.out.1, HE.out.2.1, HE.out.2.2⟩
  · rintro D ys W hD hys hi hK
    obtain ⟨⟨v, bB, hO⟩, hB⟩ := hi
    have e0 := bB.cell 0
    have z0 := bB.lt
    simp at e0
    have HO := Lib.hid (hO.mono (base' := w.heap.size) (by omega))
    have HY := Lib.hid hys
    obtain ⟨A, c, hv⟩ := hO.shape
    clear bB hO hys
    gi_wp2
    all_goals
      refine ⟨by simp, .inl ⟨_, _, rfl, run_takeDeferred hK, ?_⟩⟩
      exact ⟨_, results_tmp rfl _ _ _, v, ys, by first | rfl | (rw [hv]; rfl), HO.out.grown (grownBy_putObj' _ _ _) (fun r e => by cases e; exact ⟨_, hK, rfl⟩), HY.out, below_end hB hK (by omega)⟩
  · rintro D co pre W _ _ h _
    exact h.elim
end Go.Proofs.YtlbehpbhmmppiaaGreatDoor
namespace Go.Proofs.YtlbehpbhmmppiaaGreatDoor
open Go.RowKit Go.Shelf

/-- The pairs q lie behind A. -/
def PairsAt (w : World) (A : Option Addr) (q : List (Int × Int)) : Prop := ∀ k x, q[k]? = some x → ∃ g, A = some ⟨g, 0, none⟩ ∧ g < w.heap.size ∧ w.cell? ⟨g, k * 2, none⟩ = some (.int .i64 x.1) ∧ w.cell? ⟨g, k * 2 + 1, none⟩ = some (.int .i64 x.2)
theorem PairsAt.up {w w' : World} {A : Option Addr} {q : List (Int × Int)} (h : PairsAt w A q) {B : Nat} (hb : Below B w w') (hB : w.heap.size ≤ B) : PairsAt w' A q := fun k x hx => by
  obtain ⟨g, h1, h2, h3, h4⟩ := h k x hx
  exact ⟨g, h1, Nat.lt_of_lt_of_le h2 hb.size, (hb.cell (p := ⟨g, k * 2, none⟩) (Nat.lt_of_lt_of_le h2 hB)).trans h3, (hb.cell (p := ⟨g, k * 2 + 1, none⟩) (Nat.lt_of_lt_of_le h2 hB)).trans h4⟩
theorem PairsAt.below {w w' : World} {A : Option Addr} {q : List (Int × Int)} (h : PairsAt w A q) (hb : Below w.heap.size w w') : PairsAt w' A q := h.up hb (Nat.le_refl _)
theorem PairsAt.put {w : World} {A : Option Addr} {q : List (Int × Int)} (h : PairsAt w A q) {D : Nat} {o o' : Obj} (hD : w.heap[D]? = some o) (ho : o.isCells = false) : PairsAt (w.putObj D o') A q := fun k x hx => by
  obtain ⟨g, h1, h2, h3, h4⟩ := h k x hx
  have hne : D ≠ g := fun e => by
    subst e
    simp only [World.cell?, hD] at h3
    cases o <;> simp [Obj.isCells] at ho h3
  have hb : (w.putObj D o').heap[g]? = w.heap[g]? := World.putObj_heap_other (fun e => hne (by first | exact e | exact e.symm))
  exact ⟨g, h1, by simpa [World.putObj] using h2, (World.cell?_of_block hb).trans h3, (World.cell?_of_block hb).trans h4⟩
end Go.Proofs.YtlbehpbhmmppiaaGreatDoor
