/- The order in which the reference keeps its pairs; what the reference's circles are, as mathematics. No conditions. The contracts of the reference's First and addedPair, exactly. Conditions: the list lies in memory; at most 1000 pairs. -/
import Derived.Test.YtlbehpbhmmppiaaGreatDoorCycA
import Derived.Test.YtlbehpbhmmppiaaGreatDoorCircA
import Derived.Test.YtlbehpbhmmppiaaGreatDoorTgA
import Derived.Test.YtlbehpbhmmppiaaGreatDoorRefDA
import Derived.Test.YtlbehpbhmmppiaaGreatDoorPairSlA
import Derived.Test.YtlbehpbhmmppiaaGreatDoorSetSA
import Derived.Lib.QuietBelow
import Derived.BigQuiet
namespace Go.Proofs.YtlbehpbhmmppiaaGreatDoor
open Go.RowKit Go.Shelf

/-- The order of pairs, as the reference computes it. -/
def fstB (a b : Int × Int) : Bool := decide (a.1 < b.1) || (decide (a.1 = b.1) && decide (a.2 < b.2))
theorem fstB_iff {a b : Int × Int} : fstB a b = true ↔ ltC a b := by
  unfold fstB ltC
  rw [Bool.or_eq_true, Bool.and_eq_true, decide_eq_true_iff, decide_eq_true_iff, decide_eq_true_iff]
theorem fstB_no {a b : Int × Int} (h : fstB a b = false) (hne : a ≠ b) : ltC b a := by
  have h1 : ¬ ltC a b := fun h2 => by rw [← fstB_iff, h] at h2; cases h2
  rcases ltC_tri a b with e | e | e
  · exact absurd e hne
  · exact absurd e h1
  · exact e
/-- A sorted list with one more pair. -/
def addP : List (Int × Int) → Int × Int → List (Int × Int)
  | [], n => [n]
  | x :: m, n => if n = x then x :: m else if fstB n x = true then n :: x :: m else x :: addP m n
theorem addP_mem (m : List (Int × Int)) (n z : Int × Int) : z ∈ addP m n ↔ z = n ∨ z ∈ m := by
  induction m with
  | nil => simp [addP]
  | cons x m ih =>
    unfold addP
    split
    · rename_i h; subst h; simp
    · split
      · simp
      · rw [List.mem_cons, ih, List.mem_cons]
        constructor
        · rintro (h | h | h) <;> simp [h]
        · rintro (h | h | h) <;> simp [h]
theorem ltC_trans {a b c : Int × Int} (h : ltC a b) (k : ltC b c) : ltC a c := by unfold ltC at *; omega
theorem addP_sorted {m : List (Int × Int)} (h : m.Pairwise ltC) (n : Int × Int) : (addP m n).Pairwise ltC := by
  induction m with
  | nil => simp [addP]
  | cons x m ih =>
    have hx := List.pairwise_cons.1 h
    unfold addP
    split
    · exact h
    · rename_i hne
      split
      · rename_i hf
        have hlt := fstB_iff.1 hf
        refine List.pairwise_cons.2 ⟨fun z hz => ?_, h⟩
        rcases List.mem_cons.1 hz with rfl | hz
        · exact hlt
        · exact ltC_trans hlt (hx.1 z hz)
      · rename_i hf
        have hlt := fstB_no (Bool.eq_false_iff.2 hf) hne
        refine List.pairwise_cons.2 ⟨fun z hz => ?_, ih hx.2⟩
        rcases (addP_mem m n z).1 hz with rfl | hz
        · exact hlt
        · exact hx.1 z hz
theorem addP_len (m : List (Int × Int)) (n : Int × Int) : (addP m n).length ≤ m.length + 1 := by
  induction m with
  | nil => simp [addP]
  | cons x m ih =>
    unfold addP
    split
    · simp
    · split
      · simp
      · simpa using ih
/-- Where an entry may lead. -/
def ldE (l : List Ent) (d : Int) (x : Ent) : (Int × Int) × Bool := if x.kind = 5 then targetE l x d else if x.kind = 4 then reachE l x.other d else ((0, 0), false)
/-- All pairs to which some entries may lead. -/
def allE (l : List Ent) (d : Int) (m : List Ent) : List (Int × Int) := m.foldl (fun q x => if (ldE l d x).2 = true then addP q (ldE l d x).1 else q) []
theorem allE_next {l : List Ent} {d : Int} {m : List Ent} {k : Nat} {x : Ent} (hx : m[k]? = some x) : allE l d (m.take (k + 1)) = if (ldE l d x).2 = true then addP (allE l d (m.take k)) (ldE l d x).1 else allE l d (m.take k) := by
  unfold allE
  rw [List.take_add_one, hx]
  simp [List.foldl_append]
theorem allE_is (l : List Ent) (d : Int) (m : List Ent) : (allE l d m).Pairwise ltC ∧ (∀ z, z ∈ allE l d m ↔ ∃ y ∈ m, (ldE l d y).2 = true ∧ (ldE l d y).1 = z) ∧ (allE l d m).length ≤ m.length := by
  suffices h : ∀ (m : List Ent) (q : List (Int × Int)), q.Pairwise ltC → (m.foldl (fun q x => if (ldE l d x).2 = true then addP q (ldE l d x).1 else q) q).Pairwise ltC ∧ (∀ z, z ∈ m.foldl (fun q x => if (ldE l d x).2 = true then addP q (ldE l d x).1 else q) q ↔ z ∈ q ∨ ∃ y ∈ m, (ldE l d y).2 = true ∧ (ldE l d y).1 = z) ∧ (m.foldl (fun q x => if (ldE l d x).2 = true then addP q (ldE l d x).1 else q) q).length ≤ q.length + m.length by
    have h1 := h m [] List.Pairwise.nil
    refine ⟨h1.1, fun z => (h1.2.1 z).trans (by simp), by have h2 := h1.2.2; unfold allE; simpa using h2⟩
  intro m
  induction m with
  | nil => intro q hq; exact ⟨hq, fun z => by simp, by simp⟩
  | cons y m ih =>
    intro q hq
    rw [List.foldl_cons]
    by_cases hf : (ldE l d y).2 = true
    · rw [if_pos hf]
      obtain ⟨h1, h2, h3⟩ := ih (addP q (ldE l d y).1) (addP_sorted hq _)
      refine ⟨h1, fun z => ?_, by have := addP_len q (ldE l d y).1; rw [List.length_cons]; omega⟩
      rw [h2 z, addP_mem]
      constructor
      · rintro ((rfl | h) | ⟨u, hu, hu2⟩)
        · exact .inr ⟨y, List.mem_cons_self .., hf, rfl⟩
        · exact .inl h
        · exact .inr ⟨u, List.mem_cons_of_mem _ hu, hu2⟩
      · rintro (h | ⟨u, hu, hu1, hu2⟩)
        · exact .inl (.inr h)
        · rcases List.mem_cons.1 hu with rfl | hu
          · exact .inl (.inl hu2.symm)
          · exact .inr ⟨u, hu, hu1, hu2⟩
    · rw [if_neg hf]
      obtain ⟨h1, h2, h3⟩ := ih q hq
      refine ⟨h1, fun z => ?_, by rw [List.length_cons]; omega⟩
      rw [h2 z]
      constructor
      · rintro (h | ⟨u, hu, hu2⟩)
        · exact .inl h
        · exact .inr ⟨u, List.mem_cons_of_mem _ hu, hu2⟩
      · rintro (h | ⟨u, hu, hu1, hu2⟩)
        · exact .inl h
        · rcases List.mem_cons.1 hu with rfl | hu
          · exact absurd hu1 hf
          · exact .inr ⟨u, hu, hu1, hu2⟩
/-- Each target is among them. -/
theorem targets_all {l : List OEnt} {d : Int} {c : Int × Int} (h : c ∈ targetsOf l d) : c ∈ allE (l.map (·.1)) d (l.map (·.1)) := by
  obtain ⟨y, hy, rfl⟩ := List.mem_map.1 h
  obtain ⟨hy1, hy2⟩ := List.mem_filter.1 hy
  obtain ⟨h1, h2⟩ := causes_in hy1
  refine ((allE_is _ d _).2.1 _).2 ⟨y.2.1, List.mem_map.2 ⟨y.2, h1, rfl⟩, ?_⟩
  have hy2' : (leadOf l d y).2 = true := hy2
  unfold leadOf at hy2' ⊢
  unfold ldE
  rcases h2 with ⟨h2, h3⟩ | ⟨h2, h3⟩
  · rw [if_pos h3, targetE_eq]
    rw [if_pos h2] at hy2' ⊢
    exact ⟨hy2', rfl⟩
  · rw [if_neg (by omega), if_pos h3, reachE_eq]
    rw [if_neg (by rw [h2]; simp)] at hy2' ⊢
    exact ⟨hy2', rfl⟩
/-- What the reference's walk along a circle keeps. -/
structure RefWalk (nx : PairP → Option PairP) (q : List PairP) (cc c0 : PairP) : Prop where
  chain : ChainC nx q cc
  head : (q ++ [cc])[0]? = some c0
  more : ∀ j x, 0 < j → (q ++ [cc])[j]? = some x → ltC c0 x
theorem refWalk_start (nx : PairP → Option PairP) (c0 : PairP) : RefWalk nx [] c0 c0 :=
  ⟨chainC_nil _, rfl, fun j x hj h => by
    rcases j with _ | j
    · omega
    · simp at h⟩
theorem refWalk_on {nx : PairP → Option PairP} {q : List PairP} {cc c0 t : PairP} (h : RefWalk nx q cc c0) (ht : nx cc = some t) (hlt : ltC c0 t) : RefWalk nx (q ++ [cc]) t c0 := by
  refine ⟨chainC_snoc h.chain ht, ?_, fun j x hj hx => ?_⟩
  · rw [List.getElem?_append_left (by simp)]
    exact h.head
  · by_cases hjl : j < (q ++ [cc]).length
    · rw [List.getElem?_append_left hjl] at hx
      exact h.more j x hj hx
    · rw [List.getElem?_append_right (by omega)] at hx
      have h0 : j - (q ++ [cc]).length = 0 := by
        have := (List.getElem?_eq_some_iff.1 hx).1
        simp only [List.length_singleton] at this
        omega
      rw [h0] at hx
      cases hx
      exact hlt
theorem refWalk_back {nx : PairP → Option PairP} {q : List PairP} {cc c0 : PairP} (h : RefWalk nx q cc c0) (ht : nx cc = some c0) : CycC nx (q ++ [cc]) c0 ∧ ∀ x, x ∈ q ++ [cc] → x = c0 ∨ ltC c0 x := by
  refine ⟨cyc_of_back (chainC_snoc h.chain ht) h.head (fun i x hi hx e => ?_), fun x hx => ?_⟩
  · have := h.more i x hi hx
    rw [e] at this
    exact ltC_irr _ this
  · obtain ⟨i, hi⟩ := List.getElem?_of_mem hx
    rcases i with _ | i
    · rw [h.head] at hi
      cases hi
      exact .inl rfl
    · exact .inr (h.more (i + 1) x (by omega) hi)
theorem canon_head {nx : PairP → Option PairP} {Q : List PairP} {c0 : PairP} (h : CanonC nx Q) (h0 : Q[0]? = some c0) : CycC nx Q c0 ∧ ∀ x, x ∈ Q → x = c0 ∨ ltC c0 x := by
  obtain ⟨a, ha, hm⟩ := h
  have := ha.head
  rw [h0] at this
  cases this
  exact ⟨ha, hm⟩
/-- A walk from the head of a circle is on it. -/
theorem refWalk_in {nx : PairP → Option PairP} {q Q : List PairP} {cc c0 : PairP} (h : RefWalk nx q cc c0) (hQ : CycC nx Q c0) : cc ∈ Q := by
  rcases q with _ | ⟨x, q⟩
  · have := h.head
    simp at this
    subst this
    exact List.mem_of_getElem? hQ.head
  · have hx : x = c0 := by have := h.head; simpa using this
    exact walk_on hQ h.chain (x := x) (List.mem_cons_self ..) (by rw [hx]; exact List.mem_of_getElem? hQ.head)
theorem refWalk_stop {nx : PairP → Option PairP} {q : List PairP} {cc c0 : PairP} (h : RefWalk nx q cc c0) (ht : nx cc = none) : ∀ Q, CanonC nx Q → Q[0]? ≠ some c0 := fun Q hQ h0 => by
  obtain ⟨h1, _⟩ := canon_head hQ h0
  obtain ⟨y, hy⟩ := cyc_next h1 (refWalk_in h h1)
  rw [ht] at hy
  cases hy
theorem refWalk_less {nx : PairP → Option PairP} {q : List PairP} {cc c0 t : PairP} (h : RefWalk nx q cc c0) (ht : nx cc = some t) (hlt : ltC t c0) : ∀ Q, CanonC nx Q → Q[0]? ≠ some c0 := fun Q hQ h0 => by
  obtain ⟨h1, h2⟩ := canon_head hQ h0
  have ht2 := cyc_closed h1 cc t (refWalk_in h h1) ht
  rcases h2 t ht2 with e | e
  · rw [e] at hlt; exact ltC_irr _ hlt
  · exact ltC_asym _ _ e hlt
theorem refWalk_long {nx : PairP → Option PairP} {q T : List PairP} {cc c0 : PairP} (h : RefWalk nx q cc c0) (hT : ∀ x y, nx x = some y → y ∈ T) (hl : T.length ≤ q.length) : ∀ Q, CanonC nx Q → Q[0]? ≠ some c0 := fun Q hQ h0 => by
  obtain ⟨h1, h2⟩ := canon_head hQ h0
  have hlen : Q.length ≤ T.length := nodup_le Q T h1.nodup (fun x hx => by
    obtain ⟨y, _, hy⟩ := cyc_prev h1 hx
    exact hT y x hy)
  have hpos := (List.getElem?_eq_some_iff.1 h0).1
  obtain ⟨z, hz⟩ : ∃ z, Q[Q.length - 1]? = some z := ⟨_, List.getElem?_eq_getElem (by omega)⟩
  have h3 := cyc_prefix h1 h.chain h.head (Q.length - 1) (by omega) (by omega)
  rw [hz, List.getElem?_append_left (by omega)] at h3
  have h4 := h.chain _ z h3
  have h5 := h1.chain _ z hz
  rw [show Q.length - 1 + 1 = Q.length by omega] at h4 h5
  rw [List.getElem?_append_right (Nat.le_refl _), Nat.sub_self] at h5
  rw [h5] at h4
  have := h.more Q.length c0 hpos (by rw [← h4]; rfl)
  exact ltC_irr _ this
/-- The circles whose heads are the first targets. -/
structure RefInv (nx : PairP → Option PairP) (T : List PairP) (S : List (List PairP)) : Prop where
  up : S.Pairwise ltL
  is' : ∀ q, q ∈ S → CanonC nx q ∧ ∃ c, q[0]? = some c ∧ c ∈ T
  all : ∀ Q c, CanonC nx Q → Q[0]? = some c → c ∈ T → Q ∈ S
theorem refInv_nil (nx : PairP → Option PairP) : RefInv nx [] [] := ⟨.nil, fun q hq => by simp at hq, fun Q c _ _ h => by simp at h⟩
theorem refInv_no {nx : PairP → Option PairP} {T : List PairP} {S : List (List PairP)} {c : PairP} (h : RefInv nx T S) (hn : ∀ Q, CanonC nx Q → Q[0]? ≠ some c) : RefInv nx (T ++ [c]) S :=
  ⟨h.up, fun q hq => by
    obtain ⟨h1, a, h2, h3⟩ := h.is' q hq
    exact ⟨h1, a, h2, List.mem_append_left _ h3⟩, fun Q a hQ ha hm => by
    rcases List.mem_append.1 hm with hm | hm
    · exact h.all Q a hQ ha hm
    · rw [List.mem_singleton.1 hm] at ha
      exact absurd ha (hn Q hQ)⟩
theorem refInv_yes {nx : PairP → Option PairP} {T : List PairP} {S : List (List PairP)} {c : PairP} {q : List PairP} (h : RefInv nx T S) (hT : (T ++ [c]).Pairwise ltC) (hq : CycC nx q c) (hm : ∀ x, x ∈ q → x = c ∨ ltC c x) : RefInv nx (T ++ [c]) (S ++ [q]) := by
  have hp := (List.pairwise_append.1 hT).2.2
  refine ⟨List.pairwise_append.2 ⟨h.up, List.pairwise_singleton _ _, fun a ha b hb => ?_⟩, fun r hr => ?_, fun Q a hQ ha hmm => ?_⟩
  · rw [List.mem_singleton.1 hb]
    obtain ⟨h1, x, h2, h3⟩ := h.is' a ha
    exact ⟨x, c, h2, hq.head, hp x h3 c (List.mem_singleton.2 rfl)⟩
  · rcases List.mem_append.1 hr with hr | hr
    · obtain ⟨h1, x, h2, h3⟩ := h.is' r hr
      exact ⟨h1, x, h2, List.mem_append_left _ h3⟩
    · rw [List.mem_singleton.1 hr]
      exact ⟨⟨c, hq, hm⟩, c, hq.head, List.mem_append_right _ (List.mem_singleton.2 rfl)⟩
  · rcases List.mem_append.1 hmm with hmm | hmm
    · exact List.mem_append_left _ (h.all Q a hQ ha hmm)
    · rw [List.mem_singleton.1 hmm] at ha
      obtain ⟨h1, _⟩ := canon_head hQ ha
      rw [cyc_unique h1 hq]
      exact List.mem_append_right _ (List.mem_singleton.2 rfl)
/-- When all targets are among the heads, these are all circles. -/
theorem refInv_all {nx : PairP → Option PairP} {T : List PairP} {S : List (List PairP)} (h : RefInv nx T S) (hT : ∀ x y, nx x = some y → y ∈ T) : ∀ Q, Q ∈ S ↔ CanonC nx Q := fun Q =>
  ⟨fun hQ => (h.is' Q hQ).1, fun hQ => by
    obtain ⟨a, ha, hm⟩ := hQ
    obtain ⟨y, _, hy⟩ := cyc_prev ha (List.mem_of_getElem? ha.head)
    exact h.all Q a ⟨a, ha, hm⟩ ha.head (hT y a hy)⟩
end Go.Proofs.YtlbehpbhmmppiaaGreatDoor
namespace Go.Proofs.YtlbehpbhmmppiaaGreatDoor
open Go.RowKit Go.Shelf Go.Sort
attribute [local go_sem] Oper.semAt_some

set_option maxRecDepth 100000 in
theorem refFirst_any (x y : Int × Int) (w : World) :
    Calls Tryz.prog 41 #[.agg #[.int .i64 x.1, .int .i64 x.2], .agg #[.int .i64 y.1, .int .i64 y.2]] w fun e w' => e = .returned (.bool (fstB x y)) ∧ Below w.heap.size w w' := by
  obtain ⟨a, b⟩ := x
  obtain ⟨c, d⟩ := y
  have hB : Below w.heap.size w ((w.alloc (.cells #[.int .i64 a, .int .i64 b] 33)).alloc (.cells #[.int .i64 c, .int .i64 d] 33)) := below_al (below_al (Below.refl _ _) _) _
  dsimp only
  by_cases h1 : a < c
  · have hv : fstB (a, b) (c, d) = true := by simp [fstB, h1]
    rw [hv]
    have d1 : decide (a < c) = true := decide_eq_true h1
    go_enter Tryz.func41, Tryz.ntmps41
    go_wp2_with fail
    go_ret
    exact ⟨rfl, hB⟩
  · have d1 : decide (a < c) = false := decide_eq_false h1
    by_cases h2 : a = c
    · subst h2
      by_cases h3 : b < d
      · have hv : fstB (a, b) (a, d) = true := by simp [fstB, h3]
        rw [hv]
        have d3 : decide (b < d) = true := decide_eq_true h3
        go_enter Tryz.func41, Tryz.ntmps41
        go_wp2_with fail
        go_ret
        exact ⟨rfl, hB⟩
      · have hv : fstB (a, b) (a, d) = false := by simp [fstB, h3]
        rw [hv]
        have d3 : decide (b < d) = false := decide_eq_false h3
        go_enter Tryz.func41, Tryz.ntmps41
        go_wp2_with fail
        go_ret
        exact ⟨rfl, hB⟩
    · have hv : fstB (a, b) (c, d) = false := by simp [fstB, h1, h2]
      rw [hv]
      have d2 : decide (a = c) = false := decide_eq_false h2
      have d4 : (a == c) = false := by simpa using h2
      go_enter Tryz.func41, Tryz.ntmps41
      go_wp2_with fail
      go_ret
      exact ⟨rfl, hB⟩

/-- What stands between two steps of addedPair. -/
def AddS (w W : World) (n : Int × Int) (v : Value) (q : List (Int × Int)) : Prop := OwnC W (w.heap.size + 1) v q ∧ Below w.heap.size w W ∧ Blk W w.heap.size 33 #[.int .i64 n.1, .int .i64 n.2]
theorem AddS.drewN {w W : World} {n : Int × Int} {v : Value} {q : List (Int × Int)} (h : AddS w W n v q) (k : Nat) : AddS w (W.drewN k) n v q := ⟨h.1, below_dr h.2.1 k, h.2.2⟩
theorem AddS.below {w W W' : World} {n : Int × Int} {v : Value} {q : List (Int × Int)} (h : AddS w W n v q) (hb : Below W.heap.size W W') : AddS w W' n v q :=
  ⟨h.1.below hb, h.2.1.trans (hb.mono h.2.1.size), h.2.2.below hb h.2.2.lt⟩
theorem AddS.app {w W : World} {n : Int × Int} {A : Option Addr} {c : Nat} {q : List (Int × Int)} (h : AddS w W n (.slice A q.length c) q) (y : Int × Int) (hq : q.length ≤ 1000) (ty : TypeId) :
    ∃ A2 c2 w', (Builtin.append_ #[30, 30] ty #[.slice A q.length c, .slice (some ⟨W.heap.size, 0, none⟩) 1 1]).run Tryz.prog (W.alloc (.cells #[.int .i64 y.1, .int .i64 y.2] 33)) = .ok (.slice A2 (q.length + 1) c2) w' ∧ AddS w w' n (.slice A2 (q.length + 1) c2) (q ++ [y]) := by
  obtain ⟨h1, h2, h3⟩ := h
  have hz := h3.lt
  obtain ⟨v', w', hrun, hO, hk⟩ := append_cand h1 y (by omega) (by omega) ty
  have hl := h1.own_lt
  obtain ⟨A2, c2, rfl⟩ := hO.shape
  have hlen : (q ++ [y]).length = q.length + 1 := by simp
  rw [hlen] at hrun hO
  refine ⟨A2, c2, w', hrun, hO, h2.trans (hk.below (fun i h4 h5 => by have := (hl i h5).1; omega) h2.size), h3.keep hk (fun h5 => by have := (hl _ h5).1; omega)⟩

set_option maxRecDepth 100000 in
set_option maxHeartbeats 8000000 in
theorem refAddP_any (A : Option Addr) (c : Nat) (m : List (Int × Int)) (n : Int × Int) (hm : m.length ≤ 900) (w : World) (hA : PairsAt w A m) :
    Calls Tryz.prog 22 #[.slice A m.length c, .agg #[.int .i64 n.1, .int .i64 n.2]] w fun e w' => ∃ v, e = .returned v ∧ OwnC w' w.heap.size v (addP m n) ∧ Below w.heap.size w w' := by
  have hS0 : AddS w (w.alloc (.cells #[.int .i64 n.1, .int .i64 n.2] 33)) n (.slice none 0 0) [] := ⟨OwnC.nil _ _, below_al (Below.refl _ _) _, Blk.new w _ _⟩
  go_enter Tryz.func22, Tryz.ntmps22
  go_wp2_with fail
  generalize w.alloc (.cells _ 33) = W0 at hS0 ⊢
  go_loopw [5, 6, 7] (fun v b i wr => ∃ (k : Nat) (bb : Bool) (q : List (Int × Int)) (A' : Option Addr) (c' : Nat), k ≤ m.length ∧ i = .int .i64 k ∧ b = .bool bb ∧ v = .slice A' q.length c' ∧ AddS w wr n (.slice A' q.length c') q ∧ Hid (q ++ (if bb = true then m.drop k else addP (m.drop k) n) = addP m n) ∧ Hid (q.length ≤ k + bb.toNat)) (fun _ _ i _ => m.length - (intOf i).toNat)
  case atStart => exact ⟨0, false, [], none, 0, Nat.zero_le _, rfl, rfl, rfl, hS0, Lib.hid (by simp), Lib.hid (by simp)⟩
  case round =>
    clear hS0
    obtain ⟨k, bb, q, A', c', hk, rfl, rfl, rfl, hS, HQ, HL⟩ := hrel
    by_cases hlt : k < m.length
    · obtain ⟨x, hx⟩ : ∃ x, m[k]? = some x := ⟨_, List.getElem?_eq_getElem hlt⟩
      have HT : Hid (m.drop k = x :: m.drop (k + 1)) := Lib.hid (by rw [List.drop_eq_getElem_cons hlt]; congr 1; rw [List.getElem?_eq_getElem hlt] at hx; exact Option.some.inj hx)
      have hql : q.length ≤ 950 := by have := HL.out; cases bb <;> simp at this <;> omega
      obtain ⟨g, hAg, hg, _, _⟩ := hA k x hx
      subst hAg
      have HX : Hid (∀ W, Below w.heap.size w W → g < W.heap.size ∧ W.cell? ⟨g, k * 2, none⟩ = some (.int .i64 x.1) ∧ W.cell? ⟨g, k * 2 + 1, none⟩ = some (.int .i64 x.2)) := Lib.hid fun W hW => by
        obtain ⟨g', e, h1, h2, h3⟩ := (hA.up hW (Nat.le_refl _)) k x hx
        cases e
        exact ⟨h1, h2, h3⟩
      clear hx hg
      cases bb
      · have hq2 := eqCand n x
        have hq3 := fun a b => noGuardCand .eql a b n x
        unfold candVal at hq2 hq3
        obtain ⟨zg, c0, c1⟩ := HX.out wr hS.2.1
        have n0 := hS.2.2.cell 0
        have n1 := hS.2.2.cell 1
        have zN := hS.2.2.lt
        simp at n0 n1
        have gc0 := fun d' os => cell_regrown c0 d' os
        have gc1 := fun d' os => cell_regrown c1 d' os
        have gm0 := fun d' os => cell_regrown n0 d' os
        have gm1 := fun d' os => cell_regrown n1 d' os
        have HW : Hid (∀ d' os, Below wr.heap.size wr (grow (redrawn wr d') os)) := Lib.hid (fun d' os => below_regrown wr d' os)
        by_cases he : n = x
        · have HCF := Lib.hid (fun W => by have h := refFirst_any n x W; rw [show fstB n x = false by subst he; exact Bool.eq_false_iff.2 (fun h => ltC_irr _ (fstB_iff.1 h))] at h; exact h)
          simp only [decide_eq_true he] at hq2
          have HE : Hid (q ++ [n] ++ (if (true : Bool) = true then m.drop (k + 1) else addP (m.drop (k + 1)) n) = addP m n) := Lib.hid (by have h := HQ.out; rw [HT.out] at h; subst he; simpa [addP] using h)
          have HL2 : Hid (q.length + 1 ≤ k + 1 + (true : Bool).toNat) := Lib.hid (by have := HL.out; simp at this ⊢; omega)
          clear he HQ HL HT
          go_wp2_with fail
          refine wp_region_quiet_below (by kernel_rfl) (by kernel_rfl) ?_
          repeat (go_big_quiet_step (first
            | (go_at_call 41; exact Calls.regrown_of (HCF.out _))))
          refine wpQuiet_nil ?_
          intro _ hw'
          obtain ⟨⟨dq, osq⟩, hw''⟩ := hw'
          subst hw''
          have hSq := hS.below (HW.out dq osq)
          clear gc0 gc1 gm0 gm1 HW c0 c1 n0 n1 zN zg hS HCF
          dsimp only at hSq ⊢
          generalize grow (redrawn wr dq) osq = wq at hSq ⊢
          obtain ⟨zg, c0, c1⟩ := HX.out wq hSq.2.1
          have n0 := hSq.2.2.cell 0
          have n1 := hSq.2.2.cell 1
          have zN := hSq.2.2.lt
          simp at n0 n1
          go_wp2_with fail
          go_quiet (fail)
          have hS8 := hSq.drewN nq
          clear hSq c0 c1 n0 n1 zN zg
          generalize wq.drewN nq = w8 at hS8 ⊢
          obtain ⟨zg, c0, c1⟩ := HX.out w8 hS8.2.1
          have n0 := hS8.2.2.cell 0
          have n1 := hS8.2.2.cell 1
          have zN := hS8.2.2.lt
          simp at n0 n1
          obtain ⟨A9, c9, w9, hrun9, hS9⟩ := hS8.app n (by omega) 30
          clear hS8
          go_wp2_with (first | (at_builtin; refine Lib.wpList_append_run _ rfl _ _ _ _ rfl _ _ rfl rfl _ _ hrun9 ?_))
          clear c0 c1 n0 n1 zN zg
          obtain ⟨zg, c0, c1⟩ := HX.out w9 hS9.2.1
          have n0 := hS9.2.2.cell 0
          have n1 := hS9.2.2.cell 1
          have zN := hS9.2.2.lt
          simp at n0 n1
          go_quiet (fail)
          have hS10 := hS9.drewN nq
          clear hS9 c0 c1 n0 n1 zN zg
          generalize w9.drewN nq = w10 at hS10 ⊢
          go_wp2_with fail
          go_roundw
          case rel => exact ⟨k + 1, true, q ++ [n], A9, c9, by omega, by go_num, rfl, by simp, by simpa using hS10, HE, Lib.hid (by simpa using HL2.out)⟩
          case measure => simp [intOf]; omega
        · simp only [decide_eq_false he] at hq2
          by_cases hf : fstB n x = true
          · have HCF := Lib.hid (fun W => by have h := refFirst_any n x W; rw [hf] at h; exact h)
            have HE : Hid (q ++ [n] ++ [x] ++ (if (true : Bool) = true then m.drop (k + 1) else addP (m.drop (k + 1)) n) = addP m n) := Lib.hid (by have h := HQ.out; rw [HT.out] at h; simpa [addP, he, hf] using h)
            have HL2 : Hid ((q ++ [n] ++ [x]).length ≤ k + 1 + (true : Bool).toNat) := Lib.hid (by have := HL.out; simp at this ⊢; omega)
            clear he hf HQ HL HT
            go_wp2_with fail
            refine wp_region_quiet_below (by kernel_rfl) (by kernel_rfl) ?_
            repeat (go_big_quiet_step (first
              | (go_at_call 41; exact Calls.regrown_of (HCF.out _))))
            refine wpQuiet_nil ?_
            intro _ hw'
            obtain ⟨⟨dq, osq⟩, hw''⟩ := hw'
            subst hw''
            have hSq := hS.below (HW.out dq osq)
            clear gc0 gc1 gm0 gm1 HW c0 c1 n0 n1 zN zg hS HCF
            dsimp only at hSq ⊢
            generalize grow (redrawn wr dq) osq = wq at hSq ⊢
            obtain ⟨zg, c0, c1⟩ := HX.out wq hSq.2.1
            have n0 := hSq.2.2.cell 0
            have n1 := hSq.2.2.cell 1
            have zN := hSq.2.2.lt
            simp at n0 n1
            go_wp2_with fail
            go_quiet (fail)
            have hS8 := hSq.drewN nq
            clear hSq c0 c1 n0 n1 zN zg
            generalize wq.drewN nq = w8 at hS8 ⊢
            obtain ⟨zg, c0, c1⟩ := HX.out w8 hS8.2.1
            have n0 := hS8.2.2.cell 0
            have n1 := hS8.2.2.cell 1
            have zN := hS8.2.2.lt
            simp at n0 n1
            obtain ⟨A9, c9, w9, hrun9, hS9⟩ := hS8.app n (by omega) 30
            clear hS8
            go_wp2_with (first | (at_builtin; refine Lib.wpList_append_run _ rfl _ _ _ _ rfl _ _ rfl rfl _ _ hrun9 ?_))
            clear c0 c1 n0 n1 zN zg
            obtain ⟨zg, c0, c1⟩ := HX.out w9 hS9.2.1
            have n0 := hS9.2.2.cell 0
            have n1 := hS9.2.2.cell 1
            have zN := hS9.2.2.lt
            simp at n0 n1
            go_quiet (fail)
            have hS10 : AddS w (w9.drewN nq) n (.slice A9 (q ++ [n]).length c9) (q ++ [n]) := by simpa using hS9.drewN nq
            clear hS9 c0 c1 n0 n1 zN zg
            generalize w9.drewN nq = w10 at hS10 ⊢
            obtain ⟨zg, c0, c1⟩ := HX.out w10 hS10.2.1
            have n0 := hS10.2.2.cell 0
            have n1 := hS10.2.2.cell 1
            have zN := hS10.2.2.lt
            simp at n0 n1
            obtain ⟨A11, c11, w11, hrun11, hS11⟩ := hS10.app x (by simp; omega) 30
            have hl11 : (q ++ [n]).length = q.length + 1 := by simp
            rw [hl11] at hrun11 hS11
            clear hS10 hl11
            go_wp2_with (first | (at_builtin; refine Lib.wpList_append_run _ rfl _ _ _ _ rfl _ _ rfl rfl _ _ hrun11 ?_))
            go_roundw
            case rel => exact ⟨k + 1, true, q ++ [n] ++ [x], A11, c11, by omega, by go_num, rfl, by simp, by simpa using hS11, HE, HL2⟩
            case measure => simp [intOf]; omega
          · have hf' : fstB n x = false := Bool.eq_false_iff.2 hf
            have HCF := Lib.hid (fun W => by have h := refFirst_any n x W; rw [hf'] at h; exact h)
            have HE : Hid (q ++ [x] ++ (if (false : Bool) = true then m.drop (k + 1) else addP (m.drop (k + 1)) n) = addP m n) := Lib.hid (by have h := HQ.out; rw [HT.out] at h; simpa [addP, he, hf'] using h)
            have HL2 : Hid ((q ++ [x]).length ≤ k + 1 + (false : Bool).toNat) := Lib.hid (by have := HL.out; simp at this ⊢; omega)
            clear he hf hf' HQ HL HT
            go_wp2_with fail
            refine wp_region_quiet_below (by kernel_rfl) (by kernel_rfl) ?_
            repeat (go_big_quiet_step (first
              | (go_at_call 41; exact Calls.regrown_of (HCF.out _))))
            refine wpQuiet_nil ?_
            intro _ hw'
            obtain ⟨⟨dq, osq⟩, hw''⟩ := hw'
            subst hw''
            have hSq := hS.below (HW.out dq osq)
            clear gc0 gc1 gm0 gm1 HW c0 c1 n0 n1 zN zg hS HCF
            dsimp only at hSq ⊢
            generalize grow (redrawn wr dq) osq = wq at hSq ⊢
            obtain ⟨zg, c0, c1⟩ := HX.out wq hSq.2.1
            have n0 := hSq.2.2.cell 0
            have n1 := hSq.2.2.cell 1
            have zN := hSq.2.2.lt
            simp at n0 n1
            go_wp2_with fail
            go_quiet (fail)
            have hS8 := hSq.drewN nq
            clear hSq c0 c1 n0 n1 zN zg
            generalize wq.drewN nq = w8 at hS8 ⊢
            obtain ⟨zg, c0, c1⟩ := HX.out w8 hS8.2.1
            have n0 := hS8.2.2.cell 0
            have n1 := hS8.2.2.cell 1
            have zN := hS8.2.2.lt
            simp at n0 n1
            obtain ⟨A9, c9, w9, hrun9, hS9⟩ := hS8.app x (by omega) 30
            clear hS8
            go_wp2_with (first | (at_builtin; refine Lib.wpList_append_run _ rfl _ _ _ _ rfl _ _ rfl rfl _ _ hrun9 ?_))
            go_roundw
            case rel => exact ⟨k + 1, false, q ++ [x], A9, c9, by omega, by go_num, rfl, by simp, by simpa using hS9, HE, HL2⟩
            case measure => simp [intOf]; omega
      · have HE : Hid (q ++ [x] ++ (if (true : Bool) = true then m.drop (k + 1) else addP (m.drop (k + 1)) n) = addP m n) := Lib.hid (by have h := HQ.out; rw [HT.out] at h; simpa using h)
        have HL2 : Hid ((q ++ [x]).length ≤ k + 1 + (true : Bool).toNat) := Lib.hid (by have := HL.out; simp at this ⊢; omega)
        obtain ⟨zg, c0, c1⟩ := HX.out wr hS.2.1
        obtain ⟨A9, c9, w9, hrun9, hS9⟩ := hS.app x (by omega) 30
        clear HQ HL HT hS
        go_wp2_with (first | (at_builtin; refine Lib.wpList_append_run _ rfl _ _ _ _ rfl _ _ rfl rfl _ _ hrun9 ?_))
        go_roundw
        case rel => exact ⟨k + 1, true, q ++ [x], A9, c9, by omega, by go_num, rfl, by simp, by simpa using hS9, HE, HL2⟩
        case measure => simp [intOf]; omega
    · obtain rfl : k = m.length := by omega
      have HQ' : Hid ((bb = true → q = addP m n) ∧ (bb = false → q ++ [n] = addP m n)) := Lib.hid (by
        have h := HQ.out
        rw [List.drop_length] at h
        constructor
        · intro hb
          subst hb
          simpa using h
        · intro hb
          subst hb
          simpa [addP] using h)
      have hql : q.length ≤ 950 := by have := HL.out; cases bb <;> simp at this <;> omega
      clear HQ HL
      cases bb
      · have n0 := hS.2.2.cell 0
        have n1 := hS.2.2.cell 1
        have zN := hS.2.2.lt
        simp at n0 n1
        obtain ⟨A9, c9, w9, hrun9, hS9⟩ := hS.app n (by omega) 30
        clear hS
        go_wp2_with (first | (at_builtin; refine Lib.wpList_append_run _ rfl _ _ _ _ rfl _ _ rfl rfl _ _ hrun9 ?_))
        go_ret
        refine ⟨_, rfl, ?_, hS9.2.1⟩
        rw [← HQ'.out.2 (by first | rfl | trivial)]
        have h := hS9.1.mono (base' := w.heap.size) (by omega)
        simpa using h
      · go_wp2_with fail
        go_ret
        refine ⟨_, rfl, ?_, hS.2.1⟩
        rw [← HQ'.out.1 (by first | rfl | trivial)]
        exact hS.1.mono (by omega)
end Go.Proofs.YtlbehpbhmmppiaaGreatDoor
