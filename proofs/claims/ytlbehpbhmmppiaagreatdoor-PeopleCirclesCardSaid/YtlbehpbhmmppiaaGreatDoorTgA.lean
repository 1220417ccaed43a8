/- Rows of causes that a call made: what an append of one leaves. No conditions. The targets of a list's orders and inheritances, as a list: where they lead, that each step of a circle is one. No conditions. The contract of targets: the pairs to which orders and inheritances lead, in ascending order. Conditions: the directory lies in memory; at most 2 * 10^12 entries. -/
import Derived.Test.YtlbehpbhmmppiaaGreatDoorSetSA
import Derived.Test.YtlbehpbhmmppiaaGreatDoorHomeA
import Derived.Test.YtlbehpbhmmppiaaGreatDoorFolA
import Derived.Test.YtlbehpbhmmppiaaGreatDoorSetPA
namespace Go.Proofs.YtlbehpbhmmppiaaGreatDoor
open Go.RowKit Go.Shelf

theorem infoCause : (Tryz.prog.info? 84).map (fun i => (i.zero, i.size, i.bytes)) = some (some .nilIface, 1, 16) := by kernel_rfl
theorem causesRow : Tryz.prog.underlying 78 = some (.slice 84) := by kernel_rfl
/-- v is a slice of the causes l in memory of the call's own, from block base on. -/
def OwnV (w : World) (base : Nat) (v : Value) (l : List Value) : Prop := w.ownsRow base 84 1 v l.length l
theorem OwnV.nil (w : World) (base : Nat) : OwnV w base (.slice none 0 0) [] := World.ownsRow_nil _ _ _ _
theorem OwnV.own_lt {w : World} {base : Nat} {v : Value} {l : List Value} (h : OwnV w base v l) : ∀ k, v.ownBlock = some k → base ≤ k ∧ k < w.heap.size := World.ownsRow.lt h
theorem OwnV.cells {w : World} {base : Nat} {v : Value} {l : List Value} (h : OwnV w base v l) : ∀ k, v.ownBlock = some k → ∃ cs, w.heap[k]? = some (.cells cs 84 (0, 0)) := fun k hk => by
  rcases h.2 with ⟨rfl, _⟩ | ⟨g, cap, cur, rfl, _, hg, _⟩
  · simp [Value.ownBlock] at hk
  · simp [Value.ownBlock] at hk
    subst hk
    exact ⟨cur, hg⟩
theorem OwnV.keep {S : Nat → Prop} {w w' : World} {base : Nat} {v : Value} {l : List Value} (h : OwnV w base v l) (hk : Keeps S w w') (hs : ∀ g, v.ownBlock = some g → ¬ S g) : OwnV w' base v l := by
  have hlt := h.own_lt
  unfold OwnV at h ⊢
  refine ⟨h.1, ?_⟩
  rcases h.2 with h0 | ⟨g, cap, cur, rfl, hb, hg, rest⟩
  · exact .inl h0
  · exact .inr ⟨g, cap, cur, rfl, hb, (hk.block g (hlt g rfl).2 (hs g rfl)).trans hg, rest⟩
theorem OwnV.below {w w' : World} {base : Nat} {v : Value} {l : List Value} (h : OwnV w base v l) (hb : Below w.heap.size w w') : OwnV w' base v l :=
  h.keep (S := fun _ => False) (Keeps.of_new hb) (fun _ _ h => h)
theorem OwnV.mono {w : World} {base base' : Nat} {v : Value} {l : List Value} (h : OwnV w base v l) (hb : base' ≤ base) : OwnV w base' v l := by
  refine ⟨h.1, ?_⟩
  rcases h.2 with h0 | ⟨g, cap, cur, rfl, hg, rest⟩
  · exact .inl h0
  · exact .inr ⟨g, cap, cur, rfl, Nat.le_trans hb hg, rest⟩
theorem OwnV.shape {w : World} {base : Nat} {v : Value} {l : List Value} (h : OwnV w base v l) : ∃ A c, v = .slice A l.length c := by
  rcases h.2 with ⟨rfl, h0⟩ | ⟨g, cap, cur, rfl, _⟩
  · exact ⟨none, 0, by rw [h0]⟩
  · exact ⟨_, cap, rfl⟩
theorem OwnV.grown {w w' : World} {base : Nat} {v : Value} {l : List Value} {row : Option Nat} (h : OwnV w base v l) (hg : w.grownBy w' row) (hr : ∀ r, row = some r → ∃ o : Obj, w.heap[r]? = some o ∧ o.isCells = false) : OwnV w' base v l := by
  have hc := h.cells
  unfold OwnV at h ⊢
  refine World.ownsRow.kept h hg ?_
  rcases h.2 with ⟨rfl, _⟩ | ⟨g, cap, cur, rfl, _, hgb, _⟩
  · exact .inl rfl
  · refine .inr fun e' => ?_
    obtain ⟨o, ho, hw⟩ := hr g (by simpa [Value.ownBlock] using e'.symm)
    rw [hgb] at ho
    cases ho
    cases hw
theorem append_cause {w : World} {base : Nat} {v : Value} {l : List Value} (h : OwnV w base v l) (t : TypeId) (x : Value) (hbase : base ≤ w.heap.size) (hlen : l.length ≤ 2000000000000) (ty : TypeId) :
    ∃ v' w', (Builtin.append_ #[78, 78] ty #[v, .slice (some ⟨w.heap.size, 0, none⟩) 1 1]).run Tryz.prog (w.alloc (.cells #[.iface t x] 84)) = .ok v' w' ∧ OwnV w' base v' (l ++ [.iface t x]) ∧ Keeps (fun i => v.ownBlock = some i) w w' := by
  obtain ⟨i0, hi, hz0, hz1, hz2⟩ := info_parts infoCause
  have h1 : (w.alloc (.cells #[.iface t x] 84)).ownsRow base 84 1 v l.length l := OwnV.keep h ((Keeps.refl (fun _ => False) w).alloc _) (fun _ _ h => h)
  have hc : ∀ j u, [Value.iface t x][j]? = some u → (w.alloc (.cells #[.iface t x] 84)).cell? ((⟨w.heap.size, 0, none⟩ : Addr).add j) = some u := by
    intro j u hj
    rcases j with _ | j
    · simp at hj
      subst hj
      exact (Blk.new w 84 #[.iface t x]).cell 0
    · simp at hj
  obtain ⟨v', w', hrun, hO, hg, _, _⟩ := run_append_own_at (P := Tryz.prog) (w.alloc (.cells #[.iface t x] 84)) base 78 ty 84 i0 _ 1 16 causesRow hi hz0 hz1 hz2 rfl (by decide) v l.length _ h1 ⟨w.heap.size, 0, none⟩ 1 1 [.iface t x] rfl hc (fun u hu => by simp at hu; subst hu; rfl) (by unfold maxLen; omega) (by omega) (by simp; omega)
  refine ⟨v', w', hrun, ?_, ((Keeps.refl (fun i => v.ownBlock = some i) w).alloc _).trans (Keeps.of_grown (S := fun i => v.ownBlock = some i) hg (fun k hk _ => hk)) (fun i _ h => h)⟩
  unfold OwnV
  rw [List.length_append]
  exact hO
/-- The causes vs lie behind A. -/
def CausesAt (w : World) (A : Option Addr) (vs : List Value) : Prop := ∀ k v, vs[k]? = some v → ∃ g, A = some ⟨g, 0, none⟩ ∧ g < w.heap.size ∧ w.cell? ⟨g, k, none⟩ = some v
theorem OwnV.at {w : World} {base : Nat} {A : Option Addr} {c : Nat} {l : List Value} (h : OwnV w base (.slice A l.length c) l) : CausesAt w A l ∧ ∀ g off, A = some ⟨g, off, none⟩ → base ≤ g := by
  have hl := h.own_lt
  refine ⟨fun k x hx => ?_, fun g off e => ?_⟩
  · have hk := (List.getElem?_eq_some_iff.1 hx).1
    unfold OwnV at h
    rcases h.2 with ⟨h1, h2⟩ | ⟨g, cap, cur, h1, hb, hg, _⟩
    · omega
    · simp only [Value.slice.injEq] at h1
      obtain ⟨rfl, _, rfl⟩ := h1
      refine ⟨g, rfl, (hl g rfl).2, ?_⟩
      rw [h.cellAt k (by omega), hx]
  · subst e
    rcases h.2 with ⟨h1, h2⟩ | ⟨g', cap, cur, h1, hb, hg, _⟩
    · cases h1
    · simp only [Value.slice.injEq, Option.some.injEq, Addr.mk.injEq] at h1
      obtain ⟨⟨rfl, _⟩, _⟩ := h1
      exact hb
theorem CausesAt.keep {S : Nat → Prop} {w w' : World} {A : Option Addr} {vs : List Value} (h : CausesAt w A vs) (hk : Keeps S w w') (hS : ∀ g off, A = some ⟨g, off, none⟩ → ¬ S g) : CausesAt w' A vs := fun k v hv => by
  obtain ⟨g, h1, h2, h3⟩ := h k v hv
  exact ⟨g, h1, Nat.lt_of_lt_of_le h2 hk.size, (hk.cell h2 (hS g 0 h1)).trans h3⟩
/-- A block that holds a row of causes of the call's own. -/
def GotV (Bs base : Nat) (vs : List Value) (W : World) : Prop := ∃ v, Blk W Bs 78 #[v] ∧ OwnV W base v vs
theorem gotV_own {β : Type} (B Bs base : Nat) (f : β → List Value) : OwnFrom B (fun s W => GotV Bs base (f s) W) := fun s X Y row hs hg hr => by
  obtain ⟨v, h1, h2⟩ := hs
  exact ⟨v, (blk_own Bs _ (fun (_ : Unit) => #[v])).from B () X Y row h1 hg hr, h2.grown hg (fun r e => (hr r e).2)⟩
theorem GotV.below {Bs base : Nat} {vs : List Value} {w w' : World} (h : GotV Bs base vs w) (hb : Below w.heap.size w w') : GotV Bs base vs w' := by
  obtain ⟨v, h1, h2⟩ := h
  exact ⟨v, h1.below hb h1.lt, h2.below hb⟩
/-- A cause: a redirection, an inheritance. -/
def redV (x : OEnt) : Value := .iface 80 (.agg (entCells x.1).toArray)
def inhV (x : OEnt) : Value := .iface 82 (.agg #[.int .i64 x.1.other])
end Go.Proofs.YtlbehpbhmmppiaaGreatDoor
namespace Go.Proofs.YtlbehpbhmmppiaaGreatDoor
open Go.RowKit Go.Shelf

/-- Where a cause leads, and whether it does. -/
def leadOf (l : List OEnt) (d : Int) (y : Bool × OEnt) : (Int × Int) × Bool := if y.1 = true then targetOf (deadOf l d) l d y.2.1 else reachedOf (deadOf l d) l d y.2.1.other
/-- The causes of a day: redirections, inheritances. -/
def causesOf (l : List OEnt) (d : Int) : List (Bool × OEnt) := (flt l 5 d).map (fun x => (true, x)) ++ (flt l 4 d).map (fun x => (false, x))
def cvV (y : Bool × OEnt) : Value := if y.1 = true then redV y.2 else inhV y.2
theorem causes_vals (l : List OEnt) (d : Int) : (causesOf l d).map cvV = (flt l 5 d).map redV ++ (flt l 4 d).map inhV := by
  unfold causesOf
  rw [List.map_append, List.map_map, List.map_map]
  rfl
/-- The pairs to which some causes lead. -/
def tgsOf (l : List OEnt) (d : Int) (ys : List (Bool × OEnt)) : List (Int × Int) := (ys.filter (fun y => (leadOf l d y).2)).map (fun y => (leadOf l d y).1)
theorem tgs_nil (l : List OEnt) (d : Int) : tgsOf l d [] = [] := rfl
theorem tgs_take {l : List OEnt} {d : Int} {ys : List (Bool × OEnt)} {y : Bool × OEnt} (h : (leadOf l d y).2 = true) : tgsOf l d (ys ++ [y]) = tgsOf l d ys ++ [(leadOf l d y).1] := by
  unfold tgsOf
  rw [List.filter_append, List.map_append]
  simp [h]
theorem tgs_skip {l : List OEnt} {d : Int} {ys : List (Bool × OEnt)} {y : Bool × OEnt} (h : (leadOf l d y).2 = false) : tgsOf l d (ys ++ [y]) = tgsOf l d ys := by
  unfold tgsOf
  rw [List.filter_append, List.map_append]
  simp [h]
theorem tgs_len (l : List OEnt) (d : Int) (ys : List (Bool × OEnt)) : (tgsOf l d ys).length ≤ ys.length := by
  unfold tgsOf
  rw [List.length_map]
  exact List.length_filter_le _ _
theorem flt_two (l : List OEnt) (d : Int) : (flt l 5 d).length + (flt l 4 d).length ≤ l.length := by
  unfold flt
  induction l with
  | nil => simp
  | cons x l ih =>
    simp only [List.filter_cons]
    by_cases h5 : (x.1.kind == 5 && hld x.1 d) = true
    · have h4 : ¬ (x.1.kind == 4 && hld x.1 d) = true := by
        simp at h5 ⊢
        intro h
        omega
      rw [if_pos h5, if_neg h4]
      simp only [List.length_cons]
      omega
    · rw [if_neg h5]
      split <;> simp only [List.length_cons] <;> omega
theorem causes_len (l : List OEnt) (d : Int) : (causesOf l d).length ≤ l.length := by
  unfold causesOf
  rw [List.length_append, List.length_map, List.length_map]
  exact flt_two l d
theorem lead_int {l : List OEnt} {d : Int} (hI : ∀ x ∈ l, intB x.1.place ∧ intB x.1.at') {y : Bool × OEnt} (hy : y.2 ∈ l) : intB (leadOf l d y).1.1 ∧ intB (leadOf l d y).1.2 := by
  unfold leadOf
  split
  · unfold targetOf
    split
    · exact ⟨y.2.2.2.2.1, (hI y.2 hy).2⟩
    · exact reached_int hI y.2.2.2.2.1
  · exact reached_int hI y.2.2.2.2.1
theorem causes_in {l : List OEnt} {d : Int} {y : Bool × OEnt} (h : y ∈ causesOf l d) : y.2 ∈ l ∧ ((y.1 = true ∧ y.2.1.kind = 5) ∨ (y.1 = false ∧ y.2.1.kind = 4)) := by
  unfold causesOf at h
  rcases List.mem_append.1 h with h | h
  · obtain ⟨x, hx, rfl⟩ := List.mem_map.1 h
    have hx' := List.mem_filter.1 hx
    have := hx'.2
    simp at this
    exact ⟨hx'.1, .inl ⟨rfl, this.1⟩⟩
  · obtain ⟨x, hx, rfl⟩ := List.mem_map.1 h
    have hx' := List.mem_filter.1 hx
    have := hx'.2
    simp at this
    exact ⟨hx'.1, .inr ⟨rfl, this.1⟩⟩
theorem tgs_int {l : List OEnt} {d : Int} (hI : ∀ x ∈ l, intB x.1.place ∧ intB x.1.at') : IntsC (tgsOf l d (causesOf l d)) := fun c hc => by
  obtain ⟨y, hy, rfl⟩ := List.mem_map.1 hc
  exact lead_int hI (causes_in (List.mem_filter.1 hy).1).1
/-- All targets of a day. -/
def targetsOf (l : List OEnt) (d : Int) : List (Int × Int) := tgsOf l d (causesOf l d)
theorem targets_in {l : List OEnt} {d : Int} {c : Int × Int} (h : c ∈ targetsOf l d) : c ∈ l.map (tgOf l d) := by
  obtain ⟨y, hy, rfl⟩ := List.mem_map.1 h
  obtain ⟨h1, h2⟩ := causes_in (List.mem_filter.1 hy).1
  refine List.mem_map.2 ⟨y.2, h1, ?_⟩
  unfold tgOf leadOf
  rcases h2 with ⟨h2, h3⟩ | ⟨h2, h3⟩
  · rw [if_neg (by omega), if_pos h2]
  · rw [if_pos h3, if_neg (by rw [h2]; simp)]
theorem orderOf_flt (dead canc : Int → Bool) (l : List OEnt) (d : Int) (c : Int × Int) (h : (orderOf dead canc l d c).2 = true) : ∃ x ∈ flt l 5 d, (orderOf dead canc l d c).1 = x.1 := by
  unfold orderOf at h ⊢
  by_cases hd : dead c.1 = true
  · rw [if_pos hd] at h; cases h
  · rw [if_neg hd] at h ⊢
    exact foldP (fun s : Ent × Bool => s.2 = true → ∃ x ∈ flt l 5 d, s.1 = x.1) (stepO dead canc l d c) (flt l 5 d) (zeroEnt, false) (fun h => by cases h) (fun s x hx hs h' => by
      unfold stepO at h' ⊢
      split
      · exact ⟨x, hx, rfl⟩
      · rename_i hn; rw [if_neg hn] at h'; exact hs h') h
theorem hop_target {l : List OEnt} {d : Int} {c : Int × Int} (h : (hopAt l d c).2 = true) : (hopAt l d c).1.2.1 ∈ targetsOf l d := by
  unfold hopAt hopOf at h ⊢
  split at h
  · rename_i hh
    rw [if_pos hh]
    have hb : (heirOf l d c.1).2 = true := by revert hh; cases (heirOf l d c.1).2 <;> simp
    obtain ⟨x, hx, he⟩ := lastOf_mem (·.other) c.1 (flt l 4 d) hb
    have he' : (heirOf l d c.1).1 = x.1.other := he
    refine List.mem_map.2 ⟨(false, x), List.mem_filter.2 ⟨List.mem_append_right _ (List.mem_map.2 ⟨x, hx, rfl⟩), ?_⟩, ?_⟩
    · show (reachedOf (deadOf l d) l d x.1.other).2 = true
      rw [← he']
      exact h
    · show (reachedOf (deadOf l d) l d x.1.other).1 = _
      rw [← he']
  · rename_i hh
    rw [if_neg hh]
    split at h
    · rename_i h2
      rw [if_pos h2]
      obtain ⟨x, hx, he⟩ := orderOf_flt _ _ l d c h2
      refine List.mem_map.2 ⟨(true, x), List.mem_filter.2 ⟨List.mem_append_left _ (List.mem_map.2 ⟨x, hx, rfl⟩), ?_⟩, ?_⟩
      · show (targetOf (deadOf l d) l d x.1).2 = true
        rw [← he]
        exact h
      · show (targetOf (deadOf l d) l d x.1).1 = _
        rw [← he]
    · cases h
end Go.Proofs.YtlbehpbhmmppiaaGreatDoor
namespace Go.Proofs.YtlbehpbhmmppiaaGreatDoor
open Go.RowKit Go.Shelf
attribute [local go_sem] Oper.semAt_some

theorem methI (n : Nat) (h : n ≠ 0) (z : Int) (w : World) : (method n 82 (.agg #[.int .i64 z]) "restante/people.target").run Tryz.prog w = .ok (46, .agg #[.int .i64 z]) w := by
  cases n with
  | zero => exact absurd rfl h
  | succ n => kernel_rfl
theorem methR (n : Nat) (h : n ≠ 0) (x : Ent) (w : World) : (method n 80 (.agg (entCells x).toArray) "restante/people.target").run Tryz.prog w = .ok (47, .agg (entCells x).toArray) w := by
  cases n with
  | zero => exact absurd rfl h
  | succ n => kernel_rfl

set_option maxRecDepth 100000 in
set_option maxHeartbeats 8000000 in
theorem targets_any (A : Option Addr) (c : Nat) (l : List OEnt) (d : Int) (hI : ∀ x ∈ l, intB x.1.place ∧ intB x.1.at') (h60 : l.length ≤ 2000000000000) (b1 b2 : Nat) (w : World) (hD : DirIn w A l b1 b2 (deadOf l d) (cancOf l d)) :
    Calls Tryz.prog 15 #[dirVal A l.length c d (some b1) (some b2)] w fun e w' =>
      ∃ A' c' r, e = .returned (.slice A' r.length c') ∧ PairsAt w' A' r ∧ Hid (r.Pairwise ltC ∧ ∀ x, x ∈ r ↔ x ∈ targetsOf l d) ∧ r.length ≤ l.length ∧ Below w.heap.size w w' := by
  have hf1 : (flt l 5 d).length ≤ l.length := List.length_filter_le _ _
  have hf2 : (flt l 4 d).length ≤ l.length := List.length_filter_le _ _
  have hlen := hD.len
  have hmm := @run_makeMap Tryz.prog
  have hmI := methI
  have hmR := methR
  unfold dirVal
  refine (callsIn_wide (n := 9)).1 (callsIn_of_wp_marks Tryz.func15 rfl trivial ?_ rfl)
  simp only [Tryz.ntmps15, List.size_toArray, List.length_cons, List.length_nil, Nat.reduceAdd, Nat.reduceSub, Array.replicate_succ, Array.replicate_zero, List.push_toArray, List.append_toArray, List.nil_append, List.cons_append]
  gi_wp2_with (refine ⟨trivial, ?_⟩; gi_at_call 32; refine (each_any _ A l.length c d 5 (some b1) (some b2) _).mono ?_; rintro e w' ⟨rfl, rfl⟩)
  simp only [Nat.add_assoc, Nat.reduceAdd]
  refine wpIn_gen4 ?_
  intro W0 hB0 hz0 k0 k1 k2 k3
  refine wpIn_eachL (by omega) 4 w.heap.size (w.heap.size + 2) (w.heap.size + 3) A c l 5 d (some b1) (some b2) rfl (by omega) hlen k2 k3 (hD.list.below hB0)
    (fun pre W => (Blk W w.heap.size 49 #[.slice A l.length c, .int .i64 d, .map (some b1), .map (some b2)] ∧ GotV (w.heap.size + 1) (w.heap.size + 4) (pre.map redV) W) ∧ (Below w.heap.size w W ∧ W0.heap.size ≤ W.heap.size))
    (fun _ _ _ => False) ?_ (fun _ _ _ _ _ hs _ _ => hs) ⟨⟨k0, _, k1, World.ownsRow_nil _ _ _ _⟩, hB0, Nat.le_refl _⟩ (fun pre W hs => hs.2.2) ?_ ?_ ?_ ?_
  · exact .and (.and (Own.from (blk_own _ _ _) _) (gotV_own _ _ _ (fun (pre : List OEnt) => pre.map redV))) (.and (ownFrom_below (Nat.le_refl _) (by omega)) (size_own _ _))
  · intro lp x W K hK
    unfold entVal entCells at *
    simp only [List.setIfInBounds_toArray, List.set_cons_succ, List.set_cons_zero] at hK ⊢
    gi_wp2
    exact hK
  · rintro lp pre x Bx W hBx hx ⟨⟨bD, v, bV, hO⟩, hB, hz⟩ hlt
    obtain ⟨c0, c1, c2, c3, c4, c5, c6, c7, c8, c9, zx⟩ := hx.cells
    have e0 := bV.cell 0
    have e1 := bV.frozen 0
    have z0 := bV.lt
    simp at e0
    obtain ⟨v', w3, hrun, hO3, hk3⟩ := append_cause hO 80 (.agg (entCells x.1).toArray) (by omega) (by rw [List.length_map]; omega) 78
    have HO3 : Hid (OwnV w3 (w.heap.size + 4) v' ((pre ++ [x]).map redV)) := Lib.hid (by rw [List.map_append]; exact hO3)
    obtain ⟨A3, c3', hv3⟩ := hO3.shape
    have hl3 : ((pre.map redV) ++ [Value.iface 80 (.agg (entCells x.1).toArray)]).length = pre.length + 1 := by simp
    rw [hl3] at hv3
    subst hv3
    have hown := hO.own_lt
    have hcells := hO.cells
    have hown3 := hO3.own_lt
    have bV3 : Blk w3 (w.heap.size + 1) 78 #[v] := (hk3.block _ z0 (fun h => by have := (hown _ h).1; omega)).trans bV
    have bD3 := bD.keep hk3 (fun h => by have := (hown _ h).1; omega)
    have e3 := bV3.cell 0
    have f3 := bV3.frozen 0
    have z3 := bV3.lt
    simp at e3
    have hk4 : Keeps (fun i => v.ownBlock = some i ∨ i = w.heap.size + 1) W (w3.setCell ⟨w.heap.size + 1, 0, none⟩ (.slice A3 (pre.length + 1) c3')) := (hk3.mono (fun _ _ h => .inl h)).setCell (p := ⟨w.heap.size + 1, 0, none⟩) (fun _ => .inr rfl) _
    have hKO := keepsO_row hk4 (fun i hi hl => by
      rcases hi with hi | hi
      · obtain ⟨cs, h⟩ := hcells i hi
        exact ⟨cs, _, _, h⟩
      · subst hi
        exact ⟨_, _, _, bV⟩)
    have hB4 : Below w.heap.size w (w3.setCell ⟨w.heap.size + 1, 0, none⟩ (.slice A3 (pre.length + 1) c3')) := hB.trans (hk4.below (fun k hk h => by
      rcases h with h | h
      · have := (hown k h).1; omega
      · omega) hB.size)
    have hz4 : W0.heap.size ≤ (w3.setCell ⟨w.heap.size + 1, 0, none⟩ (.slice A3 (pre.length + 1) c3')).heap.size := Nat.le_trans hz hk4.size
    have hKM : Keeps (mineS w.heap.size (w.heap.size + 2) (w.heap.size + 3)) W (w3.setCell ⟨w.heap.size + 1, 0, none⟩ (.slice A3 (pre.length + 1) c3')) := hk4.mono (fun i _ h => by
      rcases h with h | h
      · have := (hown i h).1; exact ⟨by omega, by omega, by omega⟩
      · subst h; exact ⟨by omega, by omega, by omega⟩)
    have hG4 : GotV (w.heap.size + 1) (w.heap.size + 4) ((pre ++ [x]).map redV) (w3.setCell ⟨w.heap.size + 1, 0, none⟩ (.slice A3 (pre.length + 1) c3')) := by
      refine ⟨.slice A3 (pre.length + 1) c3', ?_, HO3.out.keep ((Keeps.refl (fun i => i = w.heap.size + 1) w3).setCell (p := ⟨w.heap.size + 1, 0, none⟩) (fun _ => rfl) _) (fun g h1 h2 => by have := (hown3 g h1).1; omega)⟩
      have := bV3.set 0 (.slice A3 (pre.length + 1) c3')
      simpa using this
    have bD4 := bD3.far (p := ⟨w.heap.size + 1, 0, none⟩) (by simp) (.slice A3 (pre.length + 1) c3')
    have HE : Hid (KeepsFrom W0.heap.size W (w3.setCell ⟨w.heap.size + 1, 0, none⟩ (.slice A3 (pre.length + 1) c3')) ∧ Keeps (mineS w.heap.size (w.heap.size + 2) (w.heap.size + 3)) W (w3.setCell ⟨w.heap.size + 1, 0, none⟩ (.slice A3 (pre.length + 1) c3')) ∧ (Blk (w3.setCell ⟨w.heap.size + 1, 0, none⟩ (.slice A3 (pre.length + 1) c3')) w.heap.size 49 #[.slice A l.length c, .int .i64 d, .map (some b1), .map (some b2)] ∧ GotV (w.heap.size + 1) (w.heap.size + 4) ((pre ++ [x]).map redV) (w3.setCell ⟨w.heap.size + 1, 0, none⟩ (.slice A3 (pre.length + 1) c3'))) ∧ (Below w.heap.size w (w3.setCell ⟨w.heap.size + 1, 0, none⟩ (.slice A3 (pre.length + 1) c3')) ∧ W0.heap.size ≤ (w3.setCell ⟨w.heap.size + 1, 0, none⟩ (.slice A3 (pre.length + 1) c3')).heap.size)) := Lib.hid ⟨hKO.from W0.heap.size, hKM, ⟨bD4, hG4⟩, hB4, hz4⟩
    unfold entCells at hrun
    clear hO hO3 HO3 hk3 hk4 hKO hB4 hG4 bD4 hKM hown hown3 hcells bD bD3 hl3 bV3 hz4 hx
    gi_wp2_with (gi_at_builtin; refine wpListIn_app _ rfl _ _ 78 rfl hrun ?_)
    exact HE.out
  · rintro D W hD' ⟨⟨bD, v, bV, hO⟩, hB, hz⟩ hK
    have d0 := bD.cell 0
    have d1 := bD.cell 1
    have d2 := bD.cell 2
    have d3 := bD.cell 3
    have zD := bD.lt
    simp at d0 d1 d2 d3
    have hDl : D < W.heap.size := (Array.getElem?_eq_some_iff.1 hK).1
    gi_wp2_with (refine ⟨trivial, ?_⟩; gi_at_call 32; refine (each_any _ A l.length c d 4 (some b1) (some b2) _).mono ?_; rintro e w' ⟨rfl, rfl⟩)
    have hK1 : ((W.alloc (.cells (dirCells A l.length c d (some b1) (some b2)) 49)).alloc (.cells #[.int .u8 4] 5)).heap[D]? = some (.deferred (some [])) := at_al (at_al hK)
    have kd := at_al (o' := (.cells #[.int .u8 4] 5)) (at_new (W := W) (o := (.cells (dirCells A l.length c d (some b1) (some b2)) 49)) rfl)
    have kk := at_new (W := W.alloc (.cells (dirCells A l.length c d (some b1) (some b2)) 49)) (o := (.cells #[.int .u8 4] 5)) (k := W.heap.size + 1) (by simp)
    have hB2 : Below w.heap.size w ((W.alloc (.cells (dirCells A l.length c d (some b1) (some b2)) 49)).alloc (.cells #[.int .u8 4] 5)) := below_al (below_al hB _) _
    have hz2 : ((W.alloc (.cells (dirCells A l.length c d (some b1) (some b2)) 49)).alloc (.cells #[.int .u8 4] 5)).heap.size = W.heap.size + 2 := by simp
    have bD2 := (bD.alloc (.cells (dirCells A l.length c d (some b1) (some b2)) 49)).alloc (.cells #[.int .u8 4] 5)
    have hG2 : GotV (w.heap.size + 1) (w.heap.size + 4) ((flt l 5 d).map redV ++ ([] : List OEnt).map inhV) ((W.alloc (.cells (dirCells A l.length c d (some b1) (some b2)) 49)).alloc (.cells #[.int .u8 4] 5)) := by
      rw [List.map_nil, List.append_nil]
      exact (GotV.below ⟨v, bV, hO⟩ ((Below.refl _ _).alloc (Nat.le_refl _) (.cells (dirCells A l.length c d (some b1) (some b2)) 49) |>.alloc (by simp) (.cells #[.int .u8 4] 5)))
    clear bD bV hO d0 d1 d2 d3 zD
    generalize (W.alloc (.cells (dirCells A l.length c d (some b1) (some b2)) 49)).alloc (.cells #[.int .u8 4] 5) = V at hK1 kd kk hB2 hz2 bD2 hG2 ⊢
    have hDV : D < V.heap.size := by omega
    refine wpIn_eachL (by omega) 5 w.heap.size W.heap.size (W.heap.size + 1) A c l 4 d (some b1) (some b2) rfl (by omega) hlen kd kk (hD.list.below hB2)
      (fun pre U => (Blk U w.heap.size 49 #[.slice A l.length c, .int .i64 d, .map (some b1), .map (some b2)] ∧ GotV (w.heap.size + 1) (w.heap.size + 4) ((flt l 5 d).map redV ++ pre.map inhV) U ∧ Blk U W.heap.size 49 (dirCells A l.length c d (some b1) (some b2)) ∧ Blk U (W.heap.size + 1) 5 #[.int .u8 4] ∧ (D < U.heap.size ∧ U.heap[D]? = some (.deferred (some [])))) ∧ (Below w.heap.size w U ∧ V.heap.size ≤ U.heap.size))
      (fun _ _ _ => False) ?_ (fun _ _ _ _ _ hs _ _ => hs) ⟨⟨bD2, hG2, kd, kk, hDV, hK1⟩, hB2, Nat.le_refl _⟩ (fun pre W hs => hs.2.2) ?_ ?_ ?_ ?_
    · exact .and (.and (Own.from (blk_own _ _ _) _) (.and (gotV_own _ _ _ (fun (pre : List OEnt) => (flt l 5 d).map redV ++ pre.map inhV)) (.and (Own.from (blk_own _ _ _) _) (.and (Own.from (blk_own _ _ _) _) (heap_own hDV))))) (.and (ownFrom_below (Nat.le_refl _) (by omega)) (size_own _ _))
    · intro lp x W K hK
      unfold entVal entCells at *
      simp only [List.setIfInBounds_toArray, List.set_cons_succ, List.set_cons_zero] at hK ⊢
      gi_wp2
      exact hK
    · rintro lp pre x Bx U hBx hx ⟨⟨bD, ⟨v, bV, hO⟩, bK, bJ, hDU, hKU⟩, hB, hz⟩ hlt
      obtain ⟨c0, c1, c2, c3, c4, c5, c6, c7, c8, c9, zx⟩ := hx.cells
      have e0 := bV.cell 0
      have e1 := bV.frozen 0
      have z0 := bV.lt
      simp at e0
      obtain ⟨v', w3, hrun, hO3, hk3⟩ := append_cause hO 82 (.agg #[.int .i64 x.1.other]) (by omega) (by rw [List.length_append, List.length_map, List.length_map]; have := flt_two l d; omega) 78
      have HO3 : Hid (OwnV w3 (w.heap.size + 4) v' ((flt l 5 d).map redV ++ (pre ++ [x]).map inhV)) := Lib.hid (by rw [List.map_append, ← List.append_assoc]; exact hO3)
      obtain ⟨A3, c3', hv3⟩ := hO3.shape
      have hl3 : ((flt l 5 d).map redV ++ pre.map inhV ++ [Value.iface 82 (.agg #[.int .i64 x.1.other])]).length = (flt l 5 d).length + (pre.length + 1) := by simp
      rw [hl3] at hv3
      subst hv3
      have hown := hO.own_lt
      have hcells := hO.cells
      have hown3 := hO3.own_lt
      have hnK : ∀ k, v.ownBlock = some k → k ≠ W.heap.size ∧ k ≠ W.heap.size + 1 := fun k hk => by
        obtain ⟨cs, h⟩ := hcells k hk
        constructor
        · rintro rfl
          have h2 : U.heap[W.heap.size]? = _ := bK
          rw [h] at h2
          simp at h2
        · rintro rfl
          have h2 : U.heap[W.heap.size + 1]? = _ := bJ
          rw [h] at h2
          simp at h2
      have bV3 : Blk w3 (w.heap.size + 1) 78 #[v] := (hk3.block _ z0 (fun h => by have := (hown _ h).1; omega)).trans bV
      have bD3 := bD.keep hk3 (fun h => by have := (hown _ h).1; omega)
      have bK3 := bK.keep hk3 (fun h => (hnK _ h).1 rfl)
      have bJ3 := bJ.keep hk3 (fun h => (hnK _ h).2 rfl)
      have hDn : v.ownBlock ≠ some D := fun e => by
        obtain ⟨cs, h⟩ := hcells D e
        rw [hKU] at h
        cases h
      have hKU3 : w3.heap[D]? = some (.deferred (some [])) := (hk3.block D hDU hDn).trans hKU
      have e3 := bV3.cell 0
      have f3 := bV3.frozen 0
      have z3 := bV3.lt
      simp at e3
      have hk4 : Keeps (fun i => v.ownBlock = some i ∨ i = w.heap.size + 1) U (w3.setCell ⟨w.heap.size + 1, 0, none⟩ (.slice A3 ((flt l 5 d).length + (pre.length + 1)) c3')) := (hk3.mono (fun _ _ h => .inl h)).setCell (p := ⟨w.heap.size + 1, 0, none⟩) (fun _ => .inr rfl) _
      have hKO := keepsO_row hk4 (fun i hi hl => by
        rcases hi with hi | hi
        · obtain ⟨cs, h⟩ := hcells i hi
          exact ⟨cs, _, _, h⟩
        · subst hi
          exact ⟨_, _, _, bV⟩)
      have hB4 : Below w.heap.size w (w3.setCell ⟨w.heap.size + 1, 0, none⟩ (.slice A3 ((flt l 5 d).length + (pre.length + 1)) c3')) := hB.trans (hk4.below (fun k hk h => by
        rcases h with h | h
        · have := (hown k h).1; omega
        · omega) hB.size)
      have hz4 : V.heap.size ≤ (w3.setCell ⟨w.heap.size + 1, 0, none⟩ (.slice A3 ((flt l 5 d).length + (pre.length + 1)) c3')).heap.size := Nat.le_trans hz hk4.size
      have hKM : Keeps (mineS w.heap.size W.heap.size (W.heap.size + 1)) U (w3.setCell ⟨w.heap.size + 1, 0, none⟩ (.slice A3 ((flt l 5 d).length + (pre.length + 1)) c3')) := hk4.mono (fun i _ h => by
        rcases h with h | h
        · have := (hown i h).1; have := hnK i h; exact ⟨by omega, by omega, by omega⟩
        · subst h; exact ⟨by omega, by omega, by omega⟩)
      have hG4 : GotV (w.heap.size + 1) (w.heap.size + 4) ((flt l 5 d).map redV ++ (pre ++ [x]).map inhV) (w3.setCell ⟨w.heap.size + 1, 0, none⟩ (.slice A3 ((flt l 5 d).length + (pre.length + 1)) c3')) := by
        refine ⟨.slice A3 ((flt l 5 d).length + (pre.length + 1)) c3', ?_, HO3.out.keep ((Keeps.refl (fun i => i = w.heap.size + 1) w3).setCell (p := ⟨w.heap.size + 1, 0, none⟩) (fun _ => rfl) _) (fun g h1 h2 => by have := (hown3 g h1).1; omega)⟩
        have := bV3.set 0 (.slice A3 ((flt l 5 d).length + (pre.length + 1)) c3')
        simpa using this
      have bD4 := bD3.far (p := ⟨w.heap.size + 1, 0, none⟩) (by simp) (.slice A3 ((flt l 5 d).length + (pre.length + 1)) c3')
      have bK4 := bK3.far (p := ⟨w.heap.size + 1, 0, none⟩) (by simp; omega) (.slice A3 ((flt l 5 d).length + (pre.length + 1)) c3')
      have bJ4 := bJ3.far (p := ⟨w.heap.size + 1, 0, none⟩) (by simp; omega) (.slice A3 ((flt l 5 d).length + (pre.length + 1)) c3')
      have hDU4 : D < (w3.setCell ⟨w.heap.size + 1, 0, none⟩ (.slice A3 ((flt l 5 d).length + (pre.length + 1)) c3')).heap.size := Nat.lt_of_lt_of_le hDU hk4.size
      have hKU4 : (w3.setCell ⟨w.heap.size + 1, 0, none⟩ (.slice A3 ((flt l 5 d).length + (pre.length + 1)) c3')).heap[D]? = some (.deferred (some [])) := (hk4.block D hDU (fun h => by
        rcases h with h | h
        · exact hDn h
        · omega)).trans hKU
      have HE : Hid (KeepsFrom V.heap.size U (w3.setCell ⟨w.heap.size + 1, 0, none⟩ (.slice A3 ((flt l 5 d).length + (pre.length + 1)) c3')) ∧ Keeps (mineS w.heap.size W.heap.size (W.heap.size + 1)) U (w3.setCell ⟨w.heap.size + 1, 0, none⟩ (.slice A3 ((flt l 5 d).length + (pre.length + 1)) c3')) ∧ (fun U => (Blk U w.heap.size 49 #[.slice A l.length c, .int .i64 d, .map (some b1), .map (some b2)] ∧ GotV (w.heap.size + 1) (w.heap.size + 4) ((flt l 5 d).map redV ++ (pre ++ [x]).map inhV) U ∧ Blk U W.heap.size 49 (dirCells A l.length c d (some b1) (some b2)) ∧ Blk U (W.heap.size + 1) 5 #[.int .u8 4] ∧ (D < U.heap.size ∧ U.heap[D]? = some (.deferred (some [])))) ∧ (Below w.heap.size w U ∧ V.heap.size ≤ U.heap.size)) (w3.setCell ⟨w.heap.size + 1, 0, none⟩ (.slice A3 ((flt l 5 d).length + (pre.length + 1)) c3'))) := Lib.hid ⟨hKO.from V.heap.size, hKM, ⟨bD4, hG4, bK4, bJ4, hDU4, hKU4⟩, hB4, hz4⟩
      clear hO hO3 HO3 hk3 hk4 hKO hB4 hG4 bD4 hKM hown hown3 hcells bD bD3 hl3 bV3 hz4 hx bK bJ bK3 bJ3 bK4 bJ4 hDU4 hKU4 hnK hDn hKU3
      gi_wp2_with (gi_at_builtin; refine wpListIn_app _ rfl _ _ 78 rfl hrun ?_)
      have hfin := HE.out
      rw [hz2] at hfin
      exact hfin
    · rintro D2 U hD2 ⟨⟨bD, ⟨v, bV, hO⟩, _, _, hDU, hKU⟩, hB, hz⟩ hK2
      have hcl : ((flt l 5 d).map redV ++ (flt l 4 d).map inhV).length = (causesOf l d).length := by rw [← causes_vals, List.length_map]
      have hcs := causes_len l d
      obtain ⟨A1, c1, hv⟩ := hO.shape
      rw [hcl] at hv
      subst hv
      have hOat := (show OwnV U (w.heap.size + 4) (.slice A1 ((flt l 5 d).map redV ++ (flt l 4 d).map inhV).length c1) _ by rw [hcl]; exact hO).at
      rw [← causes_vals] at hOat
      obtain ⟨hCa, hCg⟩ := hOat
      have hCs : CausesAt U A1 ((causesOf l d).map cvV) := hCa
      have v0 := bV.cell 0
      have zV := bV.lt
      simp at v0
      have hmb : SetT 33 (U.alloc (.map #[] 0)) U.heap.size 0 (keysP (tgsOf l d [])) := (SetT.new_of (at_new (W := U) (o := .map #[] 0) rfl)).congr (fun k => keysP_nil k)
      have bD1 := bD.alloc (.map #[] 0)
      have hB1 := hB.alloc hB.size (.map #[] 0)
      have hCs1 := hCs.keep (S := fun _ => False) ((Keeps.refl _ U).alloc (.map #[] 0)) (fun _ _ _ h => h)
      have hk1 := at_al (o' := .map #[] 0) hKU
      have hk2 := at_al (o' := .map #[] 0) hK2
      have hD2l : D2 < U.heap.size := (Array.getElem?_eq_some_iff.1 hK2).1
      have hz1 : (U.alloc (.map #[] 0)).heap.size = U.heap.size + 1 := by simp
      have HHD := Lib.hid hD
      have HIC := Lib.hid (tgs_int (d := d) hI)
      have HI2 := Lib.hid hI
      clear hO hCa hcl bV
      gi_wp2_with fail
      clear bD hB hCs hKU hK2 v0 zV
      generalize U.alloc (.map #[] 0) = V2 at hmb bD1 hB1 hCs1 hk1 hk2 hz1 ⊢
      gi_loopw [33] (fun i wr => ∃ k : Nat, k ≤ (causesOf l d).length ∧ i = .int .i64 k ∧ SetT 33 wr U.heap.size k (keysP (tgsOf l d ((causesOf l d).take k))) ∧ Blk wr w.heap.size 49 #[.slice A l.length c, .int .i64 d, .map (some b1), .map (some b2)] ∧ CausesAt wr A1 ((causesOf l d).map cvV) ∧ Below w.heap.size w wr ∧ wr.heap[D]? = some (.deferred (some [])) ∧ wr.heap[D2]? = some (.deferred (some []))) (fun i _ => (causesOf l d).length - (intOf i).toNat)
      case atStart => exact ⟨0, Nat.zero_le _, rfl, hmb, bD1, hCs1, hB1, hk1, hk2⟩
      case round =>
        clear hmb bD1 hB1 hCs1 hk1 hk2
        obtain ⟨k, hk, rfl, hS, bD, hCs, hB, hKU, hK2⟩ := hrel
        have d0 := bD.cell 0
        have d1 := bD.cell 1
        have d2 := bD.cell 2
        have d3 := bD.cell 3
        have zD := bD.lt
        simp at d0 d1 d2 d3
        by_cases hltk : k < (causesOf l d).length
        · obtain ⟨y, hy⟩ : ∃ y, (causesOf l d)[k]? = some y := ⟨_, List.getElem?_eq_getElem hltk⟩
          have hyl := (causes_in (List.mem_of_getElem? hy)).1
          have hyv : ((causesOf l d).map cvV)[k]? = some (cvV y) := by rw [List.getElem?_map, hy]; rfl
          obtain ⟨gc, hA1, hgz, hgc⟩ := hCs k _ hyv
          subst hA1
          have HT : Hid ((causesOf l d).take (k + 1) = (causesOf l d).take k ++ [y]) := Lib.hid (by rw [List.take_add_one, hy]; rfl)
          have hli := lead_int hI (d := d) hyl
          have hkc : k ≤ 2000000000000 := by omega
          obtain ⟨kl, hkl⟩ := keyCand hli
          have hDr := HHD.out.below hB
          have hgcU : gc ≠ U.heap.size := fun e => by
            subst e
            have h1 := hS.lt
            obtain ⟨Dm, ⟨es, ck, hm, _⟩, _⟩ := hS
            simp only [World.cell?, hm] at hgc
            cases hgc
          have hDne : D ≠ U.heap.size := by omega
          have hD2ne : D2 ≠ U.heap.size := by omega
          obtain ⟨bb, x⟩ := y
          cases bb
          · have hval : cvV (false, x) = inhV x := rfl
            rw [hval] at hgc
            unfold inhV at hgc
            have HTG := Lib.hid (target1_any A c l d x.1.other b1 b2 (deadOf l d) (cancOf l d) x.2.2.2.1 wr hDr)
            have hlead : leadOf l d (false, x) = reachedOf (deadOf l d) l d x.1.other := rfl
            rw [hlead] at hli hkl
            have HTK : Hid ((reachedOf (deadOf l d) l d x.1.other).2 = true → tgsOf l d ((causesOf l d).take (k + 1)) = tgsOf l d ((causesOf l d).take k) ++ [(reachedOf (deadOf l d) l d x.1.other).1]) := Lib.hid fun h => by rw [HT.out]; exact tgs_take h
            have HSK : Hid ((reachedOf (deadOf l d) l d x.1.other).2 = false → tgsOf l d ((causesOf l d).take (k + 1)) = tgsOf l d ((causesOf l d).take k)) := Lib.hid fun h => by rw [HT.out]; exact tgs_skip h
            clear hlead hval hyv hy hyl hli hDr HT
            generalize reachedOf (deadOf l d) l d x.1.other = hv at HTG HTK HSK hkl
            obtain ⟨⟨t1, t2⟩, ld⟩ := hv
            unfold dirVal at HTG
            unfold candVal at HTG hkl
            dsimp only at HTG HTK HSK hkl
            gi_wp2_with fail
            refine ⟨trivial, ?_⟩
            refine (callsIn_wide.2 HTG.out).mono ?_
            rintro e w1 ⟨rfl, hb1⟩
            have hS1 := hS.below hb1 hS.lt
            have bDn := bD.below hb1 bD.lt
            have hCn := hCs.keep (Keeps.of_new (S := fun _ => False) hb1) (fun _ _ _ h => h)
            have hBn := hB.trans (hb1.mono hB.size)
            have hKn := (hb1.block D (Array.getElem?_eq_some_iff.1 hKU).1).trans hKU
            have hKm := (hb1.block D2 (Array.getElem?_eq_some_iff.1 hK2).1).trans hK2
            clear hS bD hCs hB hKU hK2 hb1 HTG d0 d1 d2 d3 zD hgc hgz
            have hS2 := hS1.alloc (.cells #[.int .i64 t1, .int .i64 t2] 33)
            have bD2 := bDn.alloc (.cells #[.int .i64 t1, .int .i64 t2] 33)
            have hC2 := hCn.keep (S := fun _ => False) ((Keeps.refl _ w1).alloc (.cells #[.int .i64 t1, .int .i64 t2] 33)) (fun _ _ _ h => h)
            have hBB := hBn.alloc hBn.size (.cells #[.int .i64 t1, .int .i64 t2] 33)
            have hKa := at_al (o' := .cells #[.int .i64 t1, .int .i64 t2] 33) hKn
            have hKb := at_al (o' := .cells #[.int .i64 t1, .int .i64 t2] 33) hKm
            cases ld
            · have HSF : Hid (SetT 33 (w1.alloc (.cells #[.int .i64 t1, .int .i64 t2] 33)) U.heap.size (k + 1) (keysP (tgsOf l d ((causesOf l d).take (k + 1))))) := Lib.hid (by rw [HSK.out rfl]; exact hS2.mono (by omega))
              clear hS1 hS2 bDn hCn hBn hKn hKm hkl
              gi_wp2_with fail
              go_roundw
              case rel => exact ⟨k + 1, by omega, by go_num, HSF.out, bD2, hC2, hBB, hKa, hKb⟩
              case measure => simp [intOf]; omega
            · obtain ⟨w2, hrun, hset, hk2⟩ := hS2.store lawCand mapCandRow (by unfold maxLen; omega) hkl
              have HSF : Hid (SetT 33 w2 U.heap.size (k + 1) (keysP (tgsOf l d ((causesOf l d).take (k + 1))))) := Lib.hid (by rw [HTK.out rfl]; exact hset _ (keysP_at (c := (t1, t2)) hkl) (fun k h => keysP_other (c := (t1, t2)) hkl h))
              have bDx := bD2.keep hk2 (by omega)
              have hCx := hC2.keep hk2 (fun g off e => by cases e; exact hgcU)
              have hBx := hBB.trans (hk2.below (fun k hk e => by omega) hBB.size)
              have hKx := (hk2.block D (Array.getElem?_eq_some_iff.1 hKa).1 hDne).trans hKa
              have hKy := (hk2.block D2 (Array.getElem?_eq_some_iff.1 hKb).1 hD2ne).trans hKb
              clear hS1 hS2 bDn hCn hBn hKn hKm hkl hset hk2 bD2 hC2 hBB hKa hKb
              gi_wp2_with (gi_at_mapUpdate; refine wpListIn_put _ rfl _ _ _ _ rfl hrun ?_)
              go_roundw
              case rel => exact ⟨k + 1, by omega, by go_num, HSF.out, bDx, hCx, hBx, hKx, hKy⟩
              case measure => simp [intOf]; omega
          · have hval : cvV (true, x) = redV x := rfl
            rw [hval] at hgc
            unfold redV at hgc
            have HTG := Lib.hid (target2_any A c l d x b1 b2 (deadOf l d) (cancOf l d) wr hDr)
            have hlead : leadOf l d (true, x) = targetOf (deadOf l d) l d x.1 := rfl
            rw [hlead] at hli hkl
            have HTK : Hid ((targetOf (deadOf l d) l d x.1).2 = true → tgsOf l d ((causesOf l d).take (k + 1)) = tgsOf l d ((causesOf l d).take k) ++ [(targetOf (deadOf l d) l d x.1).1]) := Lib.hid fun h => by rw [HT.out]; exact tgs_take h
            have HSK : Hid ((targetOf (deadOf l d) l d x.1).2 = false → tgsOf l d ((causesOf l d).take (k + 1)) = tgsOf l d ((causesOf l d).take k)) := Lib.hid fun h => by rw [HT.out]; exact tgs_skip h
            clear hlead hval hyv hy hyl hli hDr HT
            generalize targetOf (deadOf l d) l d x.1 = hv at HTG HTK HSK hkl
            obtain ⟨⟨t1, t2⟩, ld⟩ := hv
            unfold dirVal at HTG
            unfold candVal at HTG hkl
            dsimp only at HTG HTK HSK hkl
            gi_wp2_with fail
            refine ⟨trivial, ?_⟩
            refine (callsIn_wide.2 HTG.out).mono ?_
            rintro e w1 ⟨rfl, hb1⟩
            have hS1 := hS.below hb1 hS.lt
            have bDn := bD.below hb1 bD.lt
            have hCn := hCs.keep (Keeps.of_new (S := fun _ => False) hb1) (fun _ _ _ h => h)
            have hBn := hB.trans (hb1.mono hB.size)
            have hKn := (hb1.block D (Array.getElem?_eq_some_iff.1 hKU).1).trans hKU
            have hKm := (hb1.block D2 (Array.getElem?_eq_some_iff.1 hK2).1).trans hK2
            clear hS bD hCs hB hKU hK2 hb1 HTG d0 d1 d2 d3 zD hgc hgz
            have hS2 := hS1.alloc (.cells #[.int .i64 t1, .int .i64 t2] 33)
            have bD2 := bDn.alloc (.cells #[.int .i64 t1, .int .i64 t2] 33)
            have hC2 := hCn.keep (S := fun _ => False) ((Keeps.refl _ w1).alloc (.cells #[.int .i64 t1, .int .i64 t2] 33)) (fun _ _ _ h => h)
            have hBB := hBn.alloc hBn.size (.cells #[.int .i64 t1, .int .i64 t2] 33)
            have hKa := at_al (o' := .cells #[.int .i64 t1, .int .i64 t2] 33) hKn
            have hKb := at_al (o' := .cells #[.int .i64 t1, .int .i64 t2] 33) hKm
            cases ld
            · have HSF : Hid (SetT 33 (w1.alloc (.cells #[.int .i64 t1, .int .i64 t2] 33)) U.heap.size (k + 1) (keysP (tgsOf l d ((causesOf l d).take (k + 1))))) := Lib.hid (by rw [HSK.out rfl]; exact hS2.mono (by omega))
              clear hS1 hS2 bDn hCn hBn hKn hKm hkl
              gi_wp2_with fail
              go_roundw
              case rel => exact ⟨k + 1, by omega, by go_num, HSF.out, bD2, hC2, hBB, hKa, hKb⟩
              case measure => simp [intOf]; omega
            · obtain ⟨w2, hrun, hset, hk2⟩ := hS2.store lawCand mapCandRow (by unfold maxLen; omega) hkl
              have HSF : Hid (SetT 33 w2 U.heap.size (k + 1) (keysP (tgsOf l d ((causesOf l d).take (k + 1))))) := Lib.hid (by rw [HTK.out rfl]; exact hset _ (keysP_at (c := (t1, t2)) hkl) (fun k h => keysP_other (c := (t1, t2)) hkl h))
              have bDx := bD2.keep hk2 (by omega)
              have hCx := hC2.keep hk2 (fun g off e => by cases e; exact hgcU)
              have hBx := hBB.trans (hk2.below (fun k hk e => by omega) hBB.size)
              have hKx := (hk2.block D (Array.getElem?_eq_some_iff.1 hKa).1 hDne).trans hKa
              have hKy := (hk2.block D2 (Array.getElem?_eq_some_iff.1 hKb).1 hD2ne).trans hKb
              clear hS1 hS2 bDn hCn hBn hKn hKm hkl hset hk2 bD2 hC2 hBB hKa hKb
              gi_wp2_with (gi_at_mapUpdate; refine wpListIn_put _ rfl _ _ _ _ rfl hrun ?_)
              go_roundw
              case rel => exact ⟨k + 1, by omega, by go_num, HSF.out, bDx, hCx, hBx, hKx, hKy⟩
              case measure => simp [intOf]; omega
        · have hT : k = (causesOf l d).length := by omega
          subst hT
          rw [List.take_of_length_le (Nat.le_refl _)] at hS
          have htl := tgs_len l d (causesOf l d)
          have HP := Lib.hid (sortedPairsG_any wr _ _ (by omega) _ (by omega) HIC.out hS)
          clear hS hCs
          gi_wp2_with fail
          refine ⟨trivial, ?_⟩
          refine (callsIn_wide.2 HP.out).mono ?_
          rintro e w1 ⟨Ar, cr, r, rfl, hP, hr, hl, hb1⟩
          have hKa := (hb1.block D (Array.getElem?_eq_some_iff.1 hKU).1).trans hKU
          have hKb := (hb1.block D2 (Array.getElem?_eq_some_iff.1 hK2).1).trans hK2
          have hBf : Below w.heap.size w w1 := hB.trans (hb1.mono hB.size)
          have hne : D ≠ D2 := by omega
          clear HP hb1 hB hKU hK2 bD d0 d1 d2 d3 zD
          gi_wp2
          all_goals
            have hKa' : (w1.putObj D2 (.deferred none)).heap[D]? = some (.deferred (some [])) := (World.putObj_heap_other (by omega)).trans hKa
            refine ⟨by simp, .inl ⟨_, _, rfl, run_takeDeferred (w := w1) hKb, by simp, .inl ⟨_, _, rfl, run_takeDeferred (w := w1.putObj D2 (.deferred none)) hKa', ?_⟩⟩⟩
            exact ⟨_, results_tmp rfl _ _ _, Ar, cr, r, by first | rfl | simp, (hP.put hKb rfl).put hKa' rfl, hr, by omega, below_end (below_end hBf hKb (by omega)) hKa' (by omega)⟩
    · rintro D co pre W _ _ h _
      exact h.elim
  · rintro D co pre W _ _ h _
    exact h.elim
end Go.Proofs.YtlbehpbhmmppiaaGreatDoor
