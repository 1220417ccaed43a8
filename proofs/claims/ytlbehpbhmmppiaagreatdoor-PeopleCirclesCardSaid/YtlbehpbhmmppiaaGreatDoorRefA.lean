/- Contracts of the reference's named, has and ordered: whether a list has an entry of a kind. Conditions: the list lies in memory. The contract of the reference's next: the error of an entry behind a list. Conditions: the list lies in memory, all its entries are well-formed by themselves, the name's length is a Go length. The contract of the reference's Check. Conditions: the list lies in memory; the names' lengths are Go lengths. Rows of entries that a call made: what an append of entries leaves; the contracts of slices.Clone and slices.Grow at entries. Conditions: the list lies in memory; Go's own limits on its size. -/
import Derived.Test.YtlbehpbhmmppiaaGreatDoorCheckA
import Derived.IntWalk
import Derived.Lib.AppendZeros
namespace Go.Proofs.YtlbehpbhmmppiaaGreatDoor
open Go.RowKit

def hasB (l : List Ent) (k p o : Int) : Bool := l.any fun x => x.kind == k && x.person == p && x.order == o
def ordB (l : List Ent) (k o : Int) : Bool := l.any fun x => x.kind == k && x.order == o

theorem any_take_succ {f : Ent → Bool} {l : List Ent} {k : Nat} {x : Ent} (hx : l[k]? = some x) (h : (l.take k).any f = false) : (l.take (k + 1)).any f = f x := by
  rw [List.take_add_one, hx, List.any_append, h]; simp
theorem any_of_at {f : Ent → Bool} {l : List Ent} {k : Nat} {x : Ent} (hx : l[k]? = some x) (h : f x = true) : l.any f = true :=
  List.any_eq_true.2 ⟨x, List.mem_of_getElem? hx, h⟩

end Go.Proofs.YtlbehpbhmmppiaaGreatDoor
namespace Go.Proofs.YtlbehpbhmmppiaaGreatDoor
open Go.RowKit

theorem has_died (l : List Ent) (h : ∀ y ∈ l, ckE y = 0) (p : Int) : hasB l 3 p 0 = diedB l p := by
  unfold hasB diedB
  induction l with
  | nil => rfl
  | cons y l ih =>
    rw [List.any_cons, List.any_cons, ih (fun z hz => h z (List.mem_cons_of_mem _ hz))]
    congr 1
    by_cases hk : y.kind = 3
    · have ho : y.order = 0 := by
        have h1 := ok_of_ck y (h y (List.mem_cons_self ..))
        unfold okE at h1
        simp only [Bool.and_eq_true, decide_eq_true_eq] at h1
        have h2 := congrArg Ent.order h1.2
        simp [onlyW, onlyOr, hk] at h2
        exact h2.symm
      simp [ho]
    · simp [hk]

def tms (l : List Ent) (x : Ent) : Bool := decide (x.day < lastD l)
def msn (l : List Ent) (x : Ent) : Bool := x.kind != 1 && (x.person != 0 && !namedB l x.person || x.other != 0 && !namedB l x.other)
theorem nextE_eq (l : List Ent) (x : Ent) (hc : ckE x = 0) (h : ∀ y ∈ l, ckE y = 0) :
    nextE l x = if 400 ≤ l.length then 2 else if tms l x = true then 7 else if msn l x = true then 5
      else if (x.kind == 3 && hasB l 3 x.person 0 || x.kind == 5 && ordB l 5 x.order) = true then 6 else if (x.kind == 6 && !ordB l 5 x.order) = true then 5
      else if (x.kind == 6 && ordB l 6 x.order) = true then 6 else 0 := by
  have e1 : ordB l 5 x.order = orderedB l x.order := rfl
  have e2 : ordB l 6 x.order = cancelledB l x.order := rfl
  have hm : (x.kind ≠ 1 ∧ (x.person ≠ 0 ∧ namedB l x.person = false ∨ x.other ≠ 0 ∧ namedB l x.other = false)) ↔ msn l x = true := by unfold msn; simp
  have ht : x.day < lastD l ↔ tms l x = true := by unfold tms; simp
  have hr : contrE l x = if (x.kind == 3 && diedB l x.person || x.kind == 5 && orderedB l x.order) = true then 6 else if (x.kind == 6 && !orderedB l x.order) = true then 5 else if (x.kind == 6 && cancelledB l x.order) = true then 6 else 0 := by
    unfold contrE
    by_cases h3 : x.kind = 3
    · simp [h3]
    · by_cases h5 : x.kind = 5
      · simp [h5]
      · simp [h3, h5]
  unfold nextE
  rw [if_neg (by simp [hc]), has_died l h, e1, e2, hr]
  simp only [hm, ht]

theorem last_at {l : List Ent} {m : Nat} (h : l.length = m + 1) : ∃ y, l[m]? = some y ∧ lastD l = y.day := by
  refine ⟨l[m]'(by omega), List.getElem?_eq_getElem _, ?_⟩
  have h1 : l.getLast? = l[m]? := by rw [List.getLast?_eq_getElem?]; congr 1; omega
  unfold lastD
  rw [h1, List.getElem?_eq_getElem (by omega)]
  rfl

end Go.Proofs.YtlbehpbhmmppiaaGreatDoor
namespace Go.Proofs.YtlbehpbhmmppiaaGreatDoor
open Go.RowKit

theorem EntsLie.take {w : World} {B : Nat} {A : Option Addr} {l : List Ent} (h : EntsLie w B A l) (k : Nat) : EntsLie w B A (l.take k) := by
  rcases h with h | ⟨b, off, rfl, hlt, hc⟩
  · subst h; exact .inl (by simp)
  · refine .inr ⟨b, off, rfl, hlt, fun i x hi => hc i x ?_⟩
    rw [List.getElem?_take] at hi
    split at hi
    · exact hi
    · cases hi

end Go.Proofs.YtlbehpbhmmppiaaGreatDoor
namespace Go.Proofs.YtlbehpbhmmppiaaGreatDoor
open Go.RowKit

/-- v is a slice of the entries l in memory of the call's own, from block base on. -/
def OwnE (w : World) (base : Nat) (v : Value) (l : List Ent) : Prop := w.ownsRow base 41 10 v l.length (l.flatMap entCells)

theorem entCells_len (x : Ent) : (entCells x).length = 10 := rfl
theorem flat_len (l : List Ent) : (l.flatMap entCells).length = l.length * 10 := by
  induction l with
  | nil => rfl
  | cons x l ih => rw [List.flatMap_cons, List.length_append, ih, entCells_len, List.length_cons]; omega
theorem flat_at (l : List Ent) (k : Nat) (x : Ent) (hk : l[k]? = some x) (j : Nat) (hj : j < 10) : (l.flatMap entCells)[k * 10 + j]? = (entCells x)[j]? := by
  induction l generalizing k with
  | nil => simp at hk
  | cons y l ih =>
    rw [List.flatMap_cons]
    cases k with
    | zero =>
      simp at hk; subst hk
      rw [Nat.zero_mul, Nat.zero_add, List.getElem?_append_left (by rw [entCells_len]; exact hj)]
    | succ k =>
      rw [List.getElem?_append_right (by rw [entCells_len]; omega), entCells_len, show (k + 1) * 10 + j - 10 = k * 10 + j by omega]
      exact ih k (by simpa using hk)
theorem entCells_lt (x : Ent) (j : Nat) (v : Value) (h : (entCells x)[j]? = some v) : j < 10 := by
  have := (List.getElem?_eq_some_iff.1 h).1
  rwa [entCells_len] at this
theorem oneCell_ents (l : List Ent) : ∀ u ∈ l.flatMap entCells, u.oneCell' = true := by
  intro u hu
  obtain ⟨x, _, hx⟩ := List.mem_flatMap.1 hu
  simp [entCells] at hx
  rcases hx with h | h | h | h | h | h | h | h | h | h <;> subst h <;> rfl

/-- Cell by cell. -/
theorem EntsLie.flat {w : World} {B b off : Nat} {l : List Ent} (h : EntsLie w B (some ⟨b, off, none⟩) l) : ∀ j u, (l.flatMap entCells)[j]? = some u → w.cell? ((⟨b, off, none⟩ : Addr).add j) = some u := by
  intro j u hu
  have hj := (List.getElem?_eq_some_iff.1 hu).1
  rw [flat_len] at hj
  have hk : j / 10 < l.length := by omega
  obtain ⟨x, hx⟩ : ∃ x, l[j / 10]? = some x := ⟨_, List.getElem?_eq_getElem hk⟩
  have h1 := flat_at l (j / 10) x hx (j % 10) (Nat.mod_lt _ (by omega))
  rw [show j / 10 * 10 + j % 10 = j by omega, hu] at h1
  rcases h with h | ⟨b', off', hA, hlt, hc⟩
  · subst h; simp at hx
  · simp only [Option.some.injEq, Addr.mk.injEq, and_true] at hA
    obtain ⟨rfl, rfl⟩ := hA
    have h2 := hc (j / 10) x hx (j % 10) u h1.symm
    rw [show off + j / 10 * 10 + j % 10 = off + j by omega] at h2
    simp only [Addr.add]
    split
    · rename_i h0; subst h0; exact h2
    · exact h2
theorem EntsLie.of_flat {w : World} {B b off : Nat} {l : List Ent} (hb : b < B) (h : ∀ j u, (l.flatMap entCells)[j]? = some u → w.cell? ⟨b, off + j, none⟩ = some u) : EntsLie w B (some ⟨b, off, none⟩) l :=
  .inr ⟨b, off, rfl, hb, fun k x hk j v hv => by
    have h1 := flat_at l k x hk j (entCells_lt x j v hv)
    rw [Nat.add_assoc]
    exact h _ _ (h1.trans hv)⟩
theorem OwnE.shape {w : World} {base : Nat} {v : Value} {l : List Ent} (h : OwnE w base v l) : ∃ A c, v = .slice A l.length c ∧ l.length ≤ c ∧ EntsLie w w.heap.size A l ∧ (∀ g, v.ownBlock = some g → base ≤ g ∧ g < w.heap.size) := by
  have h' := h
  unfold OwnE at h
  rcases h.2 with ⟨rfl, h0⟩ | ⟨g, cap, cur, rfl, hg, hh, hn, _⟩
  · have hl : l = [] := List.eq_nil_of_length_eq_zero h0
    subst hl
    exact ⟨none, 0, rfl, Nat.le_refl _, .inl rfl, fun g hg => by simp [Value.ownBlock] at hg⟩
  · refine ⟨some ⟨g, 0, none⟩, cap, rfl, hn, EntsLie.of_flat (h.lt g rfl).2 (fun j u hu => ?_), h.lt⟩
    have hj : j < l.length * 10 := by rw [← flat_len]; exact (List.getElem?_eq_some_iff.1 hu).1
    rw [Nat.zero_add, h.cellAt j hj, hu]
theorem OwnE.keeps {S : Nat → Prop} {w w' : World} {base : Nat} {v : Value} {l : List Ent} (h : OwnE w base v l) (hk : Keeps S w w') (hs : ∀ g, v.ownBlock = some g → ¬ S g) : OwnE w' base v l := by
  unfold OwnE at h ⊢
  refine ⟨h.1, ?_⟩
  rcases h.2 with h0 | ⟨g, cap, cur, rfl, hb, hg, rest⟩
  · exact .inl h0
  · exact .inr ⟨g, cap, cur, rfl, hb, (hk.block g (h.lt g rfl).2 (hs g rfl)).trans hg, rest⟩

theorem infoEnt : (Tryz.prog.info? 41).map (fun i => (i.zero, i.size, i.bytes)) = some (some (entVal ⟨0, 0, 0, 0, 0, 0, 0, 0, 0, ⟨#[]⟩⟩), 10, 88) := by kernel_rfl
theorem entsRow : Tryz.prog.underlying 22 = some (.slice 41) := by kernel_rfl

theorem append_ents {w : World} {base : Nat} {v : Value} {l : List Ent} (h : OwnE w base v l) {B : Nat} {A : Option Addr} {m : List Ent} (hm : EntsLie w B A m) (c : Nat) (h63 : l.length + m.length ≤ maxLen) (hb : (l.length + m.length) * 88 ≤ 140737488355328) (hbase : base ≤ w.heap.size) (ty : TypeId) :
    ∃ v' w', (Builtin.append_ #[22, 22] ty #[v, .slice A m.length c]).run Tryz.prog w = .ok v' w' ∧ OwnE w' base v' (l ++ m) ∧ w.grownBy w' v.ownBlock ∧ (v'.ownBlock = v.ownBlock ∨ v'.ownBlock = some w.heap.size) := by
  obtain ⟨i0, hi, hz0, hz1, hz2⟩ := info_parts infoEnt
  unfold OwnE at h ⊢
  rw [List.length_append, List.flatMap_append]
  by_cases hA : m = []
  · subst hA
    cases A with
    | none =>
      refine ⟨v, w, ?_, by simpa using h, World.grownBy.refl w _, .inl rfl⟩
      rcases h.2 with ⟨rfl, h0⟩ | ⟨g, cap, cur, rfl, _, _, hnc, _⟩
      · simp [Builtin.append_, run_underlying entsRow, sizeOf, typeInfo, hi, Builtin.lenOf, Builtin.firstCells]
      · simp [Builtin.append_, run_underlying entsRow, sizeOf, typeInfo, hi, Builtin.lenOf, Builtin.firstCells, hnc, storeCells]
    | some ad =>
      obtain ⟨v', w', hrun, h2, h3, _, h5⟩ := run_append_own_at (P := Tryz.prog) w base 22 ty 41 i0 _ 10 88 entsRow hi hz0 hz1 hz2 rfl (by decide) v l.length _ h ad 0 c [] rfl (by simp) (by simp) (by simpa using h63) (by simpa using hb) hbase
      exact ⟨v', w', hrun, by simpa using h2, h3, h5⟩
  · rcases id hm with h0 | ⟨b, off, rfl, hlt, hc⟩
    · exact absurd h0 hA
    · obtain ⟨v', w', hrun, h2, h3, _, h5⟩ := run_append_own_at (P := Tryz.prog) w base 22 ty 41 i0 _ 10 88 entsRow hi hz0 hz1 hz2 rfl (by decide) v l.length _ h ⟨b, off, none⟩ m.length c (m.flatMap entCells) (flat_len m) hm.flat (oneCell_ents m) h63 hb hbase
      exact ⟨v', w', hrun, h2, h3, h5⟩
end Go.Proofs.YtlbehpbhmmppiaaGreatDoor
