/- The contract of the reference's added: which numbers the row holds that it returns. Conditions: the list lies in memory. The contracts of the reference's Places and Lives. Conditions: the list lies in memory and has at most 60 entries. -/
import Derived.Test.YtlbehpbhmmppiaaGreatDoorRefDA
import Derived.Test.YtlbehpbhmmppiaaGreatDoorSortA
namespace Go.Proofs.YtlbehpbhmmppiaaGreatDoor
open Go.RowKit

theorem infoInts : (Tryz.prog.info? 3).map (fun i => (i.zero, i.size, i.bytes)) = some (some (.int .i64 0), 1, 8) := by kernel_rfl
theorem intsRow : Tryz.prog.underlying 131 = some (.slice 3) := by kernel_rfl
/-- v is a slice of the numbers l in memory of the call's own, from block base on. -/
def OwnI (w : World) (base : Nat) (v : Value) (l : List Int) : Prop := w.ownsRow base 3 1 v l.length (l.map (Value.int .i64))
theorem OwnI.nil (w : World) (base : Nat) : OwnI w base (.slice none 0 0) [] := World.ownsRow_nil _ _ _ _
theorem OwnI.own_lt {w : World} {base : Nat} {v : Value} {l : List Int} (h : OwnI w base v l) : ∀ k, v.ownBlock = some k → base ≤ k ∧ k < w.heap.size := World.ownsRow.lt h
theorem OwnI.keep {S : Nat → Prop} {w w' : World} {base : Nat} {v : Value} {l : List Int} (h : OwnI w base v l) (hk : Keeps S w w') (hs : ∀ g, base ≤ g → ¬ S g) : OwnI w' base v l := by
  unfold OwnI at h ⊢
  have hlt := World.ownsRow.lt h
  refine ⟨h.1, ?_⟩
  rcases h.2 with h0 | ⟨g, cap, cur, rfl, hb, hg, rest⟩
  · exact .inl h0
  · exact .inr ⟨g, cap, cur, rfl, hb, (hk.block g (hlt g rfl).2 (hs g hb)).trans hg, rest⟩
theorem OwnI.below {w w' : World} {base : Nat} {v : Value} {l : List Int} (h : OwnI w base v l) (hb : Below w.heap.size w w') : OwnI w' base v l :=
  h.keep (S := fun _ => False) (Keeps.of_new hb) (fun _ _ h => h)
theorem OwnI.mono {w : World} {base base' : Nat} {v : Value} {l : List Int} (h : OwnI w base v l) (hb : base' ≤ base) : OwnI w base' v l := by
  refine ⟨h.1, ?_⟩
  rcases h.2 with h0 | ⟨g, cap, cur, rfl, hg, rest⟩
  · exact .inl h0
  · exact .inr ⟨g, cap, cur, rfl, Nat.le_trans hb hg, rest⟩
theorem OwnI.shape {w : World} {base : Nat} {v : Value} {l : List Int} (h : OwnI w base v l) : ∃ A c, v = .slice A l.length c := by
  rcases h.2 with ⟨rfl, h0⟩ | ⟨g, cap, cur, rfl, _⟩
  · exact ⟨none, 0, by rw [h0]⟩
  · exact ⟨_, cap, rfl⟩
/-- The numbers m lie behind A. -/
def IntsAt (w : World) (A : Option Addr) (m : List Int) : Prop := ∀ k x, m[k]? = some x → ∃ g, A = some ⟨g, 0, none⟩ ∧ g < w.heap.size ∧ w.cell? ⟨g, k, none⟩ = some (.int .i64 x)
theorem IntsAt.below {w w' : World} {A : Option Addr} {m : List Int} (h : IntsAt w A m) {B : Nat} (hb : Below B w w') (hB : w.heap.size ≤ B) : IntsAt w' A m := fun k x hx => by
  obtain ⟨g, h1, h2, h3⟩ := h k x hx
  exact ⟨g, h1, Nat.lt_of_lt_of_le h2 hb.size, (hb.cell (p := ⟨g, k, none⟩) (Nat.lt_of_lt_of_le h2 hB)).trans h3⟩
theorem OwnI.at {w : World} {base : Nat} {A : Option Addr} {c : Nat} {l : List Int} (h : OwnI w base (.slice A l.length c) l) : IntsAt w A l := fun k x hx => by
  have hl := h.own_lt
  unfold OwnI at h
  have hk := (List.getElem?_eq_some_iff.1 hx).1
  rcases h.2 with ⟨h1, h2⟩ | ⟨g, cap, cur, h1, hb, hg, _⟩
  · omega
  · simp only [Value.slice.injEq] at h1
    obtain ⟨rfl, _, rfl⟩ := h1
    refine ⟨g, rfl, (hl g rfl).2, ?_⟩
    rw [h.cellAt k (by omega), List.getElem?_map, hx]
    rfl
theorem append_int {w : World} {base : Nat} {v : Value} {l : List Int} (h : OwnI w base v l) (x : Int) (hbase : base ≤ w.heap.size) (hlen : l.length ≤ 100000) (ty : TypeId) :
    ∃ v' w', (Builtin.append_ #[131, 131] ty #[v, .slice (some ⟨w.heap.size, 0, none⟩) 1 1]).run Tryz.prog (w.alloc (.cells #[.int .i64 x] 3)) = .ok v' w' ∧ OwnI w' base v' (l ++ [x]) ∧ Keeps (fun i => v.ownBlock = some i) w w' := by
  obtain ⟨i0, hi, hz0, hz1, hz2⟩ := info_parts infoInts
  have h1 : (w.alloc (.cells #[.int .i64 x] 3)).ownsRow base 3 1 v l.length (l.map (Value.int .i64)) := OwnI.keep h ((Keeps.refl (fun _ => False) w).alloc _) (fun _ _ h => h)
  have hc : ∀ j u, [Value.int .i64 x][j]? = some u → (w.alloc (.cells #[.int .i64 x] 3)).cell? ((⟨w.heap.size, 0, none⟩ : Addr).add j) = some u := by
    intro j u hj
    rcases j with _ | j
    · simp at hj
      subst hj
      exact (Blk.new w 3 #[.int .i64 x]).cell 0
    · simp at hj
  obtain ⟨v', w', hrun, hO, hg, _, _⟩ := run_append_own_at (P := Tryz.prog) (w.alloc (.cells #[.int .i64 x] 3)) base 131 ty 3 i0 _ 1 8 intsRow hi hz0 hz1 hz2 rfl (by decide) v l.length _ h1 ⟨w.heap.size, 0, none⟩ 1 1 [.int .i64 x] rfl hc (fun u hu => by simp at hu; subst hu; rfl) (by unfold maxLen; omega) (by omega) (by simp; omega)
  refine ⟨v', w', hrun, ?_, ((Keeps.refl (fun i => v.ownBlock = some i) w).alloc _).trans (Keeps.of_grown (S := fun i => v.ownBlock = some i) hg (fun k hk _ => hk)) (fun i _ h => h)⟩
  unfold OwnI
  rw [List.length_append, List.map_append]
  exact hO

end Go.Proofs.YtlbehpbhmmppiaaGreatDoor
namespace Go.Proofs.YtlbehpbhmmppiaaGreatDoor
open Go.RowKit

def dwellE (p d : Int) (y : Ent) : Bool := y.kind == 2 && y.person == p && hld y d
def livE (l : List Ent) (c : Int × Int) (d : Int) : Bool := !deadE l c.1 d && l.any fun y => dwellE c.1 d y && y.place == c.2
theorem livE_eq (l : List OEnt) (d : Int) (c : Int × Int) : livE (l.map (·.1)) c d = livesOf (deadOf l d) l d c := by
  unfold livE livesOf
  rw [deadE_eq, flt_any l d 2 (liveB (deadOf l d) c)]
  obtain ⟨p, q⟩ := c
  dsimp only
  cases hd : deadOf l d p
  · simp only [Bool.not_false, Bool.true_and]
    congr 1
    funext x
    unfold dwellE liveB
    rw [Bool.eq_iff_iff]
    simp only [Bool.and_eq_true, beq_iff_eq, decide_eq_true_eq, Prod.mk.injEq, Bool.not_eq_true']
    constructor
    · rintro ⟨⟨⟨h1, h2⟩, h3⟩, h4⟩
      exact ⟨⟨h1, ⟨h2, h4⟩, by rw [h2]; exact hd⟩, h3⟩
    · rintro ⟨⟨h1, ⟨h2, h4⟩, _⟩, h3⟩
      exact ⟨⟨⟨h1, h2⟩, h3⟩, h4⟩
  · simp only [Bool.not_true, Bool.false_and]
    symm
    rw [List.any_eq_false]
    intro x _
    unfold liveB
    simp only [Bool.and_eq_true, beq_iff_eq, decide_eq_true_eq, Prod.mk.injEq, Bool.not_eq_true']
    rintro ⟨⟨_, ⟨h2, _⟩, h3⟩, _⟩
    rw [h2, hd] at h3
    cases h3
theorem mem_take_next {f : Ent → Bool} {l : List Ent} {k : Nat} {x : Ent} (hx : l[k]? = some x) (z : Int) : (∃ y ∈ l.take (k + 1), f y = true ∧ y.place = z) ↔ ((∃ y ∈ l.take k, f y = true ∧ y.place = z) ∨ (f x = true ∧ x.place = z)) := by
  rw [List.take_add_one, hx]
  simp only [Option.toList_some, List.mem_append, List.mem_singleton]
  constructor
  · rintro ⟨y, h1 | rfl, h2⟩
    · exact .inl ⟨y, h1, h2⟩
    · exact .inr h2
  · rintro (⟨y, h1, h2⟩ | h2)
    · exact ⟨y, .inl h1, h2⟩
    · exact ⟨x, .inr rfl, h2⟩

end Go.Proofs.YtlbehpbhmmppiaaGreatDoor
