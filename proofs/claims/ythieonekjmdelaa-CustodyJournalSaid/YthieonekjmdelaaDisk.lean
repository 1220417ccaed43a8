/- Words for a disk in memory: its sectors, what is pending. No conditions. -/
import Derived.Test.YthieonekjmdelaaMem
import Derived.Deep.MidRow
import Derived.Laws.CopyOwn
namespace Go.Proofs.Ythieonekjmdelaa
open Go.RowKit

theorem at_new {W : World} {o : Obj} {k : Nat} (h : k = W.heap.size) : (W.alloc o).heap[k]? = some o := by
  subst h
  exact heap_alloc_new W o
theorem below_al {w W : World} (h : Below w.heap.size w W) (o : Obj) : Below w.heap.size w (W.alloc o) := h.alloc h.size o
theorem below_dr {B : Nat} {w W : World} (h : Below B w W) (n : Nat) : Below B w (W.drewN n) := ⟨h.os, h.tape, h.output, h.size, h.block⟩
/-- Bytes as cells. -/
def cellsB (s : List Int) : List Value := s.map (Value.int .u8)
/-- A pending write: its sector, what the sector contained, what it contains. -/
abbrev PW := Nat × List Int × List Int
def cellsP (x : PW) : List Value := .int .i64 x.1 :: (cellsB x.2.1 ++ cellsB x.2.2)
def zeroS : List Int := List.replicate 64 0
/-- Bytes with zeros behind them, 64 in all. -/
def padB (s : List Int) : List Int := s ++ List.replicate (64 - s.length) 0
theorem cellsB_len (s : List Int) : (cellsB s).length = s.length := List.length_map _
theorem cellsB_one (s : List Int) : ∀ v ∈ cellsB s, v.oneCell' = true := fun v hv => by
  obtain ⟨x, _, rfl⟩ := List.mem_map.1 hv
  rfl
theorem padB_len {s : List Int} (h : s.length ≤ 64) : (padB s).length = 64 := by unfold padB; simp; omega
/-- The disk behind p: its sectors lie in block gs, its pending writes behind vp. -/
structure DiskAt (w : World) (p gs : Nat) (vp : Value) (S : List (List Int)) (P : List PW) (dn st : Bool) (ca : Int) : Prop where
  blk : Blk w p 57 #[.slice (some ⟨gs, 0, none⟩) S.length S.length, vp, .bool dn, .bool st, .int .i64 ca]
  sec : Blk w gs 70 (S.flatMap cellsB).toArray
  pend : w.ownsRow 0 72 129 vp P.length (P.flatMap cellsP)
  all : ∀ s ∈ S, s.length = 64
  size : ∀ x ∈ P, x.1 < S.length ∧ x.2.1.length = 64 ∧ x.2.2.length = 64
  ne1 : gs ≠ p
  ne2 : vp.ownBlock ≠ some p
  ne3 : vp.ownBlock ≠ some gs
/-- The disk's own blocks. -/
def ownD (p gs : Nat) (vp : Value) (i : Nat) : Prop := i = p ∨ i = gs ∨ vp.ownBlock = some i
theorem DiskAt.keep {S : Nat → Prop} {w w' : World} {p gs : Nat} {vp : Value} {Se : List (List Int)} {P : List PW} {dn st : Bool} {ca : Int} (h : DiskAt w p gs vp Se P dn st ca) (hk : Keeps S w w') (hS : ∀ i, ownD p gs vp i → ¬ S i) : DiskAt w' p gs vp Se P dn st ca := by
  obtain ⟨h1, h2, h3, h4, h5, h6, h7, h8⟩ := h
  refine ⟨h1.keep hk (hS _ (.inl rfl)), h2.keep hk (hS _ (.inr (.inl rfl))), ?_, h4, h5, h6, h7, h8⟩
  have hl := World.ownsRow.lt h3
  refine ⟨h3.1, ?_⟩
  rcases h3.2 with h0 | ⟨g, cap, cur, rfl, hb, hg, rest⟩
  · exact .inl h0
  · exact .inr ⟨g, cap, cur, rfl, hb, (hk.block g (hl g rfl).2 (hS g (.inr (.inr rfl)))).trans hg, rest⟩
theorem DiskAt.below {w w' : World} {p gs : Nat} {vp : Value} {Se : List (List Int)} {P : List PW} {dn st : Bool} {ca : Int} (h : DiskAt w p gs vp Se P dn st ca) (hb : Below w.heap.size w w') : DiskAt w' p gs vp Se P dn st ca :=
  h.keep (S := fun _ => False) (Keeps.of_new hb) (fun _ _ h => h)
theorem flat_len {S : List (List Int)} (h : ∀ s ∈ S, s.length = 64) : (S.flatMap cellsB).length = S.length * 64 := by
  induction S with
  | nil => rfl
  | cons s S ih =>
    rw [List.flatMap_cons, List.length_append, cellsB_len, h s (List.mem_cons_self ..), ih (fun x hx => h x (List.mem_cons_of_mem _ hx)), List.length_cons]
    omega
theorem flat_at {S : List (List Int)} (h : ∀ s ∈ S, s.length = 64) {k : Nat} {s : List Int} (hk : S[k]? = some s) {j : Nat} (hj : j < 64) : (S.flatMap cellsB)[k * 64 + j]? = (cellsB s)[j]? := by
  induction S generalizing k with
  | nil => simp at hk
  | cons x S ih =>
    have hx := h x (List.mem_cons_self ..)
    rw [List.flatMap_cons]
    cases k with
    | zero =>
      cases hk
      rw [Nat.zero_mul, Nat.zero_add, List.getElem?_append_left (by rw [cellsB_len, hx]; exact hj)]
    | succ k =>
      rw [List.getElem?_append_right (by rw [cellsB_len, hx]; omega), cellsB_len, hx, show (k + 1) * 64 + j - 64 = k * 64 + j by omega]
      exact ih (fun y hy => h y (List.mem_cons_of_mem _ hy)) (by simpa using hk)
/-- A sector lies in the row. -/
theorem DiskAt.range {w : World} {p gs : Nat} {vp : Value} {S : List (List Int)} {P : List PW} {dn st : Bool} {ca : Int} (h : DiskAt w p gs vp S P dn st ca) {k : Nat} {s : List Int} (hk : S[k]? = some s) : w.rangeAt gs (k * 64) (cellsB s) := fun j v hv => by
  have hj : j < 64 := by
    have h1 := (List.getElem?_eq_some_iff.1 hv).1
    rw [cellsB_len, h.all s (List.mem_of_getElem? hk)] at h1
    exact h1
  rw [h.sec.cell (k * 64 + j), List.getElem?_toArray, flat_at h.all hk hj, hv]
end Go.Proofs.Ythieonekjmdelaa
