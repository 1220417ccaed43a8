/- Words for memory: cells that lie behind an address; a block that is known whole. No conditions. Words for a disk in memory: its sectors, what is pending. No conditions. The contracts of a disk's small functions: within, refuses, refusesSector, fails, Down, Flush, Stop, NewDisk. Conditions: the disk lies in memory. The contracts of NewDisk, fails, Flush, slices.Clone of bytes, Read. Conditions: the disk lies in memory. What Write does in memory. Conditions: the disk lies in memory. -/
import Derived.Test.YthgfbaekmhpiaaaGreatDoorProg
import Derived.WalkKit
import Derived.WalkSpells
import Derived.WalkLawsBesides
import Derived.Lib.Hide
import Derived.Below
import Derived.Laws.OwnMore
import Derived.Laws.Rows
import Derived.Deep.Draws
import Derived.Deep.RegionWith
import Derived.Deep.QuietTactic
import Derived.BigQuiet
import Derived.Deep.DeepCutAuto
import Derived.Deep.RegionHeld3
import Derived.Maps.AppendAt
import Derived.OwnWalk
import Derived.Deep.MidRow
import Derived.Laws.CopyOwn
import Derived.Laws.MakeOwn
import Derived.Lib.QuietBelow
import Derived.Lib.AppendZeros
import Derived.Deep.WholeRow
import Derived.StillTailTactics
namespace Go.Proofs.YthgfbaekmhpiaaaGreatDoor
open Go.RowKit

/-- The memory behind the address A shows the values xs, one cell each, below block B. -/
def Lies (w : World) (B : Nat) (A : Option Addr) (xs : List Value) : Prop :=
  xs = [] ∨ ∃ b off, A = some ⟨b, off, none⟩ ∧ b < B ∧ ∀ j u, xs[j]? = some u → w.cell? ⟨b, off + j, none⟩ = some u

theorem Lies.below {w w' : World} {B : Nat} {A : Option Addr} {xs : List Value} (h : Lies w B A xs) (hb : Below B w w') : Lies w' B A xs := by
  rcases h with h | ⟨b, off, rfl, hlt, hc⟩
  · exact .inl h
  · exact .inr ⟨b, off, rfl, hlt, fun j u hu => (hb.cell (p := ⟨b, off + j, none⟩) hlt).trans (hc j u hu)⟩

theorem Lies.at {w : World} {B : Nat} {A : Option Addr} {xs : List Value} (h : Lies w B A xs) (j : Nat) (hj : j < xs.length) :
    ∃ b off, A = some ⟨b, off, none⟩ ∧ b < B ∧ ∀ j u, xs[j]? = some u → w.cell? ⟨b, off + j, none⟩ = some u := by
  rcases h with h | h
  · subst h; simp at hj
  · exact h

/-- What the walk uses of a contract's frame: old cells and old marks read as before, and the old blocks are still there. -/
theorem bcell {W w1 : World} (hb : Below W.heap.size W w1) :
    (∀ b o, b < W.heap.size → w1.cell? ⟨b, o, none⟩ = W.cell? ⟨b, o, none⟩) ∧ (∀ b o, b < W.heap.size → w1.frozen? ⟨b, o, none⟩ = W.frozen? ⟨b, o, none⟩) ∧ W.heap.size ≤ w1.heap.size :=
  ⟨fun b o h => hb.cell (p := ⟨b, o, none⟩) h, fun b o h => hb.frozen (p := ⟨b, o, none⟩) h, hb.size⟩

/-- What lay below an older bound still lies below a newer one. -/
theorem Lies.up {w W : World} {B B' : Nat} {A : Option Addr} {xs : List Value} (h : Lies w B A xs) (hb : Below B w W) (hB : B ≤ B') : Lies W B' A xs := by
  rcases h.below hb with h | ⟨b, off, rfl, hlt, hc⟩
  · exact .inl h
  · exact .inr ⟨b, off, rfl, by omega, hc⟩

/-- Block g holds just these cells, of element type t, none frozen. -/
def Blk (w : World) (g : Nat) (t : TypeId) (cs : Array Value) : Prop := w.heap[g]? = some (.cells cs t (0, 0))

theorem Blk.lt {w : World} {g : Nat} {t : TypeId} {cs : Array Value} (h : Blk w g t cs) : g < w.heap.size := by
  unfold Blk at h
  rcases Nat.lt_or_ge g w.heap.size with hlt | hge
  · exact hlt
  · rw [Array.getElem?_eq_none hge] at h; cases h
theorem Blk.cell {w : World} {g : Nat} {t : TypeId} {cs : Array Value} (h : Blk w g t cs) (i : Nat) : w.cell? ⟨g, i, none⟩ = cs[i]? := by
  unfold Blk at h; simp [World.cell?, h]
theorem Blk.frozen {w : World} {g : Nat} {t : TypeId} {cs : Array Value} (h : Blk w g t cs) (i : Nat) : w.frozen? ⟨g, i, none⟩ = false := by
  unfold Blk at h; simp [World.frozen?, h]
theorem Blk.new (w : World) (t : TypeId) (cs : Array Value) : Blk (w.alloc (.cells cs t)) w.heap.size t cs :=
  heap_alloc_new w _
theorem Blk.alloc {w : World} {g : Nat} {t : TypeId} {cs : Array Value} (h : Blk w g t cs) (o : Obj) : Blk (w.alloc o) g t cs :=
  (Below.heap_alloc w o g h.lt).trans h
theorem Blk.drew {w : World} {g : Nat} {t : TypeId} {cs : Array Value} (h : Blk w g t cs) : Blk w.drew g t cs := h
theorem Blk.below {w w' : World} {g B : Nat} {t : TypeId} {cs : Array Value} (h : Blk w g t cs) (hb : Below B w w') (hg : g < B) : Blk w' g t cs :=
  (hb.block g hg).trans h
theorem Blk.set {w : World} {g : Nat} {t : TypeId} {cs : Array Value} (h : Blk w g t cs) (i : Nat) (u : Value) : Blk (w.setCell ⟨g, i, none⟩ u) g t (cs.setIfInBounds i u) := by
  unfold Blk at h ⊢; simp [World.setCell, Array.getElem?_modify, h]
theorem Blk.far {w : World} {g : Nat} {t : TypeId} {cs : Array Value} (h : Blk w g t cs) {p : Addr} (hp : g ≠ p.block) (u : Value) : Blk (w.setCell p u) g t cs :=
  (Below.heap_setCell w p u g hp).trans h

/-- From w to w' the blocks of w outside S have kept their content; new blocks may have come. -/
structure Keeps (S : Nat → Prop) (w w' : World) : Prop where
  os : w'.os = w.os
  tape : w'.tape = w.tape
  output : w'.output = w.output
  size : w.heap.size ≤ w'.heap.size
  block : ∀ k, k < w.heap.size → ¬ S k → w'.heap[k]? = w.heap[k]?

section
variable {S S' : Nat → Prop} {w w' w1 w2 : World}
theorem Keeps.refl (S : Nat → Prop) (w : World) : Keeps S w w := ⟨rfl, rfl, rfl, Nat.le_refl _, fun _ _ _ => rfl⟩
theorem Keeps.trans (h : Keeps S w w1) (k : Keeps S' w1 w2) (hs : ∀ i, i < w.heap.size → S' i → S i) : Keeps S w w2 :=
  ⟨k.os.trans h.os, k.tape.trans h.tape, k.output.trans h.output, Nat.le_trans h.size k.size,
    fun i hi hn => (k.block i (Nat.lt_of_lt_of_le hi h.size) (fun hk => hn (hs i hi hk))).trans (h.block i hi hn)⟩
theorem Keeps.mono (h : Keeps S w w') (hs : ∀ i, i < w.heap.size → S i → S' i) : Keeps S' w w' :=
  ⟨h.os, h.tape, h.output, h.size, fun i hi hn => h.block i hi (fun hk => hn (hs i hi hk))⟩
theorem Keeps.drew (h : Keeps S w w1) : Keeps S w w1.drew := ⟨h.os, h.tape, h.output, h.size, h.block⟩
theorem Keeps.drewN (h : Keeps S w w1) (n : Nat) : Keeps S w (w1.drewN n) := ⟨h.os, h.tape, h.output, h.size, h.block⟩
theorem Keeps.alloc (h : Keeps S w w1) (o : Obj) : Keeps S w (w1.alloc o) :=
  ⟨h.os, h.tape, h.output, by have := h.size; simp; omega, fun k hk hn => (Below.heap_alloc _ _ _ (Nat.lt_of_lt_of_le hk h.size)).trans (h.block k hk hn)⟩
theorem Keeps.setCell (h : Keeps S w w1) {p : Addr} (hp : p.block < w.heap.size → S p.block) (u : Value) : Keeps S w (w1.setCell p u) :=
  ⟨h.os, h.tape, h.output, by simpa [World.setCell] using h.size,
    fun k hk hn => (Below.heap_setCell _ _ _ _ (fun e => by subst e; exact hn (hp hk))).trans (h.block k hk hn)⟩
theorem Keeps.below {B : Nat} (h : Keeps S w w') (hs : ∀ k, k < B → ¬ S k) (hB : B ≤ w.heap.size) : Below B w w' :=
  ⟨h.os, h.tape, h.output, h.size, fun k hk => h.block k (by omega) (hs k hk)⟩
theorem Keeps.of_below {B : Nat} (h : Below B w w') (hs : ∀ k, B ≤ k → k < w.heap.size → S k) : Keeps S w w' :=
  ⟨h.os, h.tape, h.output, h.size, fun k hk hn => h.block k (by
    rcases Nat.lt_or_ge k B with h1 | h1
    · exact h1
    · exact absurd (hs k h1 hk) hn)⟩
theorem Keeps.of_new (h : Below w.heap.size w w') : Keeps S w w' := Keeps.of_below h (fun _ h1 h2 => absurd h2 (by omega))
theorem Keeps.of_grown {row : Option Nat} (h : w.grownBy w' row) (hs : ∀ k, row = some k → k < w.heap.size → S k) : Keeps S w w' :=
  ⟨h.os, h.tape, h.output, h.size, fun k hk hn => h.block k hk (fun e => hn (hs k e.symm hk))⟩
theorem Keeps.cell (h : Keeps S w w') {b o : Nat} (hb : b < w.heap.size) (hn : ¬ S b) : w'.cell? ⟨b, o, none⟩ = w.cell? ⟨b, o, none⟩ :=
  World.cell?_of_block (h.block b hb hn)
theorem Keeps.frozen (h : Keeps S w w') {b o : Nat} (hb : b < w.heap.size) (hn : ¬ S b) : w'.frozen? ⟨b, o, none⟩ = w.frozen? ⟨b, o, none⟩ :=
  World.frozen?_of_block (h.block b hb hn)
theorem Blk.keep {g : Nat} {t : TypeId} {cs : Array Value} (h : Blk w g t cs) (hk : Keeps S w w') (hn : ¬ S g) : Blk w' g t cs := (hk.block g h.lt hn).trans h
theorem Blk.drewN {g : Nat} {t : TypeId} {cs : Array Value} (h : Blk w g t cs) (n : Nat) : Blk (w.drewN n) g t cs := h
theorem Lies.keep {B : Nat} {A : Option Addr} {xs : List Value} (h : Lies w B A xs) (hk : Keeps S w w') (hn : ∀ k, k < B → ¬ S k) (hB : B ≤ w.heap.size) : Lies w' B A xs :=
  h.below (hk.below hn hB)
/-- What the walk uses of a contract's frame: old cells and marks outside S read as before, and the old blocks are still there. -/
theorem kcell (hk : Keeps S w w1) :
    (∀ b o, b < w.heap.size → ¬ S b → w1.cell? ⟨b, o, none⟩ = w.cell? ⟨b, o, none⟩) ∧ (∀ b o, b < w.heap.size → ¬ S b → w1.frozen? ⟨b, o, none⟩ = w.frozen? ⟨b, o, none⟩) ∧ w.heap.size ≤ w1.heap.size :=
  ⟨fun _ _ h hn => hk.cell h hn, fun _ _ h hn => hk.frozen h hn, hk.size⟩
end

end Go.Proofs.YthgfbaekmhpiaaaGreatDoor
namespace Go.Proofs.YthgfbaekmhpiaaaGreatDoor
open Go.RowKit

theorem at_new {W : World} {o : Obj} {k : Nat} (h : k = W.heap.size) : (W.alloc o).heap[k]? = some o := by
  subst h
  exact heap_alloc_new W o
theorem below_al {w W : World} (h : Below w.heap.size w W) (o : Obj) : Below w.heap.size w (W.alloc o) := h.alloc h.size o
theorem below_dr {B : Nat} {w W : World} (h : Below B w W) (n : Nat) : Below B w (W.drewN n) := ⟨h.os, h.tape, h.output, h.size, h.block⟩
/-- Bytes as cells. -/
def cellsB (s : List Int) : List Value := s.map (Value.int .u8)
/-- A pending write: its sector, what the sector contained, what it contains. -/
abbrev PW := Nat × List Int × List Int
def cellsP (x : PW) : List Value := .int .i64 x.1 :: (cellsB x.2.1 ++ cellsB x.2.2)
def zeroS : List Int := List.replicate 64 0
/-- Bytes with zeros behind them, 64 in all. -/
def padB (s : List Int) : List Int := s ++ List.replicate (64 - s.length) 0
theorem cellsB_len (s : List Int) : (cellsB s).length = s.length := List.length_map _
theorem cellsB_one (s : List Int) : ∀ v ∈ cellsB s, v.oneCell' = true := fun v hv => by
  obtain ⟨x, _, rfl⟩ := List.mem_map.1 hv
  rfl
theorem padB_len {s : List Int} (h : s.length ≤ 64) : (padB s).length = 64 := by unfold padB; simp; omega
/-- The disk behind p: its sectors lie in block gs, its pending writes behind vp. -/
structure DiskAt (w : World) (p gs : Nat) (vp : Value) (S : List (List Int)) (P : List PW) (dn st : Bool) (ca : Int) : Prop where
  blk : Blk w p 125 #[.slice (some ⟨gs, 0, none⟩) S.length S.length, vp, .bool dn, .bool st, .int .i64 ca]
  sec : Blk w gs 121 (S.flatMap cellsB).toArray
  pend : w.ownsRow 0 130 129 vp P.length (P.flatMap cellsP)
  all : ∀ s ∈ S, s.length = 64
  size : ∀ x ∈ P, x.1 < S.length ∧ x.2.1.length = 64 ∧ x.2.2.length = 64
  ne1 : gs ≠ p
  ne2 : vp.ownBlock ≠ some p
  ne3 : vp.ownBlock ≠ some gs
/-- The disk's own blocks. -/
def ownD (p gs : Nat) (vp : Value) (i : Nat) : Prop := i = p ∨ i = gs ∨ vp.ownBlock = some i
theorem DiskAt.keep {S : Nat → Prop} {w w' : World} {p gs : Nat} {vp : Value} {Se : List (List Int)} {P : List PW} {dn st : Bool} {ca : Int} (h : DiskAt w p gs vp Se P dn st ca) (hk : Keeps S w w') (hS : ∀ i, ownD p gs vp i → ¬ S i) : DiskAt w' p gs vp Se P dn st ca := by
  obtain ⟨h1, h2, h3, h4, h5, h6, h7, h8⟩ := h
  refine ⟨h1.keep hk (hS _ (.inl rfl)), h2.keep hk (hS _ (.inr (.inl rfl))), ?_, h4, h5, h6, h7, h8⟩
  have hl := World.ownsRow.lt h3
  refine ⟨h3.1, ?_⟩
  rcases h3.2 with h0 | ⟨g, cap, cur, rfl, hb, hg, rest⟩
  · exact .inl h0
  · exact .inr ⟨g, cap, cur, rfl, hb, (hk.block g (hl g rfl).2 (hS g (.inr (.inr rfl)))).trans hg, rest⟩
theorem DiskAt.below {w w' : World} {p gs : Nat} {vp : Value} {Se : List (List Int)} {P : List PW} {dn st : Bool} {ca : Int} (h : DiskAt w p gs vp Se P dn st ca) (hb : Below w.heap.size w w') : DiskAt w' p gs vp Se P dn st ca :=
  h.keep (S := fun _ => False) (Keeps.of_new hb) (fun _ _ h => h)
theorem flat_len {S : List (List Int)} (h : ∀ s ∈ S, s.length = 64) : (S.flatMap cellsB).length = S.length * 64 := by
  induction S with
  | nil => rfl
  | cons s S ih =>
    rw [List.flatMap_cons, List.length_append, cellsB_len, h s (List.mem_cons_self ..), ih (fun x hx => h x (List.mem_cons_of_mem _ hx)), List.length_cons]
    omega
theorem flat_at {S : List (List Int)} (h : ∀ s ∈ S, s.length = 64) {k : Nat} {s : List Int} (hk : S[k]? = some s) {j : Nat} (hj : j < 64) : (S.flatMap cellsB)[k * 64 + j]? = (cellsB s)[j]? := by
  induction S generalizing k with
  | nil => simp at hk
  | cons x S ih =>
    have hx := h x (List.mem_cons_self ..)
    rw [List.flatMap_cons]
    cases k with
    | zero =>
      cases hk
      rw [Nat.zero_mul, Nat.zero_add, List.getElem?_append_left (by rw [cellsB_len, hx]; exact hj)]
    | succ k =>
      rw [List.getElem?_append_right (by rw [cellsB_len, hx]; omega), cellsB_len, hx, show (k + 1) * 64 + j - 64 = k * 64 + j by omega]
      exact ih (fun y hy => h y (List.mem_cons_of_mem _ hy)) (by simpa using hk)
/-- A sector lies in the row. -/
theorem DiskAt.range {w : World} {p gs : Nat} {vp : Value} {S : List (List Int)} {P : List PW} {dn st : Bool} {ca : Int} (h : DiskAt w p gs vp S P dn st ca) {k : Nat} {s : List Int} (hk : S[k]? = some s) : w.rangeAt gs (k * 64) (cellsB s) := fun j v hv => by
  have hj : j < 64 := by
    have h1 := (List.getElem?_eq_some_iff.1 hv).1
    rw [cellsB_len, h.all s (List.mem_of_getElem? hk)] at h1
    exact h1
  rw [h.sec.cell (k * 64 + j), List.getElem?_toArray, flat_at h.all hk hj, hv]
end Go.Proofs.YthgfbaekmhpiaaaGreatDoor
namespace Go.Proofs.YthgfbaekmhpiaaaGreatDoor
open Go.RowKit

def withinB (n a b : Int) : Bool := decide (a ≤ n) && decide (n ≤ b)
theorem within_any (n a b : Int) (w : World) :
    Calls Tryz.prog 45 #[.int .i64 n, .int .i64 a, .int .i64 b] w fun e w' => e = .returned (.bool (withinB n a b)) ∧ w = w' := by
  unfold withinB
  by_cases h1 : a ≤ n
  · by_cases h2 : n ≤ b
    · rw [decide_eq_true h1, decide_eq_true h2]
      have d1 := decide_eq_true h1
      have d2 := decide_eq_true h2
      go_enter Tryz.func45, Tryz.ntmps45
      go_wp2_with fail
      go_ret
      exact ⟨rfl, rfl⟩
    · rw [decide_eq_true h1, decide_eq_false h2]
      have d1 := decide_eq_true h1
      have d2 := decide_eq_false h2
      go_enter Tryz.func45, Tryz.ntmps45
      go_wp2_with fail
      go_ret
      exact ⟨rfl, rfl⟩
  · rw [decide_eq_false h1]
    have d1 := decide_eq_false h1
    go_enter Tryz.func45, Tryz.ntmps45
    go_wp2_with fail
    go_ret
    exact ⟨rfl, rfl⟩
section
variable {w : World} {p gs : Nat} {vp : Value} {S : List (List Int)} {P : List PW} {dn st : Bool} {ca : Int}
theorem refuses_any (h : DiskAt w p gs vp S P dn st ca) :
    Calls Tryz.prog 72 #[.pointer (some ⟨p, 0, none⟩)] w fun e w' => e = .returned (.int .i64 (if dn = true then 70 else 0)) ∧ w = w' := by
  have c2 := h.blk.cell 2
  simp at c2
  cases dn
  · go_enter Tryz.func72, Tryz.ntmps72
    go_wp2_with fail
    go_ret
    exact ⟨rfl, rfl⟩
  · go_enter Tryz.func72, Tryz.ntmps72
    go_wp2_with fail
    go_ret
    exact ⟨rfl, rfl⟩
/-- The error of a sector's number. -/
def secErr (dn : Bool) (n : Nat) (k : Int) : Int := if dn = true then 70 else if withinB k 0 ((n : Int) - 1) = true then 0 else 1
theorem refusesSector_any (h : DiskAt w p gs vp S P dn st ca) (hS : S.length ≤ 65536) (k : Int) :
    Calls Tryz.prog 68 #[.pointer (some ⟨p, 0, none⟩), .int .i64 k] w fun e w' => e = .returned (.int .i64 (secErr dn S.length k)) ∧ w = w' := by
  have c0 := h.blk.cell 0
  simp at c0
  have HR := Lib.hid (refuses_any h)
  have HW := Lib.hid (fun W => within_any k 0 ((S.length : Int) - 1) W)
  cases dn
  · cases hw : withinB k 0 ((S.length : Int) - 1)
    · rw [hw] at HW
      have HE : Hid (secErr false S.length k = 1) := Lib.hid (by unfold secErr; rw [hw]; rfl)
      clear hw
      go_enter Tryz.func68, Tryz.ntmps68
      go_wp2_with fail
      refine HR.out.mono ?_
      rintro e w1 ⟨rfl, rfl⟩
      go_wp2_with fail
      refine (HW.out _).mono ?_
      rintro e w2 ⟨rfl, rfl⟩
      go_wp2_with fail
      go_ret
      exact ⟨by rw [HE.out]; rfl, rfl⟩
    · rw [hw] at HW
      have HE : Hid (secErr false S.length k = 0) := Lib.hid (by unfold secErr; rw [hw]; rfl)
      clear hw
      go_enter Tryz.func68, Tryz.ntmps68
      go_wp2_with fail
      refine HR.out.mono ?_
      rintro e w1 ⟨rfl, rfl⟩
      go_wp2_with fail
      refine (HW.out _).mono ?_
      rintro e w2 ⟨rfl, rfl⟩
      go_wp2_with fail
      go_ret
      exact ⟨by rw [HE.out]; rfl, rfl⟩
  · have HE : Hid (secErr true S.length k = 70) := Lib.hid rfl
    go_enter Tryz.func68, Tryz.ntmps68
    go_wp2_with fail
    refine HR.out.mono ?_
    rintro e w1 ⟨rfl, rfl⟩
    go_wp2_with fail
    go_ret
    exact ⟨by rw [HE.out]; rfl, rfl⟩
theorem down_any (h : DiskAt w p gs vp S P dn st ca) :
    Calls Tryz.prog 35 #[.pointer (some ⟨p, 0, none⟩)] w fun e w' => e = .returned (.bool dn) ∧ w = w' := by
  have c2 := h.blk.cell 2
  simp at c2
  cases dn
  · go_enter Tryz.func35, Tryz.ntmps35
    go_wp2_with fail
    go_ret
    exact ⟨rfl, rfl⟩
  · go_enter Tryz.func35, Tryz.ntmps35
    go_wp2_with fail
    go_ret
    exact ⟨rfl, rfl⟩
end
end Go.Proofs.YthgfbaekmhpiaaaGreatDoor
namespace Go.Proofs.YthgfbaekmhpiaaaGreatDoor
open Go.RowKit

theorem infoBlock : (Tryz.prog.info? 121).map (fun i => (i.zero, i.size, i.bytes)) = some (some (.agg (List.replicate 64 (Value.int .u8 0)).toArray), 64, 64) := by kernel_rfl
theorem rowBlocks : Tryz.prog.underlying 122 = some (.slice 121) := by kernel_rfl
theorem infoU8 : (Tryz.prog.info? 5).map (fun i => (i.zero, i.size, i.bytes)) = some (some (.int .u8 0), 1, 1) := by kernel_rfl
theorem rowU8 : Tryz.prog.underlying 54 = some (.slice 5) := by kernel_rfl
theorem zeros_flat (n : Nat) : ((List.replicate n zeroS).flatMap cellsB) = List.replicate (n * 64) (Value.int .u8 0) := by
  have h : cellsB zeroS = List.replicate 64 (Value.int .u8 0) := by unfold cellsB zeroS; rw [List.map_replicate]
  induction n with
  | zero => rfl
  | succ n ih =>
    rw [List.replicate_succ, List.flatMap_cons, ih, h, List.replicate_append_replicate]
    congr 1
    omega
theorem made_rep (m : Nat) (h0 : 0 < m) (z : Value) (n : Nat) : madeCells (List.replicate m z).toArray n = (List.replicate n z).toArray := by
  apply Array.ext
  · simp [madeCells]
  · intro i h1 h2
    have hm : i % m < m := Nat.mod_lt _ h0
    simp [madeCells, hm]
theorem made_zeros (n : Nat) : madeCells (List.replicate 64 (Value.int .u8 0)).toArray (n * 64) = ((List.replicate n zeroS).flatMap cellsB).toArray := by
  rw [zeros_flat, made_rep 64 (by omega)]
theorem make_blocks (n : Nat) (hn : n ≤ 65536) (w : World) :
    (Instr.makeSlice 122 (.int .i64 (n : Int)) (.int .i64 (n : Int))).run Tryz.prog w = .ok (.slice (some ⟨w.heap.size, 0, none⟩) n n) (w.alloc (.cells ((List.replicate n zeroS).flatMap cellsB).toArray 121)) := by
  obtain ⟨i, hi, hz0, hz1, hz2⟩ := info_parts infoBlock
  have hr := run_make (P := Tryz.prog) w 122 121 i _ rowBlocks hi hz0 .i64 .i64 n n (by omega) (Int.le_refl _) (by rw [hz2]; omega) (by omega)
  rw [hz1] at hr
  simp only [Int.toNat_natCast, Value.cells] at hr
  rw [made_zeros] at hr
  exact hr

set_option maxHeartbeats 1000000 in
theorem newDisk_ok (n : Nat) (h1 : 16 ≤ n) (h2 : n ≤ 65536) (w : World) :
    Calls Tryz.prog 46 #[.int .i64 (n : Int)] w fun e w' => e = .returned (.tuple #[.pointer (some ⟨w.heap.size + 1, 0, none⟩), .int .i64 0]) ∧ DiskAt w' (w.heap.size + 1) w.heap.size (.slice none 0 0) (List.replicate n zeroS) [] false false 0 ∧ Below w.heap.size w w' := by
  have HW : Hid (withinB (n : Int) 16 65536 = true) := Lib.hid (by unfold withinB; rw [decide_eq_true (by omega), decide_eq_true (by omega)]; rfl)
  have hmk := make_blocks n h2 w
  have hD : Hid (DiskAt ((w.alloc (.cells ((List.replicate n zeroS).flatMap cellsB).toArray 121)).alloc (.cells #[.slice (some ⟨w.heap.size, 0, none⟩) n n, .slice none 0 0, .bool false, .bool false, .int .i64 0] 125)) (w.heap.size + 1) w.heap.size (.slice none 0 0) (List.replicate n zeroS) [] false false 0) := Lib.hid (by
    refine ⟨?_, (Blk.new w _ _).alloc _, World.ownsRow_nil _ _ _ _, fun s hs => ?_, fun x hx => by simp at hx, by omega, by simp [Value.ownBlock], by simp [Value.ownBlock]⟩
    · rw [List.length_replicate]
      exact at_new (by simp)
    · rw [(List.mem_replicate.1 hs).2]
      exact List.length_replicate ..)
  generalize hrow : ((List.replicate n zeroS).flatMap cellsB).toArray = row at hmk hD
  clear hrow
  go_enter Tryz.func46, Tryz.ntmps46
  go_wp2_with fail
  refine (within_any _ _ _ _).mono ?_
  rintro e w1 ⟨rfl, rfl⟩
  rw [HW.out]
  go_wp2_with fail
  go_ret2
  exact ⟨by simp, hD.out, below_al (below_al (Below.refl _ _) _) _⟩
theorem newDisk_bad (k : Int) (h : withinB k 16 65536 = false) (w : World) :
    Calls Tryz.prog 46 #[.int .i64 k] w fun e w' => e = .returned (.tuple #[.pointer none, .int .i64 1]) ∧ w = w' := by
  have HW := Lib.hid h
  clear h
  go_enter Tryz.func46, Tryz.ntmps46
  go_wp2_with fail
  refine (within_any _ _ _ _).mono ?_
  rintro e w1 ⟨rfl, rfl⟩
  rw [HW.out]
  go_wp2_with fail
  go_ret2
  exact ⟨rfl, rfl⟩

/-- One cell of the disk's own block is written. -/
theorem DiskAt.put {w : World} {p gs : Nat} {vp : Value} {S : List (List Int)} {P : List PW} {dn st dn' st' : Bool} {ca ca' : Int} (h : DiskAt w p gs vp S P dn st ca) (i : Nat) (u : Value)
    (hc : (#[.slice (some ⟨gs, 0, none⟩) S.length S.length, vp, .bool dn, .bool st, .int .i64 ca] : Array Value).setIfInBounds i u = #[.slice (some ⟨gs, 0, none⟩) S.length S.length, vp, .bool dn', .bool st', .int .i64 ca']) : DiskAt (w.setCell ⟨p, i, none⟩ u) p gs vp S P dn' st' ca' := by
  have hk : Keeps (fun k => k = p) w (w.setCell ⟨p, i, none⟩ u) := (Keeps.refl (fun k => k = p) w).setCell (p := ⟨p, i, none⟩) (fun _ => rfl) u
  refine ⟨?_, h.sec.far (p := ⟨p, i, none⟩) h.ne1 u, ?_, h.all, h.size, h.ne1, h.ne2, h.ne3⟩
  · have := h.blk.set i u
    rwa [hc] at this
  · have hl := World.ownsRow.lt h.pend
    refine ⟨h.pend.1, ?_⟩
    rcases h.pend.2 with h0 | ⟨g, cap, cur, rfl, hb, hg, rest⟩
    · exact .inl h0
    · exact .inr ⟨g, cap, cur, rfl, hb, (hk.block g (hl g rfl).2 (fun e => h.ne2 (by rw [← e]; rfl))).trans hg, rest⟩
/-- What a call of Write or Flush leaves of the count. -/
def cntOf (st : Bool) (ca : Int) : Int := if st = true ∧ ca ≠ 0 then ca - 1 else ca
theorem fails_ok {w : World} {p gs : Nat} {vp : Value} {S : List (List Int)} {P : List PW} {st : Bool} {ca : Int} (h : DiskAt w p gs vp S P false st ca) (hca : 0 ≤ ca ∧ ca ≤ 9223372036854775807) (hne : st = true → ca ≠ 0) :
    Calls Tryz.prog 71 #[.pointer (some ⟨p, 0, none⟩)] w fun e w' => e = .returned (.int .i64 0) ∧ DiskAt w' p gs vp S P false st (cntOf st ca) ∧ Keeps (fun i => i = p) w w' := by
  have c3 := h.blk.cell 3
  have c4 := h.blk.cell 4
  have f4 := h.blk.frozen 4
  have zp := h.blk.lt
  simp at c3 c4
  cases st
  · have hD : Hid (DiskAt w p gs vp S P false false (cntOf false ca)) := Lib.hid h
    clear h hne
    go_enter Tryz.func71, Tryz.ntmps71
    go_wp2_with fail
    go_ret
    exact ⟨rfl, hD.out, Keeps.refl _ _⟩
  · have h0 := hne rfl
    have e0 : (ca == 0) = false := by simpa using h0
    have hD : Hid (DiskAt (w.setCell ⟨p, 4, none⟩ (.int .i64 (ca - 1))) p gs vp S P false true (cntOf true ca)) := Lib.hid (h.put 4 _ (by unfold cntOf; rw [if_pos ⟨rfl, h0⟩]; rfl))
    clear h hne
    go_enter Tryz.func71, Tryz.ntmps71
    go_wp2_with fail
    go_ret
    exact ⟨rfl, hD.out, (Keeps.refl (fun k => k = p) _).setCell (p := ⟨p, 4, none⟩) (fun _ => rfl) _⟩
theorem fails_stop {w : World} {p gs : Nat} {vp : Value} {S : List (List Int)} {P : List PW} (h : DiskAt w p gs vp S P false true 0) :
    Calls Tryz.prog 71 #[.pointer (some ⟨p, 0, none⟩)] w fun e w' => e = .returned (.int .i64 70) ∧ DiskAt w' p gs vp S P true true 0 ∧ Keeps (fun i => i = p) w w' := by
  have c3 := h.blk.cell 3
  have c4 := h.blk.cell 4
  have c2 := h.blk.cell 2
  have f2 := h.blk.frozen 2
  have zp := h.blk.lt
  simp at c3 c4 c2
  have hD : Hid (DiskAt (w.setCell ⟨p, 2, none⟩ (.bool true)) p gs vp S P true true 0) := Lib.hid (h.put 2 _ rfl)
  clear h
  go_enter Tryz.func71, Tryz.ntmps71
  go_wp2_with fail
  go_ret
  exact ⟨rfl, hD.out, (Keeps.refl (fun k => k = p) _).setCell (p := ⟨p, 2, none⟩) (fun _ => rfl) _⟩
/-- Nothing is pending. -/
theorem DiskAt.flushed {w : World} {p gs : Nat} {vp : Value} {S : List (List Int)} {P : List PW} {dn st : Bool} {ca : Int} (h : DiskAt w p gs vp S P dn st ca) : DiskAt (w.setCell ⟨p, 1, none⟩ (.slice none 0 0)) p gs (.slice none 0 0) S [] dn st ca :=
  ⟨h.blk.set 1 (.slice none 0 0), h.sec.far (p := ⟨p, 1, none⟩) h.ne1 _, World.ownsRow_nil _ _ _ _, h.all, fun x hx => by simp at hx, h.ne1, by simp [Value.ownBlock], by simp [Value.ownBlock]⟩
theorem flush_ok {w : World} {p gs : Nat} {vp : Value} {S : List (List Int)} {P : List PW} {st : Bool} {ca : Int} (h : DiskAt w p gs vp S P false st ca) (hca : 0 ≤ ca ∧ ca ≤ 9223372036854775807) (hne : st = true → ca ≠ 0) :
    Calls Tryz.prog 33 #[.pointer (some ⟨p, 0, none⟩)] w fun e w' => e = .returned (.int .i64 0) ∧ DiskAt w' p gs (.slice none 0 0) S [] false st (cntOf st ca) ∧ Keeps (fun i => i = p) w w' := by
  have HR := Lib.hid (refuses_any h)
  have HF := Lib.hid (fails_ok h hca hne)
  clear h hca hne
  go_enter Tryz.func33, Tryz.ntmps33
  go_wp2_with fail
  refine HR.out.mono ?_
  rintro e w1 ⟨rfl, rfl⟩
  go_wp2_with fail
  refine HF.out.mono ?_
  rintro e w1 ⟨rfl, hD, hk⟩
  have c1 := hD.blk.cell 1
  have f1 := hD.blk.frozen 1
  have zp := hD.blk.lt
  simp at c1
  have hDn := Lib.hid hD.flushed
  have hk1 := hk.setCell (p := ⟨p, 1, none⟩) (fun _ => rfl) (.slice none 0 0)
  clear hD hk HR HF
  go_wp2_with fail
  go_ret
  exact ⟨rfl, hDn.out, hk1⟩

/-- v is a slice of the bytes l in memory of the call's own, from block base on. -/
def OwnU (w : World) (base : Nat) (v : Value) (l : List Int) : Prop := w.ownsRow base 5 1 v l.length (cellsB l)
set_option maxHeartbeats 1000000 in
theorem clone_any (g o c : Nat) (l : List Int) (hl : l.length ≤ 100000) (hp : 0 < l.length) (w : World) (hr : w.rangeAt g o (cellsB l)) :
    Calls Tryz.prog 69 #[.slice (some ⟨g, o, none⟩) l.length c] w fun e w' => ∃ A' c', e = .returned (.slice A' l.length c') ∧ OwnU w' w.heap.size (.slice A' l.length c') l ∧ Below w.heap.size w w' := by
  obtain ⟨i0, hi, hz0, hz1, hz2⟩ := info_parts infoU8
  have h0 : (w.alloc (.cells #[] 5)).ownsRow w.heap.size 5 1 (.slice (some ⟨w.heap.size, 0, none⟩) 0 0) 0 [] :=
    ⟨rfl, .inr ⟨w.heap.size, 0, #[], rfl, Nat.le_refl _, heap_alloc_new w _, Nat.le_refl _, by unfold maxLen; omega, rfl, rfl⟩⟩
  have hr1 := World.rangeAt_alloc hr (.cells #[] 5)
  obtain ⟨v', w', hrun, hO, hg, _, _⟩ := run_append_own_at (P := Tryz.prog) (w.alloc (.cells #[] 5)) w.heap.size 54 54 5 i0 _ 1 1 rowU8 hi hz0 hz1 hz2 rfl (by decide) (.slice (some ⟨w.heap.size, 0, none⟩) 0 0) 0 [] h0 ⟨g, o, none⟩ l.length c (cellsB l) (by rw [cellsB_len]; omega) (fun j u hu => by rw [Addr.add_mid]; exact hr1 j u hu) (cellsB_one l) (by unfold maxLen; omega) (by omega) (by simp)
  have hB : Below w.heap.size w w' := ((Below.refl _ _).alloc (Nat.le_refl _) _).trans ((Keeps.of_grown (S := fun k => k = w.heap.size) hg (fun k hk _ => by simp [Value.ownBlock] at hk; exact hk.symm)).below (fun k hk e => by omega) (by simp))
  rw [Nat.zero_add, List.nil_append] at hO
  have hO' : OwnU w' w.heap.size v' l := hO
  obtain ⟨A', c', rfl⟩ : ∃ A' c', v' = .slice A' l.length c' := by
    rcases hO.2 with ⟨rfl, h1⟩ | ⟨g', cap, cur, rfl, _⟩
    · omega
    · exact ⟨_, cap, rfl⟩
  have HO := Lib.hid hO'
  have qT : ∀ (w : World) (a : Option Addr) (n c n' c' : Nat), (binOp .eql 54 (.slice a n c) (.slice none n' c')).run Tryz.prog w = .ok (.bool a.isNone) w := fun w a n c n' c' => Lib.run_eql_slice_nil w _ _ a n c n' c' rowU8
  clear hO hO' hg h0 hr1 hr
  go_enter Tryz.func69, Tryz.ntmps69
  go_wp2_with (first | (at_builtin; refine Lib.wpList_append_run _ rfl _ _ _ _ rfl _ _ rfl rfl _ _ hrun ?_))
  go_ret
  exact ⟨A', c', rfl, HO.out, hB⟩

/-- Where a byte of a slice of one's own lies. -/
theorem OwnU.at {w : World} {base : Nat} {A : Option Addr} {c : Nat} {l : List Int} (h : OwnU w base (.slice A l.length c) l) (hp : 0 < l.length) : ∃ g, A = some ⟨g, 0, none⟩ ∧ base ≤ g ∧ g < w.heap.size ∧ ∀ k x, l[k]? = some x → w.cell? ⟨g, k, none⟩ = some (.int .u8 x) := by
  have hlt := World.ownsRow.lt h
  unfold OwnU at h
  have h0 := h
  rcases h0.2 with ⟨h1, h2⟩ | ⟨g, cap, cur, h1, hb, hg, _⟩
  · omega
  · simp only [Value.slice.injEq] at h1
    obtain ⟨rfl, _, rfl⟩ := h1
    refine ⟨g, rfl, hb, hlt g rfl |>.2, fun k x hx => ?_⟩
    have hk := (List.getElem?_eq_some_iff.1 hx).1
    rw [h.cellAt k (by omega)]
    unfold cellsB
    rw [List.getElem?_map, hx]
    rfl
set_option maxHeartbeats 1000000 in
theorem read_ok {w : World} {p gs : Nat} {vp : Value} {S : List (List Int)} {P : List PW} {st : Bool} {ca : Int} (h : DiskAt w p gs vp S P false st ca) (hS : S.length ≤ 65536) (k : Nat) (s : List Int) (hk : S[k]? = some s) :
    Calls Tryz.prog 28 #[.pointer (some ⟨p, 0, none⟩), .int .i64 (k : Int)] w fun e w' => ∃ A' c', e = .returned (.tuple #[.slice A' 64 c', .int .i64 0]) ∧ OwnU w' w.heap.size (.slice A' 64 c') s ∧ Below w.heap.size w w' := by
  have hkl := (List.getElem?_eq_some_iff.1 hk).1
  have hs := h.all s (List.mem_of_getElem? hk)
  have HR := Lib.hid (refusesSector_any h hS k)
  rw [show secErr false S.length (k : Int) = 0 by unfold secErr withinB; rw [if_neg (by simp), decide_eq_true (by omega), decide_eq_true (by omega)]; rfl] at HR
  have HC2 := Lib.hid (clone_any gs (k * 64) 64 s (by omega) (by omega) w (h.range hk))
  rw [hs] at HC2
  have c0 := h.blk.cell 0
  have zp := h.blk.lt
  have zs := h.sec.lt
  simp at c0
  clear hk h hs
  go_enter Tryz.func28, Tryz.ntmps28
  go_wp2_with fail
  refine HR.out.mono ?_
  rintro e w1 ⟨rfl, rfl⟩
  go_wp2_with fail
  refine HC2.out.mono ?_
  rintro e w2 ⟨A', c', rfl, hO, hb⟩
  have HO := Lib.hid hO
  clear hO HC2
  go_wp2_with fail
  go_ret2
  refine ⟨A', c', rfl, ?_, hb⟩
  have := HO.out
  exact this
end Go.Proofs.YthgfbaekmhpiaaaGreatDoor
namespace Go.Proofs.YthgfbaekmhpiaaaGreatDoor
open Go.RowKit

theorem descBlock : Tryz.prog.underlying 121 = some (.array 64 5) := by kernel_rfl
theorem sizeBlock : (Tryz.prog.info? 121).map (·.size) = some 64 := by kernel_rfl
theorem infoPW : (Tryz.prog.info? 130).map (fun i => (i.zero, i.size, i.bytes)) = some (some (.agg (Value.int .i64 0 :: List.replicate 128 (Value.int .u8 0)).toArray), 129, 136) := by kernel_rfl
theorem sizePW : (Tryz.prog.info? 130).map (·.size) = some 129 := by kernel_rfl
theorem descPW : ∃ d, Tryz.prog.underlying 130 = some d ∧ d.isRow = true := by
  have h : (Tryz.prog.underlying 130).map TypeDesc.isRow = some true := by kernel_rfl
  obtain ⟨d, h1, h2⟩ := Option.map_eq_some_iff.1 h
  exact ⟨d, h1, h2⟩
theorem rowPW : Tryz.prog.underlying 123 = some (.slice 130) := by kernel_rfl
theorem list64 (X : List Value) (h : X.length = 64) : ∃ f : Nat → Value, X = (List.range 64).map f :=
  ⟨fun i => X.getD i undef, by
    apply List.ext_getElem
    · simp [h]
    · intro i h1 h2
      simp [h1]⟩
theorem fold_pw (k : Int) (X : List Value) (hX : X.length = 64) : List.foldl (fun cs x => cs.setIfInBounds (1 + x.2) x.1) ((Value.int .i64 0 :: List.replicate 128 (Value.int .u8 0)).toArray.setIfInBounds 0 (.int .i64 k)) X.zipIdx = (Value.int .i64 k :: (X ++ List.replicate 64 (Value.int .u8 0))).toArray := by
  obtain ⟨f, rfl⟩ := list64 X hX
  kernel_rfl
theorem wpStill_load_mid {P : Program} {ops : Array Oper} {w : World} {Q : Act → Prop} {a : Act} {op : Oper} {rest : List Oper} (hgd : op.guard = none) (ty : TypeId) (x : Operand) (ho : op.op = .load ty x)
    (b o : Nat) (hx : a.eval x = .pointer (some ⟨b, o, none⟩)) (cs : List Value) (d : TypeDesc) (hc : w.rangeAt b o cs)
    (hu : P.underlying ty = some d) (hd : d.isRow = true) (hi : (P.info? ty).map (·.size) = some cs.length)
    (h : wpStill P ops w Q rest (a.put op.dst (.agg cs.toArray))) : wpStill P ops w Q (op :: rest) a := by
  refine wpStill_step (fun K hK => ?_)
  have hw : Region.wanted op (yielded ops a.tmps) = true := by simp [Region.wanted, hgd]
  rw [if_pos hw]
  unfold Oper.still execOp
  simp only [ho, hx, Instr.loadAt, Instr.sureAddr, Sem.run_bind, Sem.run_pure, Result.andThen_ok, run_loadVar_mid w b o ty cs d hc hu hd hi]
  exact ⟨rfl, hK _ h⟩
/-- The cells of a pending write behind its making, and with its bytes. -/
theorem splice_pw (k : Int) (s b : List Int) (hs : s.length = 64) (hb : b.length ≤ 64) : splice (Value.int .i64 k :: (cellsB s ++ List.replicate 64 (Value.int .u8 0))) 65 (cellsB b) = Value.int .i64 k :: (cellsB s ++ cellsB (padB b)) := by
  have h1 : (Value.int .i64 k :: cellsB s).length = 65 := by simp [cellsB_len, hs]
  have h2 : (Value.int .i64 k :: (cellsB s ++ List.replicate 64 (Value.int .u8 0))) = (Value.int .i64 k :: cellsB s) ++ List.replicate 64 (Value.int .u8 0) := rfl
  unfold splice
  rw [h2, List.take_append_of_le_length (by omega), List.take_of_length_le (by omega), List.drop_append, List.drop_eq_nil_of_le (by omega), List.nil_append, h1, cellsB_len, show 65 + b.length - 65 = b.length by omega, List.drop_replicate]
  unfold padB cellsB
  rw [List.map_append, List.map_replicate]
  rfl

/-- Cells that are stored one behind the other. -/
theorem splice_cons (cs : List Value) (o : Nat) (v : Value) (r : List Value) (h : o + (v :: r).length ≤ cs.length) : splice (cs.set o v) (o + 1) r = splice cs o (v :: r) := by
  simp only [List.length_cons] at h
  unfold splice
  rw [List.take_add_one, List.take_set_of_le (Nat.le_refl o), List.getElem?_set_self (by omega), List.drop_set_of_lt (by omega), List.length_cons, show o + 1 + r.length = o + (r.length + 1) by omega]
  simp
theorem Blk.setCells {g : Nat} {t : TypeId} : ∀ (vs : List Value) (o : Nat) (w : World) (cs : List Value), o + vs.length ≤ cs.length → Blk w g t cs.toArray → Blk (w.setCells g o vs) g t (splice cs o vs).toArray
  | [], o, w, cs, _, h => by
    have e : splice cs o [] = cs := by unfold splice; simp
    rw [e]
    exact h
  | v :: r, o, w, cs, hl, h => by
    rw [World.setCells, ← splice_cons cs o v r hl]
    refine Blk.setCells r (o + 1) _ _ (by simp only [List.length_cons, List.length_set] at hl ⊢; omega) ?_
    have := h.set o v
    rwa [List.setIfInBounds_toArray] at this
theorem Keeps.setCells {S : Nat → Prop} {w : World} {g : Nat} (hS : S g) : ∀ (vs : List Value) (o : Nat) (w1 : World), Keeps S w w1 → Keeps S w (w1.setCells g o vs)
  | [], _, _, h => h
  | v :: r, o, w1, h => by
    rw [World.setCells]
    exact Keeps.setCells hS r (o + 1) _ (h.setCell (p := ⟨g, o, none⟩) (fun _ => hS) v)
theorem flat_set {S : List (List Int)} (h : ∀ s ∈ S, s.length = 64) {b : List Int} (hb : b.length = 64) {k : Nat} (hk : k < S.length) : (S.set k b).flatMap cellsB = splice (S.flatMap cellsB) (k * 64) (cellsB b) := by
  induction S generalizing k with
  | nil => simp at hk
  | cons x S ih =>
    have hx := h x (List.mem_cons_self ..)
    have hxl : (cellsB x).length = 64 := by rw [cellsB_len, hx]
    have hbl : (cellsB b).length = 64 := by rw [cellsB_len, hb]
    cases k with
    | zero =>
      rw [List.set_cons_zero, List.flatMap_cons, List.flatMap_cons]
      unfold splice
      rw [hbl, Nat.zero_mul, List.take_zero, List.nil_append, Nat.zero_add, List.drop_append_of_le_length (by omega), List.drop_eq_nil_of_le (by omega), List.nil_append]
    | succ k =>
      rw [List.set_cons_succ, List.flatMap_cons, List.flatMap_cons, ih (fun y hy => h y (List.mem_cons_of_mem _ hy)) (by simpa using hk)]
      unfold splice
      rw [hbl, show (k + 1) * 64 = (cellsB x).length + k * 64 by rw [hxl]; omega, List.take_length_add_append, Nat.add_assoc (cellsB x).length]
      simp only [List.append_assoc]
      rw [show List.drop ((cellsB x).length + (k * 64 + 64)) (cellsB x ++ List.flatMap cellsB S) = List.drop (k * 64 + 64) (List.flatMap cellsB S) from List.drop_length_add_append ..]
/-- A sector gets other bytes. -/
theorem DiskAt.fill {w : World} {p gs : Nat} {vp : Value} {S : List (List Int)} {P : List PW} {dn st : Bool} {ca : Int} (h : DiskAt w p gs vp S P dn st ca) {k : Nat} (hk : k < S.length) {b : List Int} (hb : b.length = 64) : DiskAt (w.setCells gs (k * 64) (cellsB b)) p gs vp (S.set k b) P dn st ca := by
  have hK : Keeps (fun i => i = gs) w (w.setCells gs (k * 64) (cellsB b)) := Keeps.setCells (S := fun i => i = gs) (g := gs) rfl _ _ _ (Keeps.refl _ _)
  have hl := World.ownsRow.lt h.pend
  refine ⟨?_, ?_, ?_, fun s hs => ?_, fun x hx => ?_, h.ne1, h.ne2, h.ne3⟩
  · rw [List.length_set]
    exact h.blk.keep hK (fun e => h.ne1 e.symm)
  · rw [flat_set h.all hb hk]
    refine Blk.setCells _ _ _ _ ?_ h.sec
    rw [cellsB_len, hb, flat_len h.all]
    omega
  · refine ⟨h.pend.1, ?_⟩
    rcases h.pend.2 with h0 | ⟨g, cap, cur, rfl, hbb, hg, rest⟩
    · exact .inl h0
    · exact .inr ⟨g, cap, cur, rfl, hbb, (hK.block g (hl g rfl).2 (fun e => h.ne3 (by rw [← e]; rfl))).trans hg, rest⟩
  · rcases List.mem_or_eq_of_mem_set hs with hs | rfl
    · exact h.all s hs
    · exact hb
  · rw [List.length_set]
    exact h.size x hx
/-- A further write is pending. -/
theorem append_pw {w : World} {p gs : Nat} {vp : Value} {S : List (List Int)} {P : List PW} {dn st : Bool} {ca : Int} (h : DiskAt w p gs vp S P dn st ca) (hP : P.length ≤ 100000) (x : PW) (hx : x.1 < S.length ∧ x.2.1.length = 64 ∧ x.2.2.length = 64) (ty : TypeId) (L : List Value) (hL : L = cellsP x) :
    ∃ v' w', (Builtin.append_ #[123, 123] ty #[vp, .slice (some ⟨w.heap.size, 0, none⟩) 1 1]).run Tryz.prog (w.alloc (.cells L.toArray 130)) = .ok v' w' ∧ w'.cell? ⟨p, 1, none⟩ = some vp ∧ w'.frozen? ⟨p, 1, none⟩ = false ∧
      DiskAt (w'.setCell ⟨p, 1, none⟩ v') p gs v' S (P ++ [x]) dn st ca ∧ Keeps (ownD p gs vp) w (w'.setCell ⟨p, 1, none⟩ v') ∧ (v'.ownBlock = vp.ownBlock ∨ v'.ownBlock = some (w.heap.size + 1)) := by
  subst hL
  have hLl : (cellsP x).length = 129 := by unfold cellsP; simp only [List.length_cons, List.length_append, cellsB_len, hx.2.1, hx.2.2]
  obtain ⟨i0, hi, hz0, hz1, hz2⟩ := info_parts infoPW
  have hA : DiskAt (w.alloc (.cells (cellsP x).toArray 130)) p gs vp S P dn st ca := h.below (below_al (Below.refl _ _) _)
  have kN := Blk.new w 130 (cellsP x).toArray
  obtain ⟨v', w', hrun, hO, hg, _, hv⟩ := run_append_own_at (P := Tryz.prog) (w.alloc (.cells (cellsP x).toArray 130)) 0 123 ty 130 i0 _ 129 136 rowPW hi hz0 hz1 hz2 rfl (by decide) vp P.length _ hA.pend ⟨w.heap.size, 0, none⟩ 1 1 (cellsP x) hLl (fun j u hj => by
      rw [Addr.add_mid, Nat.zero_add, kN.cell j, List.getElem?_toArray]
      exact hj) (fun u hu => by
      unfold cellsP at hu
      rcases List.mem_cons.1 hu with rfl | hu
      · rfl
      · rcases List.mem_append.1 hu with hu | hu
        · exact cellsB_one _ u hu
        · exact cellsB_one _ u hu) (by unfold maxLen; omega) (by omega) (Nat.zero_le _)
  have hk : Keeps (fun i => vp.ownBlock = some i) (w.alloc (.cells (cellsP x).toArray 130)) w' := Keeps.of_grown hg (fun k hk _ => hk)
  have hB := hA.blk.keep hk h.ne2
  have hvp : v'.ownBlock ≠ some p := by
    have := h.blk.lt
    rcases hv with e | e
    · rw [e]; exact h.ne2
    · rw [e]; simp; omega
  have hvs : v'.ownBlock ≠ some gs := by
    have := h.sec.lt
    rcases hv with e | e
    · rw [e]; exact h.ne3
    · rw [e]; simp; omega
  have hl := World.ownsRow.lt hO
  refine ⟨v', w', hrun, by rw [hB.cell 1]; rfl, hB.frozen 1, ⟨hB.set 1 v', (hA.sec.keep hk h.ne3).far (p := ⟨p, 1, none⟩) h.ne1 _, ?_, h.all, fun y hy => ?_, h.ne1, hvp, hvs⟩, ?_, by simpa using hv⟩
  · rw [List.length_append, List.flatMap_append, List.flatMap_singleton]
    refine ⟨hO.1, ?_⟩
    rcases hO.2 with h0 | ⟨g, cap, cur, rfl, hbb, hgg, rest⟩
    · exact .inl h0
    · refine .inr ⟨g, cap, cur, rfl, hbb, ?_, rest⟩
      rw [← hgg]
      exact ((Keeps.refl (fun k => k = p) w').setCell (p := ⟨p, 1, none⟩) (fun _ => rfl) _).block g (hl g rfl).2 (fun e => hvp (by rw [← e]; rfl))
  · rcases List.mem_append.1 hy with hy | hy
    · exact h.size y hy
    · rw [List.mem_singleton.1 hy]; exact hx
  · exact ((((Keeps.refl _ _).alloc _).trans hk (fun i _ e => .inr (.inr e))).setCell (p := ⟨p, 1, none⟩) (fun _ => .inl rfl) v')
def fieldsOf : Option TypeDesc → Array Field
  | some (.struct f) => f
  | _ => #[]
theorem descPW' : Tryz.prog.underlying 130 = some (.struct (fieldsOf (Tryz.prog.underlying 130))) := by kernel_rfl

end Go.Proofs.YthgfbaekmhpiaaaGreatDoor
