/- Words for memory: cells that lie behind an address; a block that is known whole. No conditions. Contracts of the functions on letters: IsLetter, allLetters, IsName and their twins of the reference; no conditions but the byte's range and the string's length. Contracts of the reference's functions on letters: place, IsLetter, lettered, IsName; no conditions but the byte's range and the string's length. Entries as values, and the contracts of the small functions of package people on numbers: isDay, isId, isIdOrZero, and their twins of the reference. No conditions. Contracts of validDays, validIds, fields and ranged: which entries have their numbers in range. No conditions. The contract of Holds: whether an entry holds on a day. No conditions. -/
import Derived.Test.YtlbehpbhmmppiaaGreatDoorProg
import Derived.WalkKit
import Derived.WalkSpells
import Derived.WalkLawsBesides
import Derived.Lib.Hide
import Derived.Below
import Derived.Laws.OwnMore
import Derived.Laws.Rows
import Derived.Deep.Draws
import Derived.Deep.RegionWith
import Derived.Deep.QuietTactic
import Derived.BigQuiet
import Derived.Deep.DeepCutAuto
import Derived.Deep.RegionHeld3
import Derived.Maps.AppendAt
import Derived.OwnWalk
namespace Go.Proofs.YtlbehpbhmmppiaaGreatDoor
open Go.RowKit

/-- The memory behind the address A shows the values xs, one cell each, below block B. -/
def Lies (w : World) (B : Nat) (A : Option Addr) (xs : List Value) : Prop :=
  xs = [] ∨ ∃ b off, A = some ⟨b, off, none⟩ ∧ b < B ∧ ∀ j u, xs[j]? = some u → w.cell? ⟨b, off + j, none⟩ = some u

theorem Lies.below {w w' : World} {B : Nat} {A : Option Addr} {xs : List Value} (h : Lies w B A xs) (hb : Below B w w') : Lies w' B A xs := by
  rcases h with h | ⟨b, off, rfl, hlt, hc⟩
  · exact .inl h
  · exact .inr ⟨b, off, rfl, hlt, fun j u hu => (hb.cell (p := ⟨b, off + j, none⟩) hlt).trans (hc j u hu)⟩

theorem Lies.at {w : World} {B : Nat} {A : Option Addr} {xs : List Value} (h : Lies w B A xs) (j : Nat) (hj : j < xs.length) :
    ∃ b off, A = some ⟨b, off, none⟩ ∧ b < B ∧ ∀ j u, xs[j]? = some u → w.cell? ⟨b, off + j, none⟩ = some u := by
  rcases h with h | h
  · subst h; simp at hj
  · exact h

/-- What the walk uses of a contract's frame: old cells and old marks read as before, and the old blocks are still there. -/
theorem bcell {W w1 : World} (hb : Below W.heap.size W w1) :
    (∀ b o, b < W.heap.size → w1.cell? ⟨b, o, none⟩ = W.cell? ⟨b, o, none⟩) ∧ (∀ b o, b < W.heap.size → w1.frozen? ⟨b, o, none⟩ = W.frozen? ⟨b, o, none⟩) ∧ W.heap.size ≤ w1.heap.size :=
  ⟨fun b o h => hb.cell (p := ⟨b, o, none⟩) h, fun b o h => hb.frozen (p := ⟨b, o, none⟩) h, hb.size⟩

/-- What lay below an older bound still lies below a newer one. -/
theorem Lies.up {w W : World} {B B' : Nat} {A : Option Addr} {xs : List Value} (h : Lies w B A xs) (hb : Below B w W) (hB : B ≤ B') : Lies W B' A xs := by
  rcases h.below hb with h | ⟨b, off, rfl, hlt, hc⟩
  · exact .inl h
  · exact .inr ⟨b, off, rfl, by omega, hc⟩

/-- Block g holds just these cells, of element type t, none frozen. -/
def Blk (w : World) (g : Nat) (t : TypeId) (cs : Array Value) : Prop := w.heap[g]? = some (.cells cs t (0, 0))

theorem Blk.lt {w : World} {g : Nat} {t : TypeId} {cs : Array Value} (h : Blk w g t cs) : g < w.heap.size := by
  unfold Blk at h
  rcases Nat.lt_or_ge g w.heap.size with hlt | hge
  · exact hlt
  · rw [Array.getElem?_eq_none hge] at h; cases h
theorem Blk.cell {w : World} {g : Nat} {t : TypeId} {cs : Array Value} (h : Blk w g t cs) (i : Nat) : w.cell? ⟨g, i, none⟩ = cs[i]? := by
  unfold Blk at h; simp [World.cell?, h]
theorem Blk.frozen {w : World} {g : Nat} {t : TypeId} {cs : Array Value} (h : Blk w g t cs) (i : Nat) : w.frozen? ⟨g, i, none⟩ = false := by
  unfold Blk at h; simp [World.frozen?, h]
theorem Blk.new (w : World) (t : TypeId) (cs : Array Value) : Blk (w.alloc (.cells cs t)) w.heap.size t cs :=
  heap_alloc_new w _
theorem Blk.alloc {w : World} {g : Nat} {t : TypeId} {cs : Array Value} (h : Blk w g t cs) (o : Obj) : Blk (w.alloc o) g t cs :=
  (Below.heap_alloc w o g h.lt).trans h
theorem Blk.drew {w : World} {g : Nat} {t : TypeId} {cs : Array Value} (h : Blk w g t cs) : Blk w.drew g t cs := h
theorem Blk.below {w w' : World} {g B : Nat} {t : TypeId} {cs : Array Value} (h : Blk w g t cs) (hb : Below B w w') (hg : g < B) : Blk w' g t cs :=
  (hb.block g hg).trans h
theorem Blk.set {w : World} {g : Nat} {t : TypeId} {cs : Array Value} (h : Blk w g t cs) (i : Nat) (u : Value) : Blk (w.setCell ⟨g, i, none⟩ u) g t (cs.setIfInBounds i u) := by
  unfold Blk at h ⊢; simp [World.setCell, Array.getElem?_modify, h]
theorem Blk.far {w : World} {g : Nat} {t : TypeId} {cs : Array Value} (h : Blk w g t cs) {p : Addr} (hp : g ≠ p.block) (u : Value) : Blk (w.setCell p u) g t cs :=
  (Below.heap_setCell w p u g hp).trans h

/-- From w to w' the blocks of w outside S have kept their content; new blocks may have come. -/
structure Keeps (S : Nat → Prop) (w w' : World) : Prop where
  os : w'.os = w.os
  tape : w'.tape = w.tape
  output : w'.output = w.output
  size : w.heap.size ≤ w'.heap.size
  block : ∀ k, k < w.heap.size → ¬ S k → w'.heap[k]? = w.heap[k]?

section
variable {S S' : Nat → Prop} {w w' w1 w2 : World}
theorem Keeps.refl (S : Nat → Prop) (w : World) : Keeps S w w := ⟨rfl, rfl, rfl, Nat.le_refl _, fun _ _ _ => rfl⟩
theorem Keeps.trans (h : Keeps S w w1) (k : Keeps S' w1 w2) (hs : ∀ i, i < w.heap.size → S' i → S i) : Keeps S w w2 :=
  ⟨k.os.trans h.os, k.tape.trans h.tape, k.output.trans h.output, Nat.le_trans h.size k.size,
    fun i hi hn => (k.block i (Nat.lt_of_lt_of_le hi h.size) (fun hk => hn (hs i hi hk))).trans (h.block i hi hn)⟩
theorem Keeps.mono (h : Keeps S w w') (hs : ∀ i, i < w.heap.size → S i → S' i) : Keeps S' w w' :=
  ⟨h.os, h.tape, h.output, h.size, fun i hi hn => h.block i hi (fun hk => hn (hs i hi hk))⟩
theorem Keeps.drew (h : Keeps S w w1) : Keeps S w w1.drew := ⟨h.os, h.tape, h.output, h.size, h.block⟩
theorem Keeps.drewN (h : Keeps S w w1) (n : Nat) : Keeps S w (w1.drewN n) := ⟨h.os, h.tape, h.output, h.size, h.block⟩
theorem Keeps.alloc (h : Keeps S w w1) (o : Obj) : Keeps S w (w1.alloc o) :=
  ⟨h.os, h.tape, h.output, by have := h.size; simp; omega, fun k hk hn => (Below.heap_alloc _ _ _ (Nat.lt_of_lt_of_le hk h.size)).trans (h.block k hk hn)⟩
theorem Keeps.setCell (h : Keeps S w w1) {p : Addr} (hp : p.block < w.heap.size → S p.block) (u : Value) : Keeps S w (w1.setCell p u) :=
  ⟨h.os, h.tape, h.output, by simpa [World.setCell] using h.size,
    fun k hk hn => (Below.heap_setCell _ _ _ _ (fun e => by subst e; exact hn (hp hk))).trans (h.block k hk hn)⟩
theorem Keeps.below {B : Nat} (h : Keeps S w w') (hs : ∀ k, k < B → ¬ S k) (hB : B ≤ w.heap.size) : Below B w w' :=
  ⟨h.os, h.tape, h.output, h.size, fun k hk => h.block k (by omega) (hs k hk)⟩
theorem Keeps.of_below {B : Nat} (h : Below B w w') (hs : ∀ k, B ≤ k → k < w.heap.size → S k) : Keeps S w w' :=
  ⟨h.os, h.tape, h.output, h.size, fun k hk hn => h.block k (by
    rcases Nat.lt_or_ge k B with h1 | h1
    · exact h1
    · exact absurd (hs k h1 hk) hn)⟩
theorem Keeps.of_new (h : Below w.heap.size w w') : Keeps S w w' := Keeps.of_below h (fun _ h1 h2 => absurd h2 (by omega))
theorem Keeps.of_grown {row : Option Nat} (h : w.grownBy w' row) (hs : ∀ k, row = some k → k < w.heap.size → S k) : Keeps S w w' :=
  ⟨h.os, h.tape, h.output, h.size, fun k hk hn => h.block k hk (fun e => hn (hs k e.symm hk))⟩
theorem Keeps.cell (h : Keeps S w w') {b o : Nat} (hb : b < w.heap.size) (hn : ¬ S b) : w'.cell? ⟨b, o, none⟩ = w.cell? ⟨b, o, none⟩ :=
  World.cell?_of_block (h.block b hb hn)
theorem Keeps.frozen (h : Keeps S w w') {b o : Nat} (hb : b < w.heap.size) (hn : ¬ S b) : w'.frozen? ⟨b, o, none⟩ = w.frozen? ⟨b, o, none⟩ :=
  World.frozen?_of_block (h.block b hb hn)
theorem Blk.keep {g : Nat} {t : TypeId} {cs : Array Value} (h : Blk w g t cs) (hk : Keeps S w w') (hn : ¬ S g) : Blk w' g t cs := (hk.block g h.lt hn).trans h
theorem Blk.drewN {g : Nat} {t : TypeId} {cs : Array Value} (h : Blk w g t cs) (n : Nat) : Blk (w.drewN n) g t cs := h
theorem Lies.keep {B : Nat} {A : Option Addr} {xs : List Value} (h : Lies w B A xs) (hk : Keeps S w w') (hn : ∀ k, k < B → ¬ S k) (hB : B ≤ w.heap.size) : Lies w' B A xs :=
  h.below (hk.below hn hB)
/-- What the walk uses of a contract's frame: old cells and marks outside S read as before, and the old blocks are still there. -/
theorem kcell (hk : Keeps S w w1) :
    (∀ b o, b < w.heap.size → ¬ S b → w1.cell? ⟨b, o, none⟩ = w.cell? ⟨b, o, none⟩) ∧ (∀ b o, b < w.heap.size → ¬ S b → w1.frozen? ⟨b, o, none⟩ = w.frozen? ⟨b, o, none⟩) ∧ w.heap.size ≤ w1.heap.size :=
  ⟨fun _ _ h hn => hk.cell h hn, fun _ _ h hn => hk.frozen h hn, hk.size⟩
end

end Go.Proofs.YtlbehpbhmmppiaaGreatDoor
namespace Go.Proofs.YtlbehpbhmmppiaaGreatDoor
open Go.RowKit

theorem ret_bool {a b : Bool} (h : a = b) : Ending.returned (.bool a) = .returned (.bool b) := by rw [h]
theorem ret_int {k : IntKind} {a b : Int} (h : a = b) : Ending.returned (.int k a) = .returned (.int k b) := by rw [h]

/-- A byte is one of the 38 letters. -/
def isL (c : Int) : Bool := (decide (97 ≤ c) && decide (c ≤ 122)) || (decide (48 ≤ c) && decide (c ≤ 57)) || c == 32 || c == 45

theorem isL_eq (c : Int) (b : Bool) (h : b = true ↔ (97 ≤ c ∧ c ≤ 122 ∨ 48 ≤ c ∧ c ≤ 57 ∨ c = 32 ∨ c = 45)) : b = isL c := by
  rw [Bool.eq_iff_iff, h]
  simp [isL]
  omega

set_option maxHeartbeats 400000 in
theorem isLetter_any (c : Int) (w : World) :
    Calls Tryz.prog 146 #[.int .u8 c] w fun e w' => e = .returned (.bool (isL c)) ∧ w = w' := by
  go_enter Tryz.func146, Tryz.ntmps146
  go_wp2
  all_goals
    go_ret
    exact ⟨ret_bool (isL_eq _ _ (by simp; try omega)), rfl⟩

/-- All bytes of a string are letters. -/
def allL (s : List UInt8) : Bool := s.all fun c => isL c.toNat

theorem all_take_succ (s : ByteArray) (k : Nat) (h : k < s.size) : allL (s.data.toList.take (k + 1)) = (allL (s.data.toList.take k) && isL (s[k].toNat)) := by
  unfold allL
  rw [List.take_succ_eq_append_getElem (by simpa using h), List.all_append]
  simp
  rfl

theorem all_take_of (s : List UInt8) (k : Nat) (h : allL (s.take k) = false) : allL s = false := by
  unfold allL at *
  rw [← List.take_append_drop k s, List.all_append, h]
  rfl

set_option maxHeartbeats 400000 in
theorem allLetters_any (s : ByteArray) (w : World) (hs : s.size ≤ maxLen) :
    Calls Tryz.prog 129 #[.string s] w fun e w' => e = .returned (.bool (allL s.data.toList)) ∧ w = w' := by
  unfold maxLen at hs
  go_enter Tryz.func129, Tryz.ntmps129
  go_wp2
  go_loop [3, 6] (fun _ i => ∃ k : Nat, k ≤ s.size ∧ i = .int .i64 k ∧ Hid (allL (s.data.toList.take k) = true)) (fun _ i => s.size - (intOf i).toNat)
  case atStart => exact ⟨0, Nat.zero_le _, rfl, Lib.hid rfl⟩
  case round =>
    obtain ⟨k, hk, rfl, H⟩ := hrel
    by_cases hlt : k < s.size
    · have hsn := all_take_succ s k hlt
      rw [H.out, Bool.true_and] at hsn
      have HS := Lib.hid hsn
      clear hsn
      go_wp2_with (go_at_call 146; refine (isLetter_any _ _).mono ?_; rintro e w' ⟨rfl, rfl⟩)
      · go_ret
        exact ⟨ret_bool (by have hn : isL (↑s[k].toNat) = false := by simpa using ‹(!isL ↑s[k].toNat) = true›
                            rw [hn] at HS; exact (all_take_of _ _ HS.out).symm), rfl⟩
      · go_round
        case rel => exact ⟨k + 1, by omega, by go_num, Lib.hid (by rw [HS.out]; simpa using ‹(!isL ↑s[k].toNat) = false›)⟩
        case measure => simp [intOf]; omega
    · go_wp2
      go_ret
      exact ⟨ret_bool (by have := H.out; rw [List.take_of_length_le (by simp; omega)] at this; exact this.symm), rfl⟩

theorem getD_byte (s : ByteArray) (i : Nat) (h : i < s.size) : s.data.toList.getD i 0 = s[i] := by
  have h' : i < s.data.toList.length := by simpa using h
  rw [List.getD_eq_getElem?_getD, List.getElem?_eq_getElem h']
  rfl

/-- A string is a name. -/
def isN (s : List UInt8) : Bool :=
  decide (1 ≤ s.length) && decide (s.length ≤ 24) && allL s && ((s.getD 0 0).toNat : Int) != 32 && ((s.getD (s.length - 1) 0).toNat : Int) != 32

set_option maxHeartbeats 400000 in
theorem isName_any (s : ByteArray) (w : World) (hs : s.size ≤ maxLen) :
    Calls Tryz.prog 109 #[.string s] w fun e w' => e = .returned (.bool (isN s.data.toList)) ∧ w = w' := by
  have hs' := hs
  unfold maxLen at hs
  have hl : s.data.toList.length = s.size := by simp
  by_cases h0 : s.size = 0
  · have hn : isN s.data.toList = false := by simp [isN, hl, h0]
    have HN := Lib.hid hn
    have h1 : ((s.size : Int) == 0) = true := by simp [h0]
    clear hn hl h0
    go_enter Tryz.func109, Tryz.ntmps109
    go_wp2
    go_ret
    exact ⟨ret_bool HN.out.symm, rfl⟩
  · have h1 : ((s.size : Int) == 0) = false := by simpa using h0
    by_cases h2 : s.size ≤ 24
    · have hp : 0 < s.size := by omega
      have hp1 : s.size - 1 < s.size := by omega
      have hb0 := getD_byte s 0 hp
      have hb1 := getD_byte s (s.size - 1) hp1
      have hn : isN s.data.toList = (allL s.data.toList && (s[0].toNat : Int) != 32 && (s[s.size - 1].toNat : Int) != 32) := by
        unfold isN
        rw [hl, hb0, hb1]
        simp [h2, show 1 ≤ s.size by omega]
      have HN := Lib.hid hn
      clear hn hl h0 hb0 hb1
      cases ha : allL s.data.toList with
      | true =>
        have HA := Lib.hid ha
        go_enter Tryz.func109, Tryz.ntmps109
        go_wp2_with (go_at_call 129; refine (allLetters_any _ _ hs').mono ?_; rintro e w' ⟨rfl, rfl⟩)
        all_goals
          go_ret
          exact ⟨ret_bool (by rw [HN.out, HA.out]; simp [*]), rfl⟩
      | false =>
        have HA := Lib.hid ha
        go_enter Tryz.func109, Tryz.ntmps109
        go_wp2_with (go_at_call 129; refine (allLetters_any _ _ hs').mono ?_; rintro e w' ⟨rfl, rfl⟩)
        go_ret
        exact ⟨ret_bool (by rw [HN.out, HA.out]; simp), rfl⟩
    · have hn : isN s.data.toList = false := by simp [isN, hl, h2]
      have HN := Lib.hid hn
      have h2' : (24 : Int) < (s.size : Int) := by omega
      clear hn hl h0 h2
      go_enter Tryz.func109, Tryz.ntmps109
      go_wp2
      go_ret
      exact ⟨ret_bool HN.out.symm, rfl⟩
end Go.Proofs.YtlbehpbhmmppiaaGreatDoor
namespace Go.Proofs.YtlbehpbhmmppiaaGreatDoor
open Go.RowKit

/-- The 38 letters in byte order. -/
def alpha : List UInt8 := [32, 45, 48, 49, 50, 51, 52, 53, 54, 55, 56, 57, 97, 98, 99, 100, 101, 102, 103, 104, 105, 106, 107, 108, 109, 110, 111, 112, 113, 114, 115, 116, 117, 118, 119, 120, 121, 122]
/-- The index of a byte in the alphabet, or -1. -/
def plc (c : Int) : Int := match alpha.findIdx? (fun a => (a.toNat : Int) == c) with
  | some i => i
  | none => -1

theorem plc_of (c : Int) (k : Nat) (hk : k < 38) (h : ∀ j, j < k → ((alpha.getD j 0).toNat : Int) ≠ c) (he : ((alpha.getD k 0).toNat : Int) = c) : plc c = k := by
  have hl : alpha.length = 38 := rfl
  have hf : alpha.findIdx? (fun a => (a.toNat : Int) == c) = some k := by
    rw [List.findIdx?_eq_some_iff_getElem]
    refine ⟨by omega, ?_, fun j hj => ?_⟩
    · have : alpha[k]'(by omega) = alpha.getD k 0 := by rw [List.getD_eq_getElem?_getD, List.getElem?_eq_getElem (by omega)]; rfl
      rw [this]; simpa using he
    · have h1 := h j hj
      have : alpha[j]'(by omega) = alpha.getD j 0 := by rw [List.getD_eq_getElem?_getD, List.getElem?_eq_getElem (by omega)]; rfl
      rw [this]; simpa using h1
  unfold plc
  rw [hf]

theorem plc_none (c : Int) (h : ∀ j, j < 38 → ((alpha.getD j 0).toNat : Int) ≠ c) : plc c = -1 := by
  have hf : alpha.findIdx? (fun a => (a.toNat : Int) == c) = none := by
    rw [List.findIdx?_eq_none_iff]
    intro x hx
    obtain ⟨j, hj, rfl⟩ := List.getElem_of_mem hx
    have h1 := h j (by simpa [alpha] using hj)
    have : alpha[j] = alpha.getD j 0 := by rw [List.getD_eq_getElem?_getD, List.getElem?_eq_getElem hj]; rfl
    rw [this]; simpa using h1
  unfold plc
  rw [hf]

theorem alpha_at (k : Nat) (_h : k < 38) (h' : k < (ByteArray.mk #[32, 45, 48, 49, 50, 51, 52, 53, 54, 55, 56, 57, 97, 98, 99, 100, 101, 102, 103, 104, 105, 106, 107, 108, 109, 110, 111, 112, 113, 114, 115, 116, 117, 118, 119, 120, 121, 122]).size) :
    (ByteArray.mk #[32, 45, 48, 49, 50, 51, 52, 53, 54, 55, 56, 57, 97, 98, 99, 100, 101, 102, 103, 104, 105, 106, 107, 108, 109, 110, 111, 112, 113, 114, 115, 116, 117, 118, 119, 120, 121, 122])[k] = alpha.getD k 0 := by
  rw [← getD_byte _ k h']
  rfl

theorem plc_neg (c : Int) : decide (plc c < 0) = !decide (0 ≤ plc c) := by
  rw [Bool.eq_iff_iff]; simp

theorem alpha_iff (c : Int) : (∃ j, j < 38 ∧ ((alpha.getD j 0).toNat : Int) = c) ↔ (97 ≤ c ∧ c ≤ 122 ∨ 48 ≤ c ∧ c ≤ 57 ∨ c = 32 ∨ c = 45) := by
  constructor
  · rintro ⟨j, hj, rfl⟩
    have h : ∀ j : Fin 38, (97 ≤ (alpha.getD j.val 0).toNat ∧ (alpha.getD j.val 0).toNat ≤ 122 ∨ 48 ≤ (alpha.getD j.val 0).toNat ∧ (alpha.getD j.val 0).toNat ≤ 57 ∨ (alpha.getD j.val 0).toNat = 32 ∨ (alpha.getD j.val 0).toNat = 45) := by decide +kernel
    have := h ⟨j, hj⟩
    dsimp only at this
    omega
  · intro h
    have k : ∃ n : Nat, n < 123 ∧ c = (n : Int) := ⟨c.toNat, by omega, by omega⟩
    obtain ⟨n, hn, rfl⟩ := k
    have g : ∀ n : Fin 123, (97 ≤ n.val ∧ n.val ≤ 122 ∨ 48 ≤ n.val ∧ n.val ≤ 57 ∨ n.val = 32 ∨ n.val = 45) → ∃ j : Fin 38, (alpha.getD j.val 0).toNat = n.val := by decide +kernel
    obtain ⟨j, hj⟩ := g ⟨n, hn⟩ (by dsimp only; omega)
    exact ⟨j.val, j.isLt, by exact_mod_cast hj⟩

theorem alpha_getD (j : Nat) (h : j < alpha.length) : alpha.getD j 0 = alpha[j] := by
  rw [List.getD_eq_getElem?_getD, List.getElem?_eq_getElem h]; rfl

end Go.Proofs.YtlbehpbhmmppiaaGreatDoor
namespace Go.Proofs.YtlbehpbhmmppiaaGreatDoor
open Go.RowKit

/-- An entry of the directory. -/
structure Ent where
  day : Int
  kind : Int
  since : Int
  untl : Int
  person : Int
  place : Int
  other : Int
  at' : Int
  order : Int
  name : ByteArray
deriving DecidableEq

/-- The cells of an entry. -/
def entCells (x : Ent) : List Value :=
  [.int .i64 x.day, .int .u8 x.kind, .int .i64 x.since, .int .i64 x.untl, .int .i64 x.person, .int .i64 x.place, .int .i64 x.other, .int .i64 x.at', .int .i64 x.order, .string x.name]
/-- An entry as a value. -/
def entVal (x : Ent) : Value := .agg #[.int .i64 x.day, .int .u8 x.kind, .int .i64 x.since, .int .i64 x.untl, .int .i64 x.person, .int .i64 x.place, .int .i64 x.other, .int .i64 x.at', .int .i64 x.order, .string x.name]

/-- A number is a day. -/
def isDayB (n : Int) : Bool := decide (0 ≤ n) && decide (n ≤ 100000)
def isIdB (n : Int) : Bool := decide (1 ≤ n) && decide (n ≤ 1000000)
def isIdZB (n : Int) : Bool := n == 0 || isIdB n

set_option maxHeartbeats 400000 in
theorem isDay_any (n : Int) (w : World) :
    Calls Tryz.prog 13 #[.int .i64 n] w fun e w' => e = .returned (.bool (isDayB n)) ∧ w = w' := by
  go_enter Tryz.func13, Tryz.ntmps13
  go_wp2
  all_goals
    go_ret
    exact ⟨ret_bool (by rw [Bool.eq_iff_iff]; simp [isDayB]; try omega), rfl⟩

set_option maxHeartbeats 400000 in
theorem isId_any (n : Int) (w : World) :
    Calls Tryz.prog 25 #[.int .i64 n] w fun e w' => e = .returned (.bool (isIdB n)) ∧ w = w' := by
  go_enter Tryz.func25, Tryz.ntmps25
  go_wp2
  all_goals
    go_ret
    exact ⟨ret_bool (by rw [Bool.eq_iff_iff]; simp [isIdB]; try omega), rfl⟩

set_option maxHeartbeats 400000 in
theorem isIdOrZero_any (n : Int) (w : World) :
    Calls Tryz.prog 26 #[.int .i64 n] w fun e w' => e = .returned (.bool (isIdZB n)) ∧ w = w' := by
  go_enter Tryz.func26, Tryz.ntmps26
  go_wp2_with (go_at_call 25; refine (isId_any _ _).mono ?_; rintro e w' ⟨rfl, rfl⟩)
  all_goals
    go_ret
    exact ⟨ret_bool (by simp_all [isIdZB]), rfl⟩

/-- The days of an entry are in range. -/
def vDays (x : Ent) : Bool := isDayB x.day && isDayB x.since && (x.untl == 0 || isDayB x.untl && decide (x.since < x.untl))
end Go.Proofs.YtlbehpbhmmppiaaGreatDoor
namespace Go.Proofs.YtlbehpbhmmppiaaGreatDoor
open Go.RowKit

/-- The ids of an entry are in range. -/
def vIds (x : Ent) : Bool :=
  if x.kind = 1 then isIdB x.person else if x.kind = 3 then isIdB x.person
  else if x.kind = 2 then isIdB x.person && isIdB x.place
  else if x.kind = 4 then isIdB x.person && isIdB x.other && x.person != x.other
  else if x.kind = 5 then isIdB x.order && isIdB x.person && isIdB x.other && isIdZB x.place && isIdZB x.at'
  else if x.kind = 6 then isIdB x.order
  else if x.kind = 7 then isIdB x.person && isIdZB x.place && isIdZB x.other
  else false

set_option maxHeartbeats 400000 in
theorem validDays_any (x : Ent) (w : World) :
    Calls Tryz.prog 106 #[entVal x] w fun e w' => e = .returned (.bool (vDays x)) ∧ Below w.heap.size w w' := by
  unfold entVal
  go_enter Tryz.func106, Tryz.ntmps106
  go_wp2_with (go_at_call 13; refine (isDay_any _ _).mono ?_; rintro e w' ⟨rfl, rfl⟩)
  all_goals
    go_ret
    exact ⟨ret_bool (by simp_all [vDays]), (Below.refl _ _).alloc (Nat.le_refl _) _⟩

set_option maxHeartbeats 1000000 in
theorem validIds_any (x : Ent) (w : World) :
    Calls Tryz.prog 107 #[entVal x] w fun e w' => e = .returned (.bool (vIds x)) ∧ Below w.heap.size w w' := by
  unfold entVal
  go_enter Tryz.func107, Tryz.ntmps107
  go_wp2_with (first | (go_at_call 25; refine (isId_any _ _).mono ?_; rintro e w' ⟨rfl, rfl⟩) | (go_at_call 26; refine (isIdOrZero_any _ _).mono ?_; rintro e w' ⟨rfl, rfl⟩))
  all_goals
    go_ret
    exact ⟨ret_bool (by simp_all [vIds]), (Below.refl _ _).alloc (Nat.le_refl _) _⟩

end Go.Proofs.YtlbehpbhmmppiaaGreatDoor
namespace Go.Proofs.YtlbehpbhmmppiaaGreatDoor
open Go.RowKit

/-- An entry holds on a day. -/
def hld (x : Ent) (d : Int) : Bool := decide (x.since ≤ d) && (x.untl == 0 || decide (d < x.untl))
def factVal (x : Ent) : Value := .agg #[.int .i64 x.since, .int .i64 x.untl, .int .i64 x.day, .int .u8 x.kind, .int .i64 x.since, .int .i64 x.untl, .int .i64 x.person, .int .i64 x.place, .int .i64 x.other, .int .i64 x.at', .int .i64 x.order, .string x.name]
def RetsFact (w : World) (y : Ent) (e : Ending) (w' : World) : Prop := e = .returned (factVal y) ∧ Below w.heap.size w w'

set_option maxRecDepth 100000 in
set_option maxHeartbeats 1000000 in
theorem factOf_any (x : Ent) (w : World) :
    Calls Tryz.prog 90 #[entVal x] w (RetsFact w x) := by
  unfold entVal
  go_enter Tryz.func90, Tryz.ntmps90
  go_wp2
  refine bodyPost_ret (v := factVal x) ?_ rfl ⟨rfl, ?_⟩
  · simp [results, Tryz.results90, go_sem, factVal]
  · exact ((Below.refl _ _).alloc (Nat.le_refl _) _).alloc (by simp) _

set_option maxRecDepth 100000 in
set_option maxHeartbeats 1000000 in
theorem spanHolds_any (s u d : Int) (w : World) :
    Calls Tryz.prog 91 #[.agg #[.int .i64 s, .int .i64 u], .int .i64 d] w fun e w' => e = .returned (.bool (decide (s ≤ d) && (u == 0 || decide (d < u)))) ∧ Below w.heap.size w w' := by
  go_enter Tryz.func91, Tryz.ntmps91
  go_wp2
  all_goals
    go_ret
    exact ⟨ret_bool (by rw [Bool.eq_iff_iff]; simp_all; try omega), (Below.refl _ _).alloc (Nat.le_refl _) _⟩

set_option maxRecDepth 100000 in
set_option maxHeartbeats 1000000 in
theorem holds_any (x : Ent) (d : Int) (w : World) :
    Calls Tryz.prog 57 #[entVal x, .int .i64 d] w fun e w' => e = .returned (.bool (hld x d)) ∧ Below w.heap.size w w' := by
  have hf : ∀ w', (Instr.field 157 (factVal x) 0).run Tryz.prog w' = .ok (.agg #[.int .i64 x.since, .int .i64 x.untl]) w' := fun _ => by kernel_rfl
  unfold factVal at hf
  unfold entVal
  go_enter Tryz.func57, Tryz.ntmps57
  go_wp2_with fail
  refine (factOf_any x _).mono ?_
  rintro e w1 ⟨rfl, hb1⟩
  unfold factVal
  go_wp2_with fail
  refine (spanHolds_any x.since x.untl d _).mono ?_
  rintro e w2 ⟨rfl, hb2⟩
  go_wp2_with fail
  go_ret
  have hB0 : Below w.heap.size w (w.alloc (.cells (entCells x).toArray 41)) := (Below.refl _ _).alloc (Nat.le_refl _) _
  exact ⟨rfl, (hB0.trans (hb1.mono hB0.size)).trans (hb2.mono (hB0.trans (hb1.mono hB0.size)).size)⟩
end Go.Proofs.YtlbehpbhmmppiaaGreatDoor
