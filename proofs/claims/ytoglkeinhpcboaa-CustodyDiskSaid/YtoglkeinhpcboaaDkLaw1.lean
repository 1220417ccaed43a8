/- The contracts of disk and small. Conditions: the script lies in memory. -/
import Derived.Test.YtoglkeinhpcboaaRdRel
namespace Go.Proofs.Ytoglkeinhpcboaa
open Go.RowKit

/-- An operation of a script, with where its bytes and numbers lie. -/
structure DOp where
  kind : Int
  sector : Int
  dA : Option Addr
  dc : Nat
  data : List Int
  n : Int
  kA : Option Addr
  kc : Nat
  keep : List Int
def opCells (o : DOp) : List Value := [.int .u8 o.kind, .int .i64 o.sector, .slice o.dA o.data.length o.dc, .int .i64 o.n, .slice o.kA o.keep.length o.kc]
/-- The script's row. -/
def OpsLie (w : World) (A : Option Addr) (l : List DOp) : Prop :=
  l = [] ∨ ∃ b off, A = some ⟨b, off, none⟩ ∧ b < w.heap.size ∧ ∀ k x, l[k]? = some x → ∀ j v, (opCells x)[j]? = some v → w.cell? ⟨b, off + k * 5 + j, none⟩ = some v
theorem OpsLie.at {w : World} {A : Option Addr} {l : List DOp} (h : OpsLie w A l) {k : Nat} {x : DOp} (hx : l[k]? = some x) : ∃ b off, A = some ⟨b, off, none⟩ ∧ b < w.heap.size ∧ w.cell? ⟨b, off + k * 5, none⟩ = some (.int .u8 x.kind) ∧ w.cell? ⟨b, off + k * 5 + 1, none⟩ = some (.int .i64 x.sector) ∧ w.cell? ⟨b, off + k * 5 + 2, none⟩ = some (.slice x.dA x.data.length x.dc) ∧ w.cell? ⟨b, off + k * 5 + 3, none⟩ = some (.int .i64 x.n) ∧ w.cell? ⟨b, off + k * 5 + 4, none⟩ = some (.slice x.kA x.keep.length x.kc) := by
  rcases h with rfl | ⟨b, off, h1, h2, h3⟩
  · simp at hx
  · exact ⟨b, off, h1, h2, h3 k x hx 0 _ rfl, h3 k x hx 1 _ rfl, h3 k x hx 2 _ rfl, h3 k x hx 3 _ rfl, h3 k x hx 4 _ rfl⟩
def smallOp (o : DOp) : Bool := decide (o.data.length ≤ 200) && decide (o.keep.length ≤ 200)
def smallOps (l : List DOp) : Bool := decide (l.length ≤ 200) && l.all smallOp

set_option maxRecDepth 100000 in
set_option maxHeartbeats 1000000 in
theorem small_any (A : Option Addr) (c : Nat) (l : List DOp) (hl : l.length ≤ 9223372036854775807) (hd : ∀ x ∈ l, x.data.length ≤ 9223372036854775807 ∧ x.keep.length ≤ 9223372036854775807) (w : World) (h : OpsLie w A l) :
    Calls Try.prog 5 #[.slice A l.length c] w fun e w' => e = .returned (.bool (smallOps l)) ∧ w = w' := by
  by_cases h2 : l.length ≤ 200
  · have h2' : ¬ (200 : Int) < (l.length : Int) := by omega
    go_enter Try.func5, Try.ntmps5
    go_wp2_with fail
    go_loopw [3] (fun i wr => ∃ k : Nat, k ≤ l.length ∧ i = .int .i64 k ∧ wr = w ∧ (l.take k).all smallOp = true) (fun i _ => l.length - (intOf i).toNat)
    case atStart => exact ⟨0, Nat.zero_le _, rfl, rfl, rfl⟩
    case round =>
      obtain ⟨k, hk, rfl, rfl, hall⟩ := hrel
      by_cases hlt : k < l.length
      · obtain ⟨x, hx⟩ : ∃ x, l[k]? = some x := ⟨_, List.getElem?_eq_getElem hlt⟩
        obtain ⟨b, off, rfl, hb, q0, q1, q2, q3, q4⟩ := h.at hx
        have hm := List.mem_of_getElem? hx
        have hdx := hd x hm
        have hT : Hid ((l.take (k + 1)).all smallOp = ((l.take k).all smallOp && smallOp x)) := Lib.hid (by rw [List.take_add_one, hx, List.all_append]; simp)
        have HA := Lib.hid hall
        have HM := Lib.hid hm
        have hki : (k : Int) < (l.length : Int) := by omega
        clear hx hm hall
        by_cases hs1 : x.data.length ≤ 200
        · have s1 : ¬ (200 : Int) < (x.data.length : Int) := by omega
          by_cases hs2 : x.keep.length ≤ 200
          · have s2 : ¬ (200 : Int) < (x.keep.length : Int) := by omega
            have HS : Hid (smallOp x = true) := Lib.hid (by unfold smallOp; rw [decide_eq_true hs1, decide_eq_true hs2]; rfl)
            clear hs1 hs2
            go_wp2_with fail
            go_roundw
            case rel => exact ⟨k + 1, by omega, by go_num, trivial, by rw [hT.out, HA.out, HS.out]; rfl⟩
            case measure => simp [intOf]; omega
          · have s2 : (200 : Int) < (x.keep.length : Int) := by omega
            have HS : Hid (smallOps l = false) := Lib.hid (by
              unfold smallOps
              rw [Bool.and_eq_false_iff]
              right
              rw [List.all_eq_false]
              exact ⟨x, HM.out, by unfold smallOp; rw [decide_eq_false hs2]; simp⟩)
            clear hs1 hs2
            go_wp2_with fail
            go_ret
            exact ⟨by rw [HS.out]; rfl, rfl⟩
        · have s1 : (200 : Int) < (x.data.length : Int) := by omega
          have HS : Hid (smallOps l = false) := Lib.hid (by
            unfold smallOps
            rw [Bool.and_eq_false_iff]
            right
            rw [List.all_eq_false]
            exact ⟨x, HM.out, by unfold smallOp; rw [decide_eq_false hs1]; simp⟩)
          clear hs1
          go_wp2_with fail
          go_ret
          exact ⟨by rw [HS.out]; rfl, rfl⟩
      · have HS : Hid (smallOps l = true) := Lib.hid (by
          unfold smallOps
          rw [decide_eq_true h2, Bool.true_and, ← List.take_of_length_le (l := l) (i := k) (by omega)]
          exact hall)
        have hki : ¬ (k : Int) < (l.length : Int) := by omega
        clear hall
        go_wp2_with fail
        go_ret
        exact ⟨by rw [HS.out]; rfl, rfl⟩
  · have h2' : (200 : Int) < (l.length : Int) := by omega
    have HS : Hid (smallOps l = false) := Lib.hid (by unfold smallOps; rw [decide_eq_false h2]; rfl)
    go_enter Try.func5, Try.ntmps5
    go_wp2_with fail
    go_ret
    exact ⟨by rw [HS.out]; rfl, rfl⟩
theorem at_mod65 (sector : Int) : ∃ k : Nat, k < 65 ∧ wrap64 ((IntKind.u64.wrap sector).tmod 65) = (k : Int) := by
  have h0 : 0 ≤ IntKind.u64.wrap sector := by
    unfold IntKind.wrap
    exact Int.emod_nonneg _ (by decide)
  have h1 := Int.tmod_nonneg 65 h0
  have h2 := Int.tmod_lt_of_pos (IntKind.u64.wrap sector) (show (0 : Int) < 65 by decide)
  refine ⟨((IntKind.u64.wrap sector).tmod 65).toNat, by omega, ?_⟩
  generalize (IntKind.u64.wrap sector).tmod 65 = x at h1 h2
  unfold wrap64
  omega
/-- The power's counts of a disk and of its reference. -/
def leftSame (st : Bool) (ca L : Int) : Prop := 0 ≤ ca ∧ ca ≤ 9223372036854775807 ∧ (if st = true then L = ca else L = -1)
/-- A disk behind p and its reference behind q, of N sectors, with at most m pending writes, in blocks from B on. -/
structure Pair (B m N : Nat) (w : World) (p q gs : Nat) (vp vD vQ : Value) (S : List (List Int)) (P : List PW) (D : List (List Int)) (dn st : Bool) (ca L : Int) : Prop where
  disk : DiskAt w p gs vp S P dn st ca
  ref : RefAt w q vD vQ D (putsOf P) L dn
  chain : Chain D P S
  left : leftSame st ca L
  len : D.length = N
  room : N ≤ 65536
  few : P.length ≤ m
  apart : ∀ i, ownD p gs vp i → ¬ ownR q vD vQ i
  base1 : ∀ i, ownD p gs vp i → B ≤ i
  base2 : ∀ i, ownR q vD vQ i → B ≤ i
def Both (B m N : Nat) (w : World) (p q : Nat) (dn : Bool) : Prop := ∃ gs vp vD vQ S P D st ca L, Pair B m N w p q gs vp vD vQ S P D dn st ca L
set_option maxRecDepth 100000 in
theorem disk_any (sectors : Int) (w : World) :
    Calls Try.prog 8 #[.int .i64 sectors] w fun e w' => (∃ p q N, N ≤ 80 ∧ e = .returned (.tuple #[.pointer (some ⟨p, 0, none⟩), .pointer (some ⟨q, 0, none⟩), .bool true]) ∧ Both w.heap.size 0 N w' p q false) ∧ Below w.heap.size w w' := by
  go_enter Try.func8, Try.ntmps8
  go_wp2_with fail
  obtain ⟨k, hk, hke⟩ := at_mod65 sectors
  rw [hke, show wrap64 (16 + (k : Int)) = ((16 + k : Nat) : Int) by unfold wrap64; omega]
  clear hke
  refine (newDisk_ok (16 + k) (by omega) (by omega) _).mono ?_
  rintro e w1 ⟨rfl, hD, hB1⟩
  have HD := Lib.hid hD
  have HB1 := Lib.hid hB1
  have HN := Lib.hid (rnewDisk_ok (16 + k) (by omega) (by omega) w1)
  clear hD hB1
  generalize hN : 16 + k = N at HD HN ⊢
  go_wp2_with fail
  refine HN.out.mono ?_
  rintro e w2 ⟨rfl, ⟨vD, hR, hv⟩, hB2⟩
  have HP : Hid (Both w.heap.size 0 N w2 (w.heap.size + 1) w1.heap.size false) := Lib.hid (by
    have z1 := HD.out.blk.lt
    have z2 := HD.out.sec.lt
    refine ⟨_, _, vD, _, _, [], _, false, 0, -1, HD.out.below hB2, hR, .nil, ⟨by decide, by decide, rfl⟩, List.length_replicate .., by omega, Nat.le_refl _, fun i h1 h2 => ?_, fun i h1 => ?_, fun i h1 => ?_⟩
    · rcases h1 with e | e | e
      · rcases h2 with f | f | f
        · omega
        · have := hv i f; omega
        · simp [Value.ownBlock] at f
      · rcases h2 with f | f | f
        · omega
        · have := hv i f; omega
        · simp [Value.ownBlock] at f
      · simp [Value.ownBlock] at e
    · rcases h1 with e | e | e
      · omega
      · omega
      · simp [Value.ownBlock] at e
    · rcases h1 with e | e | e
      · omega
      · have := hv i e; omega
      · simp [Value.ownBlock] at e)
  have HB := Lib.hid (HB1.out.trans (hB2.mono HB1.out.size))
  clear hR hv hB2 HD HB1 HN
  go_wp2_with fail
  go_ret3
  exact ⟨⟨_, _, N, by omega, rfl, HP.out⟩, HB.out⟩
end Go.Proofs.Ytoglkeinhpcboaa
