/- The contracts of few and small at one operation, and of called at a nil office. Conditions: the operation lies in memory. CustodyNil returns true for every operation of an office, of a disk and of a network. Conditions: lengths; the library's table of powers of ten lies as the program's text lays it. -/
import Derived.Test.YthgfbaekmhpiaaaGreatDoorNilA
namespace Go.Proofs.YthgfbaekmhpiaaaGreatDoor
open Go.RowKit Go.Shelf Go.Sort

/-- An answer yes or no. -/
def YesNo (e : Ending) : Prop := e = .returned (.bool true) ∨ e = .returned (.bool false)
/-- An operation of an office's script. -/
structure OpX where
  kind : Int
  id : Int
  body : ByteArray
  iA : Option Addr
  ni : Nat
  ic : Nat
  dest : Int
  n : Int
  text : ByteArray
  note : ByteArray
  kA : Option Addr
  nk : Nat
  kc : Nat
def opxCells (x : OpX) : List Value := [.int .u8 x.kind, .int .i64 x.id, .string x.body, .slice x.iA x.ni x.ic, .int .i64 x.dest, .int .i64 x.n, .string x.text, .string x.note, .slice x.kA x.nk x.kc]
def opxVal (x : OpX) : Value := .agg (opxCells x).toArray
set_option maxRecDepth 100000 in
set_option maxHeartbeats 2000000 in
theorem few_one {w : World} {g c : Nat} (x : OpX) (hB : Blk w g 53 (opxCells x).toArray) (hs : x.body.size ≤ 9223372036854775807 ∧ x.text.size ≤ 9223372036854775807 ∧ x.note.size ≤ 9223372036854775807 ∧ x.ni ≤ 9223372036854775807 ∧ x.nk ≤ 9223372036854775807) :
    Calls Tryz.prog 25 #[.slice (some ⟨g, 0, none⟩) 1 c] w fun e w' => YesNo e ∧ Below w.heap.size w w' := by
  obtain ⟨kind, id, body, iA, ni, ic, dest, n, text, note, kA, nk, kc⟩ := x
  simp only [opxCells] at hB
  dsimp only at hs
  have HB := Lib.hid hB
  clear hB
  have HS := Lib.hid hs
  have q0 := HB.out.cell 0
  have q1 := HB.out.cell 1
  have q2 := HB.out.cell 2
  have q3 := HB.out.cell 3
  have q4 := HB.out.cell 4
  have q5 := HB.out.cell 5
  have q6 := HB.out.cell 6
  have q7 := HB.out.cell 7
  have q8 := HB.out.cell 8
  have qz := HB.out.lt
  simp at q0 q1 q2 q3 q4 q5 q6 q7 q8
  clear hs
  have HAL := Lib.hid ((Below.refl _ w).alloc (Nat.le_refl _) (.cells #[.int .u8 kind, .int .i64 id, .string body, .slice iA ni ic, .int .i64 dest, .int .i64 n, .string text, .string note, .slice kA nk kc] 53))
  go_enter Tryz.func25, Tryz.ntmps25
  go_wp2_with fail
  go_loopw [3, 4] (fun m i wr => (m = .int .i64 0 ∧ i = .int .i64 0 ∧ wr = w) ∨ (∃ T : Int, m = .int .i64 T ∧ i = .int .i64 1 ∧ Below w.heap.size w wr)) (fun _ i _ => 1 - (intOf i).toNat)
  case atStart => exact .inl ⟨rfl, rfl, rfl⟩
  case round =>
    rcases hrel with ⟨rfl, rfl, rfl⟩ | ⟨T, rfl, rfl, hb⟩
    · by_cases h1 : (10000 : Int) < (body.size : Int)
      · go_wp2_with fail
        go_ret
        exact ⟨.inr rfl, HAL.out⟩
      by_cases h2 : (100000 : Int) < (text.size : Int)
      · go_wp2_with fail
        go_ret
        exact ⟨.inr rfl, HAL.out⟩
      by_cases h3 : (10000 : Int) < (note.size : Int)
      · go_wp2_with fail
        go_ret
        exact ⟨.inr rfl, HAL.out⟩
      by_cases h4 : (20 : Int) < (ni : Int)
      · go_wp2_with fail
        go_ret
        exact ⟨.inr rfl, HAL.out⟩
      by_cases h5 : (200 : Int) < (nk : Int)
      · go_wp2_with fail
        go_ret
        exact ⟨.inr rfl, HAL.out⟩
      go_wp2_with fail
      go_roundw
      case rel => exact .inr ⟨_, rfl, rfl, HAL.out⟩
      case measure => decide
    · have HB9 := Lib.hid hb
      clear hb q0 q1 q2 q3 q4 q5 q6 q7 q8 qz
      by_cases ht : T ≤ 150000
      · go_wp2_with fail
        go_ret
        exact ⟨.inl rfl, HB9.out⟩
      · go_wp2_with fail
        go_ret
        exact ⟨.inr rfl, HB9.out⟩
/-- An operation of a disk's script. -/
structure OpD where
  kind : Int
  sector : Int
  dA : Option Addr
  nd : Nat
  dc : Nat
  n : Int
  kA : Option Addr
  nk : Nat
  kc : Nat
def opdCells (o : OpD) : List Value := [.int .u8 o.kind, .int .i64 o.sector, .slice o.dA o.nd o.dc, .int .i64 o.n, .slice o.kA o.nk o.kc]
def opdVal (o : OpD) : Value := .agg (opdCells o).toArray
set_option maxRecDepth 100000 in
set_option maxHeartbeats 2000000 in
theorem small_one {w : World} {g c : Nat} (x : OpD) (hB : Blk w g 56 (opdCells x).toArray) (hs : x.nd ≤ 9223372036854775807 ∧ x.nk ≤ 9223372036854775807) :
    Calls Tryz.prog 26 #[.slice (some ⟨g, 0, none⟩) 1 c] w fun e w' => YesNo e ∧ Below w.heap.size w w' := by
  obtain ⟨kind, sector, dA, nd, dc, n, kA, nk, kc⟩ := x
  simp only [opdCells] at hB
  dsimp only at hs
  have q0 := hB.cell 0
  have q1 := hB.cell 1
  have q2 := hB.cell 2
  have q3 := hB.cell 3
  have q4 := hB.cell 4
  have qz := hB.lt
  simp at q0 q1 q2 q3 q4
  have HS := Lib.hid hs
  clear hs hB
  go_enter Tryz.func26, Tryz.ntmps26
  go_wp2_with fail
  go_loopw [3] (fun i wr => (i = .int .i64 0 ∨ i = .int .i64 1) ∧ wr = w) (fun i _ => 1 - (intOf i).toNat)
  case atStart => exact ⟨.inl rfl, rfl⟩
  case round =>
    obtain ⟨rfl | rfl, rfl⟩ := hrel
    · by_cases h1 : (200 : Int) < (nd : Int)
      · go_wp2_with fail
        go_ret
        exact ⟨.inr rfl, Below.refl _ _⟩
      by_cases h2 : (200 : Int) < (nk : Int)
      · go_wp2_with fail
        go_ret
        exact ⟨.inr rfl, Below.refl _ _⟩
      go_wp2_with fail
      go_roundw
      case rel => exact ⟨.inr rfl, trivial⟩
      case measure => decide
    · go_wp2_with fail
      go_ret
      exact ⟨.inl rfl, Below.refl _ _⟩
set_option maxRecDepth 100000 in
set_option maxHeartbeats 8000000 in
theorem called_nil (x : OpX) (hk : 0 ≤ x.kind ∧ x.kind ≤ 255) (w : World) :
    Calls Tryz.prog 27 #[.pointer none, opxVal x] w fun e w' => e = .returned (.tuple #[.int .i64 0, .string ⟨#[]⟩, .int .i64 3]) ∧ Below w.heap.size w w' := by
  obtain ⟨kind, id, body, iA, ni, ic, dest, n, text, note, kA, nk, kc⟩ := x
  dsimp only at hk
  simp only [opxVal, opxCells]
  have HB := Lib.hid (Blk.new w 53 #[.int .u8 kind, .int .i64 id, .string body, .slice iA ni ic, .int .i64 dest, .int .i64 n, .string text, .string note, .slice kA nk kc])
  have HAL := Lib.hid ((Below.refl _ w).alloc (Nat.le_refl _) (.cells #[.int .u8 kind, .int .i64 id, .string body, .slice iA ni ic, .int .i64 dest, .int .i64 n, .string text, .string note, .slice kA nk kc] 53))
  have K0 := Lib.hid (enter_nil ⟨id, body⟩ note)
  have K1 := Lib.hid (change_nil ⟨id, body⟩ note)
  have K2 := Lib.hid (note_nil note)
  have K3 := Lib.hid (ship_nil dest iA ni ic note)
  have K4 := Lib.hid (hear_nil text note)
  have K5 := Lib.hid (burn_nil iA ni ic note)
  have K6 := Lib.hid (leave_nil iA ni ic note)
  simp only [tokVal] at K0 K1
  have h1 := Int.tmod_nonneg 7 hk.1
  have h2 := Int.tmod_lt_of_pos kind (show (0 : Int) < 7 by decide)
  have hc : kind.tmod 7 = 0 ∨ kind.tmod 7 = 1 ∨ kind.tmod 7 = 2 ∨ kind.tmod 7 = 3 ∨ kind.tmod 7 = 4 ∨ kind.tmod 7 = 5 ∨ kind.tmod 7 = 6 := by omega
  clear h1 h2 hk
  go_enter Tryz.func27, Tryz.ntmps27
  go_upto_region 1 with fail
  generalize w.alloc _ = W1 at HB HAL ⊢
  have q0 := HB.out.cell 0
  have q1 := HB.out.cell 1
  have q2 := HB.out.cell 2
  have q3 := HB.out.cell 3
  have q4 := HB.out.cell 4
  have q5 := HB.out.cell 5
  have q6 := HB.out.cell 6
  have q7 := HB.out.cell 7
  have q8 := HB.out.cell 8
  have qz := HB.out.lt
  simp at q0 q1 q2 q3 q4 q5 q6 q7 q8
  rcases hc with hc | hc | hc | hc | hc | hc | hc
  · go_wp2_with fail
    refine (K0.out _).mono ?_
    rintro e W2 ⟨rfl, hb⟩
    have HBE := Lib.hid (HAL.out.trans (hb.mono HAL.out.size))
    clear hb
    go_wp2_with fail
    go_ret3
    exact ⟨rfl, HBE.out⟩
  · go_wp2_with fail
    refine (K1.out _).mono ?_
    rintro e W2 ⟨rfl, hb⟩
    have HBE := Lib.hid (HAL.out.trans (hb.mono HAL.out.size))
    clear hb
    go_wp2_with fail
    go_ret3
    exact ⟨rfl, HBE.out⟩
  · go_wp2_with fail
    refine (K2.out _).mono ?_
    rintro e W2 ⟨rfl, hb⟩
    have HBE := Lib.hid (HAL.out.trans (hb.mono HAL.out.size))
    clear hb
    go_wp2_with fail
    go_ret3
    exact ⟨rfl, HBE.out⟩
  · go_wp2_with fail
    refine (K3.out _).mono ?_
    rintro e W2 ⟨rfl, hb⟩
    have HBE := Lib.hid (HAL.out.trans (hb.mono HAL.out.size))
    clear hb
    go_wp2_with fail
    go_ret3
    exact ⟨rfl, HBE.out⟩
  · go_wp2_with fail
    refine (K4.out _).mono ?_
    rintro e W2 ⟨rfl, hb⟩
    have HBE := Lib.hid (HAL.out.trans (hb.mono HAL.out.size))
    clear hb
    go_wp2_with fail
    go_ret3
    exact ⟨rfl, HBE.out⟩
  · go_wp2_with fail
    refine (K5.out _).mono ?_
    rintro e W2 ⟨rfl, hb⟩
    have HBE := Lib.hid (HAL.out.trans (hb.mono HAL.out.size))
    clear hb
    go_wp2_with fail
    go_ret3
    exact ⟨rfl, HBE.out⟩
  · go_wp2_with fail
    refine (K6.out _).mono ?_
    rintro e W2 ⟨rfl, hb⟩
    have HBE := Lib.hid (HAL.out.trans (hb.mono HAL.out.size))
    clear hb
    go_wp2_with fail
    go_ret3
    exact ⟨rfl, HBE.out⟩
end Go.Proofs.YthgfbaekmhpiaaaGreatDoor
namespace Go.Proofs.YthgfbaekmhpiaaaGreatDoor
open Go.RowKit Go.Shelf Go.Sort

theorem and7 (a : Int) : 0 ≤ bits .and .i64 a 7 ∧ bits .and .i64 a 7 ≤ 7 := by
  have h : (BitVec.ofInt 64 a &&& BitVec.ofInt 64 7).toNat ≤ 7 := by
    rw [BitVec.toNat_and]
    exact Nat.and_le_right
  have h2 : bits .and .i64 a 7 = IntKind.i64.wrap ((BitVec.ofInt 64 a &&& BitVec.ofInt 64 7).toNat : Int) := rfl
  rw [h2, wrap_id _ (by omega) (by omega)]
  omega
/-- An operation of a network's script. -/
structure OpN where
  kind : Int
  src : Int
  dst : Int
  at_ : Int
  text : ByteArray
def opnCells (o : OpN) : List Value := [.int .u8 o.kind, .int .i64 o.src, .int .i64 o.dst, .int .i64 o.at_, .string o.text]
def opnVal (o : OpN) : Value := .agg (opnCells o).toArray
set_option maxRecDepth 100000 in
set_option maxHeartbeats 16000000 in
theorem nil_walk (x : OpX) (d : OpD) (o : OpN) (hk : 0 ≤ x.kind ∧ x.kind ≤ 255) (hs : x.body.size ≤ 9223372036854775807 ∧ x.text.size ≤ 9223372036854775807 ∧ x.note.size ≤ 9223372036854775807 ∧ x.ni ≤ 9223372036854775807 ∧ x.nk ≤ 9223372036854775807) (hsd : d.nd ≤ 9223372036854775807 ∧ d.nk ≤ 9223372036854775807) (hn : o.text.size ≤ 9223372036854775807) (w : World) (hP : PowAt w) :
    Calls Tryz.prog 6 #[opxVal x, opdVal d, opnVal o] w fun e w' => e = .returned (.bool true) ∧ Below w.heap.size w w' := by
  have KC := Lib.hid (called_nil x hk)
  have KF := Lib.hid (fun W => few_one (w := W.alloc (.cells (opxCells x).toArray 53)) (g := W.heap.size) (c := 1) x (Blk.new W _ _) hs)
  have KS := Lib.hid (fun W => small_one (w := W.alloc (.cells (opdCells d).toArray 56)) (g := W.heap.size) (c := 1) d (Blk.new W _ _) hsd)
  have KH := Lib.hid (fun W (hW : Below w.heap.size w W) => shipped_ok W (PowAt.up hP hW))
  obtain ⟨kind, id, body, iA, ni, ic, dest, n, text, note, kA, nk, kc⟩ := x
  obtain ⟨dkind, sector, dA, nd, dc, dn, dkA, dnk, dkc⟩ := d
  obtain ⟨nkind, nsrc, ndst, nat_, ntext⟩ := o
  dsimp only at hn
  have HNT := Lib.hid hn
  have KST := Lib.hid (start_nil (bits .and .i64 sector 7) (by have := and7 sector; unfold isOfficeB inB; rw [decide_eq_true this.1, decide_eq_true this.2]; rfl))
  simp only [opxVal, opdVal, opnVal, opxCells, opdCells, opnCells] at KC KF KS ⊢
  have HX0 := (((Blk.new w 53 #[.int .u8 kind, .int .i64 id, .string body, .slice iA ni ic, .int .i64 dest, .int .i64 n, .string text, .string note, .slice kA nk kc]).alloc (.cells #[.int .u8 dkind, .int .i64 sector, .slice dA nd dc, .int .i64 dn, .slice dkA dnk dkc] 56)).alloc (.cells #[.int .u8 nkind, .int .i64 nsrc, .int .i64 ndst, .int .i64 nat_, .string ntext] 32))
  have HD0 : Blk (((w.alloc (.cells #[.int .u8 kind, .int .i64 id, .string body, .slice iA ni ic, .int .i64 dest, .int .i64 n, .string text, .string note, .slice kA nk kc] 53)).alloc (.cells #[.int .u8 dkind, .int .i64 sector, .slice dA nd dc, .int .i64 dn, .slice dkA dnk dkc] 56)).alloc (.cells #[.int .u8 nkind, .int .i64 nsrc, .int .i64 ndst, .int .i64 nat_, .string ntext] 32)) (w.heap.size + 1) 56 #[.int .u8 dkind, .int .i64 sector, .slice dA nd dc, .int .i64 dn, .slice dkA dnk dkc] := by
    have := (Blk.new (w.alloc (.cells #[.int .u8 kind, .int .i64 id, .string body, .slice iA ni ic, .int .i64 dest, .int .i64 n, .string text, .string note, .slice kA nk kc] 53)) 56 #[.int .u8 dkind, .int .i64 sector, .slice dA nd dc, .int .i64 dn, .slice dkA dnk dkc]).alloc (.cells #[.int .u8 nkind, .int .i64 nsrc, .int .i64 ndst, .int .i64 nat_, .string ntext] 32)
    rwa [World.size_alloc] at this
  have HN0 : Blk (((w.alloc (.cells #[.int .u8 kind, .int .i64 id, .string body, .slice iA ni ic, .int .i64 dest, .int .i64 n, .string text, .string note, .slice kA nk kc] 53)).alloc (.cells #[.int .u8 dkind, .int .i64 sector, .slice dA nd dc, .int .i64 dn, .slice dkA dnk dkc] 56)).alloc (.cells #[.int .u8 nkind, .int .i64 nsrc, .int .i64 ndst, .int .i64 nat_, .string ntext] 32)) (w.heap.size + 1 + 1) 32 #[.int .u8 nkind, .int .i64 nsrc, .int .i64 ndst, .int .i64 nat_, .string ntext] := by
    have := Blk.new ((w.alloc (.cells #[.int .u8 kind, .int .i64 id, .string body, .slice iA ni ic, .int .i64 dest, .int .i64 n, .string text, .string note, .slice kA nk kc] 53)).alloc (.cells #[.int .u8 dkind, .int .i64 sector, .slice dA nd dc, .int .i64 dn, .slice dkA dnk dkc] 56)) 32 #[.int .u8 nkind, .int .i64 nsrc, .int .i64 ndst, .int .i64 nat_, .string ntext]
    rwa [World.size_alloc, World.size_alloc] at this
  have HB0 := Lib.hid ((((Below.refl _ w).alloc (Nat.le_refl _) (.cells #[.int .u8 kind, .int .i64 id, .string body, .slice iA ni ic, .int .i64 dest, .int .i64 n, .string text, .string note, .slice kA nk kc] 53)).alloc (by simp) (.cells #[.int .u8 dkind, .int .i64 sector, .slice dA nd dc, .int .i64 dn, .slice dkA dnk dkc] 56)).alloc (by simp; omega) (.cells #[.int .u8 nkind, .int .i64 nsrc, .int .i64 ndst, .int .i64 nat_, .string ntext] 32))
  clear hk hs hsd hP hn
  go_enter Tryz.func6, Tryz.ntmps6
  go_upto_region 1 with fail
  generalize ((w.alloc _).alloc _).alloc _ = W1 at HX0 HD0 HN0 HB0 ⊢
  have HC : Hid (∀ W, Below W1.heap.size W1 W → (W.cell? ⟨w.heap.size, 0, none⟩ = some (.int .u8 kind) ∧ W.cell? ⟨w.heap.size, 1, none⟩ = some (.int .i64 id) ∧ W.cell? ⟨w.heap.size, 2, none⟩ = some (.string body) ∧ W.cell? ⟨w.heap.size, 3, none⟩ = some (.slice iA ni ic) ∧ W.cell? ⟨w.heap.size, 4, none⟩ = some (.int .i64 dest) ∧ W.cell? ⟨w.heap.size, 5, none⟩ = some (.int .i64 n) ∧ W.cell? ⟨w.heap.size, 6, none⟩ = some (.string text) ∧ W.cell? ⟨w.heap.size, 7, none⟩ = some (.string note) ∧ W.cell? ⟨w.heap.size, 8, none⟩ = some (.slice kA nk kc) ∧ W.cell? ⟨w.heap.size + 1, 0, none⟩ = some (.int .u8 dkind) ∧ W.cell? ⟨w.heap.size + 1, 1, none⟩ = some (.int .i64 sector) ∧ W.cell? ⟨w.heap.size + 1, 2, none⟩ = some (.slice dA nd dc) ∧ W.cell? ⟨w.heap.size + 1, 3, none⟩ = some (.int .i64 dn) ∧ W.cell? ⟨w.heap.size + 1, 4, none⟩ = some (.slice dkA dnk dkc) ∧ W.cell? ⟨w.heap.size + 1 + 1, 0, none⟩ = some (.int .u8 nkind) ∧ W.cell? ⟨w.heap.size + 1 + 1, 1, none⟩ = some (.int .i64 nsrc) ∧ W.cell? ⟨w.heap.size + 1 + 1, 2, none⟩ = some (.int .i64 ndst) ∧ W.cell? ⟨w.heap.size + 1 + 1, 3, none⟩ = some (.int .i64 nat_) ∧ W.cell? ⟨w.heap.size + 1 + 1, 4, none⟩ = some (.string ntext)) ∧ w.heap.size < W.heap.size ∧ w.heap.size + 1 < W.heap.size ∧ w.heap.size + 1 + 1 < W.heap.size) := Lib.hid (fun W hW => by
    have a1 := HX0.below hW HX0.lt
    have a2 := HD0.below hW HD0.lt
    have a3 := HN0.below hW HN0.lt
    refine ⟨⟨?_, ?_, ?_, ?_, ?_, ?_, ?_, ?_, ?_, ?_, ?_, ?_, ?_, ?_, ?_, ?_, ?_, ?_, ?_⟩, a1.lt, a2.lt, a3.lt⟩
    all_goals first | (exact a1.cell _) | (exact a2.cell _) | (exact a3.cell _))
  clear HX0 HD0 HN0
  obtain ⟨⟨x0, x1, x2, x3, x4, x5, x6, x7, x8, d0, d1, d2, d3, d4, n0, n1, n2, n3, n4⟩, z1, z2, z3⟩ := HC.out W1 (Below.refl _ _)
  go_wp2_with fail
  refine (KF.out _).mono ?_
  rintro e w2 ⟨rfl | rfl, hb⟩
  rotate_left
  · have HBH := Lib.hid (HB0.out.trans (((Below.refl _ W1).alloc (Nat.le_refl _) (.cells #[.int .u8 kind, .int .i64 id, .string body, .slice iA ni ic, .int .i64 dest, .int .i64 n, .string text, .string note, .slice kA nk kc] 53)).trans (hb.mono (by simp)) |>.mono HB0.out.size))
    clear hb
    go_wp2_with fail
    refine (KH.out _ HBH.out).mono ?_
    rintro e wz ⟨rfl, hbz⟩
    have HBZ := Lib.hid (HBH.out.trans (hbz.mono HBH.out.size))
    clear hbz
    go_wp2_with fail
    go_ret
    exact ⟨rfl, HBZ.out⟩
  have HB2 := Lib.hid (((Below.refl _ W1).alloc (Nat.le_refl _) (.cells #[.int .u8 kind, .int .i64 id, .string body, .slice iA ni ic, .int .i64 dest, .int .i64 n, .string text, .string note, .slice kA nk kc] 53)).trans (hb.mono (by simp)))
  clear hb KF x0 x1 x2 x3 x4 x5 x6 x7 x8 d0 d1 d2 d3 d4 n0 n1 n2 n3 n4 z1 z2 z3
  obtain ⟨⟨x0, x1, x2, x3, x4, x5, x6, x7, x8, d0, d1, d2, d3, d4, n0, n1, n2, n3, n4⟩, z1, z2, z3⟩ := HC.out w2 HB2.out
  go_wp2_with fail
  refine (KS.out _).mono ?_
  rintro e w3 ⟨rfl | rfl, hb⟩
  rotate_left
  · have HBH := Lib.hid (HB0.out.trans ((HB2.out.trans ((((Below.refl _ w2).alloc (Nat.le_refl _) (.cells #[.int .u8 dkind, .int .i64 sector, .slice dA nd dc, .int .i64 dn, .slice dkA dnk dkc] 56)).trans (hb.mono (by simp))).mono HB2.out.size)).mono HB0.out.size))
    clear hb
    go_wp2_with fail
    refine (KH.out _ HBH.out).mono ?_
    rintro e wz ⟨rfl, hbz⟩
    have HBZ := Lib.hid (HBH.out.trans (hbz.mono HBH.out.size))
    clear hbz
    go_wp2_with fail
    go_ret
    exact ⟨rfl, HBZ.out⟩
  have HB3 := Lib.hid (HB2.out.trans ((((Below.refl _ w2).alloc (Nat.le_refl _) (.cells #[.int .u8 dkind, .int .i64 sector, .slice dA nd dc, .int .i64 dn, .slice dkA dnk dkc] 56)).trans (hb.mono (by simp))).mono HB2.out.size))
  clear hb KS HB2 x0 x1 x2 x3 x4 x5 x6 x7 x8 d0 d1 d2 d3 d4 n0 n1 n2 n3 n4 z1 z2 z3
  obtain ⟨⟨x0, x1, x2, x3, x4, x5, x6, x7, x8, d0, d1, d2, d3, d4, n0, n1, n2, n3, n4⟩, z1, z2, z3⟩ := HC.out w3 HB3.out
  by_cases hnt : (100000 : Int) < (ntext.size : Int)
  · have HBH := Lib.hid (HB0.out.trans (HB3.out.mono HB0.out.size))
    go_wp2_with fail
    refine (KH.out _ HBH.out).mono ?_
    rintro e wz ⟨rfl, hbz⟩
    have HBZ := Lib.hid (HBH.out.trans (hbz.mono HBH.out.size))
    clear hbz
    go_wp2_with fail
    go_ret
    exact ⟨rfl, HBZ.out⟩
  go_wp2_with fail
  refine (KC.out _).mono ?_
  rintro e w4 ⟨rfl, hb⟩
  have HB4 := Lib.hid (HB3.out.trans (hb.mono HB3.out.size))
  clear hb HB3 x0 x1 x2 x3 x4 x5 x6 x7 x8 d0 d1 d2 d3 d4 n0 n1 n2 n3 n4 z1 z2 z3
  obtain ⟨⟨x0, x1, x2, x3, x4, x5, x6, x7, x8, d0, d1, d2, d3, d4, n0, n1, n2, n3, n4⟩, z1, z2, z3⟩ := HC.out w4 HB4.out
  go_wp2_with fail
  refine (dread_nil sector _).mono ?_
  rintro e wq ⟨rfl, rfl⟩
  go_wp2_with fail
  refine (dcrash_nil dkA dnk dkc _).mono ?_
  rintro e wc ⟨rfl, hb⟩
  have HBc := Lib.hid (HB4.out.trans (hb.mono HB4.out.size))
  clear hb HB4 x0 x1 x2 x3 x4 x5 x6 x7 x8 d0 d1 d2 d3 d4 n0 n1 n2 n3 n4 z1 z2 z3
  obtain ⟨⟨x0, x1, x2, x3, x4, x5, x6, x7, x8, d0, d1, d2, d3, d4, n0, n1, n2, n3, n4⟩, z1, z2, z3⟩ := HC.out wc HBc.out
  go_wp2_with fail
  refine (dwrite_nil sector dA nd dc _).mono ?_
  rintro e wq ⟨rfl, rfl⟩
  go_wp2_with fail
  refine (open_nil _).mono ?_
  rintro e wq ⟨rfl, rfl⟩
  go_wp2_with fail
  refine (KST.out _).mono ?_
  rintro e w5 ⟨rfl, hb⟩
  have HB5 := Lib.hid (HBc.out.trans (hb.mono HBc.out.size))
  clear hb HBc x0 x1 x2 x3 x4 x5 x6 x7 x8 d0 d1 d2 d3 d4 n0 n1 n2 n3 n4 z1 z2 z3
  obtain ⟨⟨x0, x1, x2, x3, x4, x5, x6, x7, x8, d0, d1, d2, d3, d4, n0, n1, n2, n3, n4⟩, z1, z2, z3⟩ := HC.out w5 HB5.out
  go_wp2_with fail
  refine (ntake_nil nsrc ndst nat_ _).mono ?_
  rintro e wq ⟨rfl, rfl⟩
  go_wp2_with fail
  refine (dflush_nil _).mono ?_
  rintro e wq ⟨rfl, rfl⟩
  go_wp2_with fail
  refine (dstop_nil dn _).mono ?_
  rintro e wq ⟨rfl, rfl⟩
  go_wp2_with fail
  refine (ddown_nil _).mono ?_
  rintro e wq ⟨rfl, rfl⟩
  go_wp2_with fail
  refine (jappend_nil text _).mono ?_
  rintro e wq ⟨rfl, rfl⟩
  go_wp2_with fail
  refine (jsync_nil _).mono ?_
  rintro e wq ⟨rfl, rfl⟩
  go_wp2_with fail
  refine (jlen_nil _).mono ?_
  rintro e wq ⟨rfl, rfl⟩
  go_wp2_with fail
  refine (nsend_nil nsrc ndst ntext _).mono ?_
  rintro e wq ⟨rfl, rfl⟩
  go_wp2_with fail
  refine (nwait_nil nsrc ndst _).mono ?_
  rintro e wq ⟨rfl, rfl⟩
  go_wp2_with fail
  refine (nlose_nil nsrc ndst nat_ _).mono ?_
  rintro e wq ⟨rfl, rfl⟩
  go_wp2_with fail
  refine (nrepeat_nil nsrc ndst nat_ _).mono ?_
  rintro e wq ⟨rfl, rfl⟩
  go_wp2_with fail
  refine (held_nil _).mono ?_
  rintro e w6 ⟨rfl, hb⟩
  have HB6 := Lib.hid (HB5.out.trans (hb.mono HB5.out.size))
  clear hb HB5 x0 x1 x2 x3 x4 x5 x6 x7 x8 d0 d1 d2 d3 d4 n0 n1 n2 n3 n4 z1 z2 z3
  obtain ⟨⟨x0, x1, x2, x3, x4, x5, x6, x7, x8, d0, d1, d2, d3, d4, n0, n1, n2, n3, n4⟩, z1, z2, z3⟩ := HC.out w6 HB6.out
  go_wp2_with fail
  refine (bags_nil _).mono ?_
  rintro e w7 ⟨rfl, hb⟩
  have HB7 := Lib.hid (HB6.out.trans (hb.mono HB6.out.size))
  clear hb HB6 x0 x1 x2 x3 x4 x5 x6 x7 x8 d0 d1 d2 d3 d4 n0 n1 n2 n3 n4 z1 z2 z3
  obtain ⟨⟨x0, x1, x2, x3, x4, x5, x6, x7, x8, d0, d1, d2, d3, d4, n0, n1, n2, n3, n4⟩, z1, z2, z3⟩ := HC.out w7 HB7.out
  go_wp2_with fail
  refine (lost_nil _).mono ?_
  rintro e w8 ⟨rfl, hb⟩
  have HB8 := Lib.hid (HB7.out.trans (hb.mono HB7.out.size))
  clear hb HB7 x0 x1 x2 x3 x4 x5 x6 x7 x8 d0 d1 d2 d3 d4 n0 n1 n2 n3 n4 z1 z2 z3
  obtain ⟨⟨x0, x1, x2, x3, x4, x5, x6, x7, x8, d0, d1, d2, d3, d4, n0, n1, n2, n3, n4⟩, z1, z2, z3⟩ := HC.out w8 HB8.out
  go_wp2_with fail
  refine (offer_nil _).mono ?_
  rintro e w9 ⟨rfl, hb⟩
  have HB9 := Lib.hid (HB8.out.trans (hb.mono HB8.out.size))
  clear hb HB8 x0 x1 x2 x3 x4 x5 x6 x7 x8 d0 d1 d2 d3 d4 n0 n1 n2 n3 n4 z1 z2 z3
  obtain ⟨⟨x0, x1, x2, x3, x4, x5, x6, x7, x8, d0, d1, d2, d3, d4, n0, n1, n2, n3, n4⟩, z1, z2, z3⟩ := HC.out w9 HB9.out
  go_wp2_with fail
  refine (notes_nil _).mono ?_
  rintro e w10 ⟨rfl, hb⟩
  have HB10 := Lib.hid (HB9.out.trans (hb.mono HB9.out.size))
  clear hb HB9 x0 x1 x2 x3 x4 x5 x6 x7 x8 d0 d1 d2 d3 d4 n0 n1 n2 n3 n4 z1 z2 z3
  obtain ⟨⟨x0, x1, x2, x3, x4, x5, x6, x7, x8, d0, d1, d2, d3, d4, n0, n1, n2, n3, n4⟩, z1, z2, z3⟩ := HC.out w10 HB10.out
  go_wp2_with fail
  refine (heard_nil dest _).mono ?_
  rintro e w11 ⟨rfl, hb⟩
  have HB11 := Lib.hid (HB10.out.trans (hb.mono HB10.out.size))
  clear hb HB10 x0 x1 x2 x3 x4 x5 x6 x7 x8 d0 d1 d2 d3 d4 n0 n1 n2 n3 n4 z1 z2 z3
  obtain ⟨⟨x0, x1, x2, x3, x4, x5, x6, x7, x8, d0, d1, d2, d3, d4, n0, n1, n2, n3, n4⟩, z1, z2, z3⟩ := HC.out w11 HB11.out
  go_wp2_with fail
  have HBH := Lib.hid (HB0.out.trans (HB11.out.mono HB0.out.size))
  refine (KH.out _ HBH.out).mono ?_
  rintro e wz ⟨rfl, hbz⟩
  have HBZ := Lib.hid (HBH.out.trans (hbz.mono HBH.out.size))
  clear hbz
  go_wp2_with fail
  go_ret
  exact ⟨rfl, HBZ.out⟩

end Go.Proofs.YthgfbaekmhpiaaaGreatDoor
