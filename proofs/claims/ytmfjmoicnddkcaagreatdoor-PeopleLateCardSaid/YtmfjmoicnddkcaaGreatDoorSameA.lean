/- The comparison of two hops, as the model carries it out; the contract of the reference's SameRoute at equal routes. Conditions: the hops lie in memory. The contract of slices.Equal at two lists of hops. Conditions: both lists lie in memory; their lengths are Go lengths. The contract of the reference's SameRoute at any two routes. Conditions: the hops lie in memory; their lengths are Go lengths. -/
import Derived.Test.YtmfjmoicnddkcaaGreatDoorFolA
import Derived.Test.YtmfjmoicnddkcaaGreatDoorFolC
import Derived.Lib.QuietBelow
import Derived.BigQuiet
import Derived.Test.YtmfjmoicnddkcaaGreatDoorCheckA
namespace Go.Proofs.YtmfjmoicnddkcaaGreatDoor
open Go.RowKit Go.Shelf

theorem fieldsHop : (Tryz.prog.fieldsOf 60).toList.map (fun f => (f.name, f.type, f.offset)) = [("Kind", 5, 0), ("From", 38, 1), ("To", 38, 3), ("Order", 3, 5)] := by kernel_rfl
theorem candEq9 (x1 x2 y1 y2 : Int) (w : World) : (Op.equalIn 9999 38 (.agg #[.int .i64 x1, .int .i64 x2]) (.agg #[.int .i64 y1, .int .i64 y2])).run Tryz.prog w = .ok (decide (x1 = y1 ∧ x2 = y2)) w := by
  rw [run_equalIn_agg (P := Tryz.prog) w 9998 38 _ _ (by kernel_rfl) (by kernel_rfl), eqFields_trip, fieldsCand]
  simp only [eqTrip]
  simp [go_sem, run_equalIn_int (P := Tryz.prog) _ _ _ _ _ _ _ intRow]
  by_cases h : x1 = y1 <;> by_cases h' : x2 = y2 <;> simp [h, h']
/-- A hop as a value. -/
def hopW (h : HopV) : Value := .agg #[.int .u8 h.1, .int .i64 h.2.1.1, .int .i64 h.2.1.2, .int .i64 h.2.2.1.1, .int .i64 h.2.2.1.2, .int .i64 h.2.2.2]
theorem hopEq_run (x y : HopV) (w : World) : (Op.equalIn 10000 60 (hopW x) (hopW y)).run Tryz.prog w = .ok (decide (x = y)) w := by
  obtain ⟨xk, ⟨xp, xq⟩, ⟨xr, xs⟩, xo⟩ := x
  obtain ⟨yk, ⟨yp, yq⟩, ⟨yr, ys⟩, yo⟩ := y
  unfold hopW
  rw [run_equalIn_agg (P := Tryz.prog) w 9999 60 _ _ (by kernel_rfl) (by kernel_rfl), eqFields_trip, fieldsHop]
  simp only [eqTrip]
  simp [go_sem, candEq9, run_equalIn_int (P := Tryz.prog) _ _ _ _ _ _ _ intRow, run_equalIn_int (P := Tryz.prog) _ _ _ _ _ _ _ u8Row]
  by_cases h1 : xk = yk <;> by_cases h2 : xp = yp <;> by_cases h3 : xq = yq <;> by_cases h4 : xr = yr <;> by_cases h5 : xs = ys <;> by_cases h6 : xo = yo <;> simp [h1, h2, h3, h4, h5, h6]
theorem neHop (x y : HopV) (w : World) : (binOp .neq 60 (hopW x) (hopW y)).run Tryz.prog w = .ok (.bool (!decide (x = y))) w := by
  have h := hopEq_run x y w
  unfold hopW at h ⊢
  rw [run_neq_struct, h]; rfl
theorem noGuardHop (op : BinOp) (a b : Operand) (x y : HopV) (w : World) : (eqGuard op 60 a b (hopW x) (hopW y)).run Tryz.prog w = .ok () w :=
  run_eqGuard_agg w op _ a b _ _ (by kernel_rfl)

/-- The hops l lie behind A, from a block's beginning on. -/
def RowsH (w : World) (A : Option Addr) (l : List HopV) : Prop := 0 < l.length → ∃ g, A = some ⟨g, 0, none⟩ ∧ RowH w g l
theorem RowsH.below {w w' : World} {A : Option Addr} {l : List HopV} (h : RowsH w A l) (hb : Below w.heap.size w w') : RowsH w' A l := fun h0 => by
  obtain ⟨g, h1, h2⟩ := h h0
  exact ⟨g, h1, h2.keep (S := fun _ => False) (Keeps.of_new hb) (fun h => h)⟩
theorem OwnH.rows {w : World} {base : Nat} {A : Option Addr} {c : Nat} {l : List HopV} (h : OwnH w base (.slice A l.length c) l) : RowsH w A l := fun h0 => by
  obtain ⟨g, h1, _, h2⟩ := h.row h0
  exact ⟨g, h1, h2⟩

set_option maxRecDepth 100000 in
set_option maxHeartbeats 4000000 in
theorem sameRoute_eq (k b : Int) (f : Int × Int) (hs : List HopV) (A1 A2 : Option Addr) (c1 c2 : Nat) (hlen : hs.length ≤ 1000) (w : World) (h1 : RowsH w A1 hs) (h2 : RowsH w A2 hs) :
    Calls Tryz.prog 41 #[rtVal k f (.slice A1 hs.length c1) b, rtVal k f (.slice A2 hs.length c2) b] w fun e w' => e = .returned (.bool true) ∧ Below w.heap.size w w' := by
  obtain ⟨f1, f2⟩ := f
  unfold rtVal
  dsimp only
  have hne := neCand (f1, f2) (f1, f2)
  have hng := fun a b => noGuardCand .neq a b (f1, f2) (f1, f2)
  unfold candVal at hne hng
  simp only [decide_true, Bool.not_true] at hne
  dsimp only at hng
  have kA : Blk ((w.alloc (.cells #[.int .u8 k, .int .i64 f1, .int .i64 f2, .slice A1 hs.length c1, .int .i64 b] 52)).alloc (.cells #[.int .u8 k, .int .i64 f1, .int .i64 f2, .slice A2 hs.length c2, .int .i64 b] 52)) w.heap.size 52 #[.int .u8 k, .int .i64 f1, .int .i64 f2, .slice A1 hs.length c1, .int .i64 b] := (Blk.new w _ _).alloc _
  have kB : Blk ((w.alloc (.cells #[.int .u8 k, .int .i64 f1, .int .i64 f2, .slice A1 hs.length c1, .int .i64 b] 52)).alloc (.cells #[.int .u8 k, .int .i64 f1, .int .i64 f2, .slice A2 hs.length c2, .int .i64 b] 52)) (w.heap.size + 1) 52 #[.int .u8 k, .int .i64 f1, .int .i64 f2, .slice A2 hs.length c2, .int .i64 b] := at_new (by simp)
  have hB0 : Below w.heap.size w ((w.alloc (.cells #[.int .u8 k, .int .i64 f1, .int .i64 f2, .slice A1 hs.length c1, .int .i64 b] 52)).alloc (.cells #[.int .u8 k, .int .i64 f1, .int .i64 f2, .slice A2 hs.length c2, .int .i64 b] 52)) := below_al (below_al (Below.refl _ _) _) _
  go_enter Tryz.func41, Tryz.ntmps41
  go_upto_region 1 with fail
  generalize (w.alloc (.cells _ 52)).alloc (.cells _ 52) = w0 at kA kB hB0 ⊢
  replace h1 := h1.below hB0
  replace h2 := h2.below hB0
  have a0 := kA.cell 0
  have a1 := kA.cell 1
  have a2 := kA.cell 2
  have a3 := kA.cell 3
  have a4 := kA.cell 4
  have b0 := kB.cell 0
  have b1 := kB.cell 1
  have b2 := kB.cell 2
  have b3 := kB.cell 3
  have b4 := kB.cell 4
  have zA := kA.lt
  have zB := kB.lt
  simp at a0 a1 a2 a3 a4 b0 b1 b2 b3 b4
  have H1 := Lib.hid h1
  have H2 := Lib.hid h2
  clear h1 h2
  go_wp2_with fail
  clear a0 a1 a2 a3 a4 b0 b1 b2 b3 b4 zA zB hne hng
  go_loopw [5] (fun i wq => ∃ j : Nat, j ≤ hs.length ∧ i = .int .i64 j ∧ Keeps (fun _ => False) w0 wq) (fun i _ => hs.length - (intOf i).toNat)
  case atStart => exact ⟨0, Nat.zero_le _, rfl, Keeps.refl _ _⟩
  case round =>
    obtain ⟨j, hj, rfl, hK⟩ := hrel
    have kA2 := kA.keep hK (fun h => h)
    have kB2 := kB.keep hK (fun h => h)
    have a3 := kA2.cell 3
    have b3 := kB2.cell 3
    have zA := kA2.lt
    have zB := kB2.lt
    simp at a3 b3
    by_cases hlt : j < hs.length
    · obtain ⟨⟨zk, ⟨z1, z2⟩, ⟨z3, z4⟩, zo⟩, hz⟩ : ∃ x, hs[j]? = some x := ⟨_, List.getElem?_eq_getElem hlt⟩
      obtain ⟨g1, hg1, hr1⟩ := H1.out (by omega)
      obtain ⟨g2, hg2, hr2⟩ := H2.out (by omega)
      subst hg1 hg2
      replace hr1 := hr1.keep hK (fun h => h)
      replace hr2 := hr2.keep hK (fun h => h)
      have u0 := hr1.2 j _ hz 0 (by omega)
      have u1 := hr1.2 j _ hz 1 (by omega)
      have u2 := hr1.2 j _ hz 2 (by omega)
      have u3 := hr1.2 j _ hz 3 (by omega)
      have u4 := hr1.2 j _ hz 4 (by omega)
      have u5 := hr1.2 j _ hz 5 (by omega)
      have v0 := hr2.2 j _ hz 0 (by omega)
      have v1 := hr2.2 j _ hz 1 (by omega)
      have v2 := hr2.2 j _ hz 2 (by omega)
      have v3 := hr2.2 j _ hz 3 (by omega)
      have v4 := hr2.2 j _ hz 4 (by omega)
      have v5 := hr2.2 j _ hz 5 (by omega)
      have y1 := hr1.1
      have y2 := hr2.1
      simp [hopCells] at u0 u1 u2 u3 u4 u5 v0 v1 v2 v3 v4 v5
      have hne := neHop (zk, (z1, z2), (z3, z4), zo) (zk, (z1, z2), (z3, z4), zo)
      have hng := fun a b => noGuardHop .neq a b (zk, (z1, z2), (z3, z4), zo) (zk, (z1, z2), (z3, z4), zo)
      unfold hopW at hne hng
      simp only [decide_true, Bool.not_true] at hne
      dsimp only at hng
      clear hz hr1 hr2
      go_wp2_with fail
      go_quiet (fail)
      go_wp2_with fail
      go_roundw
      case rel => exact ⟨j + 1, by omega, by go_num, hK.drewN _⟩
      case measure => simp [intOf]; omega
    · obtain rfl : j = hs.length := by omega
      go_wp2_with fail
      go_ret
      exact ⟨rfl, hB0.trans (hK.below (fun _ _ h => h) hB0.size)⟩
end Go.Proofs.YtmfjmoicnddkcaaGreatDoor
namespace Go.Proofs.YtmfjmoicnddkcaaGreatDoor
open Go.RowKit Go.Shelf

/-- The hops l lie behind A. -/
def HopsAt (w : World) (B : Nat) (A : Option Addr) (l : List HopV) : Prop := ∀ k x, l[k]? = some x → ∃ b off, A = some ⟨b, off, none⟩ ∧ b < B ∧ ∀ j, j < 6 → w.cell? ⟨b, off + k * 6 + j, none⟩ = (hopCells x)[j]?
theorem HopsAt.below {w w' : World} {B : Nat} {A : Option Addr} {l : List HopV} (h : HopsAt w B A l) (hb : Below B w w') : HopsAt w' B A l := fun k x hx => by
  obtain ⟨b, off, h1, h2, h3⟩ := h k x hx
  exact ⟨b, off, h1, h2, fun j hj => (hb.cell (p := ⟨b, _, none⟩) h2).trans (h3 j hj)⟩
theorem HopsAt.up {w w' : World} {B B' : Nat} {A : Option Addr} {l : List HopV} (h : HopsAt w B A l) (hb : Below B w w') (hB : B ≤ B') : HopsAt w' B' A l := fun k x hx => by
  obtain ⟨b, off, h1, h2, h3⟩ := h.below hb k x hx
  exact ⟨b, off, h1, Nat.lt_of_lt_of_le h2 hB, h3⟩
theorem RowsH.at {w : World} {A : Option Addr} {l : List HopV} (h : RowsH w A l) : HopsAt w w.heap.size A l := fun k x hx => by
  obtain ⟨g, h1, h2⟩ := h (by have := (List.getElem?_eq_some_iff.1 hx).1; omega)
  exact ⟨g, 0, h1, h2.1, fun j hj => by rw [Nat.zero_add]; exact h2.2 k x hx j hj⟩
theorem HopsAt.cells {w : World} {B : Nat} {A : Option Addr} {l : List HopV} (h : HopsAt w B A l) {k : Nat} {x : HopV} (hx : l[k]? = some x) :
    ∃ b off, A = some ⟨b, off, none⟩ ∧ b < B ∧ w.cell? ⟨b, off + k * 6, none⟩ = some (.int .u8 x.1) ∧ w.cell? ⟨b, off + k * 6 + 1, none⟩ = some (.int .i64 x.2.1.1) ∧ w.cell? ⟨b, off + k * 6 + 2, none⟩ = some (.int .i64 x.2.1.2) ∧ w.cell? ⟨b, off + k * 6 + 3, none⟩ = some (.int .i64 x.2.2.1.1) ∧ w.cell? ⟨b, off + k * 6 + 4, none⟩ = some (.int .i64 x.2.2.1.2) ∧ w.cell? ⟨b, off + k * 6 + 5, none⟩ = some (.int .i64 x.2.2.2) := by
  obtain ⟨b, off, h1, h2, h3⟩ := h k x hx
  exact ⟨b, off, h1, h2, h3 0 (by omega), h3 1 (by omega), h3 2 (by omega), h3 3 (by omega), h3 4 (by omega), h3 5 (by omega)⟩

end Go.Proofs.YtmfjmoicnddkcaaGreatDoor
namespace Go.Proofs.YtmfjmoicnddkcaaGreatDoor
open Go.RowKit Go.Shelf

/-- Two routes are equal. -/
def sameB (r s : Rt) : Bool := decide (r.kind = s.kind ∧ r.fin = s.fin ∧ r.back = s.back ∧ r.hops = s.hops)

set_option maxRecDepth 100000 in
set_option maxHeartbeats 8000000 in
theorem sameRoute_any (k b k' b' : Int) (f f' : Int × Int) (hs hs' : List HopV) (A1 A2 : Option Addr) (c1 c2 : Nat) (hl1 : hs.length ≤ maxLen) (hl2 : hs'.length ≤ maxLen) (w : World) (h1 : HopsAt w w.heap.size A1 hs) (h2 : HopsAt w w.heap.size A2 hs') :
    Calls Tryz.prog 41 #[rtVal k f (.slice A1 hs.length c1) b, rtVal k' f' (.slice A2 hs'.length c2) b'] w fun e w' => e = .returned (.bool (sameB ⟨k, f, hs, b⟩ ⟨k', f', hs', b'⟩)) ∧ Below w.heap.size w w' := by
  have hm1 : (hs.length : Int) ≤ 9223372036854775807 := by unfold maxLen at hl1; omega
  have hm2 : (hs'.length : Int) ≤ 9223372036854775807 := by unfold maxLen at hl2; omega
  clear hl1 hl2
  obtain ⟨f1, f2⟩ := f
  obtain ⟨g1, g2⟩ := f'
  have HF : Hid ((k ≠ k' ∨ (f1, f2) ≠ (g1, g2) ∨ b ≠ b' ∨ hs ≠ hs') → sameB ⟨k, (f1, f2), hs, b⟩ ⟨k', (g1, g2), hs', b'⟩ = false) := Lib.hid (fun h => decide_eq_false (fun e => by
    rcases h with h | h | h | h
    · exact h e.1
    · exact h e.2.1
    · exact h e.2.2.1
    · exact h e.2.2.2))
  have HT : Hid (k = k' → (f1, f2) = (g1, g2) → b = b' → hs = hs' → sameB ⟨k, (f1, f2), hs, b⟩ ⟨k', (g1, g2), hs', b'⟩ = true) := Lib.hid (fun e1 e2 e3 e4 => decide_eq_true ⟨e1, e2, e3, e4⟩)
  generalize sameB ⟨k, (f1, f2), hs, b⟩ ⟨k', (g1, g2), hs', b'⟩ = R at *
  have hne := neCand (f1, f2) (g1, g2)
  have hng := fun a b => noGuardCand .neq a b (f1, f2) (g1, g2)
  unfold candVal at hne hng
  unfold rtVal
  dsimp only at hne hng ⊢
  have kA : Blk ((w.alloc (.cells #[.int .u8 k, .int .i64 f1, .int .i64 f2, .slice A1 hs.length c1, .int .i64 b] 52)).alloc (.cells #[.int .u8 k', .int .i64 g1, .int .i64 g2, .slice A2 hs'.length c2, .int .i64 b'] 52)) w.heap.size 52 #[.int .u8 k, .int .i64 f1, .int .i64 f2, .slice A1 hs.length c1, .int .i64 b] := (Blk.new w _ _).alloc _
  have kB : Blk ((w.alloc (.cells #[.int .u8 k, .int .i64 f1, .int .i64 f2, .slice A1 hs.length c1, .int .i64 b] 52)).alloc (.cells #[.int .u8 k', .int .i64 g1, .int .i64 g2, .slice A2 hs'.length c2, .int .i64 b'] 52)) (w.heap.size + 1) 52 #[.int .u8 k', .int .i64 g1, .int .i64 g2, .slice A2 hs'.length c2, .int .i64 b'] := at_new (by simp)
  have hB0 : Below w.heap.size w ((w.alloc (.cells #[.int .u8 k, .int .i64 f1, .int .i64 f2, .slice A1 hs.length c1, .int .i64 b] 52)).alloc (.cells #[.int .u8 k', .int .i64 g1, .int .i64 g2, .slice A2 hs'.length c2, .int .i64 b'] 52)) := below_al (below_al (Below.refl _ _) _) _
  go_enter Tryz.func41, Tryz.ntmps41
  go_upto_region 1 with fail
  generalize (w.alloc (.cells _ 52)).alloc (.cells _ 52) = w0 at kA kB hB0 ⊢
  replace h1 := h1.up hB0 hB0.size
  replace h2 := h2.up hB0 hB0.size
  have a0 := kA.cell 0
  have a1 := kA.cell 1
  have a2 := kA.cell 2
  have a3 := kA.cell 3
  have a4 := kA.cell 4
  have b0 := kB.cell 0
  have b1 := kB.cell 1
  have b2 := kB.cell 2
  have b3 := kB.cell 3
  have b4 := kB.cell 4
  have zA := kA.lt
  have zB := kB.lt
  simp at a0 a1 a2 a3 a4 b0 b1 b2 b3 b4
  have H1 := Lib.hid h1
  have H2 := Lib.hid h2
  clear h1 h2
  by_cases hk : k = k'
  rotate_left
  · have hk' : (k != k') = true := by simpa using hk
    replace HF := Lib.hid (HF.out (.inl hk))
    clear hk
    go_wp2_with fail
    go_ret
    exact ⟨ret_bool HF.out.symm, hB0⟩
  have hk' : (k != k') = false := by simpa using hk
  by_cases hf : (f1, f2) = (g1, g2)
  rotate_left
  · rw [decide_eq_false hf] at hne
    replace HF := Lib.hid (HF.out (.inr (.inl hf)))
    clear hk hf
    go_wp2_with fail
    go_ret
    exact ⟨ret_bool HF.out.symm, hB0⟩
  rw [decide_eq_true hf] at hne
  by_cases hb : b = b'
  rotate_left
  · have hb' : (b != b') = true := by simpa using hb
    replace HF := Lib.hid (HF.out (.inr (.inr (.inl hb))))
    clear hk hf hb
    go_wp2_with fail
    go_ret
    exact ⟨ret_bool HF.out.symm, hB0⟩
  have hb' : (b != b') = false := by simpa using hb
  by_cases hlen : hs.length = hs'.length
  rotate_left
  · have hl' : ((hs.length : Int) != (hs'.length : Int)) = true := by simp; omega
    have hl2' : (hs.length != hs'.length) = true := by simp; omega
    replace HF := Lib.hid (HF.out (.inr (.inr (.inr (fun e => hlen (by rw [e]))))))
    clear hk hf hb hlen
    go_wp2_with fail
    go_ret
    exact ⟨ret_bool HF.out.symm, hB0⟩
  have HFH : Hid (hs ≠ hs' → R = false) := Lib.hid (fun h => HF.out (.inr (.inr (.inr h))))
  have HTH : Hid (hs = hs' → R = true) := Lib.hid (fun h => HT.out hk hf hb h)
  have HLen := Lib.hid hlen
  rw [← hlen] at b3 kB
  clear hk hf hb hlen HF HT
  go_wp2_with fail
  clear a0 a1 a2 a3 a4 b0 b1 b2 b3 b4 zA zB hne hng hk' hb'
  go_loopw [5] (fun i wq => ∃ j : Nat, j ≤ hs.length ∧ i = .int .i64 j ∧ Keeps (fun _ => False) w0 wq ∧ Hid (hs.take j = hs'.take j)) (fun i _ => hs.length - (intOf i).toNat)
  case atStart => exact ⟨0, Nat.zero_le _, rfl, Keeps.refl _ _, Lib.hid rfl⟩
  case round =>
    obtain ⟨j, hj, rfl, hK, H⟩ := hrel
    have kA2 := kA.keep hK (fun h => h)
    have kB2 := kB.keep hK (fun h => h)
    have hBw : Below w0.heap.size w0 wr := hK.below (fun _ _ h => h) (Nat.le_refl _)
    have a3 := kA2.cell 3
    have b3 := kB2.cell 3
    have zA := kA2.lt
    have zB := kB2.lt
    simp at a3 b3
    by_cases hlt : j < hs.length
    · obtain ⟨x, hx⟩ : ∃ x, hs[j]? = some x := ⟨_, List.getElem?_eq_getElem hlt⟩
      obtain ⟨y, hy⟩ : ∃ y, hs'[j]? = some y := ⟨_, List.getElem?_eq_getElem (by have := HLen.out; omega)⟩
      have HS : Hid (x = y → hs.take (j + 1) = hs'.take (j + 1)) := Lib.hid (fun e => by rw [List.take_add_one, List.take_add_one, hx, hy, H.out, e])
      have HD : Hid (x ≠ y → hs ≠ hs') := Lib.hid (fun e h => by rw [h, hy] at hx; exact e (Option.some.inj hx).symm)
      obtain ⟨p, off, rfl, hp, u0, u1, u2, u3, u4, u5⟩ := (H1.out.up hBw hBw.size).cells hx
      obtain ⟨p', off', rfl, hp', v0, v1, v2, v3, v4, v5⟩ := (H2.out.up hBw hBw.size).cells hy
      have hne := neHop x y
      have hng := fun a b => noGuardHop .neq a b x y
      unfold hopW at hne hng
      clear hx hy hBw
      by_cases hxy : x = y
      · have HX := Lib.hid (HS.out hxy)
        rw [decide_eq_true hxy] at hne
        clear hxy HS HD
        go_wp2_with fail
        go_quiet (fail)
        go_wp2_with fail
        go_roundw
        case rel => exact ⟨j + 1, by omega, by go_num, hK.drewN _, HX⟩
        case measure => simp [intOf]; omega
      · have HX := Lib.hid (HFH.out (HD.out hxy))
        rw [decide_eq_false hxy] at hne
        clear hxy HS HD
        go_wp2_with fail
        go_quiet (fail)
        go_wp2_with fail
        go_ret
        exact ⟨ret_bool HX.out.symm, below_dr (hB0.trans (hK.below (fun _ _ h => h) hB0.size)) _⟩
    · obtain rfl : j = hs.length := by omega
      have HX : Hid (R = true) := Lib.hid (HTH.out (by have h := H.out; rw [List.take_of_length_le (Nat.le_refl _), List.take_of_length_le (by have := HLen.out; omega)] at h; exact h))
      go_wp2_with fail
      go_ret
      exact ⟨ret_bool HX.out.symm, hB0.trans (hK.below (fun _ _ h => h) hB0.size)⟩
end Go.Proofs.YtmfjmoicnddkcaaGreatDoor
