/- The contract of numbersOf: pointers to the fields of an entry that its line has. No conditions. The contract of onlyWritten: an entry without the fields that its line does not have. No conditions. -/
import Derived.Test.YtlbehpbhmmppiaaGreatDoorFieldsA
import Derived.RegionTactic
import Derived.LoopTactic
namespace Go.Proofs.YtlbehpbhmmppiaaGreatDoor
open Go.RowKit

/-- Which fields a kind's line has, in their order. -/
def offs (k : Int) : List Nat :=
  if k = 1 then [4, 2, 3] else if k = 2 then [4, 5, 2, 3] else if k = 3 then [4, 2] else if k = 4 then [4, 6, 2, 3]
  else if k = 5 then [8, 4, 5, 6, 7, 2, 3] else if k = 6 then [8, 2] else if k = 7 then [4, 5, 6, 2, 3] else []
/-- Pointers to fields. -/
def ptrs (g : Nat) (l : List Nat) : List Value := l.map fun o => .pointer (some ⟨g, o, none⟩)
/-- Cells in a block from lo on. -/
def LiesFrom (w : World) (lo : Nat) (A : Option Addr) (xs : List Value) : Prop :=
  xs = [] ∨ ∃ b, A = some ⟨b, 0, none⟩ ∧ lo ≤ b ∧ b < w.heap.size ∧ ∀ j u, xs[j]? = some u → w.cell? ⟨b, j, none⟩ = some u
/-- What numbersOf leaves. -/
def NumsPost (w : World) (g : Nat) (l : List Nat) (e : Ending) (w' : World) : Prop :=
  ∃ A, e = .returned (.slice A l.length l.length) ∧ Below w.heap.size w w' ∧ LiesFrom w' w.heap.size A (ptrs g l)

theorem nums_new (w : World) (g : Nat) (l : List Nat) (cs : Array Value) (t : TypeId) (h1 : cs.toList = ptrs g l) :
    NumsPost w g l (.returned (.slice (some ⟨w.heap.size, 0, none⟩) l.length l.length)) (w.alloc (.cells cs t)).drew := by
  refine ⟨_, rfl, ((Below.refl _ _).alloc (Nat.le_refl _) _).drew, .inr ⟨_, rfl, Nat.le_refl _, by simp, fun j u hu => ?_⟩⟩
  have := (Blk.new w t cs).drew.cell j
  rw [this, ← Array.getElem?_toList, h1]; exact hu

set_option maxRecDepth 100000 in
set_option maxHeartbeats 4000000 in
theorem numbersOf_any (g : Nat) (x : Ent) (w : World) (hx : EntAt w g x) :
    Calls Tryz.prog 80 #[.pointer (some ⟨g, 0, none⟩)] w (NumsPost w g (offs x.kind)) := by
  obtain ⟨k0, k1, k2, k3, k4, k5, k6, k7, k8, k9, hz⟩ := hx.cells
  by_cases h : x.kind = 1 ∨ x.kind = 2 ∨ x.kind = 3 ∨ x.kind = 4 ∨ x.kind = 5 ∨ x.kind = 6 ∨ x.kind = 7
  · rcases h with h1 | h1 | h1 | h1 | h1 | h1 | h1
    all_goals
      rw [h1] at k1 ⊢
      clear h1 hx
      go_enter Tryz.func80, Tryz.ntmps80
      go_wp2
      go_region
      all_goals go_wp2
      all_goals
        go_ret
        exact nums_new w g _ _ _ rfl
  · have h1 : x.kind ≠ 1 := fun e => h (by simp [e])
    have h2 : x.kind ≠ 2 := fun e => h (by simp [e])
    have h3 : x.kind ≠ 3 := fun e => h (by simp [e])
    have h4 : x.kind ≠ 4 := fun e => h (by simp [e])
    have h5 : x.kind ≠ 5 := fun e => h (by simp [e])
    have h6 : x.kind ≠ 6 := fun e => h (by simp [e])
    have h7 : x.kind ≠ 7 := fun e => h (by simp [e])
    have ho : offs x.kind = [] := by simp [offs, h1, h2, h3, h4, h5, h6, h7]
    rw [ho]
    clear ho h
    go_enter Tryz.func80, Tryz.ntmps80
    go_wp2
    go_ret
    exact ⟨none, rfl, Below.refl _ _, .inl rfl⟩
end Go.Proofs.YtlbehpbhmmppiaaGreatDoor
namespace Go.Proofs.YtlbehpbhmmppiaaGreatDoor
open Go.RowKit

/-- The cells of y behind the first k copies. -/
def copied (x : Ent) (l : List Nat) : Array Value :=
  l.foldl (fun c o => c.setIfInBounds o ((entCells x).getD o undef)) (entCells ⟨x.day, x.kind, 0, 0, 0, 0, 0, 0, 0, ⟨#[]⟩⟩).toArray
theorem copied_snoc (x : Ent) (l : List Nat) (o : Nat) : copied x (l ++ [o]) = (copied x l).setIfInBounds o ((entCells x).getD o undef) := by
  simp [copied, List.foldl_append]
theorem copied_size (x : Ent) (l : List Nat) : (copied x l).size = 10 := by
  unfold copied
  have : ∀ (l : List Nat) (c : Array Value), c.size = 10 → (l.foldl (fun c o => c.setIfInBounds o ((entCells x).getD o undef)) c).size = 10 := by
    intro l
    induction l with
    | nil => intro c h; exact h
    | cons a l ih => intro c h; exact ih _ (by simpa using h)
  exact this l _ rfl
/-- What stands in y behind the loop. -/
def almost (x : Ent) : Ent := { onlyW x with name := ⟨#[]⟩ }
theorem copied_all (x : Ent) : copied x (offs x.kind) = (entCells (almost x)).toArray := by
  by_cases h : x.kind = 1 ∨ x.kind = 2 ∨ x.kind = 3 ∨ x.kind = 4 ∨ x.kind = 5 ∨ x.kind = 6 ∨ x.kind = 7
  · rcases h with h | h | h | h | h | h | h <;> simp [copied, offs, h, almost, onlyW, onlyOr, entCells]
  · have h1 : x.kind ≠ 1 := fun e => h (by simp [e])
    have h2 : x.kind ≠ 2 := fun e => h (by simp [e])
    have h3 : x.kind ≠ 3 := fun e => h (by simp [e])
    have h4 : x.kind ≠ 4 := fun e => h (by simp [e])
    have h5 : x.kind ≠ 5 := fun e => h (by simp [e])
    have h6 : x.kind ≠ 6 := fun e => h (by simp [e])
    have h7 : x.kind ≠ 7 := fun e => h (by simp [e])
    simp [copied, offs, almost, onlyW, onlyOr, entCells, h1, h2, h3, h4, h5, h6, h7]
theorem offs_lt (k : Int) : ∀ o ∈ offs k, 2 ≤ o ∧ o ≤ 8 := by
  unfold offs
  repeat' split
  all_goals simp
theorem entCells_int (x : Ent) (o : Nat) (h : 2 ≤ o ∧ o ≤ 8) : ∃ n, (entCells x).getD o undef = .int .i64 n := by
  have : o = 2 ∨ o = 3 ∨ o = 4 ∨ o = 5 ∨ o = 6 ∨ o = 7 ∨ o = 8 := by omega
  rcases this with h | h | h | h | h | h | h <;> subst h <;> exact ⟨_, rfl⟩
theorem offs_len (k : Int) : (offs k).length ≤ 7 := by
  unfold offs
  repeat' split
  all_goals simp

theorem LiesFrom.keep {S : Nat → Prop} {w w' : World} {lo : Nat} {A : Option Addr} {xs : List Value} (h : LiesFrom w lo A xs) (hk : Keeps S w w') (hs : ∀ k, lo ≤ k → ¬ S k) : LiesFrom w' lo A xs := by
  rcases h with h | ⟨b, rfl, h1, h2, h3⟩
  · exact .inl h
  · exact .inr ⟨b, rfl, h1, Nat.lt_of_lt_of_le h2 hk.size, fun j u hu => (hk.cell h2 (hs b h1)).trans (h3 j u hu)⟩

theorem only_name (x : Ent) (h : x.kind ≠ 1) : (onlyW x).name = ⟨#[]⟩ := by
  unfold onlyW onlyOr
  rw [if_neg h]
  repeat' split
  all_goals rfl
theorem only_name1 (x : Ent) (h : x.kind = 1) : (onlyW x).name = x.name := by
  unfold onlyW onlyOr
  rw [if_pos h]

set_option maxRecDepth 100000 in
set_option maxHeartbeats 4000000 in
theorem onlyWritten_any (x : Ent) (w : World) :
    Calls Tryz.prog 108 #[entVal x] w (RetsEnt w (onlyW x)) := by
  unfold entVal
  go_enter Tryz.func108, Tryz.ntmps108
  go_wp2_with fail
  have hX0 : EntAt (((w.alloc (.cells (entCells x).toArray 41)).alloc (.cells (entCells ⟨0, 0, 0, 0, 0, 0, 0, 0, 0, ⟨#[]⟩⟩).toArray 41)).alloc (.cells (entCells ⟨x.day, x.kind, 0, 0, 0, 0, 0, 0, 0, ⟨#[]⟩⟩).toArray 41)) w.heap.size x := ((Blk.new w _ _).alloc _).alloc _
  have hR0 : EntAt (((w.alloc (.cells (entCells x).toArray 41)).alloc (.cells (entCells ⟨0, 0, 0, 0, 0, 0, 0, 0, 0, ⟨#[]⟩⟩).toArray 41)).alloc (.cells (entCells ⟨x.day, x.kind, 0, 0, 0, 0, 0, 0, 0, ⟨#[]⟩⟩).toArray 41)) (w.heap.size + 1) ⟨0, 0, 0, 0, 0, 0, 0, 0, 0, ⟨#[]⟩⟩ := by
    have := (Blk.new (w.alloc (.cells (entCells x).toArray 41)) 41 (entCells ⟨0, 0, 0, 0, 0, 0, 0, 0, 0, ⟨#[]⟩⟩).toArray).alloc (.cells (entCells ⟨x.day, x.kind, 0, 0, 0, 0, 0, 0, 0, ⟨#[]⟩⟩).toArray 41)
    simpa [EntAt] using this
  have hY0 : EntAt (((w.alloc (.cells (entCells x).toArray 41)).alloc (.cells (entCells ⟨0, 0, 0, 0, 0, 0, 0, 0, 0, ⟨#[]⟩⟩).toArray 41)).alloc (.cells (entCells ⟨x.day, x.kind, 0, 0, 0, 0, 0, 0, 0, ⟨#[]⟩⟩).toArray 41)) (w.heap.size + 1 + 1) ⟨x.day, x.kind, 0, 0, 0, 0, 0, 0, 0, ⟨#[]⟩⟩ := by
    have := (Blk.new ((w.alloc (.cells (entCells x).toArray 41)).alloc (.cells (entCells ⟨0, 0, 0, 0, 0, 0, 0, 0, 0, ⟨#[]⟩⟩).toArray 41)) 41 (entCells ⟨x.day, x.kind, 0, 0, 0, 0, 0, 0, 0, ⟨#[]⟩⟩).toArray)
    simpa [EntAt] using this
  have hB0 : Below w.heap.size w (((w.alloc (.cells (entCells x).toArray 41)).alloc (.cells (entCells ⟨0, 0, 0, 0, 0, 0, 0, 0, 0, ⟨#[]⟩⟩).toArray 41)).alloc (.cells (entCells ⟨x.day, x.kind, 0, 0, 0, 0, 0, 0, 0, ⟨#[]⟩⟩).toArray 41)) := (((Below.refl _ _).alloc (Nat.le_refl _) _).alloc (by simp) _).alloc (by simp; omega) _
  simp only [entCells] at hX0 hR0 hY0 hB0
  generalize ((w.alloc (.cells _ 41)).alloc (.cells _ 41)).alloc (.cells _ 41) = W0 at hX0 hR0 hY0 hB0 ⊢
  refine (numbersOf_any _ _ _ hY0).mono ?_
  rintro e w1 ⟨A, rfl, hb1, hL1⟩
  have hX1 := hX0.below hb1 hX0.lt
  have hR1 := hR0.below hb1 hR0.lt
  have hY1 := hY0.below hb1 hY0.lt
  have hB1 := hB0.trans (hb1.mono hB0.size)
  have hz0 := hY0.lt
  clear hX0 hR0 hY0 hB0
  go_wp2_with fail
  refine (numbersOf_any _ x _ hX1).mono ?_
  rintro e w2 ⟨A2, rfl, hb2, hL2⟩
  have hX2 := hX1.below hb2 hX1.lt
  have hR2 := hR1.below hb2 hR1.lt
  have hY2 := hY1.below hb2 hY1.lt
  have hB2 := hB1.trans (hb2.mono hB1.size)
  have hL3 := hL1.keep (Keeps.of_new (S := fun _ => False) hb2) (fun _ _ h => h)
  have hz1 := hb1.size
  have hW1 : w1.heap.size ≤ w2.heap.size := hb2.size
  clear hX1 hR1 hY1 hB1 hL1 hb1 hb2
  go_wp2_with fail
  have hlen : (offs x.kind).length ≤ 7 := offs_len _
  have hz2 := hY2.lt
  go_loopw [15] (fun i wr => ∃ k : Nat, k ≤ (offs x.kind).length ∧ i = .int .i64 k ∧ Below w.heap.size w wr ∧ EntAt wr w.heap.size x ∧ EntAt wr (w.heap.size + 1) ⟨0, 0, 0, 0, 0, 0, 0, 0, 0, ⟨#[]⟩⟩ ∧ Blk wr (w.heap.size + 1 + 1) 41 (copied x ((offs x.kind).take k)) ∧ LiesFrom wr W0.heap.size A (ptrs (w.heap.size + 1 + 1) (offs x.kind)) ∧ LiesFrom wr w1.heap.size A2 (ptrs w.heap.size (offs x.kind))) (fun i _ => (offs x.kind).length - (intOf i).toNat)
  case atStart => exact ⟨0, Nat.zero_le _, rfl, hB2, hX2, hR2, hY2, hL3, hL2⟩
  case round =>
    clear hX2 hR2 hY2 hB2 hL3 hL2
    obtain ⟨k, hk, rfl, hB, hX, hR, hY, hA, hA2⟩ := hrel
    by_cases hlt : k < (offs x.kind).length
    · obtain ⟨o, hO⟩ : ∃ o, (offs x.kind)[k]? = some o := ⟨_, List.getElem?_eq_getElem hlt⟩
      have ho2 := offs_lt x.kind o (List.mem_of_getElem? hO)
      have ho : o < 10 := by omega
      have hSN : Hid ((offs x.kind).take (k + 1) = (offs x.kind).take k ++ [o]) := Lib.hid (by rw [List.take_add_one, hO]; rfl)
      have p1 : (ptrs (w.heap.size + 1 + 1) (offs x.kind))[k]? = some (.pointer (some ⟨w.heap.size + 1 + 1, o, none⟩)) := by simp [ptrs, hO]
      have p2 : (ptrs w.heap.size (offs x.kind))[k]? = some (.pointer (some ⟨w.heap.size, o, none⟩)) := by simp [ptrs, hO]
      clear hO
      have hA' := hA
      have hA2' := hA2
      rcases hA' with h0 | ⟨b, rfl, hb1, hb3, hc⟩
      · rw [h0] at p1; cases p1
      rcases hA2' with h0 | ⟨b2, rfl, hb4, hb5, hc2⟩
      · rw [h0] at p2; cases p2
      have q1 := hc k _ p1
      have q2 := hc2 k _ p2
      have hx := Blk.cell hX o
      have hy := Blk.cell hY o
      have hyf := Blk.frozen hY o
      obtain ⟨v, hv⟩ := entCells_int x o ho2
      clear ho2
      have hxs : (entCells x).toArray[o]? = some (.int .i64 v) := by
        have : o < (entCells x).length := ho
        rw [← hv]
        simp [List.getElem?_eq_getElem this]
      obtain ⟨u, hys⟩ : ∃ u, (copied x ((offs x.kind).take k))[o]? = some u := ⟨_, Array.getElem?_eq_getElem (by rw [copied_size]; exact ho)⟩
      rw [hxs] at hx
      rw [hys] at hy
      have HV := Lib.hid hv
      clear hxs hys hc hc2 p1 p2 hv
      go_wp2
      go_region
      all_goals go_wp2
      all_goals go_roundw
      case rel =>
        exact ⟨k + 1, by omega, by go_num, (hB.setCell (p := ⟨w.heap.size + 1 + 1, o, none⟩) (by simp; omega) _).drew, Blk.drew (Blk.far hX (p := ⟨w.heap.size + 1 + 1, o, none⟩) (by simp; omega) _), Blk.drew (Blk.far hR (p := ⟨w.heap.size + 1 + 1, o, none⟩) (by simp) _),
          by (have h5 := (Blk.set hY o (.int .i64 v)).drew; rw [hSN.out, copied_snoc, HV.out]; exact h5),
          hA.keep (((Keeps.refl (fun i => i = w.heap.size + 1 + 1) wr).setCell (p := ⟨w.heap.size + 1 + 1, o, none⟩) (fun _ => rfl) _).drew) (by intro i h1 h2; omega),
          hA2.keep (((Keeps.refl (fun i => i = w.heap.size + 1 + 1) wr).setCell (p := ⟨w.heap.size + 1 + 1, o, none⟩) (fun _ => rfl) _).drew) (by intro i h1 h2; omega)⟩
      case measure => simp [intOf]; omega
    · rw [List.take_of_length_le (by omega), copied_all] at hY
      have hY' : EntAt wr (w.heap.size + 1 + 1) (almost x) := hY
      obtain ⟨k0, k1, k2, k3, k4, k5, k6, k7, k8, k9, hz⟩ := hX.cells
      obtain ⟨r0, r1, r2, r3, r4, r5, r6, r7, r8, r9, hzr⟩ := hR.cells
      obtain ⟨y0, y1, y2, y3, y4, y5, y6, y7, y8, y9, hzy⟩ := hY'.cells
      have f9 := Blk.frozen hY 9
      have g0 := Blk.frozen hR 0
      have g1 := Blk.frozen hR 1
      have g2 := Blk.frozen hR 2
      have g3 := Blk.frozen hR 3
      have g4 := Blk.frozen hR 4
      have g5 := Blk.frozen hR 5
      have g6 := Blk.frozen hR 6
      have g7 := Blk.frozen hR 7
      have g8 := Blk.frozen hR 8
      have g9 := Blk.frozen hR 9
      go_wp2
      · have hn := only_name1 x (by simpa using ‹(x.kind == 1) = true›)
        refine bodyPost_ret (v := entVal (onlyW x)) ?_ rfl ⟨rfl, ?_⟩
        · simp [results, Tryz.results108, go_sem, entVal, almost, *]
        · repeat (refine Below.setCell ?_ (by simp; try omega) _)
          exact hB
      · have hn := only_name x (by simpa using ‹(x.kind == 1) = false›)
        refine bodyPost_ret (v := entVal (onlyW x)) ?_ rfl ⟨rfl, ?_⟩
        · simp [results, Tryz.results108, go_sem, entVal, almost, *]
        · repeat (refine Below.setCell ?_ (by simp; try omega) _)
          exact hB
end Go.Proofs.YtlbehpbhmmppiaaGreatDoor
