/- The contract of Follow at invalid arguments: no route, and the error for arguments. No conditions. The contract of Follow at any arguments. Conditions: the list lies in memory, has at most 60 entries, and its places are ints. Cells of a row of hops that one owns. No conditions. -/
import Derived.Test.YtlbehpbhmmppiaaGreatDoorFolA
import Derived.Test.YtlbehpbhmmppiaaGreatDoorFolB
namespace Go.Proofs.YtlbehpbhmmppiaaGreatDoor
open Go.RowKit Go.Shelf

set_option maxRecDepth 100000 in
set_option maxHeartbeats 4000000 in
theorem follows_bad (A : Option Addr) (c n : Nat) (s d : Int) (cp : Int × Int) (hb : (isIdB cp.1 && isIdB cp.2 && isIdZB s && isDayB d) = false) (w : World) :
    Calls Tryz.prog 10 #[.slice A n c, candVal cp, .int .i64 s, .int .i64 d] w fun e w' => e = .returned (.tuple #[rtVal 0 (0, 0) (.slice none 0 0) 0, .int .i64 1]) ∧ Below w.heap.size w w' := by
  obtain ⟨p, q⟩ := cp
  dsimp only at hb
  have I1 := Lib.hid fun W => isId_any p W
  have I2 := Lib.hid fun W => isId_any q W
  have I3 := Lib.hid fun W => isIdOrZero_any s W
  have I4 := Lib.hid fun W => isDay_any d W
  generalize isIdB p = B1 at hb I1
  generalize isIdB q = B2 at hb I2
  generalize isIdZB s = B3 at hb I3
  generalize isDayB d = B4 at hb I4
  unfold candVal
  go_enter Tryz.func10, Tryz.ntmps10
  go_wp2_with fail
  refine wp_scope_once 0 rfl ?_
  go_wp2_with fail
  refine (I1.out _).mono ?_
  rintro e w' ⟨rfl, rfl⟩
  have b8 : Blk ((w.alloc (.cells #[.int .i64 p, .int .i64 q] 33)).alloc (.cells #[.int .u8 0, .int .i64 0, .int .i64 0, .slice none 0 0, .int .i64 0] 36)) (w.heap.size + 1) 36 #[.int .u8 0, .int .i64 0, .int .i64 0, .slice none 0 0, .int .i64 0] := by
    have := Blk.new (w.alloc (.cells #[.int .i64 p, .int .i64 q] 33)) 36 #[.int .u8 0, .int .i64 0, .int .i64 0, .slice none 0 0, .int .i64 0]
    simpa using this
  have b5 : Blk ((w.alloc (.cells #[.int .i64 p, .int .i64 q] 33)).alloc (.cells #[.int .u8 0, .int .i64 0, .int .i64 0, .slice none 0 0, .int .i64 0] 36)) w.heap.size 33 #[.int .i64 p, .int .i64 q] := (Blk.new w _ _).alloc _
  have hB0 : Below w.heap.size w ((w.alloc (.cells #[.int .i64 p, .int .i64 q] 33)).alloc (.cells #[.int .u8 0, .int .i64 0, .int .i64 0, .slice none 0 0, .int .i64 0] 36)) := ((Below.refl _ _).alloc (Nat.le_refl _) _).alloc (by simp) _
  generalize (w.alloc (.cells _ 33)).alloc (.cells _ 36) = W0 at b5 b8 hB0 ⊢
  have p1 := b5.cell 1
  have z5 := b5.lt
  simp at p1
  cases B1
  · have s0 := b8.cell 0
    have s1 := b8.cell 1
    have s2 := b8.cell 2
    have s3 := b8.cell 3
    have s4 := b8.cell 4
    have f0 := b8.frozen 0
    have f1 := b8.frozen 1
    have f2 := b8.frozen 2
    have f3 := b8.frozen 3
    have f4 := b8.frozen 4
    have z8 := b8.lt
    simp at s0 s1 s2 s3 s4
    go_wp2
    simp only [Exit.jump]
    have hKE : Below w.heap.size w (((((W0.setCell ⟨w.heap.size + 1, 0, none⟩ (.int .u8 0)).setCell ⟨w.heap.size + 1, 1, none⟩ (.int .i64 0)).setCell ⟨w.heap.size + 1, 2, none⟩ (.int .i64 0)).setCell ⟨w.heap.size + 1, 3, none⟩ (.slice none 0 0)).setCell ⟨w.heap.size + 1, 4, none⟩ (.int .i64 0)) := hB0.trans ((keep5 W0 (w.heap.size + 1) (.int .u8 0) (.int .i64 0) (.int .i64 0) (.slice none 0 0) (.int .i64 0)).below (by rintro i h1 h2; omega) hB0.size)
    have hBL : Blk (((((W0.setCell ⟨w.heap.size + 1, 0, none⟩ (.int .u8 0)).setCell ⟨w.heap.size + 1, 1, none⟩ (.int .i64 0)).setCell ⟨w.heap.size + 1, 2, none⟩ (.int .i64 0)).setCell ⟨w.heap.size + 1, 3, none⟩ (.slice none 0 0)).setCell ⟨w.heap.size + 1, 4, none⟩ (.int .i64 0)) (w.heap.size + 1) 36 #[.int .u8 0, .int .i64 0, .int .i64 0, .slice none 0 0, .int .i64 0] := set5 b8 (.int .u8 0) (.int .i64 0) (.int .i64 0) (.slice none 0 0) (.int .i64 0)
    generalize (((((W0.setCell ⟨w.heap.size + 1, 0, none⟩ (.int .u8 0)).setCell ⟨w.heap.size + 1, 1, none⟩ (.int .i64 0)).setCell ⟨w.heap.size + 1, 2, none⟩ (.int .i64 0)).setCell ⟨w.heap.size + 1, 3, none⟩ (.slice none 0 0)).setCell ⟨w.heap.size + 1, 4, none⟩ (.int .i64 0)) = WE at hKE hBL ⊢
    refine bodyPost_ret (v := .tuple #[rtVal 0 (0, 0) (.slice none 0 0) 0, .int .i64 1]) ((results_crt (p := 8) (u := 9) Tryz.results10 hBL rfl rowRoute sizeRoute).trans rfl) rfl ?_
    exact ⟨rfl, hKE⟩
  · go_wp2_with fail
    refine (I2.out _).mono ?_
    rintro e w' ⟨rfl, rfl⟩
    cases B2
    · have s0 := b8.cell 0
      have s1 := b8.cell 1
      have s2 := b8.cell 2
      have s3 := b8.cell 3
      have s4 := b8.cell 4
      have f0 := b8.frozen 0
      have f1 := b8.frozen 1
      have f2 := b8.frozen 2
      have f3 := b8.frozen 3
      have f4 := b8.frozen 4
      have z8 := b8.lt
      simp at s0 s1 s2 s3 s4
      go_wp2
      simp only [Exit.jump]
      have hKE : Below w.heap.size w (((((W0.setCell ⟨w.heap.size + 1, 0, none⟩ (.int .u8 0)).setCell ⟨w.heap.size + 1, 1, none⟩ (.int .i64 0)).setCell ⟨w.heap.size + 1, 2, none⟩ (.int .i64 0)).setCell ⟨w.heap.size + 1, 3, none⟩ (.slice none 0 0)).setCell ⟨w.heap.size + 1, 4, none⟩ (.int .i64 0)) := hB0.trans ((keep5 W0 (w.heap.size + 1) (.int .u8 0) (.int .i64 0) (.int .i64 0) (.slice none 0 0) (.int .i64 0)).below (by rintro i h1 h2; omega) hB0.size)
      have hBL : Blk (((((W0.setCell ⟨w.heap.size + 1, 0, none⟩ (.int .u8 0)).setCell ⟨w.heap.size + 1, 1, none⟩ (.int .i64 0)).setCell ⟨w.heap.size + 1, 2, none⟩ (.int .i64 0)).setCell ⟨w.heap.size + 1, 3, none⟩ (.slice none 0 0)).setCell ⟨w.heap.size + 1, 4, none⟩ (.int .i64 0)) (w.heap.size + 1) 36 #[.int .u8 0, .int .i64 0, .int .i64 0, .slice none 0 0, .int .i64 0] := set5 b8 (.int .u8 0) (.int .i64 0) (.int .i64 0) (.slice none 0 0) (.int .i64 0)
      generalize (((((W0.setCell ⟨w.heap.size + 1, 0, none⟩ (.int .u8 0)).setCell ⟨w.heap.size + 1, 1, none⟩ (.int .i64 0)).setCell ⟨w.heap.size + 1, 2, none⟩ (.int .i64 0)).setCell ⟨w.heap.size + 1, 3, none⟩ (.slice none 0 0)).setCell ⟨w.heap.size + 1, 4, none⟩ (.int .i64 0)) = WE at hKE hBL ⊢
      refine bodyPost_ret (v := .tuple #[rtVal 0 (0, 0) (.slice none 0 0) 0, .int .i64 1]) ((results_crt (p := 8) (u := 9) Tryz.results10 hBL rfl rowRoute sizeRoute).trans rfl) rfl ?_
      exact ⟨rfl, hKE⟩
    · go_wp2_with fail
      refine (I3.out _).mono ?_
      rintro e w' ⟨rfl, rfl⟩
      cases B3
      · have s0 := b8.cell 0
        have s1 := b8.cell 1
        have s2 := b8.cell 2
        have s3 := b8.cell 3
        have s4 := b8.cell 4
        have f0 := b8.frozen 0
        have f1 := b8.frozen 1
        have f2 := b8.frozen 2
        have f3 := b8.frozen 3
        have f4 := b8.frozen 4
        have z8 := b8.lt
        simp at s0 s1 s2 s3 s4
        go_wp2
        simp only [Exit.jump]
        have hKE : Below w.heap.size w (((((W0.setCell ⟨w.heap.size + 1, 0, none⟩ (.int .u8 0)).setCell ⟨w.heap.size + 1, 1, none⟩ (.int .i64 0)).setCell ⟨w.heap.size + 1, 2, none⟩ (.int .i64 0)).setCell ⟨w.heap.size + 1, 3, none⟩ (.slice none 0 0)).setCell ⟨w.heap.size + 1, 4, none⟩ (.int .i64 0)) := hB0.trans ((keep5 W0 (w.heap.size + 1) (.int .u8 0) (.int .i64 0) (.int .i64 0) (.slice none 0 0) (.int .i64 0)).below (by rintro i h1 h2; omega) hB0.size)
        have hBL : Blk (((((W0.setCell ⟨w.heap.size + 1, 0, none⟩ (.int .u8 0)).setCell ⟨w.heap.size + 1, 1, none⟩ (.int .i64 0)).setCell ⟨w.heap.size + 1, 2, none⟩ (.int .i64 0)).setCell ⟨w.heap.size + 1, 3, none⟩ (.slice none 0 0)).setCell ⟨w.heap.size + 1, 4, none⟩ (.int .i64 0)) (w.heap.size + 1) 36 #[.int .u8 0, .int .i64 0, .int .i64 0, .slice none 0 0, .int .i64 0] := set5 b8 (.int .u8 0) (.int .i64 0) (.int .i64 0) (.slice none 0 0) (.int .i64 0)
        generalize (((((W0.setCell ⟨w.heap.size + 1, 0, none⟩ (.int .u8 0)).setCell ⟨w.heap.size + 1, 1, none⟩ (.int .i64 0)).setCell ⟨w.heap.size + 1, 2, none⟩ (.int .i64 0)).setCell ⟨w.heap.size + 1, 3, none⟩ (.slice none 0 0)).setCell ⟨w.heap.size + 1, 4, none⟩ (.int .i64 0)) = WE at hKE hBL ⊢
        refine bodyPost_ret (v := .tuple #[rtVal 0 (0, 0) (.slice none 0 0) 0, .int .i64 1]) ((results_crt (p := 8) (u := 9) Tryz.results10 hBL rfl rowRoute sizeRoute).trans rfl) rfl ?_
        exact ⟨rfl, hKE⟩
      · go_wp2_with fail
        refine (I4.out _).mono ?_
        rintro e w' ⟨rfl, rfl⟩
        cases B4
        · have s0 := b8.cell 0
          have s1 := b8.cell 1
          have s2 := b8.cell 2
          have s3 := b8.cell 3
          have s4 := b8.cell 4
          have f0 := b8.frozen 0
          have f1 := b8.frozen 1
          have f2 := b8.frozen 2
          have f3 := b8.frozen 3
          have f4 := b8.frozen 4
          have z8 := b8.lt
          simp at s0 s1 s2 s3 s4
          go_wp2
          simp only [Exit.jump]
          have hKE : Below w.heap.size w (((((W0.setCell ⟨w.heap.size + 1, 0, none⟩ (.int .u8 0)).setCell ⟨w.heap.size + 1, 1, none⟩ (.int .i64 0)).setCell ⟨w.heap.size + 1, 2, none⟩ (.int .i64 0)).setCell ⟨w.heap.size + 1, 3, none⟩ (.slice none 0 0)).setCell ⟨w.heap.size + 1, 4, none⟩ (.int .i64 0)) := hB0.trans ((keep5 W0 (w.heap.size + 1) (.int .u8 0) (.int .i64 0) (.int .i64 0) (.slice none 0 0) (.int .i64 0)).below (by rintro i h1 h2; omega) hB0.size)
          have hBL : Blk (((((W0.setCell ⟨w.heap.size + 1, 0, none⟩ (.int .u8 0)).setCell ⟨w.heap.size + 1, 1, none⟩ (.int .i64 0)).setCell ⟨w.heap.size + 1, 2, none⟩ (.int .i64 0)).setCell ⟨w.heap.size + 1, 3, none⟩ (.slice none 0 0)).setCell ⟨w.heap.size + 1, 4, none⟩ (.int .i64 0)) (w.heap.size + 1) 36 #[.int .u8 0, .int .i64 0, .int .i64 0, .slice none 0 0, .int .i64 0] := set5 b8 (.int .u8 0) (.int .i64 0) (.int .i64 0) (.slice none 0 0) (.int .i64 0)
          generalize (((((W0.setCell ⟨w.heap.size + 1, 0, none⟩ (.int .u8 0)).setCell ⟨w.heap.size + 1, 1, none⟩ (.int .i64 0)).setCell ⟨w.heap.size + 1, 2, none⟩ (.int .i64 0)).setCell ⟨w.heap.size + 1, 3, none⟩ (.slice none 0 0)).setCell ⟨w.heap.size + 1, 4, none⟩ (.int .i64 0)) = WE at hKE hBL ⊢
          refine bodyPost_ret (v := .tuple #[rtVal 0 (0, 0) (.slice none 0 0) 0, .int .i64 1]) ((results_crt (p := 8) (u := 9) Tryz.results10 hBL rfl rowRoute sizeRoute).trans rfl) rfl ?_
          exact ⟨rfl, hKE⟩
        · cases hb
end Go.Proofs.YtlbehpbhmmppiaaGreatDoor
namespace Go.Proofs.YtlbehpbhmmppiaaGreatDoor
open Go.RowKit Go.Shelf

theorem follows_any (A : Option Addr) (c : Nat) (l : List OEnt) (d s : Int) (cp : Int × Int) (hI : ∀ x ∈ l, intB x.1.place ∧ intB x.1.at') (hlen : l.length ≤ 60) (w : World) (hL : EntsLie w w.heap.size A (l.map (·.1))) :
    Calls Tryz.prog 10 #[.slice A l.length c, candVal cp, .int .i64 s, .int .i64 d] w fun e w' => Below w.heap.size w w' ∧ ∃ r hv x, e = .returned (.tuple #[rtVal r.kind r.fin hv r.back, .int .i64 x]) ∧ OwnH w' w.heap.size hv r.hops ∧
      ((x = 0 ∧ Fol l d s [] cp r) ∨ (x = 1 ∧ r = ⟨0, (0, 0), [], 0⟩)) ∧ (x = 0 ↔ (isIdB cp.1 && isIdB cp.2 && isIdZB s && isDayB d) = true) := by
  cases hb : (isIdB cp.1 && isIdB cp.2 && isIdZB s && isDayB d)
  · refine (follows_bad A c l.length s d cp hb w).mono fun e w' ⟨h1, h2⟩ => ⟨h2, ⟨0, (0, 0), [], 0⟩, .slice none 0 0, 1, h1, OwnH.nil _ _, .inr ⟨rfl, rfl⟩, by simp⟩
  · simp only [Bool.and_eq_true] at hb
    obtain ⟨⟨⟨h1, h2⟩, h3⟩, h4⟩ := hb
    refine (follows_good A c l d s cp hI hlen h1 h2 h3 h4 w hL).mono fun e w' ⟨hB, r, hv, he, hO, hF⟩ => ⟨hB, r, hv, 0, he, hO, .inl ⟨rfl, hF⟩, by simp⟩
/-- The numbers of valid arguments are ints. -/
theorem valid_int {p q : Int} (h1 : isIdB p = true) (h2 : isIdB q = true) : intB p ∧ intB q := by
  simp [isIdB] at h1 h2
  unfold intB
  omega
end Go.Proofs.YtlbehpbhmmppiaaGreatDoor
namespace Go.Proofs.YtlbehpbhmmppiaaGreatDoor
open Go.RowKit Go.Shelf

theorem flat_hop : ∀ (l : List HopV) (k j : Nat) (x : HopV), l[k]? = some x → j < 6 → (l.flatMap hopCells)[k * 6 + j]? = (hopCells x)[j]?
  | [], k, j, x, h, _ => by simp at h
  | y :: l, 0, j, x, h, hj => by
    simp at h
    subst h
    rw [List.flatMap_cons, List.getElem?_append_left (by simp [hopCells]; omega)]
    simp
  | y :: l, k + 1, j, x, h, hj => by
    rw [List.flatMap_cons, List.getElem?_append_right (by simp [hopCells]; omega)]
    have e : (k + 1) * 6 + j - (hopCells y).length = k * 6 + j := by simp [hopCells]; omega
    rw [e]
    exact flat_hop l k j x (by simpa using h) hj
/-- The row lies in block g. -/
def RowH (w : World) (g : Nat) (l : List HopV) : Prop := g < w.heap.size ∧ ∀ k x, l[k]? = some x → ∀ j, j < 6 → w.cell? ⟨g, k * 6 + j, none⟩ = (hopCells x)[j]?
theorem RowH.keep {w w' : World} {g : Nat} {l : List HopV} {S : Nat → Prop} (h : RowH w g l) (hk : Keeps S w w') (hn : ¬ S g) : RowH w' g l :=
  ⟨Nat.lt_of_lt_of_le h.1 hk.size, fun k x hx j hj => (hk.cell (b := g) h.1 hn).trans (h.2 k x hx j hj)⟩
theorem OwnH.row {w : World} {base : Nat} {A : Option Addr} {c : Nat} {l : List HopV} (h : OwnH w base (.slice A l.length c) l) (hp : 0 < l.length) : ∃ g, A = some ⟨g, 0, none⟩ ∧ base ≤ g ∧ RowH w g l := by
  have hl := h.own_lt
  unfold OwnH at h
  have h0 := h
  rcases h0.2 with ⟨h1, h2⟩ | ⟨g, cap, cur, h1, hb, hg, _⟩
  · omega
  · simp only [Value.slice.injEq] at h1
    obtain ⟨rfl, _, rfl⟩ := h1
    refine ⟨g, rfl, hb, (hl g rfl).2, fun k x hx j hj => ?_⟩
    have hk := (List.getElem?_eq_some_iff.1 hx).1
    rw [h.cellAt (k * 6 + j) (by omega)]
    exact flat_hop l k j x hx hj
end Go.Proofs.YtlbehpbhmmppiaaGreatDoor
