/- The contract of the reference's added: which numbers the row holds that it returns. Conditions: the list lies in memory. The contracts of the reference's Places and Lives. Conditions: the list lies in memory and has at most 60 entries. -/
import Derived.Test.YtmfjmoicnddkcaaGreatDoorRefDA
import Derived.Test.YtmfjmoicnddkcaaGreatDoorSortA
namespace Go.Proofs.YtmfjmoicnddkcaaGreatDoor
open Go.RowKit

theorem infoInts : (Tryz.prog.info? 3).map (fun i => (i.zero, i.size, i.bytes)) = some (some (.int .i64 0), 1, 8) := by kernel_rfl
theorem intsRow : Tryz.prog.underlying 30 = some (.slice 3) := by kernel_rfl
/-- v is a slice of the numbers l in memory of the call's own, from block base on. -/
def OwnI (w : World) (base : Nat) (v : Value) (l : List Int) : Prop := w.ownsRow base 3 1 v l.length (l.map (Value.int .i64))
theorem OwnI.nil (w : World) (base : Nat) : OwnI w base (.slice none 0 0) [] := World.ownsRow_nil _ _ _ _
theorem OwnI.own_lt {w : World} {base : Nat} {v : Value} {l : List Int} (h : OwnI w base v l) : ∀ k, v.ownBlock = some k → base ≤ k ∧ k < w.heap.size := World.ownsRow.lt h
theorem OwnI.keep {S : Nat → Prop} {w w' : World} {base : Nat} {v : Value} {l : List Int} (h : OwnI w base v l) (hk : Keeps S w w') (hs : ∀ g, base ≤ g → ¬ S g) : OwnI w' base v l := by
  unfold OwnI at h ⊢
  have hlt := World.ownsRow.lt h
  refine ⟨h.1, ?_⟩
  rcases h.2 with h0 | ⟨g, cap, cur, rfl, hb, hg, rest⟩
  · exact .inl h0
  · exact .inr ⟨g, cap, cur, rfl, hb, (hk.block g (hlt g rfl).2 (hs g hb)).trans hg, rest⟩
theorem OwnI.below {w w' : World} {base : Nat} {v : Value} {l : List Int} (h : OwnI w base v l) (hb : Below w.heap.size w w') : OwnI w' base v l :=
  h.keep (S := fun _ => False) (Keeps.of_new hb) (fun _ _ h => h)
theorem OwnI.mono {w : World} {base base' : Nat} {v : Value} {l : List Int} (h : OwnI w base v l) (hb : base' ≤ base) : OwnI w base' v l := by
  refine ⟨h.1, ?_⟩
  rcases h.2 with h0 | ⟨g, cap, cur, rfl, hg, rest⟩
  · exact .inl h0
  · exact .inr ⟨g, cap, cur, rfl, Nat.le_trans hb hg, rest⟩
theorem OwnI.shape {w : World} {base : Nat} {v : Value} {l : List Int} (h : OwnI w base v l) : ∃ A c, v = .slice A l.length c := by
  rcases h.2 with ⟨rfl, h0⟩ | ⟨g, cap, cur, rfl, _⟩
  · exact ⟨none, 0, by rw [h0]⟩
  · exact ⟨_, cap, rfl⟩
/-- The numbers m lie behind A. -/
def IntsAt (w : World) (A : Option Addr) (m : List Int) : Prop := ∀ k x, m[k]? = some x → ∃ g, A = some ⟨g, 0, none⟩ ∧ g < w.heap.size ∧ w.cell? ⟨g, k, none⟩ = some (.int .i64 x)
theorem IntsAt.below {w w' : World} {A : Option Addr} {m : List Int} (h : IntsAt w A m) {B : Nat} (hb : Below B w w') (hB : w.heap.size ≤ B) : IntsAt w' A m := fun k x hx => by
  obtain ⟨g, h1, h2, h3⟩ := h k x hx
  exact ⟨g, h1, Nat.lt_of_lt_of_le h2 hb.size, (hb.cell (p := ⟨g, k, none⟩) (Nat.lt_of_lt_of_le h2 hB)).trans h3⟩
theorem OwnI.at {w : World} {base : Nat} {A : Option Addr} {c : Nat} {l : List Int} (h : OwnI w base (.slice A l.length c) l) : IntsAt w A l := fun k x hx => by
  have hl := h.own_lt
  unfold OwnI at h
  have hk := (List.getElem?_eq_some_iff.1 hx).1
  rcases h.2 with ⟨h1, h2⟩ | ⟨g, cap, cur, h1, hb, hg, _⟩
  · omega
  · simp only [Value.slice.injEq] at h1
    obtain ⟨rfl, _, rfl⟩ := h1
    refine ⟨g, rfl, (hl g rfl).2, ?_⟩
    rw [h.cellAt k (by omega), List.getElem?_map, hx]
    rfl
theorem append_int {w : World} {base : Nat} {v : Value} {l : List Int} (h : OwnI w base v l) (x : Int) (hbase : base ≤ w.heap.size) (hlen : l.length ≤ 100000) (ty : TypeId) :
    ∃ v' w', (Builtin.append_ #[30, 30] ty #[v, .slice (some ⟨w.heap.size, 0, none⟩) 1 1]).run Tryz.prog (w.alloc (.cells #[.int .i64 x] 3)) = .ok v' w' ∧ OwnI w' base v' (l ++ [x]) ∧ Keeps (fun i => v.ownBlock = some i) w w' := by
  obtain ⟨i0, hi, hz0, hz1, hz2⟩ := info_parts infoInts
  have h1 : (w.alloc (.cells #[.int .i64 x] 3)).ownsRow base 3 1 v l.length (l.map (Value.int .i64)) := OwnI.keep h ((Keeps.refl (fun _ => False) w).alloc _) (fun _ _ h => h)
  have hc : ∀ j u, [Value.int .i64 x][j]? = some u → (w.alloc (.cells #[.int .i64 x] 3)).cell? ((⟨w.heap.size, 0, none⟩ : Addr).add j) = some u := by
    intro j u hj
    rcases j with _ | j
    · simp at hj
      subst hj
      exact (Blk.new w 3 #[.int .i64 x]).cell 0
    · simp at hj
  obtain ⟨v', w', hrun, hO, hg, _, _⟩ := run_append_own_at (P := Tryz.prog) (w.alloc (.cells #[.int .i64 x] 3)) base 30 ty 3 i0 _ 1 8 intsRow hi hz0 hz1 hz2 rfl (by decide) v l.length _ h1 ⟨w.heap.size, 0, none⟩ 1 1 [.int .i64 x] rfl hc (fun u hu => by simp at hu; subst hu; rfl) (by unfold maxLen; omega) (by omega) (by simp; omega)
  refine ⟨v', w', hrun, ?_, ((Keeps.refl (fun i => v.ownBlock = some i) w).alloc _).trans (Keeps.of_grown (S := fun i => v.ownBlock = some i) hg (fun k hk _ => hk)) (fun i _ h => h)⟩
  unfold OwnI
  rw [List.length_append, List.map_append]
  exact hO

set_option maxRecDepth 100000 in
set_option maxHeartbeats 4000000 in
theorem refAdded_any (A : Option Addr) (c : Nat) (m : List Int) (n : Int) (hm : m.length ≤ 1000) (w : World) (hA : IntsAt w A m) :
    Calls Tryz.prog 48 #[.slice A m.length c, .int .i64 n] w fun e w' => ∃ v q, e = .returned v ∧ OwnI w' w.heap.size v q ∧ (∀ x, x ∈ q ↔ x = n ∨ x ∈ m) ∧ q.length ≤ m.length + 1 ∧ Below w.heap.size w w' := by
  go_enter Tryz.func48, Tryz.ntmps48
  go_wp2_with fail
  go_loopw [5, 6, 7] (fun v b i wr => ∃ (k : Nat) (bb : Bool) (q : List Int), k ≤ m.length ∧ i = .int .i64 k ∧ b = .bool bb ∧ OwnI wr w.heap.size v q ∧ Hid (∀ x, x ∈ q ↔ x ∈ m.take k ∨ (bb = true ∧ x = n)) ∧ q.length ≤ k + bb.toNat ∧ Below w.heap.size w wr) (fun _ _ i _ => m.length - (intOf i).toNat)
  case atStart => exact ⟨0, false, [], Nat.zero_le _, rfl, rfl, OwnI.nil _ _, Lib.hid (by simp), by simp, Below.refl _ _⟩
  case round =>
    obtain ⟨k, bb, q, hk, rfl, rfl, hO, HQ, hq, hB⟩ := hrel
    obtain ⟨A', c', rfl⟩ := hO.shape
    have hown := hO.own_lt
    by_cases hlt : k < m.length
    · obtain ⟨x, hx⟩ : ∃ x, m[k]? = some x := ⟨_, List.getElem?_eq_getElem hlt⟩
      obtain ⟨g, hAg, hg, hc⟩ := hA k x hx
      subst hAg
      have hcw := (hB.cell (p := ⟨g, k, none⟩) hg).trans hc
      have HT : Hid (m.take (k + 1) = m.take k ++ [x]) := Lib.hid (by rw [List.take_add_one, hx]; rfl)
      have hgw : g < wr.heap.size := Nat.lt_of_lt_of_le hg hB.size
      have hql : q.length ≤ 2000 := by cases bb <;> simp at hq <;> omega
      cases bb
      · by_cases hle : n ≤ x
        · obtain ⟨v1, w1, hrun1, hO1, hk1⟩ := append_int hO n hB.size (by omega) 30
          obtain ⟨A1, c1, rfl⟩ := hO1.shape
          have hB1 : Below w.heap.size w w1 := hB.trans (hk1.below (fun i h1 h2 => by have := hown i h2; omega) hB.size)
          have hown1 := hO1.own_lt
          have hl1 : (q ++ [n]).length = q.length + 1 := by simp
          have hc1 := (hB1.cell (p := ⟨g, k, none⟩) hg).trans hc
          have hg1 : g < w1.heap.size := Nat.lt_of_lt_of_le hg hB1.size
          by_cases he : n = x
          · subst he
            have HE : Hid (∀ y, y ∈ q ++ [n] ↔ y ∈ m.take (k + 1) ∨ ((true : Bool) = true ∧ y = n)) := Lib.hid (fun y => by rw [HT.out, List.mem_append, List.mem_append, HQ.out]; simp)
            have HL : Hid ((q ++ [n]).length ≤ k + 1 + (true : Bool).toNat) := Lib.hid (by simp at hq ⊢; omega)
            rw [hl1] at hrun1
            have HO1 : Hid (OwnI w1 w.heap.size (.slice A1 (q.length + 1) c1) (q ++ [n])) := Lib.hid (by rw [← hl1]; exact hO1)
            clear hl1
            clear hx hk1 hO hown hO1 hq HQ HT
            go_wp2_with (first | (at_builtin; refine Lib.wpList_append_run _ rfl _ _ _ _ rfl _ _ rfl rfl _ _ hrun1 ?_))
            go_roundw
            case rel => exact ⟨k + 1, true, _, by omega, by go_num, rfl, HO1.out, HE, HL.out, hB1⟩
            case measure => simp [intOf]; omega
          · obtain ⟨v2, w2, hrun2, hO2, hk2⟩ := append_int hO1 x hB1.size (by rw [List.length_append]; simp only [List.length_cons, List.length_nil]; omega) 30
            rw [hl1] at hrun1 hrun2
            clear hl1
            have hB2 : Below w.heap.size w w2 := hB1.trans (hk2.below (fun i h1 h2 => by have := hown1 i h2; omega) hB1.size)
            have HE : Hid (∀ y, y ∈ q ++ [n] ++ [x] ↔ y ∈ m.take (k + 1) ∨ ((true : Bool) = true ∧ y = n)) := Lib.hid (fun y => by rw [HT.out, List.mem_append, List.mem_append, List.mem_append, HQ.out]; simp only [List.mem_singleton, Bool.false_eq_true, false_and, or_false, true_and]; constructor <;> (rintro ((h | h) | h) <;> simp [h]))
            have HL : Hid ((q ++ [n] ++ [x]).length ≤ k + 1 + (true : Bool).toNat) := Lib.hid (by simp at hq ⊢; omega)
            have HO2 := Lib.hid hO2
            clear hx hk1 hO hown hO1 hq HQ HT hk2 hown1 hO2
            go_wp2_with (first | (at_builtin; refine Lib.wpList_append_run _ rfl _ _ _ _ rfl _ _ rfl rfl _ _ hrun1 ?_) | (at_builtin; refine Lib.wpList_append_run _ rfl _ _ _ _ rfl _ _ rfl rfl _ _ hrun2 ?_))
            go_roundw
            case rel => exact ⟨k + 1, true, _, by omega, by go_num, rfl, HO2.out, HE, HL.out, hB2⟩
            case measure => simp [intOf]; omega
        · obtain ⟨v2, w2, hrun2, hO2, hk2⟩ := append_int hO x hB.size (by omega) 30
          have hB2 : Below w.heap.size w w2 := hB.trans (hk2.below (fun i h1 h2 => by have := hown i h2; omega) hB.size)
          have HE : Hid (∀ y, y ∈ q ++ [x] ↔ y ∈ m.take (k + 1) ∨ ((false : Bool) = true ∧ y = n)) := Lib.hid (fun y => by rw [HT.out, List.mem_append, List.mem_append, HQ.out]; simp)
          have HL : Hid ((q ++ [x]).length ≤ k + 1 + (false : Bool).toNat) := Lib.hid (by simp at hq ⊢; omega)
          have HO2 := Lib.hid hO2
          clear hx hO hown hq HQ HT hk2 hO2
          go_wp2_with (first | (at_builtin; refine Lib.wpList_append_run _ rfl _ _ _ _ rfl _ _ rfl rfl _ _ hrun2 ?_))
          go_roundw
          case rel => exact ⟨k + 1, false, _, by omega, by go_num, rfl, HO2.out, HE, HL.out, hB2⟩
          case measure => simp [intOf]; omega
      · obtain ⟨v2, w2, hrun2, hO2, hk2⟩ := append_int hO x hB.size (by omega) 30
        have hB2 : Below w.heap.size w w2 := hB.trans (hk2.below (fun i h1 h2 => by have := hown i h2; omega) hB.size)
        have HE : Hid (∀ y, y ∈ q ++ [x] ↔ y ∈ m.take (k + 1) ∨ ((true : Bool) = true ∧ y = n)) := Lib.hid (fun y => by rw [HT.out, List.mem_append, List.mem_append, HQ.out]; simp only [List.mem_singleton, true_and]; constructor <;> (rintro ((h | h) | h) <;> simp [h]))
        have HL : Hid ((q ++ [x]).length ≤ k + 1 + (true : Bool).toNat) := Lib.hid (by simp at hq ⊢; omega)
        have HO2 := Lib.hid hO2
        clear hx hO hown hq HQ HT hk2 hO2
        go_wp2_with (first | (at_builtin; refine Lib.wpList_append_run _ rfl _ _ _ _ rfl _ _ rfl rfl _ _ hrun2 ?_))
        go_roundw
        case rel => exact ⟨k + 1, true, _, by omega, by go_num, rfl, HO2.out, HE, HL.out, hB2⟩
        case measure => simp [intOf]; omega
    · obtain rfl : k = m.length := by omega
      have HQ' : Hid (∀ x, x ∈ q ↔ x ∈ m ∨ (bb = true ∧ x = n)) := Lib.hid (by have := HQ.out; rwa [List.take_length] at this)
      clear HQ
      cases bb
      · obtain ⟨v2, w2, hrun2, hO2, hk2⟩ := append_int hO n hB.size (by simp at hq; omega) 30
        have hB2 : Below w.heap.size w w2 := hB.trans (hk2.below (fun i h1 h2 => by have := hown i h2; omega) hB.size)
        have HO2 := Lib.hid hO2
        clear hO hown hk2 hO2
        go_wp2_with (first | (at_builtin; refine Lib.wpList_append_run _ rfl _ _ _ _ rfl _ _ rfl rfl _ _ hrun2 ?_))
        go_ret
        refine ⟨_, _, rfl, HO2.out, fun y => ?_, by simp at hq ⊢; omega, hB2⟩
        rw [List.mem_append, HQ'.out]
        simp only [List.mem_singleton, Bool.false_eq_true, false_and, or_false]
        exact Or.comm
      · have HO2 := Lib.hid hO
        clear hO hown
        go_wp2_with fail
        go_ret
        refine ⟨_, rfl, q, HO2.out, fun y => ?_, by simp at hq ⊢; omega, hB⟩
        rw [HQ'.out]
        simp only [true_and]
        exact Or.comm
end Go.Proofs.YtmfjmoicnddkcaaGreatDoor
namespace Go.Proofs.YtmfjmoicnddkcaaGreatDoor
open Go.RowKit

def dwellE (p d : Int) (y : Ent) : Bool := y.kind == 2 && y.person == p && hld y d
def livE (l : List Ent) (c : Int × Int) (d : Int) : Bool := !deadE l c.1 d && l.any fun y => dwellE c.1 d y && y.place == c.2
theorem livE_eq (l : List OEnt) (d : Int) (c : Int × Int) : livE (l.map (·.1)) c d = livesOf (deadOf l d) l d c := by
  unfold livE livesOf
  rw [deadE_eq, flt_any l d 2 (liveB (deadOf l d) c)]
  obtain ⟨p, q⟩ := c
  dsimp only
  cases hd : deadOf l d p
  · simp only [Bool.not_false, Bool.true_and]
    congr 1
    funext x
    unfold dwellE liveB
    rw [Bool.eq_iff_iff]
    simp only [Bool.and_eq_true, beq_iff_eq, decide_eq_true_eq, Prod.mk.injEq, Bool.not_eq_true']
    constructor
    · rintro ⟨⟨⟨h1, h2⟩, h3⟩, h4⟩
      exact ⟨⟨h1, ⟨h2, h4⟩, by rw [h2]; exact hd⟩, h3⟩
    · rintro ⟨⟨h1, ⟨h2, h4⟩, _⟩, h3⟩
      exact ⟨⟨⟨h1, h2⟩, h3⟩, h4⟩
  · simp only [Bool.not_true, Bool.false_and]
    symm
    rw [List.any_eq_false]
    intro x _
    unfold liveB
    simp only [Bool.and_eq_true, beq_iff_eq, decide_eq_true_eq, Prod.mk.injEq, Bool.not_eq_true']
    rintro ⟨⟨_, ⟨h2, _⟩, h3⟩, _⟩
    rw [h2, hd] at h3
    cases h3
theorem mem_take_next {f : Ent → Bool} {l : List Ent} {k : Nat} {x : Ent} (hx : l[k]? = some x) (z : Int) : (∃ y ∈ l.take (k + 1), f y = true ∧ y.place = z) ↔ ((∃ y ∈ l.take k, f y = true ∧ y.place = z) ∨ (f x = true ∧ x.place = z)) := by
  rw [List.take_add_one, hx]
  simp only [Option.toList_some, List.mem_append, List.mem_singleton]
  constructor
  · rintro ⟨y, h1 | rfl, h2⟩
    · exact .inl ⟨y, h1, h2⟩
    · exact .inr h2
  · rintro (⟨y, h1, h2⟩ | h2)
    · exact ⟨y, .inl h1, h2⟩
    · exact ⟨x, .inr rfl, h2⟩

set_option maxRecDepth 100000 in
set_option maxHeartbeats 4000000 in
theorem refPlaces_any (A : Option Addr) (c : Nat) (l : List Ent) (p d : Int) (w : World) (hL : EntsLie w w.heap.size A l) (h60 : l.length ≤ 60) :
    Calls Tryz.prog 24 #[.slice A l.length c, .int .i64 p, .int .i64 d] w fun e w' => ∃ v q, e = .returned v ∧ OwnI w' w.heap.size v q ∧ Hid (∀ z, z ∈ q ↔ deadE l p d = false ∧ ∃ y ∈ l, dwellE p d y = true ∧ y.place = z) ∧ q.length ≤ l.length ∧ Below w.heap.size w w' := by
  have hd := refDead_any A c l p d w hL (by unfold maxLen; omega)
  obtain ⟨dd, hdd⟩ : ∃ x, deadE l p d = x := ⟨_, rfl⟩
  rw [hdd] at hd ⊢
  clear hdd
  go_enter Tryz.func24, Tryz.ntmps24
  go_wp2_with fail
  refine hd.mono ?_
  rintro e w1 ⟨rfl, hb1⟩
  clear hd
  cases dd
  rotate_left
  · go_wp2_with fail
    go_ret
    exact ⟨_, [], rfl, OwnI.nil _ _, Lib.hid (by simp), by simp, hb1⟩
  · go_wp2_with fail
    go_loopw [8, 9] (fun v i wr => ∃ (k : Nat) (q : List Int), k ≤ l.length ∧ i = .int .i64 k ∧ OwnI wr w.heap.size v q ∧ Hid (∀ z, z ∈ q ↔ ∃ y ∈ l.take k, dwellE p d y = true ∧ y.place = z) ∧ q.length ≤ k ∧ Below w.heap.size w wr) (fun _ i _ => l.length - (intOf i).toNat)
    case atStart => exact ⟨0, [], Nat.zero_le _, rfl, OwnI.nil _ _, Lib.hid (by simp), by simp, hb1⟩
    case round =>
      obtain ⟨k, q, hk, rfl, hO, HQ, hq, hB⟩ := hrel
      by_cases hlt : k < l.length
      · obtain ⟨x, hx⟩ : ∃ x, l[k]? = some x := ⟨_, List.getElem?_eq_getElem hlt⟩
        have HX := Lib.hid hx
        have HS := Lib.hid (mem_take_next (f := dwellE p d) hx)
        obtain ⟨b, off, rfl, hb, c0, c1, c2, c3, c4, c5, c6, c7, c8, c9⟩ := (hL.below hB).at hx
        clear hx
        go_wp2_with fail
        refine (refHolds_any x d _).mono ?_
        rintro e w2 ⟨rfl, hb2⟩
        have hB2 := hB.trans (hb2.mono hB.size)
        have hO2 := hO.below hb2
        obtain ⟨b', off', hA, hb', d0, d1, d2, d3, d4, d5, d6, d7, d8, d9⟩ := (hL.below hB2).at HX.out
        cases hA
        clear c0 c1 c2 c3 c4 c5 c6 c7 c8 c9 hb2 hB hb' hO
        have hno : dwellE p d x = false → Hid (∀ z, z ∈ q ↔ ∃ y ∈ l.take (k + 1), dwellE p d y = true ∧ y.place = z) := fun h => Lib.hid (fun z => by rw [HS.out z, h, ← HQ.out z]; simp)
        have hHQ := HQ
        by_cases hk1 : x.kind = 2
        · rw [hk1] at d1
          by_cases hk2 : x.person = p
          · rw [hk2] at d4
            cases hh : hld x d
            · have HN := hno (by unfold dwellE; simp [hh])
              clear hk1 hk2 hh hno hHQ
              go_wp2
              go_roundw
              case rel => exact ⟨k + 1, q, by omega, by go_num, hO2, HN, by omega, hB2⟩
              case measure => simp [intOf]; omega
            · have hy : dwellE p d x = true := by unfold dwellE; simp [hk1, hk2, hh]
              have HY : Hid (∀ z, (z = x.place ∨ z ∈ q) ↔ ∃ y ∈ l.take (k + 1), dwellE p d y = true ∧ y.place = z) := Lib.hid (fun z => by rw [HS.out z, hy, ← hHQ.out z]; simp only [true_and]; exact ⟨fun h => h.elim (fun h => .inr h.symm) .inl, fun h => h.elim .inr (fun h => .inl h.symm)⟩)
              clear hk1 hk2 hh hno hHQ hy
              obtain ⟨A2, cc, rfl⟩ := hO2.shape
              have HA := Lib.hid (refAdded_any A2 cc q x.place (by omega) w2 hO2.at)
              go_wp2_with fail
              refine HA.out.mono ?_
              rintro e w3 ⟨v3, q3, rfl, hO3, hq3, hl3, hb3⟩
              have hB3 := hB2.trans (hb3.mono hB2.size)
              have hO4 := hO3.mono hB2.size
              have HN : Hid (∀ z, z ∈ q3 ↔ ∃ y ∈ l.take (k + 1), dwellE p d y = true ∧ y.place = z) := Lib.hid (fun z => (hq3 z).trans (HY.out z))
              clear hb3 hO3 hq3 HY HA hO2 d0 d1 d2 d3 d4 d5 d6 d7 d8 d9 hB2 HQ HS HX
              go_wp2_with fail
              go_roundw
              case rel => exact ⟨k + 1, q3, by omega, by go_num, hO4, HN, by omega, hB3⟩
              case measure => simp [intOf]; omega
          · have HN := hno (by unfold dwellE; simp [hk2])
            clear hk1 hno hHQ
            go_wp2
            go_roundw
            case rel => exact ⟨k + 1, q, by omega, by go_num, hO2, HN, by omega, hB2⟩
            case measure => simp [intOf]; omega
        · have HN := hno (by unfold dwellE; simp [hk1])
          clear hno hHQ
          go_wp2
          go_roundw
          case rel => exact ⟨k + 1, q, by omega, by go_num, hO2, HN, by omega, hB2⟩
          case measure => simp [intOf]; omega
      · obtain rfl : k = l.length := by omega
        have HN : Hid (∀ z, z ∈ q ↔ (false : Bool) = false ∧ ∃ y ∈ l, dwellE p d y = true ∧ y.place = z) := Lib.hid (fun z => by have := HQ.out z; rw [List.take_length] at this; rw [this]; simp)
        go_wp2_with fail
        go_ret
        exact ⟨_, rfl, q, hO, Lib.hid (fun z => by simpa using HN.out z), hq, hB⟩

set_option maxRecDepth 100000 in
set_option maxHeartbeats 4000000 in
theorem refLives_any (A : Option Addr) (c : Nat) (l : List Ent) (cp : Int × Int) (d : Int) (w : World) (hL : EntsLie w w.heap.size A l) (h60 : l.length ≤ 60) :
    Calls Tryz.prog 26 #[.slice A l.length c, candVal cp, .int .i64 d] w fun e w' => e = .returned (.bool (livE l cp d)) ∧ Below w.heap.size w w' := by
  obtain ⟨p, q⟩ := cp
  have HE : Hid (livE l (p, q) d = (!deadE l p d && l.any fun y => dwellE p d y && y.place == q)) := Lib.hid rfl
  have hB0 : Below w.heap.size w (w.alloc (.cells #[.int .i64 p, .int .i64 q] 38)) := below_al (Below.refl _ _) _
  have kC := Blk.new w 38 #[.int .i64 p, .int .i64 q]
  have HP := Lib.hid (refPlaces_any A c l p d _ (hL.up hB0 hB0.size) h60)
  generalize livE l (p, q) d = R at *
  clear hL
  unfold candVal
  dsimp only
  go_enter Tryz.func26, Tryz.ntmps26
  have e0 := kC.cell 0
  simp at e0
  go_wp2_with fail
  generalize w.alloc (.cells _ 38) = w0 at hB0 kC HP ⊢
  refine HP.out.mono ?_
  rintro e w1 ⟨v, m, rfl, hO, HQ, hm, hb1⟩
  have hB1 := hB0.trans (hb1.mono hB0.size)
  replace kC := Blk.below kC hb1 (Blk.lt kC)
  obtain ⟨A2, c2, rfl⟩ := hO.shape
  have hI := hO.at
  have HR : Hid (R = true ↔ q ∈ m) := Lib.hid (by
    rw [HE.out, HQ.out q]
    simp only [Bool.and_eq_true, Bool.not_eq_true', List.any_eq_true, beq_iff_eq])
  clear hb1 HP HE HQ hO e0 hB0
  have e1 := kC.cell 1
  have zC := kC.lt
  simp at e1
  go_wp2_with fail
  go_loopw [8] (fun i wr => ∃ k : Nat, k ≤ m.length ∧ i = .int .i64 k ∧ (∃ n, wr = w1.drewN n) ∧ Hid (q ∉ m.take k)) (fun i _ => m.length - (intOf i).toNat)
  case atStart => exact ⟨0, Nat.zero_le _, rfl, ⟨0, rfl⟩, Lib.hid (by simp)⟩
  case round =>
    obtain ⟨k, hk, rfl, ⟨n, rfl⟩, H⟩ := hrel
    by_cases hlt : k < m.length
    · obtain ⟨x, hx⟩ : ∃ x, m[k]? = some x := ⟨_, List.getElem?_eq_getElem hlt⟩
      obtain ⟨g, hAg, hg, hc⟩ := hI k x hx
      subst hAg
      have HT : Hid (m.take (k + 1) = m.take k ++ [x]) := Lib.hid (by rw [List.take_add_one, hx]; rfl)
      have HM : Hid (x = q → q ∈ m) := Lib.hid (fun h => h ▸ List.mem_of_getElem? hx)
      clear hx hI
      by_cases he : x = q
      · have HT2 := Lib.hid (HR.out.2 (HM.out he))
        subst he
        clear HM HT HR
        go_wp2_with fail
        go_quiet (fail)
        go_wp2_with fail
        go_ret
        exact ⟨by rw [HT2.out]; rfl, by first | exact below_dr hB1 _ | exact below_dr (below_dr hB1 _) _⟩
      · have HN : Hid (q ∉ m.take (k + 1)) := Lib.hid (by rw [HT.out, List.mem_append, List.mem_singleton]; exact fun h => h.elim H.out (fun h => he h.symm))
        clear HM HT
        go_wp2_with fail
        go_quiet (fail)
        go_wp2_with fail
        go_roundw
        case rel => exact ⟨k + 1, by omega, by go_num, by first | exact ⟨_, rfl⟩ | exact ⟨_, drewN_two _ _ _⟩, HN⟩
        case measure => simp [intOf]; omega
    · obtain rfl : k = m.length := by omega
      have HN : Hid (R = false) := Lib.hid (by have := H.out; rw [List.take_length] at this; exact Bool.eq_false_iff.2 (fun h => this (HR.out.1 h)))
      go_wp2_with fail
      go_ret
      exact ⟨by rw [HN.out]; rfl, by first | exact below_dr hB1 _ | exact below_dr (below_dr hB1 _) _⟩
end Go.Proofs.YtmfjmoicnddkcaaGreatDoor
