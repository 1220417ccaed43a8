/- The contract of the reference's Write: the line that Write writes. Conditions: the name's length is a Go length; the library's table of powers of ten lies as the program's text lays it. -/
import Derived.Test.YthbgmhhbkojcmaaGreatDoorRefLineA
import Derived.Laws.Concat
namespace Go.Proofs.YthbgmhhbkojcmaaGreatDoor
open Go.RowKit Go.Shelf

/-- A number behind a blank. -/
def bl (n : Int) : ByteArray := ⟨#[32]⟩ ++ decB n
theorem decB_size {n : Int} (h0 : 0 ≤ n) (h1 : n ≤ 1000000) : (decB n).size ≤ 7 := by
  have := dec_len7 6 n.toNat (by omega)
  unfold decB
  simpa [ByteArray.size] using this
theorem bl_size {n : Int} (h0 : 0 ≤ n) (h1 : n ≤ 1000000) : (bl n).size ≤ 8 := by
  have := decB_size h0 h1
  unfold bl
  rw [ByteArray.size_append]
  show 1 + _ ≤ _
  omega
theorem bl_list (n : Int) : (bl n).data.toList = 32 :: (decB n).data.toList := by
  unfold bl
  simp [ByteArray.data_append]
set_option maxHeartbeats 400000 in
theorem num_any (n : Int) (h0 : 0 ≤ n) (h1 : n ≤ 1000000) (w : World) (hT : PowAt w) :
    Calls Tryz.prog 24 #[.int .i64 n] w fun e w' => e = .returned (.string (bl n)) ∧ Below w.heap.size w w' := by
  have HI := Lib.hid (itoaP_any n h0 (by omega) w hT)
  have hz := decB_size h0 h1
  unfold bl
  generalize decB n = d at HI hz ⊢
  clear h0 h1
  go_enter Tryz.func24, Tryz.ntmps24
  go_wp2_with fail
  refine HI.out.mono ?_
  rintro e w1 ⟨rfl, hb1⟩
  go_wp2_with fail
  go_ret
  exact ⟨rfl, hb1⟩

theorem all_nums {x : Ent} (h : ckE x = 0) : (0 ≤ x.day ∧ x.day ≤ 1000000) ∧ (0 ≤ x.person ∧ x.person ≤ 1000000) ∧ (0 ≤ x.place ∧ x.place ≤ 1000000) ∧ (0 ≤ x.other ∧ x.other ≤ 1000000) ∧ (0 ≤ x.order ∧ x.order ≤ 1000000) ∧ (0 ≤ x.at' ∧ x.at' ≤ 1000000) ∧ (0 ≤ x.since ∧ x.since ≤ 1000000) ∧ (0 ≤ x.untl ∧ x.untl ≤ 1000000) := by
  obtain ⟨h3, h4⟩ := nums_ok x (whole_of_ck h).1
  have hw : onlyW x = x := by
    have h5 := (whole_of_ck h).1
    unfold okE at h5
    simp only [Bool.and_eq_true, decide_eq_true_eq] at h5
    exact h5.2
  have hk := kinds_of_ck h
  replace hw := hw.symm
  clear h
  obtain ⟨day, kind, since, untl, person, place, other, at', order, name⟩ := x
  dsimp only at hk hw h3 h4 ⊢
  unfold onlyW onlyOr at hw
  rcases hk with rfl | rfl | rfl | rfl | rfl | rfl | rfl
  all_goals
    simp at hw
    simp [offs, fieldOf, entCells] at h4
    omega
theorem wordB_at1 : (wordB 1).data.toList = [110, 97, 109, 101] := by decide +kernel
theorem wordB_at2 : (wordB 2).data.toList = [108, 105, 118, 101] := by decide +kernel
theorem wordB_at3 : (wordB 3).data.toList = [100, 101, 97, 116, 104] := by decide +kernel
theorem wordB_at4 : (wordB 4).data.toList = [104, 101, 105, 114] := by decide +kernel
theorem wordB_at5 : (wordB 5).data.toList = [114, 101, 100, 105, 114, 101, 99, 116] := by decide +kernel
theorem wordB_at6 : (wordB 6).data.toList = [99, 97, 110, 99, 101, 108] := by decide +kernel
theorem wordB_at7 : (wordB 7).data.toList = [114, 101, 102, 117, 115, 101] := by decide +kernel
theorem refLine1 {x : Ent} (hk : x.kind = 1) : lineB x = decB x.day ++ ⟨#[32, 110, 97, 109, 101]⟩ ++ bl x.person ++ (bl x.since ++ bl x.untl) ++ ⟨#[32]⟩ ++ x.name := by
  have hw := wordB_at1
  apply ByteArray.ext
  apply Array.toList_inj.1
  unfold lineB wordsAll wordsTo
  rw [hk]
  simp [offs, Lib.join, List.intercalate, fieldOf, entCells, ByteArray.data_append, bl_list, hw]
theorem refLine2 {x : Ent} (hk : x.kind = 2) : lineB x = decB x.day ++ ⟨#[32, 108, 105, 118, 101]⟩ ++ bl x.person ++ bl x.place ++ (bl x.since ++ bl x.untl) := by
  have hw := wordB_at2
  apply ByteArray.ext
  apply Array.toList_inj.1
  unfold lineB wordsAll wordsTo
  rw [hk]
  simp [offs, Lib.join, List.intercalate, fieldOf, entCells, ByteArray.data_append, bl_list, hw]
theorem refLine3 {x : Ent} (hk : x.kind = 3) : lineB x = decB x.day ++ ⟨#[32, 100, 101, 97, 116, 104]⟩ ++ bl x.person ++ bl x.since := by
  have hw := wordB_at3
  apply ByteArray.ext
  apply Array.toList_inj.1
  unfold lineB wordsAll wordsTo
  rw [hk]
  simp [offs, Lib.join, List.intercalate, fieldOf, entCells, ByteArray.data_append, bl_list, hw]
theorem refLine4 {x : Ent} (hk : x.kind = 4) : lineB x = decB x.day ++ ⟨#[32, 104, 101, 105, 114]⟩ ++ bl x.person ++ bl x.other ++ (bl x.since ++ bl x.untl) := by
  have hw := wordB_at4
  apply ByteArray.ext
  apply Array.toList_inj.1
  unfold lineB wordsAll wordsTo
  rw [hk]
  simp [offs, Lib.join, List.intercalate, fieldOf, entCells, ByteArray.data_append, bl_list, hw]
theorem refLine5 {x : Ent} (hk : x.kind = 5) : lineB x = decB x.day ++ ⟨#[32, 114, 101, 100, 105, 114, 101, 99, 116]⟩ ++ bl x.order ++ bl x.person ++ bl x.place ++ bl x.other ++ bl x.at' ++ (bl x.since ++ bl x.untl) := by
  have hw := wordB_at5
  apply ByteArray.ext
  apply Array.toList_inj.1
  unfold lineB wordsAll wordsTo
  rw [hk]
  simp [offs, Lib.join, List.intercalate, fieldOf, entCells, ByteArray.data_append, bl_list, hw]
theorem refLine6 {x : Ent} (hk : x.kind = 6) : lineB x = decB x.day ++ ⟨#[32, 99, 97, 110, 99, 101, 108]⟩ ++ bl x.order ++ bl x.since := by
  have hw := wordB_at6
  apply ByteArray.ext
  apply Array.toList_inj.1
  unfold lineB wordsAll wordsTo
  rw [hk]
  simp [offs, Lib.join, List.intercalate, fieldOf, entCells, ByteArray.data_append, bl_list, hw]
theorem refLine7 {x : Ent} (hk : x.kind = 7) : lineB x = decB x.day ++ ⟨#[32, 114, 101, 102, 117, 115, 101]⟩ ++ bl x.person ++ bl x.place ++ bl x.other ++ (bl x.since ++ bl x.untl) := by
  have hw := wordB_at7
  apply ByteArray.ext
  apply Array.toList_inj.1
  unfold lineB wordsAll wordsTo
  rw [hk]
  simp [offs, Lib.join, List.intercalate, fieldOf, entCells, ByteArray.data_append, bl_list, hw]

set_option maxRecDepth 100000 in
set_option maxHeartbeats 2000000 in
theorem refWrite_ok (x : Ent) (hck : ckE x = 0) (hn : x.name.size ≤ maxLen) (w : World) (hT : PowAt w) :
    Calls Tryz.prog 8 #[entVal x] w fun e w' => e = .returned (.tuple #[.string (lineB x), .int .i64 0]) ∧ Below w.heap.size w w' := by
  have HCK := Lib.hid (fun W => refFormed_any x W hn)
  have hX0 := EntAt.new w x
  have hB0 : Below w.heap.size w (w.alloc (.cells (entCells x).toArray 23)) := (Below.refl _ _).alloc (Nat.le_refl _) _
  have HN : Hid (∀ (W : World) (n : Int), Below w.heap.size w W → 0 ≤ n ∧ n ≤ 1000000 → _) := Lib.hid fun W n (hW : Below w.heap.size w W) (h : 0 ≤ n ∧ n ≤ 1000000) => num_any n h.1 h.2 W (PowAt.below hT hW)
  have HI : Hid (∀ (W : World), Below w.heap.size w W → _) := Lib.hid fun W (hW : Below w.heap.size w W) => itoaP_any x.day (all_nums hck).1.1 (by have := (all_nums hck).1.2; omega) W (PowAt.below hT hW)
  have HC := Lib.hid hck
  have HK := Lib.hid (kinds_of_ck hck)
  have HA := Lib.hid (all_nums hck)
  have HM : Hid (x.kind = 1 → x.name.size ≤ 24) := Lib.hid fun h => by
    have := (whole_of_ck hck).2 h
    unfold isN at this
    simp only [Bool.and_eq_true, decide_eq_true_eq] at this
    have h2 : x.name.data.toList.length = x.name.size := by simp
    omega
  clear hck hT
  unfold entVal at HCK ⊢
  go_enter Tryz.func8, Tryz.ntmps8
  go_wp2_with fail
  simp only [entCells] at hX0 hB0
  generalize w.alloc (.cells _ 23) = W0 at hX0 hB0 ⊢
  obtain ⟨k0, k1, k2, k3, k4, k5, k6, k7, k8, k9, hz⟩ := EntAt.cells (x := x) hX0
  go_wp2_with fail
  refine (HCK.out _).mono ?_
  rintro e w1 ⟨rfl, hb1⟩
  rw [HC.out]
  have hX1 := Blk.below hX0 hb1 hz
  have hB1 := hB0.trans (hb1.mono hB0.size)
  clear k0 k1 k2 k3 k4 k5 k6 k7 k8 k9 hz hX0 hB0 hb1 HCK
  obtain ⟨k0, k1, k2, k3, k4, k5, k6, k7, k8, k9, hz⟩ := EntAt.cells (x := x) hX1
  go_wp2_with fail
  refine (HI.out _ hB1).mono ?_
  rintro e w2 ⟨rfl, hb2⟩
  have hX2 := Blk.below hX1 hb2 hz
  have hB2 := hB1.trans (hb2.mono hB1.size)
  clear k0 k1 k2 k3 k4 k5 k6 k7 k8 k9 hz hX1 hB1 hb2
  obtain ⟨k0, k1, k2, k3, k4, k5, k6, k7, k8, k9, hz⟩ := EntAt.cells (x := x) hX2
  go_wp2_with fail
  refine (HN.out _ x.person hB2 HA.out.2.1).mono ?_
  rintro e w3 ⟨rfl, hb3⟩
  have hX3 := Blk.below hX2 hb3 hz
  have hB3 := hB2.trans (hb3.mono hB2.size)
  clear k0 k1 k2 k3 k4 k5 k6 k7 k8 k9 hz hX2 hB2 hb3
  obtain ⟨k0, k1, k2, k3, k4, k5, k6, k7, k8, k9, hz⟩ := EntAt.cells (x := x) hX3
  go_wp2_with fail
  refine (HN.out _ x.place hB3 HA.out.2.2.1).mono ?_
  rintro e w4 ⟨rfl, hb4⟩
  have hX4 := Blk.below hX3 hb4 hz
  have hB4 := hB3.trans (hb4.mono hB3.size)
  clear k0 k1 k2 k3 k4 k5 k6 k7 k8 k9 hz hX3 hB3 hb4
  obtain ⟨k0, k1, k2, k3, k4, k5, k6, k7, k8, k9, hz⟩ := EntAt.cells (x := x) hX4
  go_wp2_with fail
  refine (HN.out _ x.other hB4 HA.out.2.2.2.1).mono ?_
  rintro e w5 ⟨rfl, hb5⟩
  have hX5 := Blk.below hX4 hb5 hz
  have hB5 := hB4.trans (hb5.mono hB4.size)
  clear k0 k1 k2 k3 k4 k5 k6 k7 k8 k9 hz hX4 hB4 hb5
  obtain ⟨k0, k1, k2, k3, k4, k5, k6, k7, k8, k9, hz⟩ := EntAt.cells (x := x) hX5
  go_wp2_with fail
  refine (HN.out _ x.order hB5 HA.out.2.2.2.2.1).mono ?_
  rintro e w6 ⟨rfl, hb6⟩
  have hX6 := Blk.below hX5 hb6 hz
  have hB6 := hB5.trans (hb6.mono hB5.size)
  clear k0 k1 k2 k3 k4 k5 k6 k7 k8 k9 hz hX5 hB5 hb6
  obtain ⟨k0, k1, k2, k3, k4, k5, k6, k7, k8, k9, hz⟩ := EntAt.cells (x := x) hX6
  go_wp2_with fail
  refine (HN.out _ x.at' hB6 HA.out.2.2.2.2.2.1).mono ?_
  rintro e w7 ⟨rfl, hb7⟩
  have hX7 := Blk.below hX6 hb7 hz
  have hB7 := hB6.trans (hb7.mono hB6.size)
  clear k0 k1 k2 k3 k4 k5 k6 k7 k8 k9 hz hX6 hB6 hb7
  obtain ⟨k0, k1, k2, k3, k4, k5, k6, k7, k8, k9, hz⟩ := EntAt.cells (x := x) hX7
  go_wp2_with fail
  refine (HN.out _ x.since hB7 HA.out.2.2.2.2.2.2.1).mono ?_
  rintro e w8 ⟨rfl, hb8⟩
  have hX8 := Blk.below hX7 hb8 hz
  have hB8 := hB7.trans (hb8.mono hB7.size)
  clear k0 k1 k2 k3 k4 k5 k6 k7 k8 k9 hz hX7 hB7 hb8
  obtain ⟨k0, k1, k2, k3, k4, k5, k6, k7, k8, k9, hz⟩ := EntAt.cells (x := x) hX8
  go_wp2_with fail
  refine (HN.out _ x.untl hB8 HA.out.2.2.2.2.2.2.2).mono ?_
  rintro e w9 ⟨rfl, hb9⟩
  have hX9 := Blk.below hX8 hb9 hz
  have hB9 := hB8.trans (hb9.mono hB8.size)
  clear k0 k1 k2 k3 k4 k5 k6 k7 k8 k9 hz hX8 hB8 hb9
  obtain ⟨k0, k1, k2, k3, k4, k5, k6, k7, k8, k9, hz⟩ := EntAt.cells (x := x) hX9
  clear k0 k2 k3 k4 k5 k6 k7 k8
  have z0 := decB_size HA.out.1.1 HA.out.1.2
  have z1 := bl_size HA.out.2.1.1 HA.out.2.1.2
  have z2 := bl_size HA.out.2.2.1.1 HA.out.2.2.1.2
  have z3 := bl_size HA.out.2.2.2.1.1 HA.out.2.2.2.1.2
  have z4 := bl_size HA.out.2.2.2.2.1.1 HA.out.2.2.2.2.1.2
  have z5 := bl_size HA.out.2.2.2.2.2.1.1 HA.out.2.2.2.2.2.1.2
  have z6 := bl_size HA.out.2.2.2.2.2.2.1.1 HA.out.2.2.2.2.2.2.1.2
  have z7 := bl_size HA.out.2.2.2.2.2.2.2.1 HA.out.2.2.2.2.2.2.2.2
  have hk := HK.out
  rcases hk with hk | hk | hk | hk | hk | hk | hk
  · have HL := Lib.hid (refLine1 hk)
    have hzn := HM.out hk
    rw [hk] at k1
    clear hk
    generalize bl x.person = p1 at *
    generalize bl x.place = p2 at *
    generalize bl x.other = p3 at *
    generalize bl x.order = p4 at *
    generalize bl x.at' = p5 at *
    generalize bl x.since = p6 at *
    generalize bl x.untl = p7 at *
    generalize decB x.day = p0 at *
    go_wp2_with fail
    go_ret2
    exact ⟨by rw [HL.out]; rfl, hB9⟩
  · have HL := Lib.hid (refLine2 hk)
    rw [hk] at k1
    clear hk
    generalize bl x.person = p1 at *
    generalize bl x.place = p2 at *
    generalize bl x.other = p3 at *
    generalize bl x.order = p4 at *
    generalize bl x.at' = p5 at *
    generalize bl x.since = p6 at *
    generalize bl x.untl = p7 at *
    generalize decB x.day = p0 at *
    go_wp2_with fail
    go_ret2
    exact ⟨by rw [HL.out]; rfl, hB9⟩
  · have HL := Lib.hid (refLine3 hk)
    rw [hk] at k1
    clear hk
    generalize bl x.person = p1 at *
    generalize bl x.place = p2 at *
    generalize bl x.other = p3 at *
    generalize bl x.order = p4 at *
    generalize bl x.at' = p5 at *
    generalize bl x.since = p6 at *
    generalize bl x.untl = p7 at *
    generalize decB x.day = p0 at *
    go_wp2_with fail
    go_ret2
    exact ⟨by rw [HL.out]; rfl, hB9⟩
  · have HL := Lib.hid (refLine4 hk)
    rw [hk] at k1
    clear hk
    generalize bl x.person = p1 at *
    generalize bl x.place = p2 at *
    generalize bl x.other = p3 at *
    generalize bl x.order = p4 at *
    generalize bl x.at' = p5 at *
    generalize bl x.since = p6 at *
    generalize bl x.untl = p7 at *
    generalize decB x.day = p0 at *
    go_wp2_with fail
    go_ret2
    exact ⟨by rw [HL.out]; rfl, hB9⟩
  · have HL := Lib.hid (refLine5 hk)
    rw [hk] at k1
    clear hk
    generalize bl x.person = p1 at *
    generalize bl x.place = p2 at *
    generalize bl x.other = p3 at *
    generalize bl x.order = p4 at *
    generalize bl x.at' = p5 at *
    generalize bl x.since = p6 at *
    generalize bl x.untl = p7 at *
    generalize decB x.day = p0 at *
    go_wp2_with fail
    go_ret2
    exact ⟨by rw [HL.out]; rfl, hB9⟩
  · have HL := Lib.hid (refLine6 hk)
    rw [hk] at k1
    clear hk
    generalize bl x.person = p1 at *
    generalize bl x.place = p2 at *
    generalize bl x.other = p3 at *
    generalize bl x.order = p4 at *
    generalize bl x.at' = p5 at *
    generalize bl x.since = p6 at *
    generalize bl x.untl = p7 at *
    generalize decB x.day = p0 at *
    go_wp2_with fail
    go_ret2
    exact ⟨by rw [HL.out]; rfl, hB9⟩
  · have HL := Lib.hid (refLine7 hk)
    rw [hk] at k1
    clear hk
    generalize bl x.person = p1 at *
    generalize bl x.place = p2 at *
    generalize bl x.other = p3 at *
    generalize bl x.order = p4 at *
    generalize bl x.at' = p5 at *
    generalize bl x.since = p6 at *
    generalize bl x.untl = p7 at *
    generalize decB x.day = p0 at *
    go_wp2_with fail
    go_ret2
    exact ⟨by rw [HL.out]; rfl, hB9⟩

theorem refWrite_bad (x : Ent) (hck : ckE x ≠ 0) (hn : x.name.size ≤ maxLen) (w : World) :
    Calls Tryz.prog 8 #[entVal x] w fun e w' => e = .returned (.tuple #[.string ⟨#[]⟩, .int .i64 (ckE x)]) ∧ Below w.heap.size w w' := by
  have HCK := Lib.hid (fun W => refFormed_any x W hn)
  have hB0 : Below w.heap.size w (w.alloc (.cells (entCells x).toArray 23)) := (Below.refl _ _).alloc (Nat.le_refl _) _
  generalize ckE x = n at *
  unfold entVal at HCK ⊢
  go_enter Tryz.func8, Tryz.ntmps8
  go_wp2_with fail
  simp only [entCells] at hB0
  refine (HCK.out _).mono ?_
  rintro e w1 ⟨rfl, hb1⟩
  have hB1 := below_two2 hb1 hB0
  clear hb1 hB0
  go_wp2_with fail
  go_ret2
  exact ⟨rfl, hB1⟩

theorem refWrite_all (x : Ent) (hn : x.name.size ≤ maxLen) (w : World) (hT : PowAt w) :
    Calls Tryz.prog 8 #[entVal x] w fun e w' => e = .returned (.tuple #[.string (if ckE x = 0 then lineB x else ⟨#[]⟩), .int .i64 (ckE x)]) ∧ Below w.heap.size w w' := by
  by_cases h : ckE x = 0
  · rw [if_pos h, h]
    exact refWrite_ok x h hn w hT
  · rw [if_neg h]
    exact refWrite_bad x h hn w
end Go.Proofs.YthbgmhhbkojcmaaGreatDoor
