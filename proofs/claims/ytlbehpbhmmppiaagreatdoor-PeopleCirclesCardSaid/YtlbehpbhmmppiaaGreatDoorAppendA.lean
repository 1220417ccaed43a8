/- The contracts of slices.Clone, slices.Grow from nil and slices.Concat of two, at entries. Conditions: the list lies in memory; Go's own limits on its size. The contracts of Known, of the program and of the reference. Conditions: the list lies in memory; Go's own limits on its size. The contract of the reference's SameEntries. Conditions: both lists lie in memory. The contracts of slices.Grow from nil, slices.Concat of two, people.Append and the reference's Append. Conditions: the list lies in memory; Go's own limits on its size. The contracts of people.Append and the reference's Append. Conditions: the list lies in memory; the names' lengths are Go lengths; Go's own limits on its size. -/
import Derived.Test.YtlbehpbhmmppiaaGreatDoorRefA
namespace Go.Proofs.YtlbehpbhmmppiaaGreatDoor
open Go.RowKit

theorem OwnE.empty (w : World) (base : Nat) (hb : base ≤ w.heap.size) : OwnE (w.alloc (.cells #[] 41)) base (.slice (some ⟨w.heap.size, 0, none⟩) 0 0) [] :=
  World.ownsRow_made w #[] 0 hb (Nat.zero_le _) rfl

end Go.Proofs.YtlbehpbhmmppiaaGreatDoor
namespace Go.Proofs.YtlbehpbhmmppiaaGreatDoor
open Go.RowKit

theorem OwnE.base {w : World} {base base' : Nat} {v : Value} {l : List Ent} (h : OwnE w base v l) (hb : base' ≤ base) : OwnE w base' v l := by
  unfold OwnE at h ⊢
  refine ⟨h.1, ?_⟩
  rcases h.2 with h0 | ⟨g, cap, cur, rfl, h1, rest⟩
  · exact .inl h0
  · exact .inr ⟨g, cap, cur, rfl, Nat.le_trans hb h1, rest⟩

/-- The entries before the first one that was entered after a day. -/
def knw (l : List Ent) (d : Int) : List Ent := l.takeWhile fun x => decide (x.day ≤ d)
theorem knw_step {l : List Ent} {d : Int} {k : Nat} {x : Ent} (h : knw l d = l.take k ++ knw (l.drop k) d) (hD : l.drop k = x :: l.drop (k + 1)) (hT : l.take (k + 1) = l.take k ++ [x]) (hd : x.day ≤ d) : knw l d = l.take (k + 1) ++ knw (l.drop (k + 1)) d := by
  rw [h, hD, hT, List.append_assoc]
  unfold knw
  rw [List.takeWhile_cons, if_pos (by simpa using hd)]; rfl
theorem knw_stop {l : List Ent} {d : Int} {k : Nat} {x : Ent} (h : knw l d = l.take k ++ knw (l.drop k) d) (hD : l.drop k = x :: l.drop (k + 1)) (hd : ¬ x.day ≤ d) : knw l d = l.take k := by
  rw [h, hD]
  unfold knw
  rw [List.takeWhile_cons, if_neg (by simpa using hd)]; simp
theorem knw_end {l : List Ent} {d : Int} {k : Nat} (h : knw l d = l.take k ++ knw (l.drop k) d) (hk : l.length ≤ k) : knw l d = l := by
  rw [h, List.take_of_length_le hk, List.drop_of_length_le hk]; simp [knw]

theorem OwnE.alloc {w : World} {base : Nat} {v : Value} {l : List Ent} (h : OwnE w base v l) (o : Obj) : OwnE (w.alloc o) base v l := h.keeps ((Keeps.refl (fun _ => False) w).alloc o) (fun _ _ h => h)
theorem OwnE.drew {w : World} {base : Nat} {v : Value} {l : List Ent} (h : OwnE w base v l) : OwnE w.drew base v l := h
theorem EntsLie.one (w : World) (x : Ent) (o : Obj) (ho : o = .cells (entCells x).toArray 41) : EntsLie (w.alloc o) (w.alloc o).heap.size (some ⟨w.heap.size, 0, none⟩) [x] := by
  subst ho
  refine EntsLie.of_flat (by simp) (fun j u hu => ?_)
  rw [Nat.zero_add, (Blk.new w 41 (entCells x).toArray).cell j]
  simpa using hu

end Go.Proofs.YtlbehpbhmmppiaaGreatDoor
namespace Go.Proofs.YtlbehpbhmmppiaaGreatDoor
open Go.RowKit

end Go.Proofs.YtlbehpbhmmppiaaGreatDoor
namespace Go.Proofs.YtlbehpbhmmppiaaGreatDoor
open Go.RowKit

set_option maxRecDepth 100000 in
set_option maxHeartbeats 1000000 in
theorem Grow_any (n : Nat) (w : World) (hn : n * 88 ≤ 140737488355328) :
    Calls Tryz.prog 86 #[.slice none 0 0, .int .i64 n] w fun e w' => ∃ v, e = .returned v ∧ OwnE w' w.heap.size v [] ∧ Below w.heap.size w w' := by
  obtain ⟨i0, hi, hz0, hz1, hz2⟩ := info_parts infoEnt
  have hn63 : (n : Int) ≤ 1599289640401 := by omega
  by_cases h0 : n = 0
  · subst h0
    go_enter Tryz.func86, Tryz.ntmps86
    go_wp2_with fail
    go_ret
    exact ⟨_, rfl, World.ownsRow_nil _ _ _ _, Below.refl _ _⟩
  · have hp : (0 : Int) < (n : Int) := by omega
    have hrun := Lib.run_append_nil_zeros (P := Tryz.prog) w 22 3 22 41 i0 _ .i64 .i64 entsRow intRow hi hz0 n (by omega) (by omega) (by omega) (by rw [hz2]; omega)
    have hg := grownCap_ge w n 0 41
    have hm := grownCap_le_maxLen w n 0 41 (by unfold maxLen; omega)
    have hend : OwnE (w.drew.alloc (.cells (Builtin.zeroCells (entVal ⟨0, 0, 0, 0, 0, 0, 0, 0, 0, ⟨#[]⟩⟩).cells n ++ Builtin.zeroCells (entVal ⟨0, 0, 0, 0, 0, 0, 0, 0, 0, ⟨#[]⟩⟩).cells (grownCap w n 0 41 - n)) 41)) w.heap.size (.slice (some ⟨w.heap.size, 0, none⟩) 0 (grownCap w n 0 41)) [] :=
      World.ownsRow_made w.drew _ _ (Nat.le_refl _) hm (by simp only [Array.size_append, size_zeroCells]; show n * 10 + (_ - n) * 10 = _; rw [← Nat.add_mul]; congr 1; omega)
    have hB : Below w.heap.size w (w.drew.alloc (.cells (Builtin.zeroCells (entVal ⟨0, 0, 0, 0, 0, 0, 0, 0, 0, ⟨#[]⟩⟩).cells n ++ Builtin.zeroCells (entVal ⟨0, 0, 0, 0, 0, 0, 0, 0, 0, ⟨#[]⟩⟩).cells (grownCap w n 0 41 - n)) 41)) := ((Below.refl _ w).drew).alloc (Nat.le_refl _) _
    generalize w.drew.alloc _ = W1 at hrun hend hB
    generalize grownCap w n 0 41 = cap at hrun hend hg hm
    have HE := Lib.hid hend
    clear hend hi hz0 hz1 hz2 hm hn h0
    have hci : (0 : Int) ≤ (cap : Int) := by omega
    have hgi : (n : Int) ≤ (cap : Int) := by omega
    go_enter Tryz.func86, Tryz.ntmps86
    go_wp2_with (at_builtin; refine Lib.wpList_append_run _ rfl _ _ _ _ rfl _ _ rfl rfl _ _ hrun ?_)
    go_ret
    exact ⟨_, rfl, HE.out, hB⟩

/-- A block that holds two slices. -/
theorem OwnE.up {w w' : World} {base : Nat} {v : Value} {l : List Ent} (h : OwnE w base v l) {B : Nat} (hb : Below B w w') (hB : w.heap.size ≤ B) : OwnE w' base v l :=
  h.keeps (Keeps.of_below (S := fun i => B ≤ i) hb (fun _ h _ => h)) (fun g hg h1 => by have := (h.shape.elim fun _ h => h.elim fun _ h => (h.2.2.2 g hg).2); omega)

set_option maxRecDepth 100000 in
set_option maxHeartbeats 2000000 in
theorem Concat_any (g : Nat) (A A2 : Option Addr) (c c2 : Nat) (l m : List Ent) (w : World) (hG : Blk w g 22 #[.slice A l.length c, .slice A2 m.length c2]) (hL : EntsLie w w.heap.size A l) (hM : EntsLie w w.heap.size A2 m) (hb : (l.length + m.length) * 88 ≤ 140737488355328) :
    Calls Tryz.prog 54 #[.slice (some ⟨g, 0, none⟩) 2 2] w fun e w' => ∃ v, e = .returned v ∧ OwnE w' w.heap.size v (l ++ m) ∧ Below w.heap.size w w' := by
  have hlm : (l.length : Int) + (m.length : Int) ≤ 1599289640401 := by omega
  have hg0 := hG.cell 0
  have hg1 := hG.cell 1
  simp at hg0 hg1
  have hgz := hG.lt
  have HB := Lib.hid hb
  clear hb
  go_enter Tryz.func54, Tryz.ntmps54
  go_wp2_with fail
  go_loop [3, 11] (fun s i => (i = .int .i64 0 ∧ s = .int .i64 0) ∨ (i = .int .i64 1 ∧ s = .int .i64 l.length) ∨ (i = .int .i64 2 ∧ s = .int .i64 (l.length + m.length))) (fun _ i => 2 - (intOf i).toNat)
  case atStart => exact .inl ⟨rfl, rfl⟩
  case round =>
    rcases hrel with ⟨rfl, rfl⟩ | ⟨rfl, rfl⟩ | ⟨rfl, rfl⟩
    · go_wp2_with fail
      go_round
      case rel => exact .inr (.inl ⟨rfl, by first | rfl | simp⟩)
      case measure => simp [intOf]
    · go_wp2_with fail
      go_round
      case rel => exact .inr (.inr ⟨rfl, by first | rfl | simp⟩)
      case measure => simp [intOf]
    · go_wp2_with fail
      have hgr := Grow_any (l.length + m.length) w HB.out
      rw [Int.natCast_add] at hgr
      refine hgr.mono ?_
      rintro e w1 ⟨v, rfl, hO, hB⟩
      have hG1 := hG.below hB hgz
      have hL1 := hL.below hB
      have hM1 := hM.below hB
      clear hg0 hg1
      go_wp2_with fail
      go_loopw [6, 27] (fun v i wr => ∃ q, Below w.heap.size w wr ∧ OwnE wr w.heap.size v q ∧ ((i = .int .i64 0 ∧ q = []) ∨ (i = .int .i64 1 ∧ q = l) ∨ (i = .int .i64 2 ∧ q = l ++ m))) (fun _ i _ => 2 - (intOf i).toNat)
      case atStart => exact ⟨[], hB, hO, .inl ⟨rfl, rfl⟩⟩
      case round =>
        clear hB hO hG1 hL1 hM1
        obtain ⟨q, hB, hO, hcase⟩ := hrel
        have hG2 := hG.below hB hgz
        have hg0 := hG2.cell 0
        have hg1 := hG2.cell 1
        simp at hg0 hg1
        rcases hcase with ⟨rfl, rfl⟩ | ⟨rfl, rfl⟩ | ⟨rfl, rfl⟩
        · obtain ⟨v', w2, hrun, hO2, hGr, hloc⟩ := append_ents hO (hL.below hB) c (by unfold maxLen; simp; omega) (by have := HB.out; simp; omega) hB.size 22
          have hend : OwnE w2 w.heap.size v' l ∧ Below w.heap.size w w2 := ⟨by simpa using hO2, hB.trans ((Keeps.of_grown (S := fun i => w.heap.size ≤ i) hGr (fun i e _ => (hO.shape).elim fun _ h => h.elim fun _ h => (h.2.2.2 i e).1)).below (fun i h1 h2 => by omega) hB.size)⟩
          have HE := Lib.hid hend
          clear hend hO2 hGr hloc hO
          go_wp2_with (at_builtin; refine Lib.wpList_append_run _ rfl _ _ _ _ rfl _ _ rfl rfl _ _ hrun ?_)
          go_roundw
          case rel => exact ⟨l, HE.out.2, HE.out.1, .inr (.inl ⟨rfl, rfl⟩)⟩
          case measure => simp [intOf]
        · obtain ⟨v', w2, hrun, hO2, hGr, hloc⟩ := append_ents hO (hM.below hB) c2 (by unfold maxLen; omega) (by have := HB.out; omega) hB.size 22
          have hend : OwnE w2 w.heap.size v' (q ++ m) ∧ Below w.heap.size w w2 := ⟨hO2, hB.trans ((Keeps.of_grown (S := fun i => w.heap.size ≤ i) hGr (fun i e _ => (hO.shape).elim fun _ h => h.elim fun _ h => (h.2.2.2 i e).1)).below (fun i h1 h2 => by omega) hB.size)⟩
          have HE := Lib.hid hend
          clear hend hO2 hGr hloc hO
          go_wp2_with (at_builtin; refine Lib.wpList_append_run _ rfl _ _ _ _ rfl _ _ rfl rfl _ _ hrun ?_)
          go_roundw
          case rel => exact ⟨_, HE.out.2, HE.out.1, .inr (.inr ⟨rfl, rfl⟩)⟩
          case measure => simp [intOf]
        · go_wp2_with fail
          go_ret
          exact ⟨_, rfl, hO, hB⟩
end Go.Proofs.YtlbehpbhmmppiaaGreatDoor
namespace Go.Proofs.YtlbehpbhmmppiaaGreatDoor
open Go.RowKit

theorem nextE_chk (pre l : List Ent) (x : Ent) : (chk pre (l ++ [x])).2 = if (chk pre l).2 ≠ 0 then (chk pre l).2 else nextE (pre ++ l) x := by
  induction l generalizing pre with
  | nil =>
    rw [List.nil_append, List.append_nil]
    unfold chk chk
    by_cases h : nextE pre x = 0
    · rw [if_pos h]; simp [h]
    · rw [if_neg h]; simp
  | cons y l ih =>
    rw [List.cons_append]
    unfold chk
    by_cases h : nextE pre y = 0
    · rw [if_pos h, if_pos h, ih, List.append_assoc]; rfl
    · rw [if_neg h, if_neg h]; simp [h]

/-- The error of Append. -/
def appE (l : List Ent) (x : Ent) : Int := (chk [] (l ++ [x])).2
/-- What Append leaves. -/
def AppPost (w : World) (l : List Ent) (x : Ent) (e : Ending) (w' : World) : Prop :=
  Below w.heap.size w w' ∧ (appE l x = 0 → ∃ v, e = .returned (.tuple #[v, .int .i64 0]) ∧ OwnE w' w.heap.size v (l ++ [x])) ∧ (appE l x ≠ 0 → e = .returned (.tuple #[.slice none 0 0, .int .i64 (appE l x)]))

set_option maxRecDepth 100000 in
set_option maxHeartbeats 300000 in
theorem Append_any (A : Option Addr) (c : Nat) (l : List Ent) (x : Ent) (w : World) (hL : EntsLie w w.heap.size A l) (hs : ∀ y ∈ l, y.name.size ≤ maxLen) (hx : x.name.size ≤ maxLen) (hb : (l.length + 1) * 88 ≤ 140737488355328) :
    Calls Tryz.prog 31 #[.slice A l.length c, entVal x] w (AppPost w l x) := by
  have HB := Lib.hid hb
  clear hb
  have hG0 : Blk (((w.alloc (.cells (entCells x).toArray 41)).alloc (.cells (entCells x).toArray 41)).alloc (.cells #[.slice A l.length c, .slice (some ⟨w.heap.size + 1, 0, none⟩) 1 1] 22)) (w.heap.size + 1 + 1) 22 #[.slice A l.length c, .slice (some ⟨w.heap.size + 1, 0, none⟩) 1 1] := by
    have h := Blk.new ((w.alloc (.cells (entCells x).toArray 41)).alloc (.cells (entCells x).toArray 41)) 22 #[.slice A l.length c, .slice (some ⟨w.heap.size + 1, 0, none⟩) 1 1]
    simpa using h
  have hB0 : Below w.heap.size w (((w.alloc (.cells (entCells x).toArray 41)).alloc (.cells (entCells x).toArray 41)).alloc (.cells #[.slice A l.length c, .slice (some ⟨w.heap.size + 1, 0, none⟩) 1 1] 22)) := (((Below.refl _ _).alloc (Nat.le_refl _) _).alloc (by simp) _).alloc (by simp; omega) _
  have hX0 : EntsLie (((w.alloc (.cells (entCells x).toArray 41)).alloc (.cells (entCells x).toArray 41)).alloc (.cells #[.slice A l.length c, .slice (some ⟨w.heap.size + 1, 0, none⟩) 1 1] 22)) (((w.alloc (.cells (entCells x).toArray 41)).alloc (.cells (entCells x).toArray 41)).alloc (.cells #[.slice A l.length c, .slice (some ⟨w.heap.size + 1, 0, none⟩) 1 1] 22)).heap.size (some ⟨w.heap.size + 1, 0, none⟩) [x] := by
    have h := (EntsLie.one (w.alloc (.cells (entCells x).toArray 41)) x _ rfl).up (B' := (((w.alloc (.cells (entCells x).toArray 41)).alloc (.cells (entCells x).toArray 41)).alloc (.cells #[.slice A l.length c, .slice (some ⟨w.heap.size + 1, 0, none⟩) 1 1] 22)).heap.size) ((Below.refl _ _).alloc (Nat.le_refl _) (.cells #[.slice A l.length c, .slice (some ⟨w.heap.size + 1, 0, none⟩) 1 1] 22)) (Nat.le_of_lt (by rw [World.size_alloc ((w.alloc _).alloc _)]; exact Nat.lt_succ_self _))
    have e : (some ⟨(w.alloc (.cells (entCells x).toArray 41)).heap.size, 0, none⟩ : Option Addr) = some ⟨w.heap.size + 1, 0, none⟩ := by rw [World.size_alloc]
    rw [e] at h
    exact h
  have hL0 := hL.up hB0 hB0.size
  have hall : ∀ y ∈ l ++ [x], y.name.size ≤ maxLen := fun y hy => by
    rcases List.mem_append.1 hy with h | h
    · exact hs y h
    · rw [List.mem_singleton.1 h]; exact hx
  unfold entVal
  simp only [entCells] at hG0 hB0 hX0 hL0
  go_enter Tryz.func31, Tryz.ntmps31
  go_wp2_with fail
  generalize ((w.alloc _).alloc _).alloc (.cells _ 22) = W0 at hG0 hB0 hX0 hL0 ⊢
  refine (Concat_any (w.heap.size + 1 + 1) A (some ⟨w.heap.size + 1, 0, none⟩) c 1 l [x] W0 hG0 hL0 hX0 (by have h := HB.out; rw [List.length_singleton]; exact h)).mono ?_
  rintro e w1 ⟨v, rfl, hO1, hb1⟩
  have hB1 := hB0.trans (hb1.mono hB0.size)
  have hO2 := hO1.base hB0.size
  obtain ⟨A1, c1, rfl, hc1, hL1, hown⟩ := hO2.shape
  clear hG0 hB0 hX0 hL0 hO1 hb1
  go_wp2_with fail
  have hck := Check_any A1 c1 (l ++ [x]) w1 hL1 (by have h := HB.out; rw [List.length_append, List.length_singleton]; unfold maxLen; omega) hall hc1
  rw [List.length_append, List.length_singleton] at hck
  refine hck.mono ?_
  rintro e w2 ⟨rfl, hb2⟩
  have hB2 := hB1.trans (hb2.mono hB1.size)
  have hO3 := hO2.up hb2 (Nat.le_refl _)
  rw [List.length_append, List.length_singleton] at hO3
  by_cases he : appE l x = 0
  · have he' : (chk [] (l ++ [x])).2 = 0 := he
    rw [he']
    have HE := Lib.hid he
    clear he he'
    go_wp2_with fail
    go_ret2
    exact ⟨hB2, fun _ => ⟨_, rfl, hO3⟩, fun h => absurd HE.out h⟩
  · have he' : ((chk [] (l ++ [x])).2 != 0) = true := by simpa [appE] using he
    have HE := Lib.hid he
    clear he
    go_wp2_with fail
    go_ret2
    exact ⟨hB2, fun h => absurd h HE.out, fun _ => rfl⟩

theorem chk_ok (pre l : List Ent) (h : (chk pre l).2 = 0) : ∀ y ∈ l, ckE y = 0 := by
  induction l generalizing pre with
  | nil => simp
  | cons y l ih =>
    unfold chk at h
    by_cases hn : nextE pre y = 0
    · rw [if_pos hn] at h
      intro z hz
      rcases List.mem_cons.1 hz with rfl | hz
      · exact (next_len _ _ hn).2
      · exact ih _ h z hz
    · rw [if_neg hn] at h; exact absurd h hn

end Go.Proofs.YtlbehpbhmmppiaaGreatDoor
