/- The contract of hear, of a bag of one token. Conditions: the office and the token lie in memory. The contract of slices.Delete, of the one bag of a slice. Conditions: the bag lies in memory. The contract of hear, of an answer to the one bag that waits. Conditions: the office lies in memory. The contracts of apply: of entering with a note, of shipping, of hearing a bag or an answer, without a note. Conditions: the office lies in memory. -/
import Derived.Test.YthgfbaekmhpiaaaGreatDoorSortA
import Derived.Lib.SliceRun
import Derived.Test.YthgfbaekmhpiaaaGreatDoorStA
namespace Go.Proofs.YthgfbaekmhpiaaaGreatDoor
open Go.RowKit Go.Shelf Go.Sort

set_option maxRecDepth 100000 in
set_option maxHeartbeats 4000000 in
theorem hear_bag {w : World} {ob p u n hb lb nn : Nat} {id s1 r0 : Int} {b1 nv : Value} {f : Int → Option ByteArray} (hO : OB w ob p u n id hb lb b1 s1 r0 nv) (hobn : ob ≠ hb) (hM : MapS w hb nn f) (hnn : nn ≤ 1000000000) (hr0 : 0 ≤ r0 ∧ r0 ≤ 1000000) (d q : Int) (A : Option Addr) (c : Nat) (t : Tok) (hT : TokAt w (.slice A 1 c) [t]) (hgo : ∀ a, A = some a → a.block ≠ ob) (hi : 0 ≤ t.id ∧ t.id ≤ 1000000) :
    Calls Tryz.prog 124 #[.pointer (some ⟨ob, 3, none⟩), msgVal bagW ⟨0, d, q, .slice A 1 c⟩] w fun e w' => e = .returned (.tuple #[]) ∧ OB w' ob p u n id hb lb b1 s1 (r0 + 1) nv ∧ MapS w' hb (nn + 1) (fun j => if j = t.id then some t.body else f j) ∧ Keeps (fun j => j = hb ∨ j = ob) w w' := by
  obtain ⟨g, o, rfl, hg, tc0, tc1⟩ := hT.cells (k := 0) (t := t) rfl
  have hgo' : g ≠ ob := hgo _ rfl
  simp only [Nat.zero_mul, Nat.add_zero] at tc0 tc1
  have kB := Blk.new w 109 (msgCells bagW ⟨0, d, q, .slice (some ⟨g, o, none⟩) 1 c⟩).toArray
  have HB0 := Lib.hid ((Below.refl _ w).alloc (Nat.le_refl _) (.cells (msgCells bagW ⟨0, d, q, .slice (some ⟨g, o, none⟩) 1 c⟩).toArray 109))
  have HO := Lib.hid hO
  have HM := Lib.hid hM
  have HT0 := Lib.hid tc0
  have HT1 := Lib.hid tc1
  have HG := Lib.hid hg
  have hwr : IntKind.i64.wrap (r0 + 1) = r0 + 1 := wrap_id _ (by omega) (by omega)
  clear hO hM hT hgo tc0 tc1 hg
  unfold msgVal
  simp only [msgCells, bagW] at kB HB0 ⊢
  go_enter Tryz.func124, Tryz.ntmps124
  go_upto_region 1 with fail
  generalize w.alloc _ = w0 at kB HB0 ⊢
  have x0 := kB.cell 0
  have x1 := kB.cell 1
  have x2 := kB.cell 2
  have x3 := kB.cell 3
  have x4 := kB.cell 4
  have xz := kB.lt
  simp at x0 x1 x2 x3 x4
  have HAW := Lib.hid (awaits_bag (.pointer (some ⟨ob, 3, none⟩)) 0 d q (some ⟨g, o, none⟩) 1 c w0)
  unfold msgVal at HAW
  simp only [bagW] at HAW
  go_wp2_with fail
  refine HAW.out.mono ?_
  rintro e w1 ⟨rfl, hb1⟩
  have kB1 : Hid (Blk w1 w.heap.size _ _) := Lib.hid (kB.below hb1 xz)
  have HB1 := Lib.hid (HB0.out.trans (hb1.mono HB0.out.size))
  clear x0 x1 x2 x3 x4 xz hb1 kB HAW HB0
  go_upto_region 5 with fail
  have hO1 : OB w1 ob p u n id hb lb b1 s1 r0 nv := Blk.below HO.out HB1.out HO.out.lt
  have o22 := hO1.cell 22
  have f22 := hO1.frozen 22
  have zo := hO1.lt
  simp [stCells] at o22
  have hK2 : Keeps (fun j => j = ob) w1 (w1.setCell ⟨ob, 22, none⟩ (.int .i64 (r0 + 1))).drew := ((Keeps.refl (fun j => j = ob) w1).setCell (p := ⟨ob, 22, none⟩) (fun _ => rfl) _).drew
  have HO2 := Lib.hid (OB.drew (hO1.setR0 (r0 + 1)))
  have HK2 := Lib.hid hK2
  have hwo : w.heap.size ≠ ob := fun e => by have := HO.out.lt; omega
  have kB2 := Lib.hid (kB1.out.keep hK2 hwo)
  have HM2 := Lib.hid ((HM.out.below HB1.out HM.out.lt).keep hK2 (fun e => hobn e.symm))
  have hg1 : g < w1.heap.size := Nat.lt_of_lt_of_le HG.out HB1.out.size
  have HT02 := Lib.hid ((hK2.cell hg1 hgo').trans ((HB1.out.cell (p := ⟨g, o, none⟩) HG.out).trans HT0.out))
  have HT12 := Lib.hid ((hK2.cell hg1 hgo').trans ((HB1.out.cell (p := ⟨g, o + 1, none⟩) HG.out).trans HT1.out))
  have HG2 := Lib.hid (Nat.lt_of_lt_of_le hg1 hK2.size)
  have HKE := Lib.hid ((Keeps.of_new (S := fun j => j = hb ∨ j = ob) HB1.out).trans hK2 (fun _ _ e => .inr e))
  clear hO1 hK2 hwo hg1 HB1 kB1 HM HO HT0 HT1 HG
  refine wp_region_still_tail 10 (by kernel_rfl) (by kernel_rfl) ?_
  simp only [List.take_succ_cons, List.take_zero, List.drop_succ_cons, List.drop_zero]
  change wpStill _ _ w1.drew _ _ _
  have o22d : w1.drew.cell? ⟨ob, 22, none⟩ = some (.int .i64 r0) := o22
  have f22d : w1.drew.frozen? ⟨ob, 22, none⟩ = false := f22
  have zod : ob < w1.drew.heap.size := zo
  iterate 10 still_step
  refine wpStill_nil ?_
  change wpList _ _ _ _ _ w1.drew
  go_upto_region 6 with fail
  generalize (w1.setCell ⟨ob, 22, none⟩ (.int .i64 (r0 + 1))).drew = w2 at HO2 HK2 kB2 HM2 HT02 HT12 HG2 HKE ⊢
  clear o22 f22 o22d f22d zod zo hwr HK2
  have x4 := kB2.out.cell 4
  have xz := kB2.out.lt
  simp at x4
  have tc0 := HT02.out
  have tc1 := HT12.out
  have zg := HG2.out
  have HB3 := Lib.hid ((Below.refl _ w2).alloc (Nat.le_refl _) (.cells #[.int .i64 t.id, .string t.body] 50))
  have o4 := (HB3.out.cell (p := ⟨ob, 4, none⟩) HO2.out.lt).trans (HO2.out.cell 4)
  have zo3 := Nat.lt_of_lt_of_le HO2.out.lt HB3.out.size
  simp [stCells] at o4
  obtain ⟨w4, hrun, hM4, hK4⟩ := MapS.store (w := (w2.alloc (.cells #[.int .i64 t.id, .string t.body] 50)).drew) (HM2.out.below HB3.out.drew HM2.out.lt) (by unfold maxLen; omega) (intW hi) t.body
  have HO4 : Hid (OB w4 ob p u n id hb lb b1 s1 (r0 + 1) nv) := Lib.hid (Blk.keep (Blk.below HO2.out HB3.out.drew HO2.out.lt) hK4 hobn)
  have HM4 := Lib.hid hM4
  have HKF := Lib.hid ((HKE.out.trans (Keeps.of_new (S := fun j => j = hb ∨ j = ob) HB3.out.drew) (fun _ _ e => e)).trans hK4 (fun _ _ e => .inl e))
  clear HKE hM4 hK4 HM2 HO2 HB3 HG2 HT02 HT12 kB2 hi hnn
  go_wp2_with fail
  go_loopw [45] (fun j wr => (j = .int .i64 0 ∧ wr = w2) ∨ (j = .int .i64 1 ∧ wr = w4)) (fun j _ => 1 - (intOf j).toNat)
  case atStart => exact .inl ⟨rfl, rfl⟩
  case round =>
    rcases hrel with ⟨rfl, rfl⟩ | ⟨rfl, rfl⟩
    · go_upto_region 9 with fail
      refine wp_region_still_tail 8 (by kernel_rfl) (by kernel_rfl) ?_
      simp only [List.take_succ_cons, List.take_zero, List.drop_succ_cons, List.drop_zero]
      change wpStill _ _ (wr.alloc (.cells #[.int .i64 t.id, .string t.body] 50)).drew _ _ _
      have hBk : Blk (wr.alloc (.cells #[.int .i64 t.id, .string t.body] 50)).drew wr.heap.size _ _ := (Blk.new wr _ _).drew
      have e0 := hBk.cell 0
      have e1 := hBk.cell 1
      have ez := hBk.lt
      have o4d : (wr.alloc (.cells #[.int .i64 t.id, .string t.body] 50)).drew.cell? ⟨ob, 4, none⟩ = some (.map (some hb)) := o4
      have zod : ob < (wr.alloc (.cells #[.int .i64 t.id, .string t.body] 50)).drew.heap.size := zo3
      simp only [List.getElem?_toArray, List.getElem?_cons_zero, List.getElem?_cons_succ] at e0 e1
      simp at e0 e1
      iterate 8 still_step
      refine wpStill_nil ?_
      clear hBk e0 e1 ez o4d zod
      change wpList _ _ _ _ _ (wr.alloc (.cells #[.int .i64 t.id, .string t.body] 50)).drew
      go_wp2_with (at_mapUpdate; refine wpList_put _ rfl _ _ _ _ rfl hrun ?_)
      go_roundw
      case rel => exact .inr ⟨rfl, trivial⟩
      case measure => decide
    · go_wp2_with fail
      go_end0
      exact ⟨rfl, HO4.out, HM4.out, HKF.out⟩
end Go.Proofs.YthgfbaekmhpiaaaGreatDoor
namespace Go.Proofs.YthgfbaekmhpiaaaGreatDoor
open Go.RowKit Go.Shelf Go.Sort

theorem zeroBag (w : World) : (zeroValue 41).run Tryz.prog w = .ok (.agg #[.int .i64 0, .int .i64 0, .int .i64 0, .slice none 0 0]) w := by kernel_rfl
theorem run_clear_bag (w : World) (g c : Nat) (ty : TypeId) (hc : ∀ j, j < 4 → (w.cell? ⟨g, j, none⟩).isSome = true) (hf : ∀ j, j < 4 → w.frozen? ⟨g, j, none⟩ = false) :
    (Builtin.clear_ #[80] ty #[.slice (some ⟨g, 0, none⟩) 1 c]).run Tryz.prog w = .ok (.tuple #[]) (w.setCells g 0 [.int .i64 0, .int .i64 0, .int .i64 0, .slice none 0 0]) := by
  have hzc : (Builtin.zeroCells (Value.agg #[.int .i64 0, .int .i64 0, .int .i64 0, .slice none 0 0]).cells 1).toList = [.int .i64 0, .int .i64 0, .int .i64 0, .slice none 0 0] := by kernel_rfl
  have hst := run_storeCells_cells (P := Tryz.prog) g 0 [.int .i64 0, .int .i64 0, .int .i64 0, .slice none 0 0] 0 w (by simpa using hc) (by simpa using hf) (by
    intro v hv
    simp only [List.mem_cons, List.not_mem_nil, or_false] at hv
    rcases hv with rfl | rfl | rfl | rfl <;> rfl)
  simp only [Nat.add_zero] at hst
  simp [Builtin.clear_, run_underlying rowBag, zeroBag, hzc, hst]
set_option maxRecDepth 100000 in
set_option maxHeartbeats 1000000 in
theorem delete_one {w : World} {g c : Nat} (hc1 : 1 ≤ c) (hc : ∀ j, j < 4 → (w.cell? ⟨g, j, none⟩).isSome = true) (hf : ∀ j, j < 4 → w.frozen? ⟨g, j, none⟩ = false) :
    Calls Tryz.prog 142 #[.slice (some ⟨g, 0, none⟩) 1 c, .int .i64 0, .int .i64 1] w fun e w' => e = .returned (.slice (some ⟨g, 0, none⟩) 0 c) ∧ Keeps (fun j => j = g) w w' := by
  obtain ⟨i0, hi0, hz0, hz1, hz2⟩ := info_parts infoBag
  obtain ⟨A, hA⟩ : ∃ A : Addr, (if c = 1 then some (⟨g, 0, none⟩ : Addr) else some ⟨g, 4, none⟩) = some A := by by_cases h : c = 1 <;> simp [h]
  have hcl : ∀ ty, (Builtin.clear_ #[80] ty #[.slice (some ⟨g, 0, none⟩) 1 c]).run Tryz.prog w.drew = .ok (.tuple #[]) (w.drew.setCells g 0 [.int .i64 0, .int .i64 0, .int .i64 0, .slice none 0 0]) := fun ty => run_clear_bag w.drew g c ty hc hf
  have HKE : Hid (Keeps (fun j => j = g) w (w.drew.setCells g 0 [.int .i64 0, .int .i64 0, .int .i64 0, .slice none 0 0])) := Lib.hid (Keeps.setCells (S := fun j => j = g) rfl _ _ _ (Keeps.refl _ w).drew)
  go_enter Tryz.func142, Tryz.ntmps142
  go_upto_region 5 with fail
  go_region_law (refine step_append_room rfl (.tmp 22) (.tmp 25) 80 rfl 41 i0 4 rowBag hi0 hz1 g 0 0 c (by simp [Act.eval, Act.put]) A 0 (c - 1) [] (by simp [Act.eval, Act.put]) rfl (fun j u h => by simp at h) (fun u h => by simp at h) (by omega) (fun j h => by simp at h) ?_; dsimp only [World.setCells])
  go_wp2_with (at_builtin; refine Lib.wpList_builtin_run _ rfl _ _ _ rfl (hcl _) ?_)
  go_ret
  exact ⟨rfl, HKE.out⟩
end Go.Proofs.YthgfbaekmhpiaaaGreatDoor
namespace Go.Proofs.YthgfbaekmhpiaaaGreatDoor
open Go.RowKit Go.Shelf Go.Sort

set_option maxRecDepth 100000 in
set_option maxHeartbeats 4000000 in
theorem hear_got {w : World} {ob p u n hb lb base : Nat} {id s1 r0 : Int} {b1 nv : Value} {b : BagV} (hO : OB w ob p u n id hb lb b1 s1 r0 nv) (hv : BagOwn w base b1 [b]) (A3 : Option Addr) (n3 c3 : Nat) (hbt : b.toks = .slice A3 n3 c3) (d q : Int) (hq : q = b.seq) (A : Option Addr) (m c : Nat) :
    Calls Tryz.prog 124 #[.pointer (some ⟨ob, 3, none⟩), msgVal gotW ⟨1, d, q, .slice A m c⟩] w fun e w' => e = .returned (.tuple #[]) ∧ ∃ g c', OB w' ob p u n id hb lb (.slice (some ⟨g, 0, none⟩) 0 c') s1 r0 nv ∧ Keeps (fun j => b1.ownBlock = some j ∨ j = ob) w w' := by
  subst hq
  obtain ⟨q, hqd⟩ : ∃ q, q = b.seq := ⟨_, rfl⟩
  rw [← hqd]
  have HQ := Lib.hid hqd
  have HBT := Lib.hid hbt
  clear hqd hbt
  have kB := Blk.new w 109 (msgCells gotW ⟨1, d, q, .slice A m c⟩).toArray
  have HB0 := Lib.hid ((Below.refl _ w).alloc (Nat.le_refl _) (.cells (msgCells gotW ⟨1, d, q, .slice A m c⟩).toArray 109))
  have HO := Lib.hid hO
  have HV := Lib.hid hv
  clear hO hv
  unfold msgVal
  simp only [msgCells, gotW] at kB HB0 ⊢
  go_enter Tryz.func124, Tryz.ntmps124
  go_upto_region 1 with fail
  generalize w.alloc _ = w0 at kB HB0 ⊢
  have x0 := kB.cell 0
  have x1 := kB.cell 1
  have x2 := kB.cell 2
  have x3 := kB.cell 3
  have x4 := kB.cell 4
  have xz := kB.lt
  simp at x0 x1 x2 x3 x4
  have hO0 : OB w0 ob p u n id hb lb b1 s1 r0 nv := Blk.below HO.out HB0.out HO.out.lt
  have HAW := Lib.hid (awaits_got (w := w0) (ob := ob) (b1 := b1) (by have := hO0.cell 7; simpa [stCells] using this) hO0.lt (HV.out.below HB0.out) A3 n3 c3 HBT.out 1 d q rfl HQ.out A m c)
  unfold msgVal at HAW
  simp only [gotW] at HAW
  clear hO0
  go_wp2_with fail
  refine HAW.out.mono ?_
  rintro e w1 ⟨rfl, hb1⟩
  have HB1 := Lib.hid (HB0.out.trans (hb1.mono HB0.out.size))
  clear x0 x1 x2 x3 x4 xz hb1 kB HAW HB0
  go_upto_region 4 with fail
  have hO1 : OB w1 ob p u n id hb lb b1 s1 r0 nv := Blk.below HO.out HB1.out HO.out.lt
  have hv1 := HV.out.below HB1.out
  obtain ⟨g, cc, rfl, hcc, hgz, k0, k1, k2, k3⟩ := hv1.one
  obtain ⟨cur, hcur⟩ := row_type hv1 (i := g) rfl
  have hgo : g ≠ ob := fun e => row_ne hv1 hO1 (by decide) (by rw [← e]; rfl)
  have HD : Hid (Calls Tryz.prog 142 #[.slice (some ⟨g, 0, none⟩) 1 cc, .int .i64 0, .int .i64 1] w1.drew fun e w' => e = .returned (.slice (some ⟨g, 0, none⟩) 0 cc) ∧ Keeps (fun j => j = g) w1.drew w') := Lib.hid (delete_one hcc (fun j hj => by
    show (w1.cell? _).isSome = true
    match j, hj with
    | 0, _ => rw [k0]; rfl
    | 1, _ => rw [k1]; rfl
    | 2, _ => rw [k2]; rfl
    | 3, _ => rw [k3, HBT.out]; rfl) (fun j _ => hcur.frozen j))
  have o7 := hO1.cell 7
  have f7 := hO1.frozen 7
  have zo := hO1.lt
  simp [stCells] at o7
  have HO1 := Lib.hid hO1
  clear hO1 hv1 k0 k1 k2 k3 hcur hgz
  go_region_law (first
    | (go_simp; go_at_call 142; refine HD.out.mono ?_; rintro e wI ⟨rfl, hK⟩
       have hO2 : OB wI ob p u n id hb lb (.slice (some ⟨g, 0, none⟩) 1 cc) s1 r0 nv := Blk.keep (HO1.out.drew) hK (fun e => hgo e.symm)
       have o7I := hO2.cell 7
       have f7I := hO2.frozen 7
       have zoI := hO2.lt
       simp [stCells] at o7I
       have HO2 := Lib.hid hO2
       have HKI := Lib.hid hK
       clear hO2 hK
       dsimp only))
  all_goals
    have HO3 := Lib.hid (HO2.out.setB1 (.slice (some ⟨g, 0, none⟩) 0 cc))
    have HKE := Lib.hid (((Keeps.of_new (S := fun j => (Value.slice (some ⟨g, 0, none⟩) 1 cc).ownBlock = some j ∨ j = ob) HB1.out.drew).trans HKI.out (fun j _ e => .inl (by rw [e]; rfl))).setCell (p := ⟨ob, 7, none⟩) (fun _ => .inr rfl) (.slice (some ⟨g, 0, none⟩) 0 cc))
    clear HO2 HKI o7I f7I zoI o7 f7 zo
    go_wp2_with fail
    refine bodyPost_ret (results_none rfl _ _ _) rfl ?_
    exact ⟨rfl, _, _, HO3.out, HKE.out⟩
end Go.Proofs.YthgfbaekmhpiaaaGreatDoor
namespace Go.Proofs.YthgfbaekmhpiaaaGreatDoor
open Go.RowKit Go.Shelf Go.Sort

set_option maxRecDepth 100000 in
set_option maxHeartbeats 4000000 in
theorem apply_enter {w : World} {ob p u n hb lb nn : Nat} {id s1 r0 : Int} {b1 : Value} {f : Int → Option ByteArray} (hO : OB w ob p u n id hb lb b1 s1 r0 (.slice none 0 0)) (hobn : ob ≠ hb) (hM : MapS w hb nn f) (hnn : nn ≤ 1000000000) (x : OpV) (hk : x.kind = 1) (ht : 0 ≤ x.tok.id ∧ x.tok.id ≤ 1000000) (hne : x.note.toList.isEmpty = false) (A : Option Addr) (ni c : Nat) (hids : x.ids = .slice A ni c) (A2 : Option Addr) (nt c2 : Nat) (htoks : x.bag.toks = .slice A2 nt c2) :
    Calls Tryz.prog 106 #[.pointer (some ⟨ob, 3, none⟩), opVal x] w fun e w' => e = .returned (.tuple #[]) ∧ ∃ A' c', OB w' ob p u n id hb lb b1 s1 r0 (.slice A' 1 c') ∧ OwnT w' w.heap.size (.slice A' 1 c') [.string x.note] ∧ MapS w' hb (nn + 1) (fun j => if j = x.tok.id then some x.tok.body else f j) ∧ Keeps (fun j => j = hb ∨ j = ob) w w' := by
  obtain ⟨kd, o, ⟨i, b⟩, dest, ids, word, ⟨s, d, q, T⟩, note⟩ := x
  dsimp only at hk hids htoks hne ht ⊢
  subst hk hids htoks
  have HO := Lib.hid hO
  have HM := Lib.hid hM
  have HT := Lib.hid ht
  have HB1 := Lib.hid ((Below.refl _ w).alloc (Nat.le_refl _) (.cells (opCells ⟨1, o, ⟨i, b⟩, dest, .slice A ni c, word, ⟨s, d, q, .slice A2 nt c2⟩, note⟩).toArray 155))
  have HX1 := Lib.hid (Blk.new w 155 (opCells ⟨1, o, ⟨i, b⟩, dest, .slice A ni c, word, ⟨s, d, q, .slice A2 nt c2⟩, note⟩).toArray)
  unfold opVal
  simp only [opCells] at HB1 HX1
  dsimp only
  clear hO hM ht
  go_enter Tryz.func106, Tryz.ntmps106
  go_upto_region 1 with fail
  generalize w.alloc _ = w1 at HB1 HX1 ⊢
  have x0 := HX1.out.cell 0
  have x2 := HX1.out.cell 2
  have x3 := HX1.out.cell 3
  have zx := HX1.out.lt
  simp at x0 x2 x3
  have hO1 : OB w1 ob p u n id hb lb b1 s1 r0 (.slice none 0 0) := Blk.below HO.out HB1.out HO.out.lt
  have o4 := hO1.cell 4
  have zo := hO1.lt
  simp [stCells] at o4
  obtain ⟨w2, hrun, hM2, hK2⟩ := MapS.store (w := w1.drew) (HM.out.below HB1.out.drew HM.out.lt) (by unfold maxLen; omega) (intW HT.out) b
  have hmx : w.heap.size ≠ hb := fun e => by have := HM.out.lt; omega
  have HO2 := Lib.hid (show OB w2 ob p u n id hb lb b1 s1 r0 (.slice none 0 0) from Blk.keep hO1.drew hK2 hobn)
  have HX2 := Lib.hid (HX1.out.drew.keep hK2 hmx)
  have HM2 := Lib.hid hM2
  have HK2 := Lib.hid ((Keeps.of_new (S := fun j => j = hb ∨ j = ob) HB1.out.drew).trans hK2 (fun _ _ e => .inl e))
  clear hO1 hM2 hK2 HM HO HB1 HX1
  go_upto_region 4 with fail
  refine wp_region_still_tail 10 (by kernel_rfl) (by kernel_rfl) ?_
  simp only [List.take_succ_cons, List.take_zero, List.drop_succ_cons, List.drop_zero]
  change wpStill _ _ w1.drew _ _ _
  have x2d : w1.drew.cell? ⟨w.heap.size, 2, none⟩ = some (.int .i64 i) := x2
  have x3d : w1.drew.cell? ⟨w.heap.size, 3, none⟩ = some (.string b) := x3
  have o4d : w1.drew.cell? ⟨ob, 4, none⟩ = some (.map (some hb)) := o4
  have zxd : w.heap.size < w1.drew.heap.size := zx
  have zod : ob < w1.drew.heap.size := zo
  iterate 10 still_step
  refine wpStill_nil ?_
  clear x0 x2 x3 zx o4 zo x2d x3d o4d zxd zod
  change wpList _ _ _ _ _ w1.drew
  have x11 := HX2.out.cell 11
  have zx := HX2.out.lt
  simp at x11
  have o30 := HO2.out.cell 30
  have f30 := HO2.out.frozen 30
  have zo := HO2.out.lt
  simp [stCells] at o30
  obtain ⟨A', c', w3, hrn, hN3, hK3, hv3⟩ := append_text (show OwnT w2.drew w.heap.size (.slice none 0 0) [] from ⟨rfl, .inl ⟨rfl, rfl⟩⟩) (by simp) HK2.out.size note
  simp only [List.length_nil, Nat.zero_add, List.nil_append] at hrn hN3
  have hrn' : (Builtin.append_ #[70, 70] 70 #[.slice none 0 0, .slice (some ⟨w2.heap.size, 0, none⟩) 1 1]).run Tryz.prog (w2.alloc (.cells #[.string note] 9)).drew = .ok (.slice A' 1 c') w3 := hrn
  have hK3' : Keeps (fun _ => False) w2 w3 := (Keeps.refl _ w2).drew.trans (hK3.mono (S' := fun _ => False) (fun k _ e => by simp [Value.ownBlock] at e)) (fun _ _ e => e)
  have hO3 : OB w3 ob p u n id hb lb b1 s1 r0 (.slice none 0 0) := Blk.keep HO2.out hK3' (fun e => e)
  have f303 := hO3.frozen 30
  have o303 := hO3.cell 30
  simp [stCells] at o303
  have zo3 := hO3.lt
  have HO4 := Lib.hid (hO3.setNv (.slice A' 1 c'))
  have hKs : Keeps (fun j => j = ob) w3 (w3.setCell ⟨ob, 30, none⟩ (.slice A' 1 c')) := (Keeps.refl (fun j => j = ob) w3).setCell (p := ⟨ob, 30, none⟩) (fun _ => rfl) _
  have HN4 := Lib.hid (hN3.keep hKs (fun i hi e => by subst e; exact row_ne hN3 hO3 (by decide) hi))
  have HM4 := Lib.hid ((HM2.out.keep hK3' (fun e => e)).keep hKs (fun e => hobn e.symm))
  have HKE := Lib.hid (((HK2.out.trans hK3' (fun _ _ e => e.elim))).trans hKs (fun _ _ e => .inr e))
  clear hN3 hK3 hv3 hK3' hO3 hKs HO2 HM2 HK2 HX2
  go_wp2_with (at_mapUpdate; refine wpList_put _ rfl _ _ _ _ rfl hrun ?_)
  go_region_law (first
    | (refine Lib.wp_append_run _ _ _ _ _ rfl _ _ rfl rfl _ _ hrn ?_)
    | (rw [if_pos (by rfl)]; refine Lib.wp_append_run _ _ _ _ _ rfl _ _ rfl rfl _ _ hrn ?_)
    | (refine Lib.wp_append_run _ _ _ _ _ rfl _ _ rfl rfl _ _ hrn' ?_)
    | (rw [if_pos (by rfl)]; refine Lib.wp_append_run _ _ _ _ _ rfl _ _ rfl rfl _ _ hrn' ?_))
  all_goals
    go_wp2_with fail
    go_end0
    exact ⟨rfl, _, _, HO4.out, HN4.out, HM4.out, HKE.out⟩
set_option maxRecDepth 100000 in
set_option maxHeartbeats 4000000 in
theorem apply_ship {w : World} {ob p u n hb lb nn : Nat} {s1 r0 : Int} {nv : Value} {f : Int → Option ByteArray} (hO : OB w ob p u n 0 hb lb (.slice none 0 0) s1 r0 nv) (hobn : ob ≠ hb) (hM : MapS w hb nn f) (hs1 : 0 ≤ s1 ∧ s1 ≤ 1000000) (x : OpV) (hk : x.kind = 4) (hd : x.dest = 1) (hnote : x.note = ⟨#[]⟩) (i : Int) (hI : IntsAt w x.ids [i]) (hgo : ∀ A m c, x.ids = .slice A m c → ∀ a, A = some a → a.block ≠ ob) (hi : 0 ≤ i ∧ i ≤ 1000000) (sb : ByteArray) (hf : f i = some sb) (A2 : Option Addr) (nt c2 : Nat) (htoks : x.bag.toks = .slice A2 nt c2) :
    Calls Tryz.prog 106 #[.pointer (some ⟨ob, 3, none⟩), opVal x] w fun e w' => e = .returned (.tuple #[]) ∧ ∃ b1 tv, OB w' ob p u n 0 hb lb b1 (s1 + 1) r0 nv ∧ BagOwn w' w.heap.size b1 [⟨0, 1, s1 + 1, tv⟩] ∧ TokOwn w' w.heap.size tv [⟨i, sb⟩] ∧ MapS w' hb nn (fun j => if j = i then none else f j) ∧ Keeps (fun j => j = hb ∨ j = ob) w w' := by
  have HSH := Lib.hid (fun W (hW : Below w.heap.size w W) => ship_one (w := W) (Blk.below hO hW hO.lt) hobn (hM.below hW hM.lt) hs1 x.ids i (hI.below hW) hgo hi sb hf)
  obtain ⟨A, c, hids, _⟩ := hI
  obtain ⟨kd, o, ⟨ti, tb⟩, dest, ids, word, ⟨s, d, q, T⟩, note⟩ := x
  dsimp only at hk hids htoks hd hnote HSH
  subst hk hids htoks hd hnote
  have hzo := hO.lt
  have hzm := hM.lt
  have HB1 := Lib.hid ((Below.refl _ w).alloc (Nat.le_refl _) (.cells (opCells ⟨4, o, ⟨ti, tb⟩, 1, .slice A [i].length c, word, ⟨s, d, q, .slice A2 nt c2⟩, ⟨#[]⟩⟩).toArray 155))
  have HX1 := Lib.hid (Blk.new w 155 (opCells ⟨4, o, ⟨ti, tb⟩, 1, .slice A [i].length c, word, ⟨s, d, q, .slice A2 nt c2⟩, ⟨#[]⟩⟩).toArray)
  unfold opVal
  simp only [opCells] at HB1 HX1
  simp only [List.length_cons, List.length_nil, Nat.zero_add] at HB1 HX1 HSH ⊢
  clear hO hM hf hgo
  go_enter Tryz.func106, Tryz.ntmps106
  go_upto_region 1 with fail
  generalize w.alloc _ = w1 at HB1 HX1 ⊢
  have x0 := HX1.out.cell 0
  have x4 := HX1.out.cell 4
  have x5 := HX1.out.cell 5
  have zx := HX1.out.lt
  simp at x0 x4 x5
  go_wp2_with fail
  refine (HSH.out _ HB1.out).mono ?_
  rintro e w2 ⟨rfl, b1, tv, hO2, hB2, hT2, hM2, hK2⟩
  have HX2 := Lib.hid (HX1.out.keep hK2 (fun e => by omega))
  have HRE := Lib.hid (show ∃ b1 tv, OB w2 ob p u n 0 hb lb b1 (s1 + 1) r0 nv ∧ BagOwn w2 w.heap.size b1 [⟨0, 1, s1 + 1, tv⟩] ∧ TokOwn w2 w.heap.size tv [⟨i, sb⟩] ∧ MapS w2 hb nn (fun j => if j = i then none else f j) ∧ Keeps (fun j => j = hb ∨ j = ob) w w2 from ⟨b1, tv, hO2, hB2.low HB1.out.size, hT2.low HB1.out.size, hM2, (Keeps.of_new HB1.out).trans hK2 (fun _ _ e => e)⟩)
  clear hO2 hB2 hT2 hM2 hK2 HSH HB1 HX1 x0 x4 x5 zx
  have x11 := HX2.out.cell 11
  have zx := HX2.out.lt
  simp at x11
  go_wp2_with fail
  all_goals
    go_end0
    exact ⟨rfl, HRE.out⟩
set_option maxRecDepth 100000 in
set_option maxHeartbeats 4000000 in
theorem apply_bag {w : World} {ob p u n hb lb nn : Nat} {id s1 r0 : Int} {b1 nv : Value} {f : Int → Option ByteArray} (hO : OB w ob p u n id hb lb b1 s1 r0 nv) (hobn : ob ≠ hb) (hM : MapS w hb nn f) (hnn : nn ≤ 1000000000) (hr0 : 0 ≤ r0 ∧ r0 ≤ 1000000) (x : OpV) (hk : x.kind = 5) (hw : x.word = bagW) (hsrc : x.bag.src = 0) (hnote : x.note = ⟨#[]⟩) (A : Option Addr) (c : Nat) (t : Tok) (htoks : x.bag.toks = .slice A 1 c) (hT : TokAt w (.slice A 1 c) [t]) (hgo : ∀ a, A = some a → a.block ≠ ob) (hi : 0 ≤ t.id ∧ t.id ≤ 1000000) (A1 : Option Addr) (ni c1 : Nat) (hids : x.ids = .slice A1 ni c1) :
    Calls Tryz.prog 106 #[.pointer (some ⟨ob, 3, none⟩), opVal x] w fun e w' => e = .returned (.tuple #[]) ∧ OB w' ob p u n id hb lb b1 s1 (r0 + 1) nv ∧ MapS w' hb (nn + 1) (fun j => if j = t.id then some t.body else f j) ∧ Keeps (fun j => j = hb ∨ j = ob) w w' := by
  have HSH := Lib.hid (fun W (hW : Below w.heap.size w W) => hear_bag (w := W) (Blk.below hO hW hO.lt) hobn (hM.below hW hM.lt) hnn hr0 x.bag.dst x.bag.seq A c t (hT.below hW) hgo hi)
  obtain ⟨kd, o, ⟨ti, tb⟩, dest, ids, word, ⟨s, d, q, T⟩, note⟩ := x
  dsimp only at hk hids htoks hw hsrc hnote HSH
  subst hk hids htoks hw hsrc hnote
  have hzo := hO.lt
  have hzm := hM.lt
  have HB1 := Lib.hid ((Below.refl _ w).alloc (Nat.le_refl _) (.cells (opCells ⟨5, o, ⟨ti, tb⟩, dest, .slice A1 ni c1, bagW, ⟨0, d, q, .slice A 1 c⟩, ⟨#[]⟩⟩).toArray 155))
  have HX1 := Lib.hid (Blk.new w 155 (opCells ⟨5, o, ⟨ti, tb⟩, dest, .slice A1 ni c1, bagW, ⟨0, d, q, .slice A 1 c⟩, ⟨#[]⟩⟩).toArray)
  unfold opVal
  unfold msgVal at HSH
  simp only [opCells, bagW] at HB1 HX1
  simp only [bagW] at HSH ⊢
  clear hO hM hgo hT hr0 hnn
  go_enter Tryz.func106, Tryz.ntmps106
  go_upto_region 1 with fail
  generalize w.alloc _ = w1 at HB1 HX1 ⊢
  have x0 := HX1.out.cell 0
  have x6 := HX1.out.cell 6
  have x7 := HX1.out.cell 7
  have x8 := HX1.out.cell 8
  have x9 := HX1.out.cell 9
  have x10 := HX1.out.cell 10
  have zx := HX1.out.lt
  simp at x0 x6 x7 x8 x9 x10
  go_wp2_with fail
  refine (HSH.out _ HB1.out).mono ?_
  rintro e w2 ⟨rfl, hO2, hM2, hK2⟩
  have HX2 := Lib.hid (HX1.out.keep hK2 (fun e => by omega))
  have HO2 := Lib.hid hO2
  have HM2 := Lib.hid hM2
  have HKE := Lib.hid ((Keeps.of_new HB1.out).trans hK2 (fun _ _ e => e))
  clear hO2 hM2 hK2 HSH HB1 HX1 x0 x6 x7 x8 x9 x10 zx
  have x11 := HX2.out.cell 11
  have zx := HX2.out.lt
  simp at x11
  go_wp2_with fail
  all_goals
    go_end0
    exact ⟨rfl, HO2.out, HM2.out, HKE.out⟩
set_option maxRecDepth 100000 in
set_option maxHeartbeats 4000000 in
theorem apply_got {w : World} {ob p u n hb lb base : Nat} {id s1 r0 : Int} {b1 nv : Value} {b : BagV} (hO : OB w ob p u n id hb lb b1 s1 r0 nv) (hv : BagOwn w base b1 [b]) (A3 : Option Addr) (n3 c3 : Nat) (hbt : b.toks = .slice A3 n3 c3) (x : OpV) (hk : x.kind = 5) (hw : x.word = gotW) (hsrc : x.bag.src = 1) (hq : x.bag.seq = b.seq) (hnote : x.note = ⟨#[]⟩) (A : Option Addr) (m c : Nat) (htoks : x.bag.toks = .slice A m c) (A1 : Option Addr) (ni c1 : Nat) (hids : x.ids = .slice A1 ni c1) :
    Calls Tryz.prog 106 #[.pointer (some ⟨ob, 3, none⟩), opVal x] w fun e w' => e = .returned (.tuple #[]) ∧ ∃ g c', OB w' ob p u n id hb lb (.slice (some ⟨g, 0, none⟩) 0 c') s1 r0 nv ∧ Keeps (fun j => b1.ownBlock = some j ∨ j = ob) w w' := by
  have HSH := Lib.hid (fun W (hW : Below w.heap.size w W) => hear_got (w := W) (Blk.below hO hW hO.lt) (hv.below hW) A3 n3 c3 hbt x.bag.dst x.bag.seq hq A m c)
  obtain ⟨kd, o, ⟨ti, tb⟩, dest, ids, word, ⟨s, d, q, T⟩, note⟩ := x
  dsimp only at hk hids htoks hw hsrc hnote hq HSH
  subst hk hids htoks hw hsrc hnote
  have hzo := hO.lt
  have hvl : ∀ j, b1.ownBlock = some j → j < w.heap.size := fun j hj => (World.ownsRow.lt hv j hj).2
  have HVL := Lib.hid hvl
  have HB1 := Lib.hid ((Below.refl _ w).alloc (Nat.le_refl _) (.cells (opCells ⟨5, o, ⟨ti, tb⟩, dest, .slice A1 ni c1, gotW, ⟨1, d, q, .slice A m c⟩, ⟨#[]⟩⟩).toArray 155))
  have HX1 := Lib.hid (Blk.new w 155 (opCells ⟨5, o, ⟨ti, tb⟩, dest, .slice A1 ni c1, gotW, ⟨1, d, q, .slice A m c⟩, ⟨#[]⟩⟩).toArray)
  unfold opVal
  unfold msgVal at HSH
  simp only [opCells, gotW] at HB1 HX1
  simp only [gotW] at HSH ⊢
  clear hO hv hvl hq hbt
  go_enter Tryz.func106, Tryz.ntmps106
  go_upto_region 1 with fail
  generalize w.alloc _ = w1 at HB1 HX1 ⊢
  have x0 := HX1.out.cell 0
  have x6 := HX1.out.cell 6
  have x7 := HX1.out.cell 7
  have x8 := HX1.out.cell 8
  have x9 := HX1.out.cell 9
  have x10 := HX1.out.cell 10
  have zx := HX1.out.lt
  simp at x0 x6 x7 x8 x9 x10
  go_wp2_with fail
  refine (HSH.out _ HB1.out).mono ?_
  rintro e w2 ⟨rfl, g, c', hO2, hK2⟩
  have HX2 := Lib.hid (HX1.out.keep hK2 (fun e => by
    rcases e with e | e
    · have := HVL.out _ e; omega
    · omega))
  have HO2 := Lib.hid hO2
  have HKE := Lib.hid ((Keeps.of_new HB1.out).trans hK2 (fun _ _ e => e))
  clear hO2 hK2 HSH HB1 HX1 x0 x6 x7 x8 x9 x10 zx
  have x11 := HX2.out.cell 11
  have zx := HX2.out.lt
  simp at x11
  go_wp2_with fail
  all_goals
    go_end0
    exact ⟨rfl, _, _, HO2.out, HKE.out⟩
end Go.Proofs.YthgfbaekmhpiaaaGreatDoor
