/- The contracts of NewDisk, fails, Flush, slices.Clone of bytes, Read. Conditions: the disk lies in memory. -/
import Derived.Test.YthieonekjmdelaaDk1
import Derived.Laws.MakeOwn
import Derived.Lib.QuietBelow
import Derived.Lib.AppendZeros
namespace Go.Proofs.Ythieonekjmdelaa
open Go.RowKit

theorem infoBlock : (Try.prog.info? 70).map (fun i => (i.zero, i.size, i.bytes)) = some (some (.agg (List.replicate 64 (Value.int .u8 0)).toArray), 64, 64) := by kernel_rfl
theorem rowBlocks : Try.prog.underlying 54 = some (.slice 70) := by kernel_rfl
theorem infoU8 : (Try.prog.info? 5).map (fun i => (i.zero, i.size, i.bytes)) = some (some (.int .u8 0), 1, 1) := by kernel_rfl
theorem rowU8 : Try.prog.underlying 73 = some (.slice 5) := by kernel_rfl
theorem zeros_flat (n : Nat) : ((List.replicate n zeroS).flatMap cellsB) = List.replicate (n * 64) (Value.int .u8 0) := by
  have h : cellsB zeroS = List.replicate 64 (Value.int .u8 0) := by unfold cellsB zeroS; rw [List.map_replicate]
  induction n with
  | zero => rfl
  | succ n ih =>
    rw [List.replicate_succ, List.flatMap_cons, ih, h, List.replicate_append_replicate]
    congr 1
    omega
theorem made_rep (m : Nat) (h0 : 0 < m) (z : Value) (n : Nat) : madeCells (List.replicate m z).toArray n = (List.replicate n z).toArray := by
  apply Array.ext
  · simp [madeCells]
  · intro i h1 h2
    have hm : i % m < m := Nat.mod_lt _ h0
    simp [madeCells, hm]
theorem made_zeros (n : Nat) : madeCells (List.replicate 64 (Value.int .u8 0)).toArray (n * 64) = ((List.replicate n zeroS).flatMap cellsB).toArray := by
  rw [zeros_flat, made_rep 64 (by omega)]
theorem make_blocks (n : Nat) (hn : n ≤ 65536) (w : World) :
    (Instr.makeSlice 54 (.int .i64 (n : Int)) (.int .i64 (n : Int))).run Try.prog w = .ok (.slice (some ⟨w.heap.size, 0, none⟩) n n) (w.alloc (.cells ((List.replicate n zeroS).flatMap cellsB).toArray 70)) := by
  obtain ⟨i, hi, hz0, hz1, hz2⟩ := info_parts infoBlock
  have hr := run_make (P := Try.prog) w 54 70 i _ rowBlocks hi hz0 .i64 .i64 n n (by omega) (Int.le_refl _) (by rw [hz2]; omega) (by omega)
  rw [hz1] at hr
  simp only [Int.toNat_natCast, Value.cells] at hr
  rw [made_zeros] at hr
  exact hr

set_option maxHeartbeats 1000000 in
theorem newDisk_ok (n : Nat) (h1 : 16 ≤ n) (h2 : n ≤ 65536) (w : World) :
    Calls Try.prog 8 #[.int .i64 (n : Int)] w fun e w' => e = .returned (.tuple #[.pointer (some ⟨w.heap.size + 1, 0, none⟩), .int .i64 0]) ∧ DiskAt w' (w.heap.size + 1) w.heap.size (.slice none 0 0) (List.replicate n zeroS) [] false false 0 ∧ Below w.heap.size w w' := by
  have HW : Hid (withinB (n : Int) 16 65536 = true) := Lib.hid (by unfold withinB; rw [decide_eq_true (by omega), decide_eq_true (by omega)]; rfl)
  have hmk := make_blocks n h2 w
  have hD : Hid (DiskAt ((w.alloc (.cells ((List.replicate n zeroS).flatMap cellsB).toArray 70)).alloc (.cells #[.slice (some ⟨w.heap.size, 0, none⟩) n n, .slice none 0 0, .bool false, .bool false, .int .i64 0] 57)) (w.heap.size + 1) w.heap.size (.slice none 0 0) (List.replicate n zeroS) [] false false 0) := Lib.hid (by
    refine ⟨?_, (Blk.new w _ _).alloc _, World.ownsRow_nil _ _ _ _, fun s hs => ?_, fun x hx => by simp at hx, by omega, by simp [Value.ownBlock], by simp [Value.ownBlock]⟩
    · rw [List.length_replicate]
      exact at_new (by simp)
    · rw [(List.mem_replicate.1 hs).2]
      exact List.length_replicate ..)
  generalize hrow : ((List.replicate n zeroS).flatMap cellsB).toArray = row at hmk hD
  clear hrow
  go_enter Try.func8, Try.ntmps8
  go_wp2_with fail
  refine (within_any _ _ _ _).mono ?_
  rintro e w1 ⟨rfl, rfl⟩
  rw [HW.out]
  go_wp2_with fail
  go_ret2
  exact ⟨by simp, hD.out, below_al (below_al (Below.refl _ _) _) _⟩
theorem newDisk_bad (k : Int) (h : withinB k 16 65536 = false) (w : World) :
    Calls Try.prog 8 #[.int .i64 k] w fun e w' => e = .returned (.tuple #[.pointer none, .int .i64 1]) ∧ w = w' := by
  have HW := Lib.hid h
  clear h
  go_enter Try.func8, Try.ntmps8
  go_wp2_with fail
  refine (within_any _ _ _ _).mono ?_
  rintro e w1 ⟨rfl, rfl⟩
  rw [HW.out]
  go_wp2_with fail
  go_ret2
  exact ⟨rfl, rfl⟩

/-- One cell of the disk's own block is written. -/
theorem DiskAt.put {w : World} {p gs : Nat} {vp : Value} {S : List (List Int)} {P : List PW} {dn st dn' st' : Bool} {ca ca' : Int} (h : DiskAt w p gs vp S P dn st ca) (i : Nat) (u : Value)
    (hc : (#[.slice (some ⟨gs, 0, none⟩) S.length S.length, vp, .bool dn, .bool st, .int .i64 ca] : Array Value).setIfInBounds i u = #[.slice (some ⟨gs, 0, none⟩) S.length S.length, vp, .bool dn', .bool st', .int .i64 ca']) : DiskAt (w.setCell ⟨p, i, none⟩ u) p gs vp S P dn' st' ca' := by
  have hk : Keeps (fun k => k = p) w (w.setCell ⟨p, i, none⟩ u) := (Keeps.refl (fun k => k = p) w).setCell (p := ⟨p, i, none⟩) (fun _ => rfl) u
  refine ⟨?_, h.sec.far (p := ⟨p, i, none⟩) h.ne1 u, ?_, h.all, h.size, h.ne1, h.ne2, h.ne3⟩
  · have := h.blk.set i u
    rwa [hc] at this
  · have hl := World.ownsRow.lt h.pend
    refine ⟨h.pend.1, ?_⟩
    rcases h.pend.2 with h0 | ⟨g, cap, cur, rfl, hb, hg, rest⟩
    · exact .inl h0
    · exact .inr ⟨g, cap, cur, rfl, hb, (hk.block g (hl g rfl).2 (fun e => h.ne2 (by rw [← e]; rfl))).trans hg, rest⟩
/-- What a call of Write or Flush leaves of the count. -/
def cntOf (st : Bool) (ca : Int) : Int := if st = true ∧ ca ≠ 0 then ca - 1 else ca
theorem fails_ok {w : World} {p gs : Nat} {vp : Value} {S : List (List Int)} {P : List PW} {st : Bool} {ca : Int} (h : DiskAt w p gs vp S P false st ca) (hca : 0 ≤ ca ∧ ca ≤ 9223372036854775807) (hne : st = true → ca ≠ 0) :
    Calls Try.prog 32 #[.pointer (some ⟨p, 0, none⟩)] w fun e w' => e = .returned (.int .i64 0) ∧ DiskAt w' p gs vp S P false st (cntOf st ca) ∧ Keeps (fun i => i = p) w w' := by
  have c3 := h.blk.cell 3
  have c4 := h.blk.cell 4
  have f4 := h.blk.frozen 4
  have zp := h.blk.lt
  simp at c3 c4
  cases st
  · have hD : Hid (DiskAt w p gs vp S P false false (cntOf false ca)) := Lib.hid h
    clear h hne
    go_enter Try.func32, Try.ntmps32
    go_wp2_with fail
    go_ret
    exact ⟨rfl, hD.out, Keeps.refl _ _⟩
  · have h0 := hne rfl
    have e0 : (ca == 0) = false := by simpa using h0
    have hD : Hid (DiskAt (w.setCell ⟨p, 4, none⟩ (.int .i64 (ca - 1))) p gs vp S P false true (cntOf true ca)) := Lib.hid (h.put 4 _ (by unfold cntOf; rw [if_pos ⟨rfl, h0⟩]; rfl))
    clear h hne
    go_enter Try.func32, Try.ntmps32
    go_wp2_with fail
    go_ret
    exact ⟨rfl, hD.out, (Keeps.refl (fun k => k = p) _).setCell (p := ⟨p, 4, none⟩) (fun _ => rfl) _⟩
theorem fails_stop {w : World} {p gs : Nat} {vp : Value} {S : List (List Int)} {P : List PW} (h : DiskAt w p gs vp S P false true 0) :
    Calls Try.prog 32 #[.pointer (some ⟨p, 0, none⟩)] w fun e w' => e = .returned (.int .i64 70) ∧ DiskAt w' p gs vp S P true true 0 ∧ Keeps (fun i => i = p) w w' := by
  have c3 := h.blk.cell 3
  have c4 := h.blk.cell 4
  have c2 := h.blk.cell 2
  have f2 := h.blk.frozen 2
  have zp := h.blk.lt
  simp at c3 c4 c2
  have hD : Hid (DiskAt (w.setCell ⟨p, 2, none⟩ (.bool true)) p gs vp S P true true 0) := Lib.hid (h.put 2 _ rfl)
  clear h
  go_enter Try.func32, Try.ntmps32
  go_wp2_with fail
  go_ret
  exact ⟨rfl, hD.out, (Keeps.refl (fun k => k = p) _).setCell (p := ⟨p, 2, none⟩) (fun _ => rfl) _⟩
/-- Nothing is pending. -/
theorem DiskAt.flushed {w : World} {p gs : Nat} {vp : Value} {S : List (List Int)} {P : List PW} {dn st : Bool} {ca : Int} (h : DiskAt w p gs vp S P dn st ca) : DiskAt (w.setCell ⟨p, 1, none⟩ (.slice none 0 0)) p gs (.slice none 0 0) S [] dn st ca :=
  ⟨h.blk.set 1 (.slice none 0 0), h.sec.far (p := ⟨p, 1, none⟩) h.ne1 _, World.ownsRow_nil _ _ _ _, h.all, fun x hx => by simp at hx, h.ne1, by simp [Value.ownBlock], by simp [Value.ownBlock]⟩
theorem flush_ok {w : World} {p gs : Nat} {vp : Value} {S : List (List Int)} {P : List PW} {st : Bool} {ca : Int} (h : DiskAt w p gs vp S P false st ca) (hca : 0 ≤ ca ∧ ca ≤ 9223372036854775807) (hne : st = true → ca ≠ 0) :
    Calls Try.prog 25 #[.pointer (some ⟨p, 0, none⟩)] w fun e w' => e = .returned (.int .i64 0) ∧ DiskAt w' p gs (.slice none 0 0) S [] false st (cntOf st ca) ∧ Keeps (fun i => i = p) w w' := by
  have HR := Lib.hid (refuses_any h)
  have HF := Lib.hid (fails_ok h hca hne)
  clear h hca hne
  go_enter Try.func25, Try.ntmps25
  go_wp2_with fail
  refine HR.out.mono ?_
  rintro e w1 ⟨rfl, rfl⟩
  go_wp2_with fail
  refine HF.out.mono ?_
  rintro e w1 ⟨rfl, hD, hk⟩
  have c1 := hD.blk.cell 1
  have f1 := hD.blk.frozen 1
  have zp := hD.blk.lt
  simp at c1
  have hDn := Lib.hid hD.flushed
  have hk1 := hk.setCell (p := ⟨p, 1, none⟩) (fun _ => rfl) (.slice none 0 0)
  clear hD hk HR HF
  go_wp2_with fail
  go_ret
  exact ⟨rfl, hDn.out, hk1⟩

/-- v is a slice of the bytes l in memory of the call's own, from block base on. -/
def OwnU (w : World) (base : Nat) (v : Value) (l : List Int) : Prop := w.ownsRow base 5 1 v l.length (cellsB l)
/-- Where a byte of a slice of one's own lies. -/
theorem OwnU.at {w : World} {base : Nat} {A : Option Addr} {c : Nat} {l : List Int} (h : OwnU w base (.slice A l.length c) l) (hp : 0 < l.length) : ∃ g, A = some ⟨g, 0, none⟩ ∧ base ≤ g ∧ g < w.heap.size ∧ ∀ k x, l[k]? = some x → w.cell? ⟨g, k, none⟩ = some (.int .u8 x) := by
  have hlt := World.ownsRow.lt h
  unfold OwnU at h
  have h0 := h
  rcases h0.2 with ⟨h1, h2⟩ | ⟨g, cap, cur, h1, hb, hg, _⟩
  · omega
  · simp only [Value.slice.injEq] at h1
    obtain ⟨rfl, _, rfl⟩ := h1
    refine ⟨g, rfl, hb, hlt g rfl |>.2, fun k x hx => ?_⟩
    have hk := (List.getElem?_eq_some_iff.1 hx).1
    rw [h.cellAt k (by omega)]
    unfold cellsB
    rw [List.getElem?_map, hx]
    rfl
end Go.Proofs.Ythieonekjmdelaa
