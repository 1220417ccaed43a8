/- The contracts of the methods of a disk, a journal and a net at nil. No conditions. The contracts of an office's operations at nil, and of Start on a nil disk. No conditions. The contracts of an office's questions at nil. No conditions. -/
import Derived.Test.YthgfbaekmhpiaaaGreatDoorShipA
namespace Go.Proofs.YthgfbaekmhpiaaaGreatDoor
open Go.RowKit Go.Shelf Go.Sort

theorem drefuses_nil (w : World) : Calls Tryz.prog 72 #[.pointer none] w fun e w' => e = .returned (.int .i64 3) ∧ w = w' := by
  go_enter Tryz.func72, Tryz.ntmps72
  go_wp2_with fail
  go_ret
  exact ⟨rfl, rfl⟩
theorem ddown_nil (w : World) : Calls Tryz.prog 35 #[.pointer none] w fun e w' => e = .returned (.bool true) ∧ w = w' := by
  go_enter Tryz.func35, Tryz.ntmps35
  go_wp2_with fail
  go_ret
  exact ⟨rfl, rfl⟩
theorem dflush_nil (w : World) : Calls Tryz.prog 33 #[.pointer none] w fun e w' => e = .returned (.int .i64 3) ∧ w = w' := by
  have H0 := Lib.hid (drefuses_nil w)
  go_enter Tryz.func33, Tryz.ntmps33
  go_wp2_with fail
  refine H0.out.mono ?_
  rintro e w1 ⟨rfl, rfl⟩
  go_wp2_with fail
  go_ret
  exact ⟨rfl, rfl⟩
theorem drefSec_nil (k : Int) (w : World) : Calls Tryz.prog 68 #[.pointer none, .int .i64 k] w fun e w' => e = .returned (.int .i64 3) ∧ w = w' := by
  have H0 := Lib.hid (drefuses_nil w)
  go_enter Tryz.func68, Tryz.ntmps68
  go_wp2_with fail
  refine H0.out.mono ?_
  rintro e w1 ⟨rfl, rfl⟩
  go_wp2_with fail
  go_ret
  exact ⟨rfl, rfl⟩
theorem dread_nil (k : Int) (w : World) : Calls Tryz.prog 28 #[.pointer none, .int .i64 k] w fun e w' => e = .returned (.tuple #[.slice none 0 0, .int .i64 3]) ∧ w = w' := by
  have H0 := Lib.hid (drefSec_nil k w)
  go_enter Tryz.func28, Tryz.ntmps28
  go_wp2_with fail
  refine H0.out.mono ?_
  rintro e w1 ⟨rfl, rfl⟩
  go_wp2_with fail
  go_ret2
  exact ⟨rfl, rfl⟩
theorem dwrite_nil (k : Int) (A : Option Addr) (m c : Nat) (w : World) : Calls Tryz.prog 30 #[.pointer none, .int .i64 k, .slice A m c] w fun e w' => e = .returned (.int .i64 3) ∧ w = w' := by
  have H0 := Lib.hid (drefSec_nil k w)
  go_enter Tryz.func30, Tryz.ntmps30
  go_wp2_with fail
  refine H0.out.mono ?_
  rintro e w1 ⟨rfl, rfl⟩
  go_wp2_with fail
  go_ret
  exact ⟨rfl, rfl⟩
theorem dstop_nil (k : Int) (w : World) : Calls Tryz.prog 34 #[.pointer none, .int .i64 k] w fun e w' => e = .returned (.int .i64 3) ∧ w = w' := by
  have H0 := Lib.hid (drefuses_nil w)
  go_enter Tryz.func34, Tryz.ntmps34
  go_wp2_with fail
  refine H0.out.mono ?_
  rintro e w1 ⟨rfl, rfl⟩
  go_wp2_with fail
  go_ret
  exact ⟨rfl, rfl⟩
theorem dcrash_nil (A : Option Addr) (m c : Nat) (w : World) : Calls Tryz.prog 29 #[.pointer none, .slice A m c] w fun e w' => e = .returned (.tuple #[]) ∧ Below w.heap.size w w' := by
  go_enter Tryz.func29, Tryz.ntmps29
  go_wp2_with fail
  exact bodyPost_ret (results_none rfl _ _ _) rfl ⟨rfl, (Below.refl _ w).alloc (Nat.le_refl _) _⟩
theorem jappend_nil (s : ByteArray) (w : World) : Calls Tryz.prog 36 #[.pointer none, .string s] w fun e w' => e = .returned (.int .i64 3) ∧ w = w' := by
  go_enter Tryz.func36, Tryz.ntmps36
  go_wp2_with fail
  go_ret
  exact ⟨rfl, rfl⟩
theorem jsync_nil (w : World) : Calls Tryz.prog 37 #[.pointer none] w fun e w' => e = .returned (.int .i64 3) ∧ w = w' := by
  go_enter Tryz.func37, Tryz.ntmps37
  go_wp2_with fail
  go_ret
  exact ⟨rfl, rfl⟩
theorem jlen_nil (w : World) : Calls Tryz.prog 38 #[.pointer none] w fun e w' => e = .returned (.int .i64 0) ∧ w = w' := by
  go_enter Tryz.func38, Tryz.ntmps38
  go_wp2_with fail
  go_ret
  exact ⟨rfl, rfl⟩
theorem npeek_nil (a b i : Int) (w : World) : Calls Tryz.prog 53 #[.pointer none, .int .i64 a, .int .i64 b, .int .i64 i] w fun e w' => e = .returned (.tuple #[.string ⟨#[]⟩, .int .i64 3]) ∧ w = w' := by
  go_enter Tryz.func53, Tryz.ntmps53
  go_wp2_with fail
  go_ret2
  exact ⟨rfl, rfl⟩
theorem nline_nil (a b : Int) (w : World) : Calls Tryz.prog 50 #[.pointer none, .int .i64 a, .int .i64 b] w fun e w' => e = .returned (.pointer none) ∧ w = w' := by
  go_enter Tryz.func50, Tryz.ntmps50
  go_wp2_with fail
  go_ret
  exact ⟨rfl, rfl⟩
theorem ntake_nil (a b i : Int) (w : World) : Calls Tryz.prog 14 #[.pointer none, .int .i64 a, .int .i64 b, .int .i64 i] w fun e w' => e = .returned (.tuple #[.string ⟨#[]⟩, .int .i64 3]) ∧ w = w' := by
  have H0 := Lib.hid (npeek_nil a b i w)
  go_enter Tryz.func14, Tryz.ntmps14
  go_wp2_with fail
  refine H0.out.mono ?_
  rintro e w1 ⟨rfl, rfl⟩
  go_wp2_with fail
  go_ret2
  exact ⟨rfl, rfl⟩
theorem nlose_nil (a b i : Int) (w : World) : Calls Tryz.prog 16 #[.pointer none, .int .i64 a, .int .i64 b, .int .i64 i] w fun e w' => e = .returned (.int .i64 3) ∧ w = w' := by
  have H0 := Lib.hid (ntake_nil a b i w)
  go_enter Tryz.func16, Tryz.ntmps16
  go_wp2_with fail
  refine H0.out.mono ?_
  rintro e w1 ⟨rfl, rfl⟩
  go_wp2_with fail
  go_ret
  exact ⟨rfl, rfl⟩
theorem nsend_nil (a b : Int) (s : ByteArray) (w : World) : Calls Tryz.prog 10 #[.pointer none, .int .i64 a, .int .i64 b, .string s] w fun e w' => e = .returned (.int .i64 3) ∧ w = w' := by
  have H0 := Lib.hid (nline_nil a b w)
  go_enter Tryz.func10, Tryz.ntmps10
  go_wp2_with fail
  refine H0.out.mono ?_
  rintro e w1 ⟨rfl, rfl⟩
  go_wp2_with fail
  go_ret
  exact ⟨rfl, rfl⟩
theorem nwait_nil (a b : Int) (w : World) : Calls Tryz.prog 12 #[.pointer none, .int .i64 a, .int .i64 b] w fun e w' => e = .returned (.int .i64 0) ∧ w = w' := by
  have H0 := Lib.hid (nline_nil a b w)
  go_enter Tryz.func12, Tryz.ntmps12
  go_wp2_with fail
  refine H0.out.mono ?_
  rintro e w1 ⟨rfl, rfl⟩
  go_wp2_with fail
  go_ret
  exact ⟨rfl, rfl⟩
theorem nrepeat_nil (a b i : Int) (w : World) : Calls Tryz.prog 17 #[.pointer none, .int .i64 a, .int .i64 b, .int .i64 i] w fun e w' => e = .returned (.int .i64 3) ∧ w = w' := by
  have H0 := Lib.hid (npeek_nil a b i w)
  go_enter Tryz.func17, Tryz.ntmps17
  go_wp2_with fail
  refine H0.out.mono ?_
  rintro e w1 ⟨rfl, rfl⟩
  go_wp2_with fail
  go_ret
  exact ⟨rfl, rfl⟩
theorem open_nil (w : World) : Calls Tryz.prog 31 #[.pointer none] w fun e w' => e = .returned (.tuple #[.pointer none, .slice none 0 0, .int .i64 3]) ∧ w = w' := by
  have H0 := Lib.hid (drefuses_nil w)
  go_enter Tryz.func31, Tryz.ntmps31
  go_wp2_with fail
  refine H0.out.mono ?_
  rintro e w1 ⟨rfl, rfl⟩
  go_wp2_with fail
  go_ret3
  exact ⟨rfl, rfl⟩
end Go.Proofs.YthgfbaekmhpiaaaGreatDoor
namespace Go.Proofs.YthgfbaekmhpiaaaGreatDoor
open Go.RowKit Go.Shelf Go.Sort

theorem enter_nil (t : Tok) (note : ByteArray) (w : World) : Calls Tryz.prog 47 #[.pointer none, tokVal t, .string note] w fun e w' => e = .returned (.int .i64 3) ∧ Below w.heap.size w w' :=
  enter_of none t note 3 _ (fun W hW => (perform_nil (opEnter t note) none 0 0 rfl none 0 0 rfl).mono (fun e w' h => ⟨h.1, hW.trans (h.2.mono hW.size)⟩))
set_option maxRecDepth 100000 in
set_option maxHeartbeats 1000000 in
theorem change_nil (t : Tok) (note : ByteArray) (w : World) : Calls Tryz.prog 64 #[.pointer none, tokVal t, .string note] w fun e w' => e = .returned (.int .i64 3) ∧ Below w.heap.size w w' := by
  obtain ⟨i, b⟩ := t
  have HB1 := Lib.hid ((Below.refl _ w).alloc (Nat.le_refl _) (.cells #[.int .i64 i, .string b] 50))
  have kB := Blk.new w 50 #[.int .i64 i, .string b]
  have HP := Lib.hid (fun W (hW : Below w.heap.size w W) => (perform_nil (w := W) ⟨2, 0, ⟨i, b⟩, 0, .slice none 0 0, ⟨#[]⟩, ⟨0, 0, 0, .slice none 0 0⟩, note⟩ none 0 0 rfl none 0 0 rfl).mono (fun e w' h => (show e = .returned (.int .i64 3) ∧ Below w.heap.size w w' from ⟨h.1, hW.trans (h.2.mono hW.size)⟩)))
  unfold opVal at HP
  unfold tokVal
  dsimp only at HP ⊢
  go_enter Tryz.func64, Tryz.ntmps64
  go_upto_region 1 with fail
  generalize w.alloc _ = w1 at HB1 kB ⊢
  have x0 := kB.cell 0
  have x1 := kB.cell 1
  have xz := kB.lt
  simp at x0 x1
  go_wp2_with fail
  refine (HP.out _ HB1.out).mono ?_
  rintro e w2 ⟨rfl, hq⟩
  have HQ := Lib.hid hq
  clear hq
  go_wp2_with fail
  go_ret
  exact ⟨rfl, HQ.out⟩
set_option maxRecDepth 100000 in
set_option maxHeartbeats 1000000 in
theorem note_nil (note : ByteArray) (w : World) : Calls Tryz.prog 65 #[.pointer none, .string note] w fun e w' => e = .returned (.int .i64 3) ∧ Below w.heap.size w w' := by
  have HP := Lib.hid (perform_nil (w := w) ⟨3, 0, ⟨0, ⟨#[]⟩⟩, 0, .slice none 0 0, ⟨#[]⟩, ⟨0, 0, 0, .slice none 0 0⟩, note⟩ none 0 0 rfl none 0 0 rfl)
  unfold opVal at HP
  dsimp only at HP
  go_enter Tryz.func65, Tryz.ntmps65
  go_wp2_with fail
  refine HP.out.mono ?_
  rintro e w2 ⟨rfl, hq⟩
  have HQ := Lib.hid hq
  clear hq
  go_wp2_with fail
  go_ret
  exact ⟨rfl, HQ.out⟩
set_option maxRecDepth 100000 in
set_option maxHeartbeats 1000000 in
theorem burn_nil (A : Option Addr) (m c : Nat) (note : ByteArray) (w : World) : Calls Tryz.prog 66 #[.pointer none, .slice A m c, .string note] w fun e w' => e = .returned (.int .i64 3) ∧ Below w.heap.size w w' := by
  have HP := Lib.hid (perform_nil (w := w) ⟨6, 0, ⟨0, ⟨#[]⟩⟩, 0, .slice A m c, ⟨#[]⟩, ⟨0, 0, 0, .slice none 0 0⟩, note⟩ A m c rfl none 0 0 rfl)
  unfold opVal at HP
  dsimp only at HP
  go_enter Tryz.func66, Tryz.ntmps66
  go_wp2_with fail
  refine HP.out.mono ?_
  rintro e w2 ⟨rfl, hq⟩
  have HQ := Lib.hid hq
  clear hq
  go_wp2_with fail
  go_ret
  exact ⟨rfl, HQ.out⟩
set_option maxRecDepth 100000 in
set_option maxHeartbeats 1000000 in
theorem leave_nil (A : Option Addr) (m c : Nat) (note : ByteArray) (w : World) : Calls Tryz.prog 67 #[.pointer none, .slice A m c, .string note] w fun e w' => e = .returned (.int .i64 3) ∧ Below w.heap.size w w' := by
  have HP := Lib.hid (perform_nil (w := w) ⟨7, 0, ⟨0, ⟨#[]⟩⟩, 0, .slice A m c, ⟨#[]⟩, ⟨0, 0, 0, .slice none 0 0⟩, note⟩ A m c rfl none 0 0 rfl)
  unfold opVal at HP
  dsimp only at HP
  go_enter Tryz.func67, Tryz.ntmps67
  go_wp2_with fail
  refine HP.out.mono ?_
  rintro e w2 ⟨rfl, hq⟩
  have HQ := Lib.hid hq
  clear hq
  go_wp2_with fail
  go_ret
  exact ⟨rfl, HQ.out⟩
set_option maxRecDepth 100000 in
set_option maxHeartbeats 1000000 in
theorem ship_nil (d : Int) (A : Option Addr) (m c : Nat) (note : ByteArray) (w : World) : Calls Tryz.prog 48 #[.pointer none, .int .i64 d, .slice A m c, .string note] w fun e w' => e = .returned (.tuple #[.int .i64 0, .int .i64 3]) ∧ Below w.heap.size w w' := by
  have HP := Lib.hid (perform_nil (w := w) ⟨4, 0, ⟨0, ⟨#[]⟩⟩, d, .slice A m c, ⟨#[]⟩, ⟨0, 0, 0, .slice none 0 0⟩, note⟩ A m c rfl none 0 0 rfl)
  unfold opVal at HP
  dsimp only at HP
  go_enter Tryz.func48, Tryz.ntmps48
  go_wp2_with fail
  refine HP.out.mono ?_
  rintro e w2 ⟨rfl, hq⟩
  have HQ := Lib.hid hq
  clear hq
  go_wp2_with fail
  go_ret2
  exact ⟨rfl, HQ.out⟩
set_option maxRecDepth 100000 in
set_option maxHeartbeats 1000000 in
theorem hear_nil (m note : ByteArray) (w : World) : Calls Tryz.prog 49 #[.pointer none, .string m, .string note] w fun e w' => e = .returned (.tuple #[.string ⟨#[]⟩, .int .i64 3]) ∧ Below w.heap.size w w' := by
  have hmf : ∀ (fn : Fn) (first cap : Array Value) (w : World), (Instr.makeFunc fn first cap).run Tryz.prog w = .ok (.func fn first cap) w := fun _ _ _ _ => rfl
  have HB1 := Lib.hid (((Below.refl _ w).alloc (Nat.le_refl _) (.cells #[.string ⟨#[]⟩] 9)).alloc (by simp) (.cells #[.int .i64 0] 24))
  have hC0 := (Blk.new w 9 #[.string ⟨#[]⟩]).alloc (.cells #[.int .i64 0] 24)
  have hE0 : Blk ((w.alloc (.cells #[.string ⟨#[]⟩] 9)).alloc (.cells #[.int .i64 0] 24)) (w.heap.size + 1) 24 #[.int .i64 0] := by
    have := Blk.new (w.alloc (.cells #[.string ⟨#[]⟩] 9)) 24 #[.int .i64 0]
    simpa using this
  go_enter_defers Tryz.func49, Tryz.ntmps49
  go_upto_region 2 with fail
  generalize (w.alloc _).alloc _ = w1 at HB1 hC0 hE0 ⊢
  have cf := hC0.frozen 0
  have cz := hC0.lt
  have c0 := hC0.cell 0
  have ef := hE0.frozen 0
  have ez := hE0.lt
  have e0 := hE0.cell 0
  simp at c0 e0
  go_wp2_with fail
  have hK9 : Keeps (fun j => j = w.heap.size ∨ j = w.heap.size + 1) w1 ((w1.setCell ⟨w.heap.size, 0, none⟩ (.string ⟨#[]⟩)).setCell ⟨w.heap.size + 1, 0, none⟩ (.int .i64 3)) := ((Keeps.refl (fun j => j = w.heap.size ∨ j = w.heap.size + 1) w1).setCell (p := ⟨w.heap.size, 0, none⟩) (fun _ => .inl rfl) _).setCell (p := ⟨w.heap.size + 1, 0, none⟩) (fun _ => .inr rfl) _
  have y0 := ((hC0.set 0 (.string ⟨#[]⟩)).far (p := ⟨w.heap.size + 1, 0, none⟩) (by simp) (.int .i64 3)).cell 0
  have y1 := ((hE0.far (p := ⟨w.heap.size, 0, none⟩) (by simp) (.string ⟨#[]⟩)).set 0 (.int .i64 3)).cell 0
  have hB9 : Below w.heap.size w ((w1.setCell ⟨w.heap.size, 0, none⟩ (.string ⟨#[]⟩)).setCell ⟨w.heap.size + 1, 0, none⟩ (.int .i64 3)) := HB1.out.trans (hK9.below (B := w.heap.size) (fun k hk e => by omega) HB1.out.size)
  refine leaves_cons (f := 86) (args := #[.pointer (some ⟨w.heap.size, 0, none⟩), .pointer (some ⟨w.heap.size + 1, 0, none⟩)]) (by simp) (by simp [go_sem]) ?_
  refine (hear_idle ⟨w.heap.size, 0, none⟩ ⟨w.heap.size + 1, 0, none⟩ _).mono ?_
  rintro e u' w'' ⟨rfl, rfl, rfl⟩
  simp at y0 y1
  refine ⟨.tuple #[.string ⟨#[]⟩, .int .i64 3], ?_, rfl, hB9⟩
  simp [results, Tryz.results49, go_sem, y0, y1]
set_option maxRecDepth 100000 in
set_option maxHeartbeats 1000000 in
theorem start_nil (id : Int) (hid : isOfficeB id = true) (w : World) : Calls Tryz.prog 32 #[.pointer none, .int .i64 id] w fun e w' => e = .returned (.tuple #[.pointer none, .int .i64 3]) ∧ Below w.heap.size w w' := by
  have hmf : ∀ (fn : Fn) (first cap : Array Value) (w : World), (Instr.makeFunc fn first cap).run Tryz.prog w = .ok (.func fn first cap) w := fun _ _ _ _ => rfl
  have HB1 := Lib.hid (((Below.refl _ w).alloc (Nat.le_refl _) (.cells #[.pointer none] 61)).alloc (by simp) (.cells #[.int .i64 0] 24))
  have hC0 := (Blk.new w 61 #[.pointer none]).alloc (.cells #[.int .i64 0] 24)
  have hE0 : Blk ((w.alloc (.cells #[.pointer none] 61)).alloc (.cells #[.int .i64 0] 24)) (w.heap.size + 1) 24 #[.int .i64 0] := by
    have := Blk.new (w.alloc (.cells #[.pointer none] 61)) 24 #[.int .i64 0]
    simpa using this
  have HIS : Hid (∀ W, Calls Tryz.prog 76 #[.int .i64 id] W fun e w' => e = .returned (.bool true) ∧ W = w') := Lib.hid (fun W => by have := isOffice_any id W; rwa [hid] at this)
  have HOP := Lib.hid (fun W => open_nil W)
  go_enter_defers Tryz.func32, Tryz.ntmps32
  go_wp2_with fail
  generalize (w.alloc _).alloc _ = w1 at HB1 hC0 hE0 ⊢
  refine (HIS.out _).mono ?_
  rintro e w1' ⟨rfl, rfl⟩
  go_wp2_with fail
  refine (HOP.out _).mono ?_
  rintro e w2 ⟨rfl, rfl⟩
  have ef := hE0.frozen 0
  have ez := hE0.lt
  have e0 := hE0.cell 0
  simp at e0
  have hC3 := hC0.far (p := ⟨w.heap.size + 1, 0, none⟩) (by simp) (.int .i64 3)
  have hE3 := hE0.set 0 (.int .i64 3)
  have hB3 := HB1.out.setCell (p := ⟨w.heap.size + 1, 0, none⟩) (Nat.le_succ _) (.int .i64 3)
  rw [List.setIfInBounds_toArray] at hE3
  simp only [List.set_cons_zero] at hE3
  have HB3 := Lib.hid hB3
  clear HB1 hB3
  go_upto_region 5 with fail
  generalize w1.setCell _ _ = w3 at hC3 hE3 HB3 ⊢
  clear ef ez e0 hC0 hE0
  have cf := hC3.frozen 0
  have cz := hC3.lt
  have c0 := hC3.cell 0
  have ef := hE3.frozen 0
  have ez := hE3.lt
  have e0 := hE3.cell 0
  simp at c0 e0
  go_upto_region 6 with fail
  go_region
  go_wp2_with fail
  have hK9 : Keeps (fun j => j = w.heap.size ∨ j = w.heap.size + 1) w3 ((w3.setCell ⟨w.heap.size, 0, none⟩ (.pointer none)).setCell ⟨w.heap.size + 1, 0, none⟩ (.int .i64 3)) := ((Keeps.refl (fun j => j = w.heap.size ∨ j = w.heap.size + 1) w3).setCell (p := ⟨w.heap.size, 0, none⟩) (fun _ => .inl rfl) _).setCell (p := ⟨w.heap.size + 1, 0, none⟩) (fun _ => .inr rfl) _
  have y0 := ((hC3.set 0 (.pointer none)).far (p := ⟨w.heap.size + 1, 0, none⟩) (by simp) (.int .i64 3)).cell 0
  have y1 := ((hE3.far (p := ⟨w.heap.size, 0, none⟩) (by simp) (.pointer none)).set 0 (.int .i64 3)).cell 0
  have hB9 : Below w.heap.size w ((w3.setCell ⟨w.heap.size, 0, none⟩ (.pointer none)).setCell ⟨w.heap.size + 1, 0, none⟩ (.int .i64 3)) := HB3.out.trans (hK9.below (B := w.heap.size) (fun k hk e => by omega) HB3.out.size)
  refine leaves_cons (f := 75) (args := #[.pointer (some ⟨w.heap.size, 0, none⟩), .pointer (some ⟨w.heap.size + 1, 0, none⟩)]) (by simp) (by simp [go_sem]) ?_
  refine (start_idle ⟨w.heap.size, 0, none⟩ ⟨w.heap.size + 1, 0, none⟩ _).mono ?_
  rintro e u' w'' ⟨rfl, rfl, rfl⟩
  simp at y0 y1
  refine ⟨.tuple #[.pointer none, .int .i64 3], ?_, rfl, ⟨hB9.os, hB9.tape, hB9.output, hB9.size, hB9.block⟩⟩
  simp [results, Tryz.results32, go_sem, y0, y1]
end Go.Proofs.YthgfbaekmhpiaaaGreatDoor
namespace Go.Proofs.YthgfbaekmhpiaaaGreatDoor
open Go.RowKit Go.Shelf Go.Sort Go.Maps

theorem zeroSt_one : zeroSt.toArray.all (·.oneCell') = true := by kernel_rfl
set_option maxRecDepth 100000 in
set_option maxHeartbeats 1000000 in
theorem known_nil (w : World) :
    Calls Tryz.prog 79 #[.pointer none] w fun e w' => e = .returned (.agg zeroSt.toArray) ∧ Below w.heap.size w w' := by
  have hZ := zero_of_info (n := 28) zeroSt_info
  obtain ⟨Z0, hZ0⟩ : ∃ Z0, Z0 = zeroSt.toArray := ⟨_, rfl⟩
  have hZ0s : Z0.size = 28 := by rw [hZ0]; rfl
  have hzv : ∀ W, (zeroValue 142).run Tryz.prog W = .ok (.agg Z0) W := by rw [hZ0]; exact hZ.1
  have hZ0n : ¬ Z0 = #[] := fun e => by rw [e] at hZ0s; cases hZ0s
  have hone : Z0.all (·.oneCell') = true := by rw [hZ0]; exact zeroSt_one
  obtain ⟨d, hd1, hd2, hd3⟩ := descSt
  have hsz2 : (Tryz.prog.info? 142).map (·.size) = some Z0.size := by rw [hZ0s]; exact sizeSt
  have HR := Lib.hid (Blk.new w 142 Z0)
  have HB := Lib.hid ((Below.refl _ w).alloc (Nat.le_refl _) (.cells Z0 142))
  rw [← hZ0]
  clear hZ0 hZ
  go_enter Tryz.func79, Tryz.ntmps79
  go_wp2_with (first
    | (refine wpList_store_row rfl _ _ _ rfl w.heap.size Z0 rfl rfl 142 Z0 (heap_alloc_new w _) hsz2 rfl hone ?_))
  rw [World.setRow_alloc_new]
  refine bodyPost_ret (v := .agg Z0) (results_cell_row (d := d) Tryz.results79 _ _ w.heap.size _ _ _ rfl HR.out hd1 (by cases d <;> first | rfl | cases hd3) hsz2) rfl ⟨rfl, HB.out⟩
theorem keysS_nil (w : World) : Calls Tryz.prog 108 #[.map none] w fun e w' => e = .returned (.func (.func 126) #[] #[.pointer (some ⟨w.heap.size, 0, none⟩)]) ∧ w' = w.alloc (.cells #[.map none] 137) :=
  (callsIn_wide (n := 5)).1 (AnyZI.keys_in laysKeysI Fence.wide 5 trivial rfl none w)
theorem keysB_nil (w : World) : Calls Tryz.prog 83 #[.map none] w fun e w' => e = .returned (.func (.func 111) #[] #[.pointer (some ⟨w.heap.size, 0, none⟩)]) ∧ w' = w.alloc (.cells #[.map none] 138) :=
  (callsIn_wide (n := 5)).1 (AnyZI.keys_in laysKeysB Fence.wide 5 trivial rfl none w)
set_option maxHeartbeats 1000000 in
theorem sortedKeys_nil (Bm : Nat) (w : World) (hBm : Blk w Bm 137 #[.map none]) :
    Calls Tryz.prog 82 #[.func (.func 126) #[] #[.pointer (some ⟨Bm, 0, none⟩)]] w fun e w' => e = .returned (.slice none 0 0) ∧ Below w.heap.size w w' := by
  have hcell : w.cell? ⟨Bm, 0, none⟩ = some (.map none) := by have := hBm.cell 0; simpa using this
  have hseq : SeqGives Fence.wide 2 Tryz.prog 126 #[.pointer (some ⟨Bm, 0, none⟩)] encZ (fun ss => ss = []) 0 w :=
    AnyZI.keys_gives_nil (ρ := laysKeysI_ren) { laysKeysI with } Fence.wide _ trivial rfl Bm w hBm.lt hcell
  have cS := AnyZI.sorted_in laysSortedI Fence.wide 5 trivial trivial trivial trivial rfl (by omega) (sortsI _) (enters_of Tryz.func110 (by kernel_rfl) rfl) 126 #[.pointer (some ⟨Bm, 0, none⟩)] trivial (enters_of Tryz.func126 (by kernel_rfl) rfl) _ 0 (by unfold maxLen; omega) (by omega) _ hseq
  change CallsIn _ _ Tryz.prog 82 _ _ _ at cS
  refine ((callsIn_wide (n := 5)).1 cS).mono ?_
  rintro e w' ⟨v, ss, he, rfl, hrow, hnil, hB⟩
  rw [hnil.2 rfl] at he
  exact ⟨he, hB⟩
set_option maxHeartbeats 1000000 in
theorem sortedKeysB_nil (Bm : Nat) (w : World) (hBm : Blk w Bm 138 #[.map none]) :
    Calls Tryz.prog 82 #[.func (.func 111) #[] #[.pointer (some ⟨Bm, 0, none⟩)]] w fun e w' => e = .returned (.slice none 0 0) ∧ Below w.heap.size w w' := by
  have hcell : w.cell? ⟨Bm, 0, none⟩ = some (.map none) := by have := hBm.cell 0; simpa using this
  have hseq : SeqGives Fence.wide 2 Tryz.prog 111 #[.pointer (some ⟨Bm, 0, none⟩)] encZ (fun ss => ss = []) 0 w :=
    AnyZI.keys_gives_nil (ρ := laysKeysB_ren) { laysKeysB with } Fence.wide _ trivial rfl Bm w hBm.lt hcell
  have cS := AnyZI.sorted_in laysSortedI Fence.wide 5 trivial trivial trivial trivial rfl (by omega) (sortsI _) (enters_of Tryz.func110 (by kernel_rfl) rfl) 111 #[.pointer (some ⟨Bm, 0, none⟩)] trivial (enters_of Tryz.func111 (by kernel_rfl) rfl) _ 0 (by unfold maxLen; omega) (by omega) _ hseq
  change CallsIn _ _ Tryz.prog 82 _ _ _ at cS
  refine ((callsIn_wide (n := 5)).1 cS).mono ?_
  rintro e w' ⟨v, ss, he, rfl, hrow, hnil, hB⟩
  rw [hnil.2 rfl] at he
  exact ⟨he, hB⟩
set_option maxRecDepth 100000 in
set_option maxHeartbeats 2000000 in
theorem tokens_nil {w : World} {sb : Nat} (hc : w.cell? ⟨sb, 1, none⟩ = some (.map none)) (hz : sb < w.heap.size) :
    Calls Tryz.prog 80 #[.pointer (some ⟨sb, 0, none⟩)] w fun e w' => e = .returned (.slice none 0 0) ∧ Below w.heap.size w w' := by
  have HK := Lib.hid (keysS_nil w)
  have HB1 := Lib.hid ((Below.refl _ w).alloc (Nat.le_refl _) (.cells #[.map none] 137))
  have HS := Lib.hid (sortedKeys_nil w.heap.size (w.alloc (.cells #[.map none] 137)) (Blk.new w _ _))
  go_enter Tryz.func80, Tryz.ntmps80
  go_wp2_with fail
  refine HK.out.mono ?_
  rintro e w1 ⟨rfl, rfl⟩
  go_wp2_with fail
  refine HS.out.mono ?_
  rintro e w2 ⟨rfl, hb2⟩
  have HB2 := Lib.hid (HB1.out.trans (hb2.mono HB1.out.size))
  clear hb2 HS HK HB1
  go_wp2_with fail
  go_loopw [3, 13] (fun v j wr => v = .slice none 0 0 ∧ j = .int .i64 0 ∧ wr = w2) (fun _ _ _ => 0)
  case atStart => exact ⟨rfl, rfl, rfl⟩
  case round =>
    obtain ⟨rfl, rfl, rfl⟩ := hrel
    go_wp2_with fail
    go_ret
    exact ⟨rfl, HB2.out⟩
theorem zero_row {w : World} : ∃ Z0 : Array Value, Z0 = zeroSt.toArray ∧ Z0.size = 28 ∧ Z0.all (·.oneCell') = true ∧ (∀ W, (zeroValue 142).run Tryz.prog W = .ok (.agg Z0) W) ∧ ¬ Z0 = #[] ∧ (Tryz.prog.info? 142).map (·.size) = some Z0.size ∧ Z0[1]? = some (.map none) :=
  ⟨_, rfl, rfl, zeroSt_one, (zero_of_info (n := 28) zeroSt_info).1, fun e => (by cases e), sizeSt, rfl⟩
set_option maxRecDepth 100000 in
set_option maxHeartbeats 1000000 in
theorem held_nil (w : World) :
    Calls Tryz.prog 39 #[.pointer none] w fun e w' => e = .returned (.slice none 0 0) ∧ Below w.heap.size w w' := by
  have HK := Lib.hid (known_nil w)
  obtain ⟨Z0, hZ0, hZ0s, hone, hzv, hZ0n, hsz2, hZ1⟩ := zero_row (w := w)
  rw [← hZ0] at HK
  have HTK := Lib.hid (fun W (hW : Below w.heap.size w W) => tokens_nil (w := W.alloc (.cells Z0 142)) (sb := W.heap.size) (by rw [Blk.cell (Blk.new W _ _)]; exact hZ1) (by simp) |>.mono (fun e w' h => And.intro h (hW.alloc hW.size (.cells Z0 142))))
  clear hZ0 hZ1
  go_enter Tryz.func39, Tryz.ntmps39
  go_wp2_with fail
  refine HK.out.mono ?_
  rintro e wK ⟨rfl, hbK⟩
  have HBK := Lib.hid hbK
  clear hbK
  go_wp2_with (refine wpList_store_row rfl _ _ _ rfl wK.heap.size Z0 rfl rfl 142 Z0 (heap_alloc_new wK _) hsz2 rfl hone ?_)
  rw [World.setRow_alloc_new]
  refine (HTK.out wK HBK.out).mono ?_
  rintro e w2 ⟨⟨rfl, hb⟩, hB⟩
  have HB := Lib.hid (hB.trans (hb.mono hB.size))
  clear hb hB
  go_wp2_with fail
  go_ret
  exact ⟨rfl, HB.out⟩
theorem zfield_bags (W : World) : (Instr.field 142 (.agg zeroSt.toArray) 3).run Tryz.prog W = .ok (bagArr (.slice none 0 0)) W := by kernel_rfl
theorem zfield_notes (W : World) : (Instr.field 142 (.agg zeroSt.toArray) 6).run Tryz.prog W = .ok (.slice none 0 0) W := by kernel_rfl
theorem zfield_lost (W : World) : (Instr.field 142 (.agg zeroSt.toArray) 2).run Tryz.prog W = .ok (.map none) W := by kernel_rfl
def zInts : Value := .agg #[.int .i64 0, .int .i64 0, .int .i64 0, .int .i64 0, .int .i64 0, .int .i64 0, .int .i64 0, .int .i64 0]
theorem zfield_recv (W : World) : (Instr.field 142 (.agg zeroSt.toArray) 5).run Tryz.prog W = .ok zInts W := by kernel_rfl
theorem zindex {i : Int} (hi : 0 ≤ i ∧ i ≤ 7) (W : World) : (Instr.index 140 zInts (.int .i64 i)).run Tryz.prog W = .ok (.int .i64 0) W := by
  have h : i = 0 ∨ i = 1 ∨ i = 2 ∨ i = 3 ∨ i = 4 ∨ i = 5 ∨ i = 6 ∨ i = 7 := by omega
  unfold zInts
  rcases h with rfl | rfl | rfl | rfl | rfl | rfl | rfl | rfl
  · exact (show (Instr.index 140 (.agg #[.int .i64 0, .int .i64 0, .int .i64 0, .int .i64 0, .int .i64 0, .int .i64 0, .int .i64 0, .int .i64 0]) (.int .i64 0)).run Tryz.prog W = .ok (.int .i64 0) W by kernel_rfl)
  · exact (show (Instr.index 140 (.agg #[.int .i64 0, .int .i64 0, .int .i64 0, .int .i64 0, .int .i64 0, .int .i64 0, .int .i64 0, .int .i64 0]) (.int .i64 1)).run Tryz.prog W = .ok (.int .i64 0) W by kernel_rfl)
  · exact (show (Instr.index 140 (.agg #[.int .i64 0, .int .i64 0, .int .i64 0, .int .i64 0, .int .i64 0, .int .i64 0, .int .i64 0, .int .i64 0]) (.int .i64 2)).run Tryz.prog W = .ok (.int .i64 0) W by kernel_rfl)
  · exact (show (Instr.index 140 (.agg #[.int .i64 0, .int .i64 0, .int .i64 0, .int .i64 0, .int .i64 0, .int .i64 0, .int .i64 0, .int .i64 0]) (.int .i64 3)).run Tryz.prog W = .ok (.int .i64 0) W by kernel_rfl)
  · exact (show (Instr.index 140 (.agg #[.int .i64 0, .int .i64 0, .int .i64 0, .int .i64 0, .int .i64 0, .int .i64 0, .int .i64 0, .int .i64 0]) (.int .i64 4)).run Tryz.prog W = .ok (.int .i64 0) W by kernel_rfl)
  · exact (show (Instr.index 140 (.agg #[.int .i64 0, .int .i64 0, .int .i64 0, .int .i64 0, .int .i64 0, .int .i64 0, .int .i64 0, .int .i64 0]) (.int .i64 5)).run Tryz.prog W = .ok (.int .i64 0) W by kernel_rfl)
  · exact (show (Instr.index 140 (.agg #[.int .i64 0, .int .i64 0, .int .i64 0, .int .i64 0, .int .i64 0, .int .i64 0, .int .i64 0, .int .i64 0]) (.int .i64 6)).run Tryz.prog W = .ok (.int .i64 0) W by kernel_rfl)
  · exact (show (Instr.index 140 (.agg #[.int .i64 0, .int .i64 0, .int .i64 0, .int .i64 0, .int .i64 0, .int .i64 0, .int .i64 0, .int .i64 0]) (.int .i64 7)).run Tryz.prog W = .ok (.int .i64 0) W by kernel_rfl)
set_option maxRecDepth 100000 in
set_option maxHeartbeats 2000000 in
theorem bags_nil (w : World) :
    Calls Tryz.prog 40 #[.pointer none] w fun e w' => e = .returned (.slice none 0 0) ∧ Below w.heap.size w w' := by
  have HK := Lib.hid (known_nil w)
  have hfd := zfield_bags
  simp only [bagArr] at hfd
  generalize zeroSt.toArray = Z0 at HK hfd
  go_enter Tryz.func40, Tryz.ntmps40
  go_wp2_with fail
  refine HK.out.mono ?_
  rintro e wK ⟨rfl, hbK⟩
  have HBK := Lib.hid hbK
  clear hbK
  go_wp2_with fail
  go_loopw [3, 11] (fun v i wr => v = .slice none 0 0 ∧ ∃ j : Nat, j ≤ 8 ∧ i = .int .i64 (j : Int) ∧ wr = wK) (fun _ i _ => 8 - (intOf i).toNat)
  case atStart => exact ⟨rfl, 0, by omega, rfl, rfl⟩
  case round =>
    obtain ⟨rfl, j, hj, rfl, rfl⟩ := hrel
    by_cases hlt : j < 8
    · have hji : (j : Int) < 8 := by omega
      have hix := index_bags none 0 0 hlt wr
      simp only [bagArr] at hix
      have HLT := Lib.hid hlt
      rw [show (if j = 1 then Value.slice none 0 0 else Value.slice none 0 0) = .slice none 0 0 by by_cases h : j = 1 <;> simp [h]] at hix
      go_wp2_with fail
      obtain ⟨wo, rfl⟩ : ∃ wo : World, wo = wr := ⟨_, rfl⟩
      go_loopw [3, 16] (fun v i wr2 => v = .slice none 0 0 ∧ i = .int .i64 0 ∧ wr2 = wo) (fun _ _ _ => 0)
      case atStart => exact ⟨rfl, rfl, rfl⟩
      case round =>
        obtain ⟨rfl, rfl, rfl⟩ := hrel
        go_wp2_with fail
        go_roundw
        case rel => exact ⟨rfl, j + 1, by have := HLT.out; omega, by go_num, trivial⟩
        case measure => exact meas_up _ _ HLT.out
    · have hji : ¬ (j : Int) < 8 := by omega
      go_wp2_with fail
      go_ret
      exact ⟨rfl, HBK.out⟩
set_option maxRecDepth 100000 in
set_option maxHeartbeats 1000000 in
theorem offer_nil (w : World) :
    Calls Tryz.prog 42 #[.pointer none] w fun e w' => e = .returned (.slice none 0 0) ∧ Below w.heap.size w w' := by
  have HK := Lib.hid (bags_nil w)
  go_enter Tryz.func42, Tryz.ntmps42
  go_wp2_with fail
  refine HK.out.mono ?_
  rintro e wK ⟨rfl, hbK⟩
  have HBK := Lib.hid hbK
  clear hbK
  go_wp2_with fail
  go_loopw [3, 9] (fun v i wr => v = .slice none 0 0 ∧ i = .int .i64 0 ∧ wr = wK) (fun _ _ _ => 0)
  case atStart => exact ⟨rfl, rfl, rfl⟩
  case round =>
    obtain ⟨rfl, rfl, rfl⟩ := hrel
    go_wp2_with fail
    go_ret
    exact ⟨rfl, HBK.out⟩
set_option maxRecDepth 100000 in
set_option maxHeartbeats 1000000 in
theorem lost_nil (w : World) :
    Calls Tryz.prog 41 #[.pointer none] w fun e w' => e = .returned (.slice none 0 0) ∧ Below w.heap.size w w' := by
  have HK := Lib.hid (known_nil w)
  have HKB := Lib.hid keysB_nil
  have HSB := Lib.hid sortedKeysB_nil
  have hfd := zfield_lost
  generalize zeroSt.toArray = Z0 at HK hfd
  go_enter Tryz.func41, Tryz.ntmps41
  go_wp2_with fail
  refine HK.out.mono ?_
  rintro e wK ⟨rfl, hbK⟩
  have HBK := Lib.hid (hbK.alloc hbK.size (.cells #[.map none] 138))
  have HBm := Lib.hid (Blk.new wK 138 #[.map none])
  clear hbK
  go_wp2_with fail
  refine (HKB.out wK).mono ?_
  rintro e w2 ⟨rfl, rfl⟩
  go_wp2_with fail
  refine (HSB.out _ _ HBm.out).mono ?_
  rintro e w3 ⟨rfl, hb3⟩
  have HB3 := Lib.hid (HBK.out.trans (hb3.mono HBK.out.size))
  clear hb3
  go_wp2_with fail
  go_ret
  exact ⟨rfl, HB3.out⟩
set_option maxRecDepth 100000 in
set_option maxHeartbeats 1000000 in
theorem notes_nil (w : World) :
    Calls Tryz.prog 43 #[.pointer none] w fun e w' => e = .returned (.slice none 0 0) ∧ Below w.heap.size w w' := by
  have HC : Hid (∀ W, Calls Tryz.prog 84 #[.slice none 0 0] W fun e w' => e = .returned (.slice none 0 0) ∧ W = w') := Lib.hid (fun W => by
    have hne := fun w' => Lib.run_eql_slice_nil (P := Tryz.prog) w' 70 9 none 0 0 0 0 rowText
    simp only [Option.isNone_none] at hne
    go_enter Tryz.func84, Tryz.ntmps84
    go_wp2_with fail
    go_ret
    exact ⟨rfl, rfl⟩)
  have HK := Lib.hid (known_nil w)
  have hfd := zfield_notes
  generalize zeroSt.toArray = Z0 at HK hfd
  go_enter Tryz.func43, Tryz.ntmps43
  go_wp2_with fail
  refine HK.out.mono ?_
  rintro e wK ⟨rfl, hbK⟩
  have HBK := Lib.hid hbK
  clear hbK
  go_wp2_with fail
  refine (HC.out wK).mono ?_
  rintro e w2 ⟨rfl, rfl⟩
  go_wp2_with fail
  go_ret
  exact ⟨rfl, HBK.out⟩
set_option maxRecDepth 100000 in
set_option maxHeartbeats 1000000 in
theorem heard_nil (i : Int) (w : World) :
    Calls Tryz.prog 44 #[.pointer none, .int .i64 i] w fun e w' => e = .returned (.int .i64 0) ∧ Below w.heap.size w w' := by
  have HI := Lib.hid (isOffice_any i w)
  have HK := Lib.hid (known_nil w)
  have hfd := zfield_recv
  generalize zeroSt.toArray = Z0 at HK hfd
  by_cases hi : 0 ≤ i ∧ i ≤ 7
  · rw [show isOfficeB i = true by unfold isOfficeB inB; rw [decide_eq_true hi.1, decide_eq_true hi.2]; rfl] at HI
    have hix := zindex hi
    generalize zInts = zi at hfd hix
    have HIX := hix
    clear hix
    go_enter Tryz.func44, Tryz.ntmps44
    go_wp2_with fail
    refine HI.out.mono ?_
    rintro e w1 ⟨rfl, rfl⟩
    go_wp2_with fail
    refine HK.out.mono ?_
    rintro e wK ⟨rfl, hbK⟩
    have HBK := Lib.hid hbK
    clear hbK
    go_wp2_with fail
    go_ret
    exact ⟨rfl, HBK.out⟩
  · rw [show isOfficeB i = false by unfold isOfficeB inB; by_cases h0 : 0 ≤ i <;> simp [h0] <;> omega] at HI
    go_enter Tryz.func44, Tryz.ntmps44
    go_wp2_with fail
    refine HI.out.mono ?_
    rintro e w1 ⟨rfl, rfl⟩
    go_wp2_with fail
    go_ret
    exact ⟨rfl, Below.refl _ _⟩
end Go.Proofs.YthgfbaekmhpiaaaGreatDoor
