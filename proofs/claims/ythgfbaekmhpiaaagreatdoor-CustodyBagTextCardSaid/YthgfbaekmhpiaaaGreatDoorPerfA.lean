/- The contract of an office's perform, of an operation that it doesn't refuse and that its journal has room for. Conditions: the office lies in memory. The contracts of an office's known and Held. Conditions: the office lies in memory. The contracts of slices.Clone at tokens and at strings, of at least one element, and of an office's Notes. Conditions: the slice lies in memory. The contract of an office's Bags, of none and of one bag. Conditions: the office lies in memory. -/
import Derived.Test.YthgfbaekmhpiaaaGreatDoorHearA
import Derived.Deep.MidRow
import Derived.Laws.CopyOwn
namespace Go.Proofs.YthgfbaekmhpiaaaGreatDoor
open Go.RowKit Go.Shelf Go.Sort

theorem OUp.drew {t : TypeId} {Xs : List Value} {w : World} {jb p gs : Nat} {vp : Value} {S R : List (List Int)} {st : Bool} (h : OUp t Xs w jb p gs vp S R st) : OUp t Xs w.drew jb p gs vp S R st := h.below (Below.refl _ _).drew
set_option maxRecDepth 100000 in
set_option maxHeartbeats 4000000 in
theorem perform_any {w : World} {ob p gs : Nat} {vp : Value} {S R : List (List Int)} {id : Int} {Xs : List Value} (hU : OUp 144 (.int .i64 id :: Xs) w ob p gs vp S R false) (hgs : ∀ i, ownD p gs vp i → i < w.heap.size) (x : OpV) (A : Option Addr) (ni c : Nat) (hids : x.ids = .slice A ni c) (A2 : Option Addr) (nt c2 : Nat) (htoks : x.bag.toks = .slice A2 nt c2)
    (s : ByteArray) (hs : s.size ≤ 60000) (hf : (encsOf R).length + nbOf s.size ≤ S.length)
    (hR : ∀ W, Below w.heap.size w W → Calls Tryz.prog 104 #[.pointer (some ⟨ob, 3, none⟩), opVal { x with office := id }] W fun e w' => e = .returned (.int .i64 0) ∧ Below W.heap.size W w')
    (hT : ∀ W, Below w.heap.size w W → Calls Tryz.prog 105 #[opVal { x with office := id }] W fun e w' => e = .returned (.string s) ∧ Below W.heap.size W w')
    (Q : World → Prop)
    (hA : ∀ W, (∃ vp', OUp 144 (.int .i64 id :: Xs) W ob p gs vp' (splice S (encsOf R).length (encB (bsOf s))) (R ++ [bsOf s]) false ∧ newB w vp vp') → Keeps (fun i => ownD p gs vp i ∨ i = ob) w W → Calls Tryz.prog 106 #[.pointer (some ⟨ob, 3, none⟩), opVal { x with office := id }] W fun e w' => e = .returned (.tuple #[]) ∧ Q w') :
    Calls Tryz.prog 85 #[.pointer (some ⟨ob, 0, none⟩), opVal x] w fun e w' => e = .returned (.int .i64 0) ∧ Q w' := by
  have HU := Lib.hid hU
  have HGS := Lib.hid hgs
  have HA := Lib.hid hA
  have HR := Lib.hid hR
  have HTX := Lib.hid hT
  have HAD := Lib.hid (fun W (hW : Below w.heap.size w W) => (oadd_any (hU.below hW) s hs hf).mono (fun e w' h => (show e = .returned (.int .i64 0) ∧ (∃ vp', OUp 144 (.int .i64 id :: Xs) w' ob p gs vp' (splice S (encsOf R).length (encB (bsOf s))) (R ++ [bsOf s]) false ∧ newB W vp vp') ∧ Keeps (fun i => ownD p gs vp i ∨ i = ob) W w' from by
    rcases h with ⟨⟨h1, h2⟩ | ⟨h1, _⟩, h3⟩
    · exact ⟨h1, h2, h3⟩
    · cases h1)))
  have ho3 := hU.at_.cell 3
  have hzo := hU.at_.lt
  simp at ho3
  obtain ⟨kd, o, ⟨ti, tb⟩, dest, ids, word, ⟨bs, bd, bq, T⟩, note⟩ := x
  dsimp only at hids htoks HR HTX HA
  subst hids htoks
  have HB1 := Lib.hid ((Below.refl _ w).alloc (Nat.le_refl _) (.cells (opCells ⟨kd, o, ⟨ti, tb⟩, dest, .slice A ni c, word, ⟨bs, bd, bq, .slice A2 nt c2⟩, note⟩).toArray 155))
  have HX1 := Lib.hid (Blk.new w 155 (opCells ⟨kd, o, ⟨ti, tb⟩, dest, .slice A ni c, word, ⟨bs, bd, bq, .slice A2 nt c2⟩, note⟩).toArray)
  unfold opVal at HR HTX HA ⊢
  simp only [opCells] at HB1 HX1
  dsimp only at HR HTX HA ⊢
  clear hU hgs hR hT hA hf hs
  go_enter Tryz.func85, Tryz.ntmps85
  go_upto_region 3 with fail
  have o3 := (HB1.out.cell (p := ⟨ob, 3, none⟩) hzo).trans ho3
  have zo := Nat.lt_of_lt_of_le hzo HB1.out.size
  generalize w.alloc _ = w0 at HB1 HX1 o3 zo ⊢
  have x1 := HX1.out.cell 1
  have f1 := HX1.out.frozen 1
  have zx := HX1.out.lt
  simp at x1
  have hX2 := HX1.out.set 1 (.int .i64 id)
  rw [List.setIfInBounds_toArray] at hX2
  simp only [List.set_cons_zero, List.set_cons_succ] at hX2
  have hK2 : Keeps (fun _ => False) w (w0.setCell ⟨w.heap.size, 1, none⟩ (.int .i64 id)) := (Keeps.of_new HB1.out).setCell (p := ⟨w.heap.size, 1, none⟩) (fun h => absurd h (Nat.lt_irrefl _)) _
  have HB2 := Lib.hid (hK2.below (B := w.heap.size) (fun _ _ e => e) (Nat.le_refl _))
  have HX2 := Lib.hid hX2
  clear hX2 hK2
  go_upto_region 4 with fail
  generalize w0.setCell _ _ = w1 at HB2 HX2 ⊢
  clear HB1 HX1 x1 f1 zx o3 zo
  have x0 := HX2.out.cell 0
  have x1 := HX2.out.cell 1
  have x2 := HX2.out.cell 2
  have x3 := HX2.out.cell 3
  have x4 := HX2.out.cell 4
  have x5 := HX2.out.cell 5
  have x6 := HX2.out.cell 6
  have x7 := HX2.out.cell 7
  have x8 := HX2.out.cell 8
  have x9 := HX2.out.cell 9
  have x10 := HX2.out.cell 10
  have x11 := HX2.out.cell 11
  have zx := HX2.out.lt
  simp at x0 x1 x2 x3 x4 x5 x6 x7 x8 x9 x10 x11
  have gx0 := fun d' os => cell_regrown x0 d' os
  have gx1 := fun d' os => cell_regrown x1 d' os
  have gx2 := fun d' os => cell_regrown x2 d' os
  have gx3 := fun d' os => cell_regrown x3 d' os
  have gx4 := fun d' os => cell_regrown x4 d' os
  have gx5 := fun d' os => cell_regrown x5 d' os
  have gx6 := fun d' os => cell_regrown x6 d' os
  have gx7 := fun d' os => cell_regrown x7 d' os
  have gx8 := fun d' os => cell_regrown x8 d' os
  have gx9 := fun d' os => cell_regrown x9 d' os
  have gx10 := fun d' os => cell_regrown x10 d' os
  have gx11 := fun d' os => cell_regrown x11 d' os
  have hgr : ∀ d' (os : Array Obj), w1.heap.size ≤ (grow (redrawn w1 d') os).heap.size := fun d' os => (below_regrown w1 d' os).size
  have HWg := Lib.hid (fun d' os => HB2.out.trans ((below_regrown w1 d' os).mono HB2.out.size))
  refine wp_region_quiet_below (by kernel_rfl) (by kernel_rfl) ?_
  repeat (go_big_quiet_step (first | (go_at_call 104; exact Calls.regrown_of (HR.out _ (HWg.out _ _)))))
  refine wpQuiet_nil ?_
  intro _ hw'
  obtain ⟨⟨dq, osq⟩, hw''⟩ := hw'
  subst hw''
  have hb2 := below_regrown w1 dq osq
  have HX3 := Lib.hid (HX2.out.below hb2 HX2.out.lt)
  have HB3 := Lib.hid (HB2.out.trans (hb2.mono HB2.out.size))
  generalize grow (redrawn w1 dq) osq = w2 at HX3 HB3 ⊢
  clear x0 x1 x2 x3 x4 x5 x6 x7 x8 x9 x10 x11 gx0 gx1 gx2 gx3 gx4 gx5 gx6 gx7 gx8 gx9 gx10 gx11 zx hgr HWg hb2 HX2 HB2 HR
  have x0 := HX3.out.cell 0
  have x1 := HX3.out.cell 1
  have x2 := HX3.out.cell 2
  have x3 := HX3.out.cell 3
  have x4 := HX3.out.cell 4
  have x5 := HX3.out.cell 5
  have x6 := HX3.out.cell 6
  have x7 := HX3.out.cell 7
  have x8 := HX3.out.cell 8
  have x9 := HX3.out.cell 9
  have x10 := HX3.out.cell 10
  have x11 := HX3.out.cell 11
  have zx := HX3.out.lt
  simp at x0 x1 x2 x3 x4 x5 x6 x7 x8 x9 x10 x11
  have HS : Hid (∀ W : World, W.heap[w.heap.size]? = w2.heap[w.heap.size]? → W.cell? ⟨w.heap.size, 0, none⟩ = some (.int .i64 kd) ∧ W.cell? ⟨w.heap.size, 1, none⟩ = some (.int .i64 id) ∧ W.cell? ⟨w.heap.size, 2, none⟩ = some (.int .i64 ti) ∧ W.cell? ⟨w.heap.size, 3, none⟩ = some (.string tb) ∧ W.cell? ⟨w.heap.size, 4, none⟩ = some (.int .i64 dest) ∧ W.cell? ⟨w.heap.size, 5, none⟩ = some (.slice A ni c) ∧ W.cell? ⟨w.heap.size, 6, none⟩ = some (.string word) ∧ W.cell? ⟨w.heap.size, 7, none⟩ = some (.int .i64 bs) ∧ W.cell? ⟨w.heap.size, 8, none⟩ = some (.int .i64 bd) ∧ W.cell? ⟨w.heap.size, 9, none⟩ = some (.int .i64 bq) ∧ W.cell? ⟨w.heap.size, 10, none⟩ = some (.slice A2 nt c2) ∧ W.cell? ⟨w.heap.size, 11, none⟩ = some (.string note)) := Lib.hid (fun W hW => by
    refine ⟨?_, ?_, ?_, ?_, ?_, ?_, ?_, ?_, ?_, ?_, ?_, ?_⟩ <;> (rw [World.cell?_of_block hW]; assumption))
  have d0 := HS.out w2.drew rfl
  clear x0 x1 x2 x3 x4 x5 x6 x7 x8 x9 x10 x11
  go_upto_region 7 with fail
  go_region_held3 (fun W => W.cell? ⟨w.heap.size, 0, none⟩ = some (.int .i64 kd) ∧ W.cell? ⟨w.heap.size, 1, none⟩ = some (.int .i64 id) ∧ W.cell? ⟨w.heap.size, 2, none⟩ = some (.int .i64 ti) ∧ W.cell? ⟨w.heap.size, 3, none⟩ = some (.string tb) ∧ W.cell? ⟨w.heap.size, 4, none⟩ = some (.int .i64 dest) ∧ W.cell? ⟨w.heap.size, 5, none⟩ = some (.slice A ni c) ∧ W.cell? ⟨w.heap.size, 6, none⟩ = some (.string word) ∧ W.cell? ⟨w.heap.size, 7, none⟩ = some (.int .i64 bs) ∧ W.cell? ⟨w.heap.size, 8, none⟩ = some (.int .i64 bd) ∧ W.cell? ⟨w.heap.size, 9, none⟩ = some (.int .i64 bq) ∧ W.cell? ⟨w.heap.size, 10, none⟩ = some (.slice A2 nt c2) ∧ W.cell? ⟨w.heap.size, 11, none⟩ = some (.string note))
    (exact HS.out _ (by repeat (first | (with_reducible assumption) | (with_reducible rfl) | (with_reducible refine heap_dr ?_))))
    (first
      | (go_at_call 105; refine (HTX.out _ (by repeat (first | (with_reducible assumption) | (with_reducible exact HB3.out) | (with_reducible refine below_drx ?_)))).mono ?_; rintro e wT ⟨rfl, hbT⟩
         have HBT : Hid (Below w.heap.size w wT) := Lib.hid (below_twox hbT (by repeat (first | (with_reducible exact HB3.out) | (with_reducible refine below_drx ?_))))
         have hxT : wT.heap[w.heap.size]? = w2.heap[w.heap.size]? := hbT.block _ zx
         have hxz : w.heap.size < wT.heap.size := Nat.lt_of_lt_of_le zx hbT.size
         clear hbT)
      | (go_at_call 78; refine (HAD.out _ HBT.out).mono ?_; rintro e wF ⟨rfl, hU4, hK4⟩
         have hxF : wF.heap[w.heap.size]? = w2.heap[w.heap.size]? := (hK4.block _ hxz (fun e => by
           rcases e with e | e
           · have := HGS.out _ e; omega
           · omega)).trans hxT
         have HSZ := Lib.hid hK4.size
         have HU4 := Lib.hid hU4
         have HK4 := Lib.hid ((Keeps.of_new (S := fun i => ownD p gs vp i ∨ i = ob) HBT.out).trans hK4 (fun _ _ e => e))
         clear hU4 hK4))
  have hx5 := HS.out wF hxF
  obtain ⟨x0, x1, x2, x3, x4, x5, x6, x7, x8, x9, x10, x11⟩ := hx5
  have hxf := Nat.lt_of_lt_of_le hxz (show wT.heap.size ≤ wF.heap.size from HSZ.out)
  have HAF := Lib.hid (HA.out wF.drew (by obtain ⟨vp', h1, h2⟩ := HU4.out; exact ⟨vp', h1.drew, by rcases h2 with h2 | h2 <;> first | exact .inl h2 | exact .inr (fun i e => Nat.le_trans HBT.out.size (h2 i e))⟩) HK4.out.drew)
  clear hxF hxT hxz d0 HS HB3 HX3 HU4 HK4 HBT
  go_upto_region 10 with fail
  go_region_law (first
    | (go_simp; go_at_call 106; refine HAF.out.mono ?_; rintro e wE ⟨rfl, hq⟩; dsimp only))
  all_goals
    have HQ := Lib.hid hq
    clear hq
    go_wp2_with fail
    go_ret
    exact ⟨rfl, HQ.out⟩
end Go.Proofs.YthgfbaekmhpiaaaGreatDoor
namespace Go.Proofs.YthgfbaekmhpiaaaGreatDoor
open Go.RowKit Go.Shelf Go.Sort

def zeroSt : List Value := .int .i64 0 :: .map none :: .map none :: (List.replicate 8 (.slice none 0 0) ++ (List.replicate 16 (.int .i64 0) ++ [.slice none 0 0]))
theorem zeroSt_info : (Tryz.prog.info? 142).map (fun i => (i.zero, i.size)) = some (some (.agg zeroSt.toArray), 28) := by kernel_rfl
def rowD (d : TypeDesc) : Bool := match d with | .struct _ | .array _ _ => true | _ => false
theorem descSt : ∃ d, Tryz.prog.underlying 142 = some d ∧ d.isRow = true ∧ (match d with | .struct _ | .array _ _ => true | _ => false) = true := by
  have h : (Tryz.prog.underlying 142).map (fun d => d.isRow && rowD d) = some true := by kernel_rfl
  obtain ⟨d, h1, h2⟩ := Option.map_eq_some_iff.1 h
  rw [Bool.and_eq_true] at h2
  exact ⟨d, h1, h2.1, h2.2⟩
theorem sizeSt : (Tryz.prog.info? 142).map (·.size) = some 28 := by kernel_rfl
set_option maxRecDepth 100000 in
set_option maxHeartbeats 1000000 in
theorem known_any {w : World} {ob : Nat} (L : List Value) (hL : L.length = 28) (hr : w.rangeAt ob 3 L) (ho : L.toArray.all (·.oneCell') = true) (hz : ob < w.heap.size) :
    Calls Tryz.prog 79 #[.pointer (some ⟨ob, 0, none⟩)] w fun e w' => e = .returned (.agg L.toArray) ∧ Below w.heap.size w w' := by
  obtain ⟨Z0, hZ0⟩ : ∃ Z0, Z0 = zeroSt.toArray := ⟨_, rfl⟩
  have hZ0s : Z0.size = 28 := by rw [hZ0]; rfl
  have hzv : ∀ W, (zeroValue 142).run Tryz.prog W = .ok (.agg Z0) W := (zero_of_info (n := 28) (by rw [hZ0]; exact zeroSt_info)).1
  have hZ0n : ¬ Z0 = #[] := fun e => by rw [e] at hZ0s; cases hZ0s
  obtain ⟨d, hd1, hd2, hd3⟩ := descSt
  have hLs : L.toArray.size = 28 := hL
  have hsz : (Tryz.prog.info? 142).map (·.size) = some L.length := by rw [hL]; exact sizeSt
  have hsz2 : (Tryz.prog.info? 142).map (·.size) = some L.toArray.size := hsz
  have hr1 : (w.alloc (.cells Z0 142)).rangeAt ob 3 L := fun j v hj => (((Below.refl _ w).alloc (Nat.le_refl _) (.cells Z0 142)).cell (p := ⟨ob, 3 + j, none⟩) hz).trans (hr j v hj)
  have hzs : ob < (w.alloc (.cells Z0 142)).heap.size := by simp; omega
  have HR := Lib.hid (Blk.new w 142 L.toArray)
  have HB := Lib.hid ((Below.refl _ w).alloc (Nat.le_refl _) (.cells L.toArray 142))
  clear hZ0 hr
  go_enter Tryz.func79, Tryz.ntmps79
  go_wp2_with (first
    | (refine wpList_load_mid rfl _ _ rfl ob 3 rfl L d hr1 hd1 hd2 hsz ?_)
    | (refine wpList_store_row rfl _ _ _ rfl w.heap.size L.toArray rfl rfl 142 Z0 (heap_alloc_new w _) hsz2 (by rw [hLs, hZ0s]) ho ?_))
  rw [World.setRow_alloc_new]
  refine bodyPost_ret (v := .agg L.toArray) (results_cell_row (d := d) Tryz.results79 _ _ w.heap.size _ _ _ rfl HR.out hd1 (by cases d <;> first | rfl | cases hd3) hsz2) rfl ⟨rfl, HB.out⟩
theorem st_range {w : World} {ob p u n hb lb : Nat} {id s1 r0 : Int} {b1 nv : Value} (hO : OB w ob p u n id hb lb b1 s1 r0 nv) : w.rangeAt ob 3 (stCells id hb lb b1 s1 r0 nv) := fun j v hj => by
  rw [hO.cell, Nat.add_comm]
  exact hj
theorem st_one {id s1 r0 : Int} {hb lb : Nat} {b1 nv : Value} (h1 : b1.oneCell' = true) (h2 : nv.oneCell' = true) : (stCells id hb lb b1 s1 r0 nv).toArray.all (·.oneCell') = true := all_oneCell_toArray (fun v hv => by
  simp only [stCells, List.mem_cons, List.not_mem_nil, or_false] at hv
  rcases hv with rfl | rfl | rfl | rfl | rfl | rfl | rfl | rfl | rfl | rfl | rfl | rfl | rfl | rfl | rfl | rfl | rfl | rfl | rfl | rfl | rfl | rfl | rfl | rfl | rfl | rfl | rfl | rfl <;> first | rfl | exact h1 | exact h2)
set_option maxRecDepth 100000 in
set_option maxHeartbeats 1000000 in
theorem held_any {w : World} {ob p u n hb lb nn : Nat} {id s1 r0 : Int} {b1 nv : Value} {f : Int → Option ByteArray} (hO : OB w ob p u n id hb lb b1 s1 r0 nv) (h1 : b1.oneCell' = true) (h2 : nv.oneCell' = true) (hM : MapS w hb nn f) (hnn : nn ≤ 1000000000) (hf : ∀ n, (f n).isSome = true → 0 ≤ n ∧ n ≤ 1000000) :
    Calls Tryz.prog 39 #[.pointer (some ⟨ob, 0, none⟩)] w fun e w' => ∃ (v : Value) (q : List Int), e = .returned v ∧ TokOwn w' w.heap.size v (q.map (heldTok f)) ∧ Hid (q.Pairwise (· < ·) ∧ ∀ n, n ∈ q ↔ (f n).isSome = true) ∧ Below w.heap.size w w' := by
  obtain ⟨Z0, hZ0⟩ : ∃ Z0, Z0 = zeroSt.toArray := ⟨_, rfl⟩
  have hZ0s : Z0.size = 28 := by rw [hZ0]; rfl
  have hzv : ∀ W, (zeroValue 142).run Tryz.prog W = .ok (.agg Z0) W := (zero_of_info (n := 28) (by rw [hZ0]; exact zeroSt_info)).1
  have hZ0n : ¬ Z0 = #[] := fun e => by rw [e] at hZ0s; cases hZ0s
  have hr := st_range hO
  have hone := st_one (id := id) (s1 := s1) (r0 := r0) (hb := hb) (lb := lb) h1 h2
  have hL1 : (stCells id hb lb b1 s1 r0 nv)[1]? = some (.map (some hb)) := rfl
  have hLl : (stCells id hb lb b1 s1 r0 nv).length = 28 := rfl
  generalize stCells id hb lb b1 s1 r0 nv = L at hr hone hL1 hLl
  have hLs : L.toArray.size = 28 := hLl
  have hsz2 : (Tryz.prog.info? 142).map (·.size) = some L.toArray.size := by rw [hLs]; exact sizeSt
  have HK := Lib.hid (known_any L hLl hr hone hO.lt)
  have HM := Lib.hid hM
  have HF := Lib.hid hf
  have HTK := Lib.hid (fun W (hW : Below w.heap.size w W) => tokens_any (w := W.alloc (.cells L.toArray 142)) (sb := W.heap.size) (by rw [Blk.cell (Blk.new W _ _)]; simpa using hL1) (by simp) (hM.below (hW.alloc hW.size _) hM.lt) hnn hf |>.mono (fun e w' h => And.intro h (hW.alloc hW.size (.cells L.toArray 142))))
  clear hZ0 hr hM hO hf h1 h2
  go_enter Tryz.func39, Tryz.ntmps39
  go_wp2_with fail
  refine HK.out.mono ?_
  rintro e wK ⟨rfl, hbK⟩
  have HBK := Lib.hid hbK
  clear hbK
  go_wp2_with (refine wpList_store_row rfl _ _ _ rfl wK.heap.size L.toArray rfl rfl 142 Z0 (heap_alloc_new wK _) hsz2 (by rw [hLs, hZ0s]) hone ?_)
  rw [World.setRow_alloc_new]
  refine (HTK.out wK HBK.out).mono ?_
  rintro e w2 ⟨⟨v, q, rfl, hT, hq, hb⟩, hB⟩
  have HT := Lib.hid (hT.low hB.size)
  have HB := Lib.hid (hB.trans (hb.mono hB.size))
  clear hT hb hB
  go_wp2_with fail
  go_ret
  exact ⟨v, q, rfl, HT.out, hq, HB.out⟩
end Go.Proofs.YthgfbaekmhpiaaaGreatDoor
namespace Go.Proofs.YthgfbaekmhpiaaaGreatDoor
open Go.RowKit Go.Shelf Go.Sort

theorem clone_row {tS e : TypeId} {n by' : Nat} {z : Value} (hrow : Tryz.prog.underlying tS = some (.slice e)) (hinfo : (Tryz.prog.info? e).map (fun i => (i.zero, i.size, i.bytes)) = some (some z, n, by')) (hzs : z.cells.size = n) (hn : 0 < n) (hby : by' ≤ 1000)
    {w : World} {g o : Nat} {k c : Nat} {cs : List Value} (hl : cs.length = k * n) (hk : k ≤ 1000000000) (hk0 : 0 < k) (hr : ∀ j u, cs[j]? = some u → w.cell? ⟨g, o + j, none⟩ = some u) (hg : g < w.heap.size) (h1 : ∀ u ∈ cs, u.oneCell' = true) :
    ∃ A' c' w', (Builtin.append_ #[tS, tS] tS #[.slice (some ⟨w.heap.size, 0, none⟩) 0 0, .slice (some ⟨g, o, none⟩) k c]).run Tryz.prog (w.alloc (.cells #[] e)) = .ok (.slice A' k c') w' ∧
      w'.ownsRow w.heap.size e n (.slice A' k c') k cs ∧ Below w.heap.size w w' := by
  obtain ⟨i0, hi, hz0, hz1, hz2⟩ := info_parts hinfo
  have h0 : (w.alloc (.cells #[] e)).ownsRow w.heap.size e n (.slice (some ⟨w.heap.size, 0, none⟩) 0 0) 0 [] := World.ownsRow_made w #[] 0 (Nat.le_refl _) (Nat.zero_le _) (by simp)
  have hB0 : Below w.heap.size w (w.alloc (.cells #[] e)) := (Below.refl _ _).alloc (Nat.le_refl _) _
  have hbn : k * by' ≤ 140737488355328 := by
    have h2 : k * by' ≤ k * 1000 := Nat.mul_le_mul_left _ hby
    omega
  obtain ⟨v', w', hrun, hO, hgr, _, _⟩ := run_append_own_at (P := Tryz.prog) (w.alloc (.cells #[] e)) w.heap.size tS tS e i0 z n by' hrow hi hz0 hz1 hz2 hzs hn (.slice (some ⟨w.heap.size, 0, none⟩) 0 0) 0 [] h0 ⟨g, o, none⟩ k c cs hl (fun j u hu => by
      rw [Addr.add_mid]
      exact (hB0.cell (p := ⟨g, o + j, none⟩) hg).trans (hr j u hu)) h1 (by unfold maxLen; omega) (by simpa using hbn) (by simp)
  rw [Nat.zero_add, List.nil_append] at hO
  have hB : Below w.heap.size w w' := hB0.trans ((Keeps.of_grown (S := fun k => k = w.heap.size) hgr (fun k hk _ => by simp [Value.ownBlock] at hk; exact hk.symm)).below (fun k hk e => by omega) (by simp))
  obtain ⟨A', c', rfl⟩ : ∃ A' c', v' = .slice A' k c' := by
    rcases hO.2 with ⟨rfl, h1⟩ | ⟨g', cap, cur, rfl, _⟩
    · omega
    · exact ⟨_, cap, rfl⟩
  exact ⟨A', c', w', hrun, hO, hB⟩
set_option maxHeartbeats 1000000 in
theorem clone_tok {w : World} {A : Option Addr} {c : Nat} {L : List Tok} (hT : TokAt w (.slice A L.length c) L) (h0 : 0 < L.length) (hl : L.length ≤ 1000000000) :
    Calls Tryz.prog 81 #[.slice A L.length c] w fun e w' => ∃ A' c', e = .returned (.slice A' L.length c') ∧ TokOwn w' w.heap.size (.slice A' L.length c') L ∧ Below w.heap.size w w' := by
  obtain ⟨A1, c1, h1, h2, h3⟩ := hT
  cases h1
  rcases h3 with h3 | ⟨g, o, rfl, hg, hr⟩
  · have : (L.flatMap tokCells).length = 0 := by rw [h3]; rfl
    have h4 : (L.flatMap tokCells).length = L.length * 2 := by
      clear hl h0 h2 h3 this
      induction L with
      | nil => rfl
      | cons a L ih => rw [List.flatMap_cons, List.length_append, ih, List.length_cons]; simp [tokCells]; omega
    omega
  · have h4 : (L.flatMap tokCells).length = L.length * 2 := by
      clear hl h0 h2 hr
      induction L with
      | nil => rfl
      | cons a L ih => rw [List.flatMap_cons, List.length_append, ih, List.length_cons]; simp [tokCells]; omega
    obtain ⟨A', c', w', hrun, hO, hB⟩ := clone_row (tS := 39) rowTok infoTok rfl (by decide) (by decide) (c := c) h4 hl h0 (fun j u hu => hr j u hu) hg (fun u hu => by
      rw [List.mem_flatMap] at hu
      obtain ⟨t, _, ht⟩ := hu
      simp only [tokCells, List.mem_cons, List.not_mem_nil, or_false] at ht
      rcases ht with rfl | rfl <;> rfl)
    have hO' : TokOwn w' w.heap.size (.slice A' L.length c') L := hO
    have HO := Lib.hid hO'
    have hne := fun w' => Lib.run_eql_slice_nil (P := Tryz.prog) w' 39 50 (some ⟨g, o, none⟩) L.length c 0 0 rowTok
    clear hO hO' hr h4
    go_enter Tryz.func81, Tryz.ntmps81
    go_wp2_with (at_builtin; refine Lib.wpList_append_run _ rfl _ _ _ _ rfl _ _ rfl rfl _ _ hrun ?_)
    go_ret
    exact ⟨A', c', rfl, HO.out, hB⟩
set_option maxHeartbeats 1000000 in
theorem clone_text {w : World} {base : Nat} {A : Option Addr} {c : Nat} {L : List Value} (hT : OwnT w base (.slice A L.length c) L) (h0 : 0 < L.length) (hl : L.length ≤ 1000000000) (h1 : ∀ u ∈ L, u.oneCell' = true) :
    Calls Tryz.prog 84 #[.slice A L.length c] w fun e w' => ∃ A' c', e = .returned (.slice A' L.length c') ∧ OwnT w' w.heap.size (.slice A' L.length c') L ∧ Below w.heap.size w w' := by
  obtain ⟨_, _, h3⟩ := row_lies hT
  rcases h3 with h3 | ⟨g, o, rfl, hg, hr⟩
  · rw [h3] at h0; simp at h0
  · obtain ⟨A', c', w', hrun, hO, hB⟩ := clone_row (tS := 70) rowText infoText rfl (by decide) (by decide) (c := c) (by rw [Nat.mul_one]) hl h0 (fun j u hu => hr j u hu) hg h1
    have hO' : OwnT w' w.heap.size (.slice A' L.length c') L := hO
    have HO := Lib.hid hO'
    have hne := fun w' => Lib.run_eql_slice_nil (P := Tryz.prog) w' 70 9 (some ⟨g, o, none⟩) L.length c 0 0 rowText
    clear hO hO' hr hT
    go_enter Tryz.func84, Tryz.ntmps84
    go_wp2_with (at_builtin; refine Lib.wpList_append_run _ rfl _ _ _ _ rfl _ _ rfl rfl _ _ hrun ?_)
    go_ret
    exact ⟨A', c', rfl, HO.out, hB⟩
theorem field_notes (id s1 r0 : Int) (hb lb : Nat) (A1 : Option Addr) (n1 c1 : Nat) (A : Option Addr) (n c : Nat) (W : World) : (Instr.field 142 (.agg (stCells id hb lb (.slice A1 n1 c1) s1 r0 (.slice A n c)).toArray) 6).run Tryz.prog W = .ok (.slice A n c) W := by kernel_rfl
theorem field_bags (id s1 r0 : Int) (hb lb : Nat) (A1 : Option Addr) (n1 c1 : Nat) (A : Option Addr) (n c : Nat) (W : World) : (Instr.field 142 (.agg (stCells id hb lb (.slice A1 n1 c1) s1 r0 (.slice A n c)).toArray) 3).run Tryz.prog W = .ok (bagArr (.slice A1 n1 c1)) W := by kernel_rfl
set_option maxRecDepth 100000 in
set_option maxHeartbeats 1000000 in
theorem notes_any {w : World} {ob p u n hb lb base : Nat} {id s1 r0 : Int} {A1 : Option Addr} {n1 c1 : Nat} {A : Option Addr} {c : Nat} {L : List Value} (hO : OB w ob p u n id hb lb (.slice A1 n1 c1) s1 r0 (.slice A L.length c)) (hT : OwnT w base (.slice A L.length c) L) (h0 : 0 < L.length) (hl : L.length ≤ 1000000000) (h2 : ∀ u ∈ L, u.oneCell' = true) :
    Calls Tryz.prog 43 #[.pointer (some ⟨ob, 0, none⟩)] w fun e w' => ∃ A' c', e = .returned (.slice A' L.length c') ∧ OwnT w' w.heap.size (.slice A' L.length c') L ∧ Below w.heap.size w w' := by
  have hr := st_range hO
  have hone := st_one (id := id) (s1 := s1) (r0 := r0) (hb := hb) (lb := lb) (b1 := .slice A1 n1 c1) (nv := .slice A L.length c) rfl rfl
  have HK := Lib.hid (known_any _ rfl hr hone hO.lt)
  have HC := Lib.hid (fun W (hW : Below w.heap.size w W) => clone_text (w := W) (hT.below hW) h0 hl h2 |>.mono (fun e w' h => And.intro h hW))
  have hfd := field_notes id s1 r0 hb lb A1 n1 c1 A L.length c
  simp only [stCells] at HK hfd
  clear hr hone hT hO h2
  go_enter Tryz.func43, Tryz.ntmps43
  go_wp2_with fail
  refine HK.out.mono ?_
  rintro e wK ⟨rfl, hbK⟩
  have HBK := Lib.hid hbK
  clear hbK
  go_wp2_with fail
  refine (HC.out wK HBK.out).mono ?_
  rintro e w2 ⟨⟨A', c', rfl, hT, hb⟩, hB⟩
  have HT := Lib.hid (Go.Joins.ownsRow_le hT hB.size)
  have HB := Lib.hid (hB.trans (hb.mono hB.size))
  clear hT hb hB
  go_wp2_with fail
  go_ret
  exact ⟨A', c', rfl, HT.out, HB.out⟩
end Go.Proofs.YthgfbaekmhpiaaaGreatDoor
namespace Go.Proofs.YthgfbaekmhpiaaaGreatDoor
open Go.RowKit Go.Shelf Go.Sort

set_option maxRecDepth 100000 in
set_option maxHeartbeats 2000000 in
theorem bags_none {w : World} {ob p u n hb lb : Nat} {id s1 r0 : Int} {A1 : Option Addr} {c1 : Nat} {A : Option Addr} {m c : Nat} (hO : OB w ob p u n id hb lb (.slice A1 0 c1) s1 r0 (.slice A m c)) :
    Calls Tryz.prog 40 #[.pointer (some ⟨ob, 0, none⟩)] w fun e w' => e = .returned (.slice none 0 0) ∧ Below w.heap.size w w' := by
  have hr := st_range hO
  have hone := st_one (id := id) (s1 := s1) (r0 := r0) (hb := hb) (lb := lb) (b1 := .slice A1 0 c1) (nv := .slice A m c) rfl rfl
  have HK := Lib.hid (known_any _ rfl hr hone hO.lt)
  have hfd := field_bags id s1 r0 hb lb A1 0 c1 A m c
  simp only [stCells, bagArr] at HK hfd
  clear hr hone hO
  go_enter Tryz.func40, Tryz.ntmps40
  go_wp2_with fail
  refine HK.out.mono ?_
  rintro e wK ⟨rfl, hbK⟩
  have HBK := Lib.hid hbK
  clear hbK
  go_wp2_with fail
  go_loopw [3, 11] (fun v i wr => v = .slice none 0 0 ∧ ∃ j : Nat, j ≤ 8 ∧ i = .int .i64 (j : Int) ∧ wr = wK) (fun _ i _ => 8 - (intOf i).toNat)
  case atStart => exact ⟨rfl, 0, by omega, rfl, rfl⟩
  case round =>
    obtain ⟨rfl, j, hj, rfl, rfl⟩ := hrel
    by_cases hlt : j < 8
    · have hji : (j : Int) < 8 := by omega
      have hix := index_bags A1 0 c1 hlt wr
      simp only [bagArr] at hix
      have HLT := Lib.hid hlt
      obtain ⟨A2, c2, hv⟩ : ∃ A2 c2, (if j = 1 then Value.slice A1 0 c1 else Value.slice none 0 0) = .slice A2 0 c2 := by by_cases h : j = 1 <;> simp [h]
      rw [hv] at hix
      clear hv
      go_wp2_with fail
      obtain ⟨wo, rfl⟩ : ∃ wo : World, wo = wr := ⟨_, rfl⟩
      go_loopw [3, 16] (fun v i wr2 => v = .slice none 0 0 ∧ i = .int .i64 0 ∧ wr2 = wo) (fun _ _ _ => 0)
      case atStart => exact ⟨rfl, rfl, rfl⟩
      case round =>
        obtain ⟨rfl, rfl, rfl⟩ := hrel
        go_wp2_with fail
        go_roundw
        case rel => exact ⟨rfl, j + 1, by have := HLT.out; omega, by go_num, trivial⟩
        case measure => exact meas_up _ _ HLT.out
    · have hji : ¬ (j : Int) < 8 := by omega
      go_wp2_with fail
      go_ret
      exact ⟨rfl, HBK.out⟩
set_option maxRecDepth 100000 in
set_option maxHeartbeats 4000000 in
theorem bags_one {w : World} {ob p u n hb lb base : Nat} {id s1 r0 : Int} {b1 : Value} {A : Option Addr} {m c : Nat} {b : BagV} {L : List Tok} (hO : OB w ob p u n id hb lb b1 s1 r0 (.slice A m c)) (hv : BagOwn w base b1 [b]) (A3 : Option Addr) (c3 : Nat) (hbt : b.toks = .slice A3 L.length c3) (hT : TokAt w b.toks L) (h0 : 0 < L.length) (hl : L.length ≤ 1000000000) :
    Calls Tryz.prog 40 #[.pointer (some ⟨ob, 0, none⟩)] w fun e w' => ∃ A' c' tv, e = .returned (.slice A' 1 c') ∧ BagOwn w' w.heap.size (.slice A' 1 c') [⟨b.src, b.dst, b.seq, tv⟩] ∧ TokOwn w' w.heap.size tv L ∧ Below w.heap.size w w' := by
  obtain ⟨g, cc, rfl, hcc, hgz, k0, k1, k2, k3⟩ := hv.one
  obtain ⟨bs, bd, bq, T⟩ := b
  dsimp only at hbt hT k0 k1 k2 k3 ⊢
  subst hbt
  have hr := st_range hO
  have hone := st_one (id := id) (s1 := s1) (r0 := r0) (hb := hb) (lb := lb) (b1 := .slice (some ⟨g, 0, none⟩) 1 cc) (nv := .slice A m c) rfl rfl
  have HK := Lib.hid (known_any _ rfl hr hone hO.lt)
  have hfd := field_bags id s1 r0 hb lb (some ⟨g, 0, none⟩) 1 cc A m c
  have HT := Lib.hid hT
  have HG := Lib.hid hgz
  have HK0 := Lib.hid k0
  have HK1 := Lib.hid k1
  have HK2 := Lib.hid k2
  have HK3 := Lib.hid k3
  simp only [stCells, bagArr] at HK hfd
  clear hr hone hO hv k0 k1 k2 k3 hT hgz
  go_enter Tryz.func40, Tryz.ntmps40
  go_wp2_with fail
  refine HK.out.mono ?_
  rintro e wK ⟨rfl, hbK⟩
  have HBK := Lib.hid hbK
  clear hbK
  go_wp2_with fail
  go_loopw [3, 11] (fun v i wr => ∃ (V : Value) (j : Nat), V = v ∧ j ≤ 8 ∧ i = .int .i64 (j : Int) ∧ Below w.heap.size w wr ∧ ((j ≤ 1 ∧ V = .slice none 0 0) ∨ (2 ≤ j ∧ ∃ A' c' tv, V = .slice A' 1 c' ∧ BagOwn wr w.heap.size (.slice A' 1 c') [⟨bs, bd, bq, tv⟩] ∧ TokOwn wr w.heap.size tv L))) (fun _ i _ => 8 - (intOf i).toNat)
  case atStart => exact ⟨_, 0, rfl, by omega, rfl, HBK.out, .inl ⟨by omega, rfl⟩⟩
  case round =>
    obtain ⟨V, j, rfl, hj, rfl, hb, hst⟩ := hrel
    have HBr := Lib.hid hb
    clear hb
    by_cases hlt : j < 8
    · have hji : (j : Int) < 8 := by omega
      have hix := index_bags (some ⟨g, 0, none⟩) 1 cc hlt wr
      simp only [bagArr] at hix
      have HLT := Lib.hid hlt
      by_cases h1 : j = 1
      · subst h1
        rw [if_pos rfl, show ((1 : Nat) : Int) = 1 from rfl] at hix
        rw [show ((1 : Nat) : Int) = 1 from rfl]
        obtain rfl : V = .slice none 0 0 := by
          rcases hst with ⟨_, e⟩ | ⟨h, _⟩
          · exact e
          · omega
        clear hst
        go_wp2_with fail
        obtain ⟨wo, rfl⟩ : ∃ wo : World, wo = wr := ⟨_, rfl⟩
        go_loopw [3, 16] (fun v2 i wr2 => (v2 = .slice none 0 0 ∧ i = .int .i64 0 ∧ wr2 = wo) ∨ (i = .int .i64 1 ∧ Below w.heap.size w wr2 ∧ ∃ A' c', v2 = .slice A' 1 c' ∧ ∃ tv, BagOwn wr2 w.heap.size (.slice A' 1 c') [⟨bs, bd, bq, tv⟩] ∧ TokOwn wr2 w.heap.size tv L)) (fun _ i _ => 1 - (intOf i).toNat)
        case atStart => exact .inl ⟨rfl, rfl, rfl⟩
        case round =>
          rcases hrel with ⟨rfl, rfl, rfl⟩ | ⟨rfl, hB2, A', c', rfl, tv, hBo, hTo⟩
          · have g0 := (HBr.out.cell (p := ⟨g, 0, none⟩) HG.out).trans HK0.out
            have g1 := (HBr.out.cell (p := ⟨g, 1, none⟩) HG.out).trans HK1.out
            have g2 := (HBr.out.cell (p := ⟨g, 2, none⟩) HG.out).trans HK2.out
            have g3 := (HBr.out.cell (p := ⟨g, 3, none⟩) HG.out).trans HK3.out
            have gz := Nat.lt_of_lt_of_le HG.out HBr.out.size
            have HC := Lib.hid (fun W (hW : Below w.heap.size w W) => clone_tok (w := W) (HT.out.below hW) h0 hl)
            have hX := Blk.new wr 41 #[.int .i64 bs, .int .i64 bd, .int .i64 bq, .slice A3 L.length c3]
            have HB3 := Lib.hid (HBr.out.alloc HBr.out.size (.cells #[.int .i64 bs, .int .i64 bd, .int .i64 bq, .slice A3 L.length c3] 41))
            have HXZ := Lib.hid HBr.out.size
            go_wp2_with fail
            generalize wr.alloc (.cells _ 41) = w3 at hX HB3 ⊢
            clear g0 g1 g2 g3 gz
            have HX := Lib.hid hX
            clear hX
            refine (HC.out w3 HB3.out).mono ?_
            rintro e w4 ⟨A5, c5, rfl, hT4, hb4⟩
            have hX4 := HX.out.below hb4 HX.out.lt
            have f3 := hX4.frozen 3
            have y3 := hX4.cell 3
            have xz := hX4.lt
            simp at y3
            have hX5 := hX4.set 3 (.slice A5 L.length c5)
            rw [List.setIfInBounds_toArray] at hX5
            simp only [List.set_cons_zero, List.set_cons_succ] at hX5
            have hK5 : Keeps (fun j => j = wr.heap.size) w4 (w4.setCell ⟨wr.heap.size, 3, none⟩ (.slice A5 L.length c5)) := (Keeps.refl (fun j => j = wr.heap.size) w4).setCell (p := ⟨wr.heap.size, 3, none⟩) (fun _ => rfl) _
            have hT5 : TokOwn (w4.setCell ⟨wr.heap.size, 3, none⟩ (.slice A5 L.length c5)) w.heap.size (.slice A5 L.length c5) L := (hT4.keep hK5 (fun i hi e => by have h1 := (World.ownsRow.lt hT4 i hi).1; have h2 := HX.out.lt; omega)).low HB3.out.size
            have hB5 : Below w.heap.size w (w4.setCell ⟨wr.heap.size, 3, none⟩ (.slice A5 L.length c5)) := (HB3.out.trans (hb4.mono HB3.out.size)).trans (hK5.below (fun k hk e => by have := HXZ.out; omega) (by have := HXZ.out; omega))
            clear hT4 hb4 hX4 hK5
            have HT5 := Lib.hid hT5
            have HB5 := Lib.hid hB5
            have HX5 := Lib.hid hX5
            clear hT5 hB5 hX5
            have z0 := HX5.out.cell 0
            have z1 := HX5.out.cell 1
            have z2 := HX5.out.cell 2
            have z3 := HX5.out.cell 3
            have zz := HX5.out.lt
            simp only [List.getElem?_toArray, List.getElem?_cons_zero, List.getElem?_cons_succ] at z0 z1 z2 z3
            obtain ⟨A6, c6, w6, hrun, hB6, hK6, _⟩ := append_bag (BagOwn.nil (w4.setCell ⟨wr.heap.size, 3, none⟩ (.slice A5 L.length c5)) w.heap.size) (by simp) HB5.out.size ⟨bs, bd, bq, .slice A5 L.length c5⟩ A5 L.length c5 rfl
            simp only [List.length_nil, Nat.zero_add, List.nil_append, bagCells] at hrun hB6
            rw [show (w4.setCell ⟨wr.heap.size, 3, none⟩ (.slice A5 L.length c5)).heap.size = w4.heap.size by simp [World.setCell]] at hrun
            have hK6' : Keeps (fun _ => False) (w4.setCell ⟨wr.heap.size, 3, none⟩ (.slice A5 L.length c5)) w6 := hK6.mono (fun k _ e => by simp [Value.ownBlock] at e)
            have HB6 := Lib.hid hB6
            have HT6 := Lib.hid (HT5.out.keep hK6' (fun _ _ e => e))
            have HBE := Lib.hid (HB5.out.trans (hK6'.below (B := w.heap.size) (fun _ _ e => e) HB5.out.size))
            clear hK6 hK6' hB6
            go_wp2_with (at_builtin; refine Lib.wpList_append_run _ rfl _ _ _ _ rfl _ _ rfl rfl _ _ hrun ?_)
            go_roundw
            case rel => exact .inr ⟨rfl, HBE.out, A6, c6, rfl, _, HB6.out, HT6.out⟩
            case measure => decide
          · have HBo := Lib.hid hBo
            have HTo := Lib.hid hTo
            have HB2 := Lib.hid hB2
            clear hBo hTo hB2
            go_wp2_with fail
            go_roundw
            case rel => exact ⟨_, 2, rfl, by omega, by go_num, HB2.out, .inr ⟨by omega, A', c', tv, rfl, HBo.out, HTo.out⟩⟩
            case measure => decide
      · rw [if_neg h1] at hix
        have HST := Lib.hid hst
        have H1 := Lib.hid h1
        clear hst h1
        go_wp2_with fail
        obtain ⟨wo, rfl⟩ : ∃ wo : World, wo = wr := ⟨_, rfl⟩
        go_loopw [3, 16] (fun v2 i wr2 => V = v2 ∧ i = .int .i64 0 ∧ wr2 = wo) (fun _ _ _ => 0)
        case atStart => exact ⟨rfl, rfl, rfl⟩
        case round =>
          obtain ⟨rfl, rfl, rfl⟩ := hrel
          go_wp2_with fail
          go_roundw
          case rel =>
            refine ⟨V, j + 1, rfl, by have := HLT.out; omega, by go_num, HBr.out, ?_⟩
            rcases HST.out with ⟨h, e⟩ | ⟨h, e⟩
            · exact .inl ⟨by have := H1.out; omega, e⟩
            · exact .inr ⟨by omega, e⟩
          case measure => exact meas_up _ _ HLT.out
    · have hji : ¬ (j : Int) < 8 := by omega
      rcases hst with ⟨h, _⟩ | ⟨_, A', c', tv, rfl, hB, hTv⟩
      · omega
      · have HBE := Lib.hid hB
        have HTE := Lib.hid hTv
        clear hB hTv
        go_wp2_with fail
        go_ret
        exact ⟨A', c', rfl, tv, HBE.out, HTE.out, HBr.out⟩
end Go.Proofs.YthgfbaekmhpiaaaGreatDoor
