/- Words for an office in memory, and the contracts of holds, of knows where nothing is known, of refusesToken where a token is new. Conditions: the office lies in memory. The contracts of refusesIds where one held token is named, and of refuses for entering a new token and for shipping a held one. Conditions: the office lies in memory. The contracts of awaits, matters and answer, for a bag from office 0 and for an acknowledgement from office 1. Conditions: the office lies in memory. The contract of refuses for a message that matters. Conditions: the office lies in memory. -/
import Derived.Test.YthgfbaekmhpiaaaGreatDoorOpA
import Derived.Test.YthgfbaekmhpiaaaGreatDoorOffA
import Derived.Laws.EntriesVeiled
namespace Go.Proofs.YthgfbaekmhpiaaaGreatDoor
open Go.RowKit Go.Shelf Go.Sort

theorem wpList_put {P : Program} (w : World) {ops : Array Oper} {rest : List Oper} {o : Oper} {a : Act} {Q : Exit → Act → World → Prop} (hg : o.guard = none) (m x v : Operand) (t : TypeId) (hop : o.op = Op.mapUpdate t m x v) {w' : World}
    (hrun : (Instr.mapUpdate t (a.eval m) (a.eval x) (a.eval v)).run P w = .ok () w') (hK : wpList P ops Q rest (a.put o.dst undef) w') : wpList P ops Q (o :: rest) a w := by
  refine wpList_plain hg fun K' hK' => ?_
  unfold Oper.wp
  simp [execOp, hop, hrun, Result.andThen]
  exact hK' _ _ hK
theorem wpList_look {P : Program} (w : World) {ops : Array Oper} {rest : List Oper} {o : Oper} {a : Act} {Q : Exit → Act → World → Prop} (hg : o.guard = none) (m x : Operand) (t : TypeId) (ok : Bool) (hop : o.op = Op.lookup t m x ok) {v : Value}
    (hrun : (Instr.lookup t (a.eval m) (a.eval x) ok).run P w = .ok v w) (hK : wpList P ops Q rest (a.put o.dst v) w) : wpList P ops Q (o :: rest) a w := by
  refine wpList_plain hg fun K' hK' => ?_
  unfold Oper.wp
  simp [execOp, hop, hrun, Result.andThen]
  exact hK' _ _ hK
/-- The cells of an office behind its journal's: it has bags for office 1 alone, has shipped s1 bags to it, and has received r0 bags from office 0. -/
def stCells (id : Int) (hb lb : Nat) (b1 : Value) (s1 r0 : Int) (nv : Value) : List Value :=
  [.int .i64 id, .map (some hb), .map (some lb), .slice none 0 0, b1, .slice none 0 0, .slice none 0 0, .slice none 0 0, .slice none 0 0, .slice none 0 0, .slice none 0 0,
   .int .i64 0, .int .i64 s1, .int .i64 0, .int .i64 0, .int .i64 0, .int .i64 0, .int .i64 0, .int .i64 0, .int .i64 r0, .int .i64 0, .int .i64 0, .int .i64 0, .int .i64 0, .int .i64 0, .int .i64 0, .int .i64 0, nv]
/-- The office's block. -/
def OB (w : World) (ob p u n : Nat) (id : Int) (hb lb : Nat) (b1 : Value) (s1 r0 : Int) (nv : Value) : Prop := OA 144 (stCells id hb lb b1 s1 r0 nv) w ob p u n
def ptrSt (ob : Nat) : Value := .pointer (some ⟨ob, 3, none⟩)
theorem intW {k : Int} (h : 0 ≤ k ∧ k ≤ 1000000) : -9223372036854775808 ≤ k ∧ k ≤ 9223372036854775807 := by omega
set_option maxRecDepth 100000 in
set_option maxHeartbeats 1000000 in
theorem holds_any {w : World} {ob hb nn : Nat} {f : Int → Option ByteArray} (hc : w.cell? ⟨ob, 4, none⟩ = some (.map (some hb))) (hz : ob < w.heap.size) (hM : MapS w hb nn f) (k : Int) (hk : 0 ≤ k ∧ k ≤ 1000000) :
    Calls Tryz.prog 140 #[.pointer (some ⟨ob, 3, none⟩), .int .i64 k] w fun e w' => e = .returned (.bool (f k).isSome) ∧ w = w' := by
  have hrun := hM.look_ok (intW hk)
  clear hM
  go_enter Tryz.func140, Tryz.ntmps140
  go_wp2_with (at_lookup; refine wpList_look w rfl _ _ _ _ rfl hrun ?_)
  go_ret
  exact ⟨rfl, rfl⟩
theorem indexFunc_nil (c : Nat) (fv : Value) (w : World) : Calls Tryz.prog 130 #[.slice none 0 0, fv] w fun e w' => e = .returned (.int .i64 (-1)) ∧ w = w' := by
  go_enter Tryz.func130, Tryz.ntmps130
  go_wp2_with fail
  go_loopw [8] (fun i wr => i = .int .i64 0 ∧ wr = w) (fun _ _ => 0)
  case atStart => exact ⟨rfl, rfl⟩
  case round =>
    obtain ⟨rfl, rfl⟩ := hrel
    go_wp2_with fail
    go_ret
    exact ⟨rfl, rfl⟩
theorem contFunc_nil (fv : Value) (w : World) : Calls Tryz.prog 168 #[.slice none 0 0, fv] w fun e w' => e = .returned (.bool false) ∧ w = w' := by
  have H := Lib.hid (indexFunc_nil 0 fv w)
  go_enter Tryz.func168, Tryz.ntmps168
  go_wp2_with fail
  refine H.out.mono ?_
  rintro e w1 ⟨rfl, rfl⟩
  go_wp2_with fail
  go_ret
  exact ⟨rfl, rfl⟩
/-- The bags for office 1 alone, as an array. -/
def bagArr (b1 : Value) : Value := .agg #[.slice none 0 0, b1, .slice none 0 0, .slice none 0 0, .slice none 0 0, .slice none 0 0, .slice none 0 0, .slice none 0 0]
theorem index_bags (A : Option Addr) (n c : Nat) {j : Nat} (hj : j < 8) (W : World) : (Instr.index 139 (bagArr (.slice A n c)) (.int .i64 (j : Int))).run Tryz.prog W = .ok (if j = 1 then .slice A n c else .slice none 0 0) W := by
  have h : j = 0 ∨ j = 1 ∨ j = 2 ∨ j = 3 ∨ j = 4 ∨ j = 5 ∨ j = 6 ∨ j = 7 := by omega
  unfold bagArr
  rcases h with rfl | rfl | rfl | rfl | rfl | rfl | rfl | rfl
  · exact (show (Instr.index 139 (.agg #[.slice none 0 0, .slice A n c, .slice none 0 0, .slice none 0 0, .slice none 0 0, .slice none 0 0, .slice none 0 0, .slice none 0 0]) (.int .i64 0)).run Tryz.prog W = .ok (.slice none 0 0) W by kernel_rfl)
  · exact (show (Instr.index 139 (.agg #[.slice none 0 0, .slice A n c, .slice none 0 0, .slice none 0 0, .slice none 0 0, .slice none 0 0, .slice none 0 0, .slice none 0 0]) (.int .i64 1)).run Tryz.prog W = .ok (.slice A n c) W by kernel_rfl)
  · exact (show (Instr.index 139 (.agg #[.slice none 0 0, .slice A n c, .slice none 0 0, .slice none 0 0, .slice none 0 0, .slice none 0 0, .slice none 0 0, .slice none 0 0]) (.int .i64 2)).run Tryz.prog W = .ok (.slice none 0 0) W by kernel_rfl)
  · exact (show (Instr.index 139 (.agg #[.slice none 0 0, .slice A n c, .slice none 0 0, .slice none 0 0, .slice none 0 0, .slice none 0 0, .slice none 0 0, .slice none 0 0]) (.int .i64 3)).run Tryz.prog W = .ok (.slice none 0 0) W by kernel_rfl)
  · exact (show (Instr.index 139 (.agg #[.slice none 0 0, .slice A n c, .slice none 0 0, .slice none 0 0, .slice none 0 0, .slice none 0 0, .slice none 0 0, .slice none 0 0]) (.int .i64 4)).run Tryz.prog W = .ok (.slice none 0 0) W by kernel_rfl)
  · exact (show (Instr.index 139 (.agg #[.slice none 0 0, .slice A n c, .slice none 0 0, .slice none 0 0, .slice none 0 0, .slice none 0 0, .slice none 0 0, .slice none 0 0]) (.int .i64 5)).run Tryz.prog W = .ok (.slice none 0 0) W by kernel_rfl)
  · exact (show (Instr.index 139 (.agg #[.slice none 0 0, .slice A n c, .slice none 0 0, .slice none 0 0, .slice none 0 0, .slice none 0 0, .slice none 0 0, .slice none 0 0]) (.int .i64 6)).run Tryz.prog W = .ok (.slice none 0 0) W by kernel_rfl)
  · exact (show (Instr.index 139 (.agg #[.slice none 0 0, .slice A n c, .slice none 0 0, .slice none 0 0, .slice none 0 0, .slice none 0 0, .slice none 0 0, .slice none 0 0]) (.int .i64 7)).run Tryz.prog W = .ok (.slice none 0 0) W by kernel_rfl)
set_option maxRecDepth 100000 in
set_option maxHeartbeats 4000000 in
theorem knows_no {w : World} {ob p u n hb lb nn nl : Nat} {id s1 r0 : Int} {nv : Value} {f : Int → Option ByteArray} (hO : OB w ob p u n id hb lb (.slice none 0 0) s1 r0 nv) (hM : MapS w hb nn f) (hL : SetAt 3 w lb nl (fun _ => false)) (k : Int) (hk : 0 ≤ k ∧ k ≤ 1000000) (hf : f k = none) :
    Calls Tryz.prog 139 #[.pointer (some ⟨ob, 3, none⟩), .int .i64 k] w fun e w' => e = .returned (.bool false) ∧ Below w.heap.size w w' := by
  have HB1 := Lib.hid ((Below.refl _ w).alloc (Nat.le_refl _) (.cells #[.int .i64 k] 3))
  have hO1 := Blk.alloc hO (.cells #[.int .i64 k] 3)
  have HM1 := Lib.hid (hM.below HB1.out hM.lt)
  have HL1 := Lib.hid (hL.below HB1.out hL.lt)
  have kk := Blk.new w 3 #[.int .i64 k]
  clear hO hM hL
  go_enter Tryz.func139, Tryz.ntmps139
  go_upto_region 1 with fail
  generalize w.alloc (.cells #[.int .i64 k] 3) = w1 at HB1 hO1 HM1 HL1 kk ⊢
  have c4 := hO1.cell 4
  have c5 := hO1.cell 5
  have zo := hO1.lt
  simp [stCells] at c4 c5
  have k0 := kk.cell 0
  have zk := kk.lt
  simp at k0
  have HS : Hid (∀ W, Below w1.heap.size w1 W → W.cell? ⟨w.heap.size, 0, none⟩ = some (.int .i64 k) ∧ W.cell? ⟨ob, 5, none⟩ = some (.map (some lb)) ∧ (Instr.lookup 138 (.map (some lb)) (.int .i64 k) false).run Tryz.prog W = .ok (.bool false) W) := Lib.hid fun W hW =>
    ⟨(hW.cell (p := ⟨w.heap.size, 0, none⟩) zk).trans k0, (hW.cell (p := ⟨ob, 5, none⟩) zo).trans c5, (HL1.out.below hW HL1.out.lt).look lawInt mapBoolRow (keyInt (intW hk))⟩
  have HH : Hid (∀ W, Below w1.heap.size w1 W → Calls Tryz.prog 140 #[.pointer (some ⟨ob, 3, none⟩), .int .i64 k] W fun e w' => e = .returned (.bool false) ∧ W = w') := Lib.hid fun W hW => by
    have h := holds_any (w := W) ((hW.cell (p := ⟨ob, 4, none⟩) zo).trans c4) (Nat.lt_of_lt_of_le zo hW.size) (HM1.out.below hW HM1.out.lt) k hk
    rw [hf] at h
    exact h
  have HO1 := Lib.hid hO1
  have d0 := HS.out w1.drew (below_drx (Below.refl _ _))
  clear hO1 kk c4 c5 k0
  go_cut [18] (fun v wx => v = .bool false ∧ Below w1.heap.size w1 wx)
  case first =>
    go_region_held3 (fun W => W.cell? ⟨w.heap.size, 0, none⟩ = some (.int .i64 k) ∧ W.cell? ⟨ob, 5, none⟩ = some (.map (some lb)) ∧ (Instr.lookup 138 (.map (some lb)) (.int .i64 k) false).run Tryz.prog W = .ok (.bool false) W)
      (exact HS.out _ (by repeat (first | (with_reducible assumption) | (with_reducible exact Below.refl _ _) | (with_reducible refine below_drx ?_) | (with_reducible refine below_alx ?_ _))))
      (first | (go_at_call 140; refine (HH.out _ (by repeat (first | (with_reducible assumption) | (with_reducible exact Below.refl _ _) | (with_reducible refine below_drx ?_) | (with_reducible refine below_alx ?_ _)))).mono ?_; rintro e wH ⟨rfl, rfl⟩))
    all_goals
      go_wp2_with fail
      go_meet
      exact ⟨rfl, below_drx (Below.refl _ _)⟩
  case rest =>
    obtain ⟨rfl, hb⟩ := hcut
    have HB2 := Lib.hid (HB1.out.trans (hb.mono HB1.out.size))
    have HO2 := Lib.hid (Blk.below HO1.out hb zo)
    clear hb HS HH d0
    have hO2 := HO2.out
    have c6 := hO2.cell 6
    have c7 := hO2.cell 7
    have c8 := hO2.cell 8
    have c9 := hO2.cell 9
    have c10 := hO2.cell 10
    have c11 := hO2.cell 11
    have c12 := hO2.cell 12
    have c13 := hO2.cell 13
    have zo2 := hO2.lt
    simp [stCells] at c6 c7 c8 c9 c10 c11 c12 c13
    clear hO2
    go_upto_region 4 with fail
    go_wp2_with fail
    go_loopw [24] (fun i wr => ∃ j : Nat, j ≤ 8 ∧ i = .int .i64 (j : Int) ∧ Below w.heap.size w wr) (fun i _ => 8 - (intOf i).toNat)
    case atStart => exact ⟨0, by omega, rfl, HB2.out.alloc HB2.out.size _⟩
    case round =>
      obtain ⟨j, hj, rfl, hb⟩ := hrel
      have HBr := Lib.hid hb
      clear hb
      by_cases hlt : j < 8
      · have hji : (j : Int) < 8 := by omega
        have hix := index_bags none 0 0 hlt wr
        rw [ite_self] at hix
        simp only [bagArr] at hix
        have HCF := Lib.hid (fun fv W => contFunc_nil fv W)
        have HLT := Lib.hid hlt
        go_wp2_with fail
        refine (HCF.out _ _).mono ?_
        rintro e w5 ⟨rfl, rfl⟩
        go_wp2_with fail
        go_roundw
        case rel => exact ⟨j + 1, by have := HLT.out; omega, by go_num, HBr.out⟩
        case measure => exact meas_up _ _ HLT.out
      · have hji : ¬ (j : Int) < 8 := by omega
        go_wp2_with fail
        go_ret
        exact ⟨rfl, HBr.out⟩
set_option maxRecDepth 100000 in
set_option maxHeartbeats 2000000 in
theorem refusesToken_new {w : World} {ob p u n hb lb nn nl : Nat} {id s1 r0 : Int} {nv : Value} {f : Int → Option ByteArray} (hO : OB w ob p u n id hb lb (.slice none 0 0) s1 r0 nv) (hM : MapS w hb nn f) (hL : SetAt 3 w lb nl (fun _ => false)) (x : OpV) (hk : x.kind = 1) (ht : isTokenB x.tok = true) (hf : f x.tok.id = none) :
    Calls Tryz.prog 121 #[.pointer (some ⟨ob, 3, none⟩), opVal x] w fun e w' => e = .returned (.int .i64 0) ∧ Below w.heap.size w w' := by
  obtain ⟨kd, o, ⟨i, b⟩, dest, ids, word, bag, note⟩ := x
  dsimp only at hk hf
  subst hk
  have hi : 0 ≤ i ∧ i ≤ 1000000 := by
    unfold isTokenB inB at ht
    simp at ht
    omega
  have HIT := Lib.hid (fun W => isToken_any ⟨i, b⟩ W)
  rw [ht] at HIT
  have HKN := Lib.hid (fun W (hW : Below w.heap.size w W) => knows_no (w := W) (Blk.below hO hW hO.lt) (hM.below hW hM.lt) (hL.below hW hL.lt) i hi hf)
  have HB1 := Lib.hid ((Below.refl _ w).alloc (Nat.le_refl _) (.cells (opCells ⟨1, o, ⟨i, b⟩, dest, ids, word, bag, note⟩).toArray 155))
  have HX1 := Lib.hid (Blk.new w 155 (opCells ⟨1, o, ⟨i, b⟩, dest, ids, word, bag, note⟩).toArray)
  simp only [tokVal, tokCells] at HIT
  unfold opVal
  simp only [opCells] at HB1 HX1
  dsimp only
  clear hO hM hL ht hf hi
  go_enter Tryz.func121, Tryz.ntmps121
  go_upto_region 1 with fail
  generalize w.alloc _ = w1 at HB1 HX1 ⊢
  have x0 := HX1.out.cell 0
  have x2 := HX1.out.cell 2
  have x3 := HX1.out.cell 3
  have zx := HX1.out.lt
  simp at x0 x2 x3
  go_wp2_with fail
  refine (HIT.out _).mono ?_
  rintro e w2 ⟨rfl, rfl⟩
  have HB2 := Lib.hid (HB1.out.alloc HB1.out.size (.cells #[.int .i64 i, .string b] 50))
  go_wp2_with fail
  refine (HKN.out _ HB2.out).mono ?_
  rintro e w3 ⟨rfl, hb⟩
  have HX3 := Lib.hid ((HX1.out.alloc (.cells #[.int .i64 i, .string b] 50)).below hb (by simp; omega))
  have HB3 := Lib.hid (HB2.out.trans (hb.mono HB2.out.size))
  clear hb x0 x2 x3 zx HX1 HB1 HB2 HKN HIT
  have x0 := HX3.out.cell 0
  have zx := HX3.out.lt
  simp at x0
  go_wp2_with fail
  go_ret
  exact ⟨rfl, HB3.out⟩
end Go.Proofs.YthgfbaekmhpiaaaGreatDoor
namespace Go.Proofs.YthgfbaekmhpiaaaGreatDoor
open Go.RowKit Go.Shelf Go.Sort

theorem index_none (A : Option Addr) (c : Nat) (x : Int) (w : World) : Calls Tryz.prog 171 #[.slice A 0 c, .int .i64 x] w fun e w' => e = .returned (.int .i64 (-1)) ∧ w = w' := by
  go_enter Tryz.func171, Tryz.ntmps171
  go_wp2_with fail
  go_loopw [8] (fun i wr => i = .int .i64 0 ∧ wr = w) (fun _ _ => 0)
  case atStart => exact ⟨rfl, rfl⟩
  case round =>
    obtain ⟨rfl, rfl⟩ := hrel
    go_wp2_with fail
    go_ret
    exact ⟨rfl, rfl⟩
theorem contains_none (A : Option Addr) (c : Nat) (x : Int) (w : World) : Calls Tryz.prog 141 #[.slice A 0 c, .int .i64 x] w fun e w' => e = .returned (.bool false) ∧ w = w' := by
  have H := Lib.hid (index_none A c x w)
  go_enter Tryz.func141, Tryz.ntmps141
  go_wp2_with fail
  refine H.out.mono ?_
  rintro e w1 ⟨rfl, rfl⟩
  go_wp2_with fail
  go_ret
  exact ⟨rfl, rfl⟩
set_option maxRecDepth 100000 in
set_option maxHeartbeats 4000000 in
theorem refusesIds_one {w : World} {ob hb nn : Nat} {f : Int → Option ByteArray} (hc : w.cell? ⟨ob, 4, none⟩ = some (.map (some hb))) (hz : ob < w.heap.size) (hM : MapS w hb nn f) (x : OpV) (i : Int) (hI : IntsAt w x.ids [i]) (hi : 0 ≤ i ∧ i ≤ 1000000) (hf : (f i).isSome = true) (hn : x.note.size ≤ 8000) :
    Calls Tryz.prog 122 #[.pointer (some ⟨ob, 3, none⟩), opVal x] w fun e w' => e = .returned (.int .i64 0) ∧ Below w.heap.size w w' := by
  obtain ⟨kd, o, ⟨ti, tb⟩, dest, ids, word, bag, note⟩ := x
  dsimp only at hI hn
  have HI0 := Lib.hid hI
  obtain ⟨A, c, rfl, hlc, _⟩ := hI
  have HRN := Lib.hid (fun W => refusesNote_any note W)
  rw [if_neg (by omega)] at HRN
  have HW3 : Hid (∀ W, Calls Tryz.prog 45 #[.int .i64 1, .int .i64 1, .int .i64 8] W fun e w' => e = .returned (.bool true) ∧ W = w') := Lib.hid (fun W => within3_any 1 1 8 W)
  have HCN := Lib.hid (fun A c x W => contains_none A c x W)
  have HHD : Hid (∀ W, Below w.heap.size w W → Calls Tryz.prog 140 #[.pointer (some ⟨ob, 3, none⟩), .int .i64 i] W fun e w' => e = .returned (.bool true) ∧ W = w') := Lib.hid fun W hW => by
    have h := holds_any (w := W) ((hW.cell (p := ⟨ob, 4, none⟩) hz).trans hc) (Nat.lt_of_lt_of_le hz hW.size) (hM.below hW hM.lt) i hi
    rw [hf] at h
    exact h
  have HB1 := Lib.hid ((Below.refl _ w).alloc (Nat.le_refl _) (.cells (opCells ⟨kd, o, ⟨ti, tb⟩, dest, .slice A [i].length c, word, bag, note⟩).toArray 155))
  have HX1 := Lib.hid (Blk.new w 155 (opCells ⟨kd, o, ⟨ti, tb⟩, dest, .slice A [i].length c, word, bag, note⟩).toArray)
  unfold opVal
  simp only [opCells] at HB1 HX1
  simp only [List.length_cons, List.length_nil, Nat.zero_add] at HB1 HX1 HI0 ⊢
  clear hM hn hc
  go_enter Tryz.func122, Tryz.ntmps122
  go_upto_region 1 with fail
  generalize w.alloc _ = w1 at HB1 HX1 ⊢
  have x5 := HX1.out.cell 5
  have x11 := HX1.out.cell 11
  have zx := HX1.out.lt
  simp at x5 x11
  have HIW := Lib.hid (HI0.out.below HB1.out)
  obtain ⟨g, oo, rfl, hg, hcg⟩ := HIW.out.cell (k := 0) (x := i) rfl
  rw [Nat.add_zero] at hcg
  go_wp2_with fail
  refine (HW3.out _).mono ?_
  rintro e w2 ⟨rfl, rfl⟩
  go_wp2_with fail
  refine (HRN.out _).mono ?_
  rintro e w2 ⟨rfl, rfl⟩
  go_wp2_with fail
  go_loopw [24] (fun j wr => (j = .int .i64 0 ∨ j = .int .i64 1) ∧ wr = w1) (fun j _ => 1 - (intOf j).toNat)
  case atStart => exact ⟨.inl rfl, rfl⟩
  case round =>
    obtain ⟨rfl | rfl, rfl⟩ := hrel
    · go_wp2_with fail
      refine (HCN.out _ _ _ _).mono ?_
      rintro e w2 ⟨rfl, rfl⟩
      go_wp2_with fail
      go_roundw
      case rel => exact ⟨.inr rfl, trivial⟩
      case measure => decide
    · go_wp2_with fail
      go_loopw [39] (fun j wq => (j = .int .i64 0 ∨ j = .int .i64 1) ∧ wq = wr) (fun j _ => 1 - (intOf j).toNat)
      case atStart => exact ⟨.inl rfl, rfl⟩
      case round =>
        obtain ⟨rfl | rfl, rfl⟩ := hrel
        · go_wp2_with fail
          refine (HHD.out _ HB1.out).mono ?_
          rintro e w2 ⟨rfl, rfl⟩
          go_wp2_with fail
          go_roundw
          case rel => exact ⟨.inr rfl, trivial⟩
          case measure => decide
        · go_wp2_with fail
          go_ret
          exact ⟨rfl, HB1.out⟩
set_option maxRecDepth 100000 in
set_option maxHeartbeats 4000000 in
theorem refuses_enter {w : World} {ob p u n hb lb nn nl : Nat} {id s1 r0 : Int} {nv : Value} {f : Int → Option ByteArray} (hO : OB w ob p u n id hb lb (.slice none 0 0) s1 r0 nv) (hM : MapS w hb nn f) (hL : SetAt 3 w lb nl (fun _ => false)) (x : OpV) (hk : x.kind = 1) (ht : isTokenB x.tok = true) (hf : f x.tok.id = none) (hn : x.note.size ≤ 8000) (A : Option Addr) (ni c : Nat) (hids : x.ids = .slice A ni c) (A2 : Option Addr) (nt c2 : Nat) (htoks : x.bag.toks = .slice A2 nt c2) :
    Calls Tryz.prog 104 #[.pointer (some ⟨ob, 3, none⟩), opVal x] w fun e w' => e = .returned (.int .i64 0) ∧ Below w.heap.size w w' := by
  have HRT := Lib.hid (fun W (hW : Below w.heap.size w W) => refusesToken_new (w := W) (Blk.below hO hW hO.lt) (hM.below hW hM.lt) (hL.below hW hL.lt) x hk ht hf)
  have HRN := Lib.hid (fun W => refusesNote_any x.note W)
  rw [if_neg (by omega)] at HRN
  obtain ⟨kd, o, ⟨i, b⟩, dest, ids, word, ⟨s, d, q, T⟩, note⟩ := x
  dsimp only at hk hids htoks HRN
  subst hk hids htoks
  have HB1 := Lib.hid ((Below.refl _ w).alloc (Nat.le_refl _) (.cells (opCells ⟨1, o, ⟨i, b⟩, dest, .slice A ni c, word, ⟨s, d, q, .slice A2 nt c2⟩, note⟩).toArray 155))
  have HX1 := Lib.hid (Blk.new w 155 (opCells ⟨1, o, ⟨i, b⟩, dest, .slice A ni c, word, ⟨s, d, q, .slice A2 nt c2⟩, note⟩).toArray)
  unfold opVal at HRT ⊢
  simp only [opCells] at HB1 HX1
  dsimp only at HRT ⊢
  clear hO hM hL ht hf hn
  go_enter Tryz.func104, Tryz.ntmps104
  go_upto_region 1 with fail
  generalize w.alloc _ = w1 at HB1 HX1 ⊢
  have x0 := HX1.out.cell 0
  have x1 := HX1.out.cell 1
  have x2 := HX1.out.cell 2
  have x3 := HX1.out.cell 3
  have x4 := HX1.out.cell 4
  have x5 := HX1.out.cell 5
  have x6 := HX1.out.cell 6
  have x7 := HX1.out.cell 7
  have x8 := HX1.out.cell 8
  have x9 := HX1.out.cell 9
  have x10 := HX1.out.cell 10
  have x11 := HX1.out.cell 11
  have zx := HX1.out.lt
  simp at x0 x1 x2 x3 x4 x5 x6 x7 x8 x9 x10 x11
  go_wp2_with fail
  refine (HRT.out _ HB1.out).mono ?_
  rintro e w2 ⟨rfl, hb⟩
  have HX2 := Lib.hid (HX1.out.below hb HX1.out.lt)
  have HB2 := Lib.hid (HB1.out.trans (hb.mono HB1.out.size))
  clear hb HX1 HB1 HRT x0 x1 x2 x3 x4 x5 x6 x7 x8 x9 x10 x11 zx
  have x11 := HX2.out.cell 11
  have zx := HX2.out.lt
  simp at x11
  go_wp2_with fail
  refine (HRN.out _).mono ?_
  rintro e w3 ⟨rfl, rfl⟩
  go_wp2_with fail
  go_ret
  exact ⟨rfl, HB2.out⟩
set_option maxRecDepth 100000 in
set_option maxHeartbeats 4000000 in
theorem refuses_ship {w : World} {ob p u n hb lb nn : Nat} {b1 : Value} {s1 r0 : Int} {nv : Value} {f : Int → Option ByteArray} (hO : OB w ob p u n 0 hb lb b1 s1 r0 nv) (hM : MapS w hb nn f) (hs1 : 0 ≤ s1 ∧ s1 < 1000000) (x : OpV) (hk : x.kind = 4) (hd : x.dest = 1) (i : Int) (hI : IntsAt w x.ids [i]) (hi : 0 ≤ i ∧ i ≤ 1000000) (hf : (f i).isSome = true) (hn : x.note.size ≤ 8000) (A2 : Option Addr) (nt c2 : Nat) (htoks : x.bag.toks = .slice A2 nt c2) :
    Calls Tryz.prog 104 #[.pointer (some ⟨ob, 3, none⟩), opVal x] w fun e w' => e = .returned (.int .i64 0) ∧ Below w.heap.size w w' := by
  have hc4 := hO.cell 4
  simp [stCells] at hc4
  have HRI := Lib.hid (fun W (hW : Below w.heap.size w W) => refusesIds_one (w := W) ((hW.cell (p := ⟨ob, 4, none⟩) hO.lt).trans hc4) (Nat.lt_of_lt_of_le hO.lt hW.size) (hM.below hW hM.lt) x i (hI.below hW) hi hf hn)
  have HOF : Hid (∀ W, Calls Tryz.prog 76 #[.int .i64 1] W fun e w' => e = .returned (.bool true) ∧ W = w') := Lib.hid (fun W => isOffice_any 1 W)
  obtain ⟨A, c, hids, _⟩ := hI
  obtain ⟨kd, o, ⟨ti, tb⟩, dest, ids, word, ⟨s, d, q, T⟩, note⟩ := x
  dsimp only at hk hids htoks hd
  subst hk hids htoks hd
  have HO := Lib.hid hO
  have HB1 := Lib.hid ((Below.refl _ w).alloc (Nat.le_refl _) (.cells (opCells ⟨4, o, ⟨ti, tb⟩, 1, .slice A [i].length c, word, ⟨s, d, q, .slice A2 nt c2⟩, note⟩).toArray 155))
  have HX1 := Lib.hid (Blk.new w 155 (opCells ⟨4, o, ⟨ti, tb⟩, 1, .slice A [i].length c, word, ⟨s, d, q, .slice A2 nt c2⟩, note⟩).toArray)
  unfold opVal at HRI ⊢
  simp only [opCells] at HB1 HX1
  simp only [List.length_cons, List.length_nil, Nat.zero_add] at HB1 HX1 HRI ⊢
  clear hO hM hf hn hc4
  go_enter Tryz.func104, Tryz.ntmps104
  go_upto_region 1 with fail
  generalize w.alloc _ = w1 at HB1 HX1 ⊢
  have hO1 := Blk.below HO.out HB1.out HO.out.lt
  have o3 := hO1.cell 3
  have o15 := hO1.cell 15
  have zo := hO1.lt
  simp [stCells] at o3 o15
  clear hO1
  have x0 := HX1.out.cell 0
  have x1 := HX1.out.cell 1
  have x2 := HX1.out.cell 2
  have x3 := HX1.out.cell 3
  have x4 := HX1.out.cell 4
  have x5 := HX1.out.cell 5
  have x6 := HX1.out.cell 6
  have x7 := HX1.out.cell 7
  have x8 := HX1.out.cell 8
  have x9 := HX1.out.cell 9
  have x10 := HX1.out.cell 10
  have x11 := HX1.out.cell 11
  have zx := HX1.out.lt
  simp at x0 x1 x2 x3 x4 x5 x6 x7 x8 x9 x10 x11
  go_upto_region 12 with fail
  have HS12 : Hid (∀ m : Nat, (w1.drewN m).cell? ⟨w.heap.size, 4, none⟩ = some (.int .i64 1) ∧ (w1.drewN m).cell? ⟨ob, 3, none⟩ = some (.int .i64 0)) := Lib.hid (fun m => ⟨x4, o3⟩)
  clear HS12
  refine wp_region_quiet_below (by kernel_rfl) (by kernel_rfl) ?_
  have gx4 := fun d' os => cell_regrown x4 d' os
  have go3 := fun d' os => cell_regrown o3 d' os
  have gx15 := fun d' os => cell_regrown o15 d' os
  have hgr : ∀ d' (os : Array Obj), w1.heap.size ≤ (grow (redrawn w1 d') os).heap.size := fun d' os => (below_regrown w1 d' os).size
  repeat (go_big_quiet_step (first | (go_at_call 76; exact Calls.regrown_of ((HOF.out _).mono (fun _ _ h => ⟨h.1, by rw [← h.2]; exact Below.refl _ _⟩)))))
  refine wpQuiet_nil ?_
  intro _ hw'
  obtain ⟨⟨dq, osq⟩, hw''⟩ := hw'
  subst hw''
  have hb2 := below_regrown w1 dq osq
  have HX2 := Lib.hid (HX1.out.below hb2 HX1.out.lt)
  have HB2 := Lib.hid (HB1.out.trans (hb2.mono HB1.out.size))
  have o15b := gx15 dq osq
  have zo2 : ob < (grow (redrawn w1 dq) osq).heap.size := Nat.lt_of_lt_of_le zo hb2.size
  generalize grow (redrawn w1 dq) osq = w2 at HX2 HB2 o15b zo2 ⊢
  clear x0 x1 x2 x3 x4 x5 x6 x7 x8 x9 x10 x11 zx HX1 HB1 o3 o15 zo gx4 go3 gx15 hgr hb2
  have x4 := HX2.out.cell 4
  have zx := HX2.out.lt
  simp at x4
  have hs1' : ¬ (1000000 : Int) ≤ s1 := by omega
  go_upto_region 14 with fail
  go_quiet (fail)
  have HX3 := Lib.hid (HX2.out.drewN nq)
  have HB3 : Hid (Below w.heap.size w (w2.drewN nq)) := Lib.hid (below_dr HB2.out nq)
  generalize w2.drewN nq = w3 at HX3 HB3 ⊢
  clear HX2 HB2 o15b zo2 x4 zx
  have x0 := HX3.out.cell 0
  have x1 := HX3.out.cell 1
  have x2 := HX3.out.cell 2
  have x3 := HX3.out.cell 3
  have x4 := HX3.out.cell 4
  have x5 := HX3.out.cell 5
  have x6 := HX3.out.cell 6
  have x7 := HX3.out.cell 7
  have x8 := HX3.out.cell 8
  have x9 := HX3.out.cell 9
  have x10 := HX3.out.cell 10
  have x11 := HX3.out.cell 11
  have zx := HX3.out.lt
  simp at x0 x1 x2 x3 x4 x5 x6 x7 x8 x9 x10 x11
  go_wp2_with fail
  refine (HRI.out _ HB3.out).mono ?_
  rintro e w4 ⟨rfl, hb⟩
  have HB4 := Lib.hid (HB3.out.trans (hb.mono HB3.out.size))
  clear hb
  go_wp2_with fail
  go_ret
  exact ⟨rfl, HB4.out⟩
end Go.Proofs.YthgfbaekmhpiaaaGreatDoor
namespace Go.Proofs.YthgfbaekmhpiaaaGreatDoor
open Go.RowKit Go.Shelf Go.Sort

theorem okN3 {a b c : Int} (ha : 0 ≤ a ∧ a ≤ 9223372036854775807) (hb : 0 ≤ b ∧ b ≤ 9223372036854775807) (hc : 0 ≤ c ∧ c ≤ 9223372036854775807) : OkN [a, b, c] := fun n hn => by
  rcases List.mem_cons.1 hn with rfl | hn
  · exact ha
  · exact okN2 hb hc n hn
/-- v is a slice of the bags L, of one's own. -/
def BagOwn (w : World) (base : Nat) (v : Value) (L : List BagV) : Prop := w.ownsRow base 41 4 v L.length (L.flatMap bagCells)
theorem BagOwn.nil (w : World) (base : Nat) : BagOwn w base (.slice none 0 0) [] := ⟨rfl, .inl ⟨rfl, rfl⟩⟩
theorem BagOwn.keep {S : Nat → Prop} {w w' : World} {base : Nat} {v : Value} {L : List BagV} (h : BagOwn w base v L) (hk : Keeps S w w') (hS : ∀ i, v.ownBlock = some i → ¬ S i) : BagOwn w' base v L := by
  have hl := World.ownsRow.lt h
  refine ⟨h.1, ?_⟩
  rcases h.2 with h0 | ⟨g, cap, cur, rfl, hbb, hg, rest⟩
  · exact .inl h0
  · exact .inr ⟨g, cap, cur, rfl, hbb, (hk.block g (hl g rfl).2 (hS g rfl)).trans hg, rest⟩
theorem BagOwn.below {w w' : World} {base : Nat} {v : Value} {L : List BagV} (h : BagOwn w base v L) (hb : Below w.heap.size w w') : BagOwn w' base v L := ownsRow_kept' h hb
theorem BagOwn.one {w : World} {base : Nat} {v : Value} {b : BagV} (h : BagOwn w base v [b]) : ∃ g c, v = .slice (some ⟨g, 0, none⟩) 1 c ∧ 1 ≤ c ∧ g < w.heap.size ∧ w.cell? ⟨g, 0, none⟩ = some (.int .i64 b.src) ∧ w.cell? ⟨g, 1, none⟩ = some (.int .i64 b.dst) ∧ w.cell? ⟨g, 2, none⟩ = some (.int .i64 b.seq) ∧ w.cell? ⟨g, 3, none⟩ = some b.toks := by
  have hlt := World.ownsRow.lt h
  have h0 := h
  unfold BagOwn at h0
  rcases h0.2 with ⟨_, h1⟩ | ⟨g, cap, cur, rfl, _, _, hc, _, _, _⟩
  · simp at h1
  · have hh := fun k (hk : k < 4) => World.ownsRow.cellAt h0 k (by simpa using hk)
    exact ⟨g, cap, rfl, by simpa using hc, (hlt g rfl).2, by have := hh 0 (by omega); simpa [bagCells] using this, by have := hh 1 (by omega); simpa [bagCells] using this, by have := hh 2 (by omega); simpa [bagCells] using this, by have := hh 3 (by omega); simpa [bagCells] using this⟩
set_option maxRecDepth 100000 in
set_option maxHeartbeats 1000000 in
theorem awaits_bag (v0 : Value) (s d q : Int) (A : Option Addr) (n c : Nat) (w : World) :
    Calls Tryz.prog 112 #[v0, msgVal bagW ⟨s, d, q, .slice A n c⟩] w fun e w' => e = .returned (.int .i64 (-1)) ∧ Below w.heap.size w w' := by
  have kB := Blk.new w 109 (msgCells bagW ⟨s, d, q, .slice A n c⟩).toArray
  have HB0 := Lib.hid ((Below.refl _ w).alloc (Nat.le_refl _) (.cells (msgCells bagW ⟨s, d, q, .slice A n c⟩).toArray 109))
  unfold msgVal
  simp only [msgCells, bagW] at kB HB0 ⊢
  go_enter Tryz.func112, Tryz.ntmps112
  go_wp2_with fail
  generalize w.alloc _ = w0 at kB HB0 ⊢
  have b0 := kB.cell 0
  have bl := kB.lt
  simp at b0
  go_wp2_with fail
  go_ret
  exact ⟨rfl, HB0.out⟩
theorem isSeq_any {w : World} {X : Nat} (q : Int) (hx : w.cell? ⟨X, 3, none⟩ = some (.int .i64 q)) (hz : X < w.heap.size) (b : BagV) (A : Option Addr) (n c : Nat) (hb : b.toks = .slice A n c) :
    Calls Tryz.prog 131 #[bagVal b, .pointer (some ⟨X, 0, none⟩)] w fun e w' => e = .returned (.bool (b.seq == q)) ∧ Below w.heap.size w w' := by
  obtain ⟨s, d, r, T⟩ := b
  dsimp only at hb
  subst hb
  have kB := Blk.new w 41 (bagCells ⟨s, d, r, .slice A n c⟩).toArray
  have HB0 := Lib.hid ((Below.refl _ w).alloc (Nat.le_refl _) (.cells (bagCells ⟨s, d, r, .slice A n c⟩).toArray 41))
  have hx0 := (HB0.out.cell (p := ⟨X, 3, none⟩) hz).trans hx
  have hz0 := Nat.lt_of_lt_of_le hz HB0.out.size
  unfold bagVal
  simp only [bagCells] at kB HB0 hx0 hz0 ⊢
  go_enter Tryz.func131, Tryz.ntmps131
  go_wp2_with fail
  generalize w.alloc _ = w0 at kB HB0 hx0 hz0 ⊢
  have b2 := kB.cell 2
  have bl := kB.lt
  simp at b2
  go_wp2_with fail
  go_ret
  exact ⟨rfl, HB0.out⟩
set_option maxRecDepth 100000 in
set_option maxHeartbeats 1000000 in
theorem indexFunc_one {w : World} {base X : Nat} {v : Value} {b : BagV} (hv : BagOwn w base v [b]) (A : Option Addr) (n c : Nat) (hbt : b.toks = .slice A n c) (hx : w.cell? ⟨X, 3, none⟩ = some (.int .i64 b.seq)) (hz : X < w.heap.size) :
    Calls Tryz.prog 130 #[v, .func (.func 131) #[] #[.pointer (some ⟨X, 0, none⟩)]] w fun e w' => e = .returned (.int .i64 0) ∧ Below w.heap.size w w' := by
  obtain ⟨g, cc, rfl, hcc, hg, c0, c1, c2, c3⟩ := hv.one
  have HS := Lib.hid (isSeq_any b.seq hx hz b A n c hbt)
  rw [beq_self_eq_true] at HS
  obtain ⟨s, d, r, T⟩ := b
  dsimp only at hbt c0 c1 c2 c3 HS
  subst hbt
  unfold bagVal at HS
  dsimp only at HS
  clear hv hx hz
  go_enter Tryz.func130, Tryz.ntmps130
  go_wp2_with fail
  go_loopw [8] (fun i wr => i = .int .i64 0 ∧ wr = w) (fun _ _ => 0)
  case atStart => exact ⟨rfl, rfl⟩
  case round =>
    obtain ⟨rfl, rfl⟩ := hrel
    go_wp2_with fail
    refine HS.out.mono ?_
    rintro e w1 ⟨rfl, hb⟩
    have HB := Lib.hid hb
    clear hb
    go_wp2_with fail
    go_ret
    exact ⟨rfl, HB.out⟩
set_option maxRecDepth 100000 in
set_option maxHeartbeats 2000000 in
theorem awaits_got {w : World} {ob base : Nat} {b1 : Value} {b : BagV} (hc : w.cell? ⟨ob, 7, none⟩ = some b1) (hz : ob < w.heap.size) (hv : BagOwn w base b1 [b]) (A3 : Option Addr) (n3 c3 : Nat) (hbt : b.toks = .slice A3 n3 c3) (s d q : Int) (hs : s = 1) (hq : q = b.seq) (A : Option Addr) (n c : Nat) :
    Calls Tryz.prog 112 #[.pointer (some ⟨ob, 3, none⟩), msgVal gotW ⟨s, d, q, .slice A n c⟩] w fun e w' => e = .returned (.int .i64 0) ∧ Below w.heap.size w w' := by
  subst hs hq
  have kB := Blk.new w 109 (msgCells gotW ⟨1, d, b.seq, .slice A n c⟩).toArray
  have HB0 := Lib.hid ((Below.refl _ w).alloc (Nat.le_refl _) (.cells (msgCells gotW ⟨1, d, b.seq, .slice A n c⟩).toArray 109))
  have hv0 := hv.below HB0.out
  have hc0 := (HB0.out.cell (p := ⟨ob, 7, none⟩) hz).trans hc
  have hz0 := Nat.lt_of_lt_of_le hz HB0.out.size
  clear hc hz hv
  unfold msgVal
  simp only [msgCells, gotW] at kB HB0 hc0 hz0 hv0 ⊢
  go_enter Tryz.func112, Tryz.ntmps112
  go_upto_region 1 with fail
  generalize w.alloc _ = w0 at kB HB0 hc0 hz0 hv0 ⊢
  have x0 := kB.cell 0
  have x1 := kB.cell 1
  have x3 := kB.cell 3
  have bl := kB.lt
  simp at x0 x1 x3
  have HIF := Lib.hid (fun W (hW : Below w0.heap.size w0 W) => indexFunc_one (w := W) (X := w.heap.size) (hv0.below hW) A3 n3 c3 hbt ((hW.cell (p := ⟨w.heap.size, 3, none⟩) bl).trans x3) (Nat.lt_of_lt_of_le bl hW.size))
  obtain ⟨g1, cc, rfl, _⟩ := hv0.one
  clear hv0 kB
  go_upto_region 3 with fail
  have gx1 := fun d' os => cell_regrown x1 d' os
  have gc0 := fun d' os => cell_regrown hc0 d' os
  have hgr : ∀ d' (os : Array Obj), w0.heap.size ≤ (grow (redrawn w0 d') os).heap.size := fun d' os => (below_regrown w0 d' os).size
  have HWg := Lib.hid (fun d' os => below_regrown w0 d' os)
  clear x0 x1 x3 hc0
  refine wp_region_quiet_below (by kernel_rfl) (by kernel_rfl) ?_
  repeat (go_big_quiet_step (first | (go_at_call 130; exact Calls.regrown_of (HIF.out _ (HWg.out _ _)))))
  refine wpQuiet_nil ?_
  intro _ hw'
  obtain ⟨⟨dq, osq⟩, hw''⟩ := hw'
  subst hw''
  go_wp2_with fail
  go_ret
  exact ⟨rfl, HB0.out.trans ((HWg.out _ _).mono HB0.out.size)⟩
set_option maxRecDepth 100000 in
set_option maxHeartbeats 2000000 in
theorem matters_bag {w : World} {ob : Nat} (r0 : Int) (hc : w.cell? ⟨ob, 22, none⟩ = some (.int .i64 r0)) (hz : ob < w.heap.size) (hr : 0 ≤ r0 ∧ r0 ≤ 1000000) (s d q : Int) (hs : s = 0) (A : Option Addr) (n c : Nat) :
    Calls Tryz.prog 88 #[.pointer (some ⟨ob, 3, none⟩), msgVal bagW ⟨s, d, q, .slice A n c⟩] w fun e w' => e = .returned (.bool (q == r0 + 1)) ∧ Below w.heap.size w w' := by
  subst hs
  have kB := Blk.new w 109 (msgCells bagW ⟨0, d, q, .slice A n c⟩).toArray
  have HB0 := Lib.hid ((Below.refl _ w).alloc (Nat.le_refl _) (.cells (msgCells bagW ⟨0, d, q, .slice A n c⟩).toArray 109))
  have hc0 := (HB0.out.cell (p := ⟨ob, 22, none⟩) hz).trans hc
  have hz0 := Nat.lt_of_lt_of_le hz HB0.out.size
  clear hc hz
  unfold msgVal
  simp only [msgCells, bagW] at kB HB0 hc0 hz0 ⊢
  go_enter Tryz.func88, Tryz.ntmps88
  go_upto_region 1 with fail
  generalize w.alloc _ = w0 at kB HB0 hc0 hz0 ⊢
  have x0 := kB.cell 0
  have x1 := kB.cell 1
  have x3 := kB.cell 3
  have bl := kB.lt
  simp at x0 x1 x3
  clear kB
  go_upto_region 2 with fail
  go_quiet (fail)
  go_wp2_with fail
  go_ret
  exact ⟨ret_bool (by rw [Bool.eq_iff_iff]), below_dr HB0.out nq⟩
set_option maxRecDepth 100000 in
set_option maxHeartbeats 2000000 in
theorem matters_got {w : World} {ob base : Nat} {b1 : Value} {b : BagV} (hc : w.cell? ⟨ob, 7, none⟩ = some b1) (hz : ob < w.heap.size) (hv : BagOwn w base b1 [b]) (A3 : Option Addr) (n3 c3 : Nat) (hbt : b.toks = .slice A3 n3 c3) (s d q : Int) (hs : s = 1) (hq : q = b.seq) (A : Option Addr) (n c : Nat) :
    Calls Tryz.prog 88 #[.pointer (some ⟨ob, 3, none⟩), msgVal gotW ⟨s, d, q, .slice A n c⟩] w fun e w' => e = .returned (.bool true) ∧ Below w.heap.size w w' := by
  have kB := Blk.new w 109 (msgCells gotW ⟨s, d, q, .slice A n c⟩).toArray
  have HB0 := Lib.hid ((Below.refl _ w).alloc (Nat.le_refl _) (.cells (msgCells gotW ⟨s, d, q, .slice A n c⟩).toArray 109))
  have HAW := Lib.hid (awaits_got (w := w.alloc (.cells (msgCells gotW ⟨s, d, q, .slice A n c⟩).toArray 109)) ((HB0.out.cell (p := ⟨ob, 7, none⟩) hz).trans hc) (Nat.lt_of_lt_of_le hz HB0.out.size) (hv.below HB0.out) A3 n3 c3 hbt s d q hs hq A n c)
  clear hc hz hv hs hq
  unfold msgVal at HAW ⊢
  simp only [msgCells, gotW] at kB HB0 HAW ⊢
  go_enter Tryz.func88, Tryz.ntmps88
  go_upto_region 1 with fail
  generalize w.alloc _ = w0 at kB HB0 HAW ⊢
  have x0 := kB.cell 0
  have x1 := kB.cell 1
  have x2 := kB.cell 2
  have x3 := kB.cell 3
  have x4 := kB.cell 4
  have bl := kB.lt
  simp at x0 x1 x2 x3 x4
  clear kB
  go_wp2_with fail
  refine HAW.out.mono ?_
  rintro e w1 ⟨rfl, hb⟩
  have HB1 := Lib.hid (HB0.out.trans (hb.mono HB0.out.size))
  clear hb
  go_wp2_with fail
  go_ret
  exact ⟨rfl, HB1.out⟩
set_option maxRecDepth 100000 in
set_option maxHeartbeats 2000000 in
theorem answer_got (v0 : Value) (s d q : Int) (A : Option Addr) (n c : Nat) (w : World) :
    Calls Tryz.prog 89 #[v0, msgVal gotW ⟨s, d, q, .slice A n c⟩] w fun e w' => e = .returned (.string ⟨#[]⟩) ∧ Below w.heap.size w w' := by
  have kB := Blk.new w 109 (msgCells gotW ⟨s, d, q, .slice A n c⟩).toArray
  have HB0 := Lib.hid ((Below.refl _ w).alloc (Nat.le_refl _) (.cells (msgCells gotW ⟨s, d, q, .slice A n c⟩).toArray 109))
  unfold msgVal
  simp only [msgCells, gotW] at kB HB0 ⊢
  go_enter Tryz.func89, Tryz.ntmps89
  go_upto_region 1 with fail
  generalize w.alloc _ = w0 at kB HB0 ⊢
  have x0 := kB.cell 0
  have bl := kB.lt
  simp at x0
  clear kB
  go_quiet (fail)
  go_wp2_with fail
  go_ret
  exact ⟨rfl, below_dr HB0.out nq⟩
set_option maxRecDepth 100000 in
set_option maxHeartbeats 4000000 in
theorem answer_bag {w : World} {ob : Nat} (id r0 : Int) (hid : w.cell? ⟨ob, 3, none⟩ = some (.int .i64 id)) (hc : w.cell? ⟨ob, 22, none⟩ = some (.int .i64 r0)) (hz : ob < w.heap.size) (hP : PowAt w) (hI : 0 ≤ id ∧ id ≤ 7) (s d q : Int) (hs : s = 0) (hq : 0 ≤ q ∧ q ≤ 1000000) (hqr : q ≤ r0) (A : Option Addr) (n c : Nat) :
    Calls Tryz.prog 89 #[.pointer (some ⟨ob, 3, none⟩), msgVal bagW ⟨s, d, q, .slice A n c⟩] w fun e w' => e = .returned (.string (ba (msgL gotW.data.toList ⟨id, 0, q, .slice none 0 0⟩ []))) ∧ Below w.heap.size w w' := by
  subst hs
  have kB := Blk.new w 109 (msgCells bagW ⟨0, d, q, .slice A n c⟩).toArray
  have HB0 := Lib.hid ((Below.refl _ w).alloc (Nat.le_refl _) (.cells (msgCells bagW ⟨0, d, q, .slice A n c⟩).toArray 109))
  have hc0 := (HB0.out.cell (p := ⟨ob, 22, none⟩) hz).trans hc
  have hi0 := (HB0.out.cell (p := ⟨ob, 3, none⟩) hz).trans hid
  have hz0 := Nat.lt_of_lt_of_le hz HB0.out.size
  have HTX := Lib.hid (fun W (hW : Below w.heap.size w W) => msgText_any gotW ⟨id, 0, q, .slice none 0 0⟩ [] W ⟨none, 0, rfl, Nat.le_refl _, .inl rfl⟩ (hP.below hW) (okN3 (a := id) (b := 0) (c := q) ⟨hI.1, by omega⟩ ⟨by omega, by omega⟩ ⟨hq.1, by omega⟩) (fun t ht => by cases ht) (by decide) (by decide) (by decide))
  generalize ba (msgL gotW.data.toList ⟨id, 0, q, .slice none 0 0⟩ []) = TT at HTX ⊢
  clear hc hz hid hP hI
  unfold msgVal at HTX ⊢
  simp only [msgCells, bagW] at kB HB0 hc0 hi0 hz0 ⊢
  simp only [gotW] at HTX
  go_enter Tryz.func89, Tryz.ntmps89
  go_upto_region 1 with fail
  generalize w.alloc _ = w0 at kB HB0 hc0 hi0 hz0 ⊢
  have x0 := kB.cell 0
  have x1 := kB.cell 1
  have x3 := kB.cell 3
  have bl := kB.lt
  simp at x0 x1 x3
  have hgd : decide (r0 < q) = false := decide_eq_false (by omega)
  have hgd2 : ¬ r0 < q := by omega
  clear kB
  go_quiet (fail)
  have HB1 : Hid (Below w.heap.size w (w0.drewN nq)) := Lib.hid (below_dr HB0.out nq)
  have y1 : (w0.drewN nq).cell? ⟨w.heap.size, 1, none⟩ = _ := x1
  have y3 : (w0.drewN nq).cell? ⟨w.heap.size, 3, none⟩ = _ := x3
  have yi : (w0.drewN nq).cell? ⟨ob, 3, none⟩ = _ := hi0
  have zb : w.heap.size < (w0.drewN nq).heap.size := bl
  have zo : ob < (w0.drewN nq).heap.size := hz0
  generalize w0.drewN nq = w1 at HB1 y1 y3 yi zb zo ⊢
  clear x0 x1 x3 hi0 hc0 hz0 bl HB0
  go_upto_region 3 with fail
  have gy1 := fun d' os => cell_regrown y1 d' os
  have gy3 := fun d' os => cell_regrown y3 d' os
  have gyi := fun d' os => cell_regrown yi d' os
  have hgr : ∀ d' (os : Array Obj), w1.heap.size ≤ (grow (redrawn w1 d') os).heap.size := fun d' os => (below_regrown w1 d' os).size
  have HWg := Lib.hid (fun d' os => HB1.out.trans ((below_regrown w1 d' os).mono HB1.out.size))
  clear y1 y3 yi
  refine wp_region_quiet_below (by kernel_rfl) (by kernel_rfl) ?_
  repeat (go_big_quiet_step (first | (go_at_call 57; exact Calls.regrown_of (HTX.out _ (HWg.out _ _)))))
  refine wpQuiet_nil ?_
  intro _ hw'
  obtain ⟨⟨dq, osq⟩, hw''⟩ := hw'
  subst hw''
  go_wp2_with fail
  go_ret
  exact ⟨rfl, HWg.out _ _⟩
end Go.Proofs.YthgfbaekmhpiaaaGreatDoor
namespace Go.Proofs.YthgfbaekmhpiaaaGreatDoor
open Go.RowKit Go.Shelf Go.Sort

set_option maxRecDepth 100000 in
set_option maxHeartbeats 4000000 in
theorem refuses_hear {w : World} {ob : Nat} {id : Int} (hid : w.cell? ⟨ob, 3, none⟩ = some (.int .i64 id)) (hz : ob < w.heap.size) (x : OpV) (hk : x.kind = 5) (hd : x.bag.dst = id) (hn : x.note.size ≤ 8000) (A : Option Addr) (ni c : Nat) (hids : x.ids = .slice A ni c) (A2 : Option Addr) (nt c2 : Nat) (htoks : x.bag.toks = .slice A2 nt c2)
    (hmt : ∀ W, Below w.heap.size w W → Calls Tryz.prog 88 #[.pointer (some ⟨ob, 3, none⟩), msgVal x.word x.bag] W fun e w' => e = .returned (.bool true) ∧ Below W.heap.size W w') :
    Calls Tryz.prog 104 #[.pointer (some ⟨ob, 3, none⟩), opVal x] w fun e w' => e = .returned (.int .i64 0) ∧ Below w.heap.size w w' := by
  have HRN := Lib.hid (fun W => refusesNote_any x.note W)
  rw [if_neg (by omega)] at HRN
  obtain ⟨kd, o, ⟨i, b⟩, dest, ids, word, ⟨s, d, q, T⟩, note⟩ := x
  dsimp only at hk hids htoks HRN hd hmt
  subst hk hids htoks hd
  have HMT := Lib.hid hmt
  have HB1 := Lib.hid ((Below.refl _ w).alloc (Nat.le_refl _) (.cells (opCells ⟨5, o, ⟨i, b⟩, dest, .slice A ni c, word, ⟨s, d, q, .slice A2 nt c2⟩, note⟩).toArray 155))
  have HX1 := Lib.hid (Blk.new w 155 (opCells ⟨5, o, ⟨i, b⟩, dest, .slice A ni c, word, ⟨s, d, q, .slice A2 nt c2⟩, note⟩).toArray)
  have oi := (HB1.out.cell (p := ⟨ob, 3, none⟩) hz).trans hid
  have zo := Nat.lt_of_lt_of_le hz HB1.out.size
  unfold opVal
  simp only [opCells] at HB1 HX1 oi zo
  simp only [msgVal] at HMT
  dsimp only
  clear hmt hn hid hz
  go_enter Tryz.func104, Tryz.ntmps104
  go_upto_region 1 with fail
  generalize w.alloc _ = w1 at HB1 HX1 oi zo ⊢
  have x0 := HX1.out.cell 0
  have x8 := HX1.out.cell 8
  have zx := HX1.out.lt
  simp at x0 x8
  go_upto_region 18 with fail
  go_quiet (fail)
  have HX3 := Lib.hid (HX1.out.drewN nq)
  have HB3 : Hid (Below w.heap.size w (w1.drewN nq)) := Lib.hid (below_dr HB1.out nq)
  generalize w1.drewN nq = w3 at HX3 HB3 ⊢
  clear HX1 HB1 oi zo x0 x8 zx
  have x6 := HX3.out.cell 6
  have x7 := HX3.out.cell 7
  have x8 := HX3.out.cell 8
  have x9 := HX3.out.cell 9
  have x10 := HX3.out.cell 10
  have zx := HX3.out.lt
  simp at x6 x7 x8 x9 x10
  go_wp2_with fail
  refine (HMT.out _ HB3.out).mono ?_
  rintro e w4 ⟨rfl, hb⟩
  have HX4 := Lib.hid (HX3.out.below hb HX3.out.lt)
  have HB4 := Lib.hid (HB3.out.trans (hb.mono HB3.out.size))
  clear hb HX3 HB3 x6 x7 x8 x9 x10 zx
  have x11 := HX4.out.cell 11
  have zx := HX4.out.lt
  simp at x11
  go_wp2_with fail
  refine (HRN.out _).mono ?_
  rintro e w5 ⟨rfl, rfl⟩
  go_wp2_with fail
  go_ret
  exact ⟨rfl, HB4.out⟩
end Go.Proofs.YthgfbaekmhpiaaaGreatDoor
