/- The contracts of number and of the closure that cutter returns, where they find what they look for. Conditions: lengths; the text variable lies in memory. Slices of one's own, of tokens and of bags: one more is added. No conditions. The contract of readMessage on the text of a valid message. Conditions: its word has no blank; its numbers are not less than 0; lengths; the library's table of powers of ten lies as the program's text lays it. -/
import Derived.Test.YthgfbaekmhpiaaaGreatDoorStdA
import Derived.StillTail
import Derived.StillTailTactics
import Derived.Test.YthgfbaekmhpiaaaGreatDoorJouA
import Derived.Deep.RegionHeld3
namespace Go.Proofs.YthgfbaekmhpiaaaGreatDoor
open Go.RowKit Go.Shelf
attribute [local go_sem] Oper.semAt_some

set_option maxRecDepth 100000 in
set_option maxHeartbeats 1000000 in
theorem number_ok (s : ByteArray) (hmax : s.size ≤ 9223372036854775806) (v : Int) (h : Lib.atoiAll s.data.toList = .ok v) (w : World) :
    Calls Tryz.prog 98 #[.string s] w fun e w' => e = .returned (.int .i64 v) ∧ Below w.heap.size w w' := by
  have hat := Any.strconv_Atoi_ok laysC172 s hmax v h w
  go_enter Tryz.func98, Tryz.ntmps98
  go_wp2_with fail
  refine hat.mono ?_
  rintro e w1 ⟨rfl, hw⟩
  have hB : Below w.heap.size w w1 := by
    rcases hw with rfl | ⟨t, rfl⟩
    · exact Below.refl _ _
    · exact Lib.bytesWorld_below _ _ _
  go_wp2_with fail
  all_goals
    go_ret
    exact ⟨rfl, hB⟩
def aggD : TypeDesc → Bool
  | .struct _ => true
  | _ => false
theorem results_agg {fn : Func} {p : Tmp} {ty : TypeId} (h : fn.results = #[.cell p ty]) (hu : (Tryz.prog.underlying ty).map aggD = some true) {n : Nat} (hi : (Tryz.prog.info? ty).map (·.size) = some n) {tmps : Array Value} {w : World} {g : Nat} {t : TypeId} {cs : Array Value}
    (hg : Blk w g t cs) (hz : cs.size = n) (hp : tmps.getD p undef = .pointer (some ⟨g, 0, none⟩)) : (results fn tmps).run Tryz.prog w = .ok (.agg cs) w := by
  cases hu' : Tryz.prog.underlying ty with
  | none => rw [hu'] at hu; cases hu
  | some d =>
    rw [hu'] at hu
    have hd : aggD d = true := by simpa using hu
    exact results_cell_row h tmps w g _ cs (0, 0) d hp hg hu' (by cases d <;> first | rfl | cases hd) (by rw [hz]; exact hi)
/-- A text variable tb, and the closure's own variable cb, which points to it. -/
structure CutAt (w : World) (cb tb : Nat) (l : List UInt8) : Prop where
  ptr : Blk w cb 170 #[.pointer (some ⟨tb, 0, none⟩)]
  txt : Blk w tb 9 #[.string (ba l)]
  ne : cb ≠ tb
theorem CutAt.drew {w : World} {cb tb : Nat} {l : List UInt8} (h : CutAt w cb tb l) : CutAt w.drew cb tb l := ⟨h.ptr, h.txt, h.ne⟩
theorem CutAt.below {w w' : World} {cb tb : Nat} {l : List UInt8} (h : CutAt w cb tb l) (hb : Below w.heap.size w w') : CutAt w' cb tb l := ⟨h.ptr.below hb h.ptr.lt, h.txt.below hb h.txt.lt, h.ne⟩
theorem CutAt.keep {S : Nat → Prop} {w w' : World} {cb tb : Nat} {l : List UInt8} (h : CutAt w cb tb l) (hk : Keeps S w w') (h1 : ¬ S cb) (h2 : ¬ S tb) : CutAt w' cb tb l := ⟨h.ptr.keep hk h1, h.txt.keep hk h2, h.ne⟩
theorem ext_ba (l : List UInt8) (i j : Nat) : (ba l).extract i j = ba ((l.take j).drop i) := by
  apply ByteArray.ext
  apply Array.toList_inj.1
  simp [ba, ByteArray.data_extract, List.drop_take]
set_option maxRecDepth 100000 in
set_option maxHeartbeats 1000000 in
theorem cut1_ok {w : World} {cb tb : Nat} (pre rest : List UInt8) (n : Nat) (c : UInt8) (h : CutAt w cb tb (pre ++ c :: rest)) (hn : n ≤ pre.length) (hc : c ∉ pre.drop n) (hl : (pre ++ c :: rest).length ≤ 1000000000000000) :
    Calls Tryz.prog 116 #[.int .i64 (n : Int), .string ⟨#[c]⟩, .pointer (some ⟨cb, 0, none⟩)] w fun e w' => e = .returned (.string (ba pre)) ∧ CutAt w' cb tb rest ∧ Keeps (fun i => i = tb) w w' := by
  obtain ⟨s, hs⟩ : ∃ s, s = pre ++ c :: rest := ⟨_, rfl⟩
  have hsl : s.length = pre.length + 1 + rest.length := by rw [hs]; simp; omega
  have hx1 : (ba s).extract n (ba s).size = ba (pre.drop n ++ c :: rest) := by
    rw [ext_ba, ba_size, List.take_length, hs, List.drop_append_of_le_length hn]
  have hix : Lib.indexByte (ba (pre.drop n ++ c :: rest)).data.toList c = ((pre.length - n : Nat) : Int) := by
    rw [ba_list, ib_at c _ _ hc, List.length_drop]
  have hx2 : (ba s).extract 0 pre.length = ba pre := by
    rw [ext_ba, hs, List.drop_zero, List.take_left' rfl]
  have hx3 : (ba s).extract (pre.length + 1) (ba s).size = ba rest := by
    rw [ext_ba, ba_size, List.take_length, hs]
    congr 1
    rw [List.drop_append, List.drop_of_length_le (by omega), show pre.length + 1 - pre.length = 1 by omega]
    rfl
  have HC : Hid (∀ W, Calls Tryz.prog 117 #[.string (ba (pre.drop n ++ c :: rest)), .string ⟨#[c]⟩] W fun e w' => e = .returned (.bool true) ∧ W = w') := Lib.hid (fun W => (contains_any _ c W).mono (fun _ _ h => ⟨h.1.trans (by rw [hix]; simp), h.2⟩))
  obtain ⟨j, hj⟩ : ∃ j, pre.length = n + j := ⟨pre.length - n, by omega⟩
  have HI : Hid (∀ W, Calls Tryz.prog 118 #[.string (ba (pre.drop n ++ c :: rest)), .string ⟨#[c]⟩] W fun e w' => e = .returned (.int .i64 (j : Int)) ∧ W = w') := Lib.hid (fun W => (index_any _ c W).mono (fun _ _ h => ⟨h.1.trans (by rw [hix, show pre.length - n = j by omega]), h.2⟩))
  have HW : Hid (∀ W, Calls Tryz.prog 45 #[.int .i64 (n : Int), .int .i64 0, .int .i64 (s.length : Int)] W fun e w' => e = .returned (.bool true) ∧ W = w') := Lib.hid (fun W => (within3_any _ _ _ W).mono (fun _ _ h => ⟨h.1.trans (by unfold inB; rw [decide_eq_true (by omega), decide_eq_true (by omega)]; rfl), h.2⟩))
  have hK := h.ptr
  have hT := h.txt
  have hne := h.ne
  rw [← hs] at hT hl
  have c0 := hK.cell 0
  have t0 := hT.cell 0
  have tf := hT.frozen 0
  have zc := hK.lt
  have zt := hT.lt
  simp at c0 t0
  have hS : (ba s).size = s.length := rfl
  rw [hj] at hx2 hx3 hsl
  rw [hS] at hx1 hx3
  have HQ : Hid (CutAt (w.setCell ⟨tb, 0, none⟩ (.string (ba rest))) cb tb rest ∧ Keeps (fun i => i = tb) w (w.setCell ⟨tb, 0, none⟩ (.string (ba rest)))) := Lib.hid ⟨⟨hK.far hne _, hT.set 0 _, hne⟩, (Keeps.refl (fun i => i = tb) w).setCell (p := ⟨tb, 0, none⟩) (fun _ => rfl) _⟩
  have hb1 : n + j + 1 ≤ s.length := by omega
  clear h hK hT hix hc hs hsl
  generalize ba s = S at *
  generalize ba (pre.drop n ++ c :: rest) = X1 at *
  generalize ba pre = X2 at *
  generalize ba rest = X3 at *
  generalize s.length = N at *
  clear hn hj
  have HX2 := Lib.hid hx2
  have HX3 := Lib.hid hx3
  clear hx2 hx3
  go_enter Tryz.func116, Tryz.ntmps116
  go_wp2_with fail
  refine (HW.out _).mono ?_
  rintro e w1 ⟨rfl, rfl⟩
  clear HW
  go_wp2_with fail
  refine (HC.out _).mono ?_
  rintro e w1 ⟨rfl, rfl⟩
  clear HC
  go_wp2_with fail
  refine (HI.out _).mono ?_
  rintro e w1 ⟨rfl, rfl⟩
  clear HI
  go_wp2_with fail
  refine wp_region_still_tail 8 (by kernel_rfl) (by kernel_rfl) ?_
  simp only [List.take_succ_cons, List.take_zero, List.drop_succ_cons, List.drop_zero]
  change wpStill _ _ w.drew _ _ _
  have c0d : w.drew.cell? ⟨cb, 0, none⟩ = some (.pointer (some ⟨tb, 0, none⟩)) := c0
  have g1 : (0 : Int) ≤ (n : Int) + (j : Int) + 1 := by omega
  have g2 : (n : Int) + (j : Int) + 1 ≤ (N : Int) := by omega
  have hwr : IntKind.i64.wrap ((n : Int) + (j : Int) + 1) = (n : Int) + (j : Int) + 1 := wrap_id _ (by omega) (by omega)
  have HQ2 := Lib.hid (And.intro HQ.out.1.drew HQ.out.2.drew)
  iterate 8 still_step
  refine wpStill_nil ?_
  change wpList _ _ _ _ _ w.drew
  go_wp2_with fail
  go_ret
  exact ⟨by rw [← HX2.out]; rfl, by rw [HX3.out]; exact HQ2.out⟩
theorem size_list (s : ByteArray) : s.data.toList.length = s.size := Array.length_toList
theorem cut0_ok {w : World} {cb tb : Nat} (pre rest : List UInt8) (c : UInt8) (h : CutAt w cb tb (pre ++ c :: rest)) (hc : c ∉ pre) (hl : (pre ++ c :: rest).length ≤ 1000000000000000) :
    Calls Tryz.prog 116 #[.int .i64 0, .string ⟨#[c]⟩, .pointer (some ⟨cb, 0, none⟩)] w fun e w' => e = .returned (.string (ba pre)) ∧ CutAt w' cb tb rest ∧ Keeps (fun i => i = tb) w w' :=
  cut1_ok pre rest 0 c h (Nat.zero_le _) (by simpa using hc) hl
/-- cutter's closure. -/
def cutV (cb : Nat) : Value := .func (.func 116) #[] #[.pointer (some ⟨cb, 0, none⟩)]
theorem cutter_any {w : World} {tb : Nat} {l : List UInt8} (h : Blk w tb 9 #[.string (ba l)]) :
    Calls Tryz.prog 97 #[.pointer (some ⟨tb, 0, none⟩)] w fun e w' => e = .returned (cutV w.heap.size) ∧ CutAt w' w.heap.size tb l ∧ Below w.heap.size w w' := by
  have hz := h.lt
  have HQ : Hid (CutAt (w.alloc (.cells #[.pointer (some ⟨tb, 0, none⟩)] 170)) w.heap.size tb l) := Lib.hid ⟨Blk.new w _ _, h.alloc _, by omega⟩
  clear h
  unfold cutV
  go_enter Tryz.func97, Tryz.ntmps97
  go_wp2_with fail
  go_ret
  exact ⟨rfl, HQ.out, (Below.refl _ _).alloc (Nat.le_refl _) _⟩
theorem num_ba {n : Int} (h0 : 0 ≤ n) (h1 : n ≤ 100000000000000000) : Lib.atoiAll (ba (decL n)).data.toList = .ok n := by
  rw [ba_list]
  have := atoi_dec n.toNat (by omega)
  rw [show ((n.toNat : Nat) : Int) = n by omega] at this
  exact this
theorem number_dec (n : Int) (h0 : 0 ≤ n) (h1 : n ≤ 100000000000000000) (w : World) :
    Calls Tryz.prog 98 #[.string (ba (decL n))] w fun e w' => e = .returned (.int .i64 n) ∧ Below w.heap.size w w' :=
  number_ok _ (by have := decL_len (n := n) (by omega); rw [ba_size]; omega) n (num_ba h0 h1) w
theorem dec_no (n : Int) (c : UInt8) (h : c.toNat < 48) : c ∉ decL n := fun hm => by
  have := dec_digit _ c hm
  omega
theorem line_two (a b : Int) : lineL [a, b] = decL a ++ 32 :: (decL b ++ [10]) := by
  unfold lineL
  simp [Lib.join, List.intercalate]
theorem line_one (a : Int) : lineL [a] = decL a ++ [10] := by
  unfold lineL
  simp [Lib.join, List.intercalate]
theorem line_three (a b c : Int) : lineL [a, b, c] = decL a ++ 32 :: (decL b ++ 32 :: (decL c ++ [10])) := by
  unfold lineL
  simp [Lib.join, List.intercalate]
theorem tokL_eq (t : Tok) (r : List UInt8) : tokL t ++ r = decL t.id ++ 32 :: (decL (t.body.size : Int) ++ 10 :: (t.body.data.toList ++ 10 :: r)) := by
  unfold tokL
  rw [line_two]
  simp
set_option maxRecDepth 100000 in
set_option maxHeartbeats 2000000 in
theorem cutToken_ok {w : World} {cb tb : Nat} (t : Tok) (r : List UInt8) (h : CutAt w cb tb (tokL t ++ r)) (hi : 0 ≤ t.id ∧ t.id ≤ 100000000000000000) (hl : (tokL t ++ r).length ≤ 1000000000000000) :
    Calls Tryz.prog 99 #[cutV cb] w fun e w' => e = .returned (tokVal t) ∧ CutAt w' cb tb r ∧ Keeps (fun i => i = tb) w w' := by
  rw [tokL_eq] at h hl
  obtain ⟨i, s⟩ := t
  dsimp only at h hi hl
  unfold cutV tokVal
  dsimp only
  have HI := Lib.hid hi
  have HL := Lib.hid hl
  have hwa : Below w.heap.size w (w.alloc (.cells #[.int .i64 0, .string ⟨#[]⟩] 50)) := (Below.refl _ _).alloc (Nat.le_refl _) _
  have HC0 := Lib.hid (h.below hwa)
  have HR0 := Lib.hid (Blk.new w 50 #[.int .i64 0, .string ⟨#[]⟩])
  have HK0 := Lib.hid (Keeps.of_new (S := fun i => i = tb) hwa)
  have htb := h.txt.lt
  have hcb := h.ptr.lt
  clear h hi hl hwa
  go_enter Tryz.func99, Tryz.ntmps99
  go_wp2_with fail
  refine (cut0_ok _ _ 32 HC0.out (dec_no i 32 (by decide)) HL.out).mono ?_
  rintro e w1 ⟨rfl, hC1, hK1⟩
  have HC1 := Lib.hid hC1
  have HR1 := Lib.hid (HR0.out.keep hK1 (by omega))
  have HK1 := Lib.hid (HK0.out.trans hK1 (fun _ _ e => e))
  have HL1 : Hid ((decL (s.size : Int) ++ 10 :: (s.data.toList ++ 10 :: r)).length ≤ 1000000000000000) := Lib.hid (by have := HL.out; simp at this ⊢; omega)
  have htb1 : tb < w1.heap.size := hC1.txt.lt
  clear hC1 hK1 HC0 HR0 HK0 HL
  go_wp2_with fail
  refine (number_dec i HI.out.1 HI.out.2 w1).mono ?_
  rintro e w2 ⟨rfl, hb2⟩
  have HC2 := Lib.hid (HC1.out.below hb2)
  have HR2 := Lib.hid (HR1.out.below hb2 HR1.out.lt)
  have HK2 := Lib.hid (HK1.out.trans (Keeps.of_new (S := fun i => i = tb) hb2) (fun _ _ e => e))
  clear hb2 HC1 HR1 HK1 htb1
  go_wp2_with fail
  refine (cut0_ok _ _ 10 HC2.out (dec_no _ 10 (by decide)) HL1.out).mono ?_
  rintro e w3 ⟨rfl, hC3, hK3⟩
  have HC3 := Lib.hid hC3
  have HR3 := Lib.hid (HR2.out.keep hK3 (by omega))
  have HK3 := Lib.hid (HK2.out.trans hK3 (fun _ _ e => e))
  have HL3 : Hid ((s.data.toList ++ 10 :: r).length ≤ 1000000000000000) := Lib.hid (by have := HL1.out; simp at this ⊢; omega)
  have HSB : Hid ((s.size : Int) ≤ 100000000000000000) := Lib.hid (by
    have h1 := HL3.out
    rw [List.length_append, size_list] at h1
    omega)
  clear hC3 hK3 HC2 HR2 HK2 HL1
  go_wp2_with fail
  refine (number_dec (s.size : Int) (by omega) HSB.out w3).mono ?_
  rintro e w4 ⟨rfl, hb4⟩
  have HC4 := Lib.hid (HC3.out.below hb4)
  have HR4 := Lib.hid (HR3.out.below hb4 HR3.out.lt)
  have HK4 := Lib.hid (HK3.out.trans (Keeps.of_new (S := fun i => i = tb) hb4) (fun _ _ e => e))
  clear hb4 HC3 HR3 HK3
  go_wp2_with fail
  refine (cut1_ok s.data.toList r s.size 10 HC4.out (by rw [size_list]; exact Nat.le_refl _) (by rw [List.drop_of_length_le (by rw [size_list]; exact Nat.le_refl _)]; exact List.not_mem_nil) HL3.out).mono ?_
  rintro e w5 ⟨rfl, hC5, hK5⟩
  have HC5 := Lib.hid hC5
  have HR5 := Lib.hid (HR4.out.keep hK5 (by omega))
  have HK5 := Lib.hid (HK4.out.trans hK5 (fun _ _ e => e))
  rw [ba_eta]
  have r0 := HR5.out.cell 0
  have r1 := HR5.out.cell 1
  have rf0 := HR5.out.frozen 0
  have rf1 := HR5.out.frozen 1
  have rl := HR5.out.lt
  simp at r0 r1
  clear hC5 hK5 HC4 HR4 HK4 HL3
  go_wp2_with fail
  have HRE := Lib.hid ((HR5.out.set 0 (.int .i64 i)).set 1 (.string s))
  have hks : Keeps (fun j => j = w.heap.size) w5 ((w5.setCell ⟨w.heap.size, 0, none⟩ (.int .i64 i)).setCell ⟨w.heap.size, 1, none⟩ (.string s)) := ((Keeps.refl (fun j => j = w.heap.size) w5).setCell (p := ⟨w.heap.size, 0, none⟩) (fun _ => rfl) _).setCell (p := ⟨w.heap.size, 1, none⟩) (fun _ => rfl) _
  have hcw : cb < w.heap.size := hcb
  have HCE := Lib.hid (HC5.out.keep hks (by omega) (by omega))
  have HKE : Hid (Keeps (fun j => j = tb) w ((w5.setCell ⟨w.heap.size, 0, none⟩ (.int .i64 i)).setCell ⟨w.heap.size, 1, none⟩ (.string s))) := Lib.hid (HK5.out.trans hks (fun j h1 h2 => by omega))
  exact bodyPost_ret (v := .agg #[.int .i64 i, .string s]) (results_agg (cs := #[.int .i64 i, .string s]) rfl (by kernel_rfl) (by kernel_rfl) HRE.out rfl rfl) rfl ⟨rfl, HCE.out, HKE.out⟩
end Go.Proofs.YthgfbaekmhpiaaaGreatDoor
namespace Go.Proofs.YthgfbaekmhpiaaaGreatDoor
open Go.RowKit

/-- A slice of one's own gets one more element, whatever its type. -/
theorem append_one {tS e : TypeId} {n by' : Nat} {z : Value} (hrow : Tryz.prog.underlying tS = some (.slice e)) (hinfo : (Tryz.prog.info? e).map (fun i => (i.zero, i.size, i.bytes)) = some (some z, n, by')) (hzs : z.cells.size = n) (hn : 0 < n) (hby : by' ≤ 1000)
    {w : World} {base : Nat} {v : Value} {k : Nat} {cs : List Value} (hO : w.ownsRow base e n v k cs) (hk : k ≤ 1000000000) (hb : base ≤ w.heap.size) (news : List Value) (hl : news.length = n) (h1 : ∀ u ∈ news, u.oneCell' = true) :
    ∃ A c w', (Builtin.append_ #[tS, tS] tS #[v, .slice (some ⟨w.heap.size, 0, none⟩) 1 1]).run Tryz.prog (w.alloc (.cells news.toArray e)) = .ok (.slice A (k + 1) c) w' ∧
      w'.ownsRow base e n (.slice A (k + 1) c) (k + 1) (cs ++ news) ∧ Keeps (fun i => v.ownBlock = some i) w w' ∧ (v.ownBlock = (Value.slice A (k + 1) c).ownBlock ∨ ∀ i, (Value.slice A (k + 1) c).ownBlock = some i → w.heap.size ≤ i) := by
  obtain ⟨i0, hi, hz0, hz1, hz2⟩ := info_parts hinfo
  have hO2 : (w.alloc (.cells news.toArray e)).ownsRow base e n v k cs := ownsRow_kept' hO ((Below.refl _ _).alloc (Nat.le_refl _) _)
  have kX := Blk.new w e news.toArray
  have hbn : (k + 1) * by' ≤ 140737488355328 := by
    have h2 : (k + 1) * by' ≤ (k + 1) * 1000 := Nat.mul_le_mul_left _ hby
    omega
  obtain ⟨v', w', hrun, hO3, hg, _, hv⟩ := run_append_own_at (P := Tryz.prog) (w.alloc (.cells news.toArray e)) base tS tS e i0 z n by' hrow hi hz0 hz1 hz2 hzs hn v k cs hO2 ⟨w.heap.size, 0, none⟩ 1 1 news (by omega) (fun j u hu => by
      rw [Addr.add_mid, Nat.zero_add, kX.cell j, List.getElem?_toArray, hu]) h1 (by unfold maxLen; omega) hbn (by simp; omega)
  obtain ⟨A, c, rfl⟩ : ∃ A c, v' = .slice A (k + 1) c := by
    rcases hO3.2 with ⟨rfl, h1⟩ | ⟨g', cap, cur, rfl, _⟩
    · omega
    · exact ⟨_, cap, rfl⟩
  refine ⟨A, c, w', hrun, hO3, ((Keeps.refl _ _).alloc _).trans (Keeps.of_grown (S := fun i => v.ownBlock = some i) hg (fun k hk _ => hk)) (fun i _ e => e), ?_⟩
  rcases hv with e | e
  · exact .inl e.symm
  · refine .inr (fun i hi => ?_)
    rw [e] at hi
    cases hi
    simp
theorem infoTok : (Tryz.prog.info? 50).map (fun i => (i.zero, i.size, i.bytes)) = some (some (.agg #[.int .i64 0, .string ⟨#[]⟩]), 2, 24) := by kernel_rfl
theorem rowTok : Tryz.prog.underlying 39 = some (.slice 50) := by kernel_rfl
theorem infoBag : (Tryz.prog.info? 41).map (fun i => (i.zero, i.size, i.bytes)) = some (some (.agg #[.int .i64 0, .int .i64 0, .int .i64 0, .slice none 0 0]), 4, 48) := by kernel_rfl
theorem rowBag : Tryz.prog.underlying 80 = some (.slice 41) := by kernel_rfl
/-- v is a slice of the tokens L, of one's own, in memory from block base on. -/
def TokOwn (w : World) (base : Nat) (v : Value) (L : List Tok) : Prop := w.ownsRow base 50 2 v L.length (L.flatMap tokCells)
theorem TokOwn.nil (w : World) (base : Nat) : TokOwn w base (.slice none 0 0) [] := ⟨rfl, .inl ⟨rfl, rfl⟩⟩
theorem TokOwn.keep {S : Nat → Prop} {w w' : World} {base : Nat} {v : Value} {L : List Tok} (h : TokOwn w base v L) (hk : Keeps S w w') (hS : ∀ i, v.ownBlock = some i → ¬ S i) : TokOwn w' base v L := by
  have hl := World.ownsRow.lt h
  refine ⟨h.1, ?_⟩
  rcases h.2 with h0 | ⟨g, cap, cur, rfl, hbb, hg, rest⟩
  · exact .inl h0
  · exact .inr ⟨g, cap, cur, rfl, hbb, (hk.block g (hl g rfl).2 (hS g rfl)).trans hg, rest⟩
theorem TokOwn.below {w w' : World} {base : Nat} {v : Value} {L : List Tok} (h : TokOwn w base v L) (hb : Below w.heap.size w w') : TokOwn w' base v L := ownsRow_kept' h hb
/-- The block of a slice of one's own has elements of its type. -/
theorem row_type {w : World} {base : Nat} {e : TypeId} {n : Nat} {v : Value} {k : Nat} {cs : List Value} (h : w.ownsRow base e n v k cs) {i : Nat} (hi : v.ownBlock = some i) : ∃ cur, Blk w i e cur := by
  rcases h.2 with h0 | ⟨g, cap, cur, rfl, _, hg, _⟩
  · rw [h0.1] at hi; simp [Value.ownBlock] at hi
  · simp [Value.ownBlock] at hi
    subst hi
    exact ⟨cur, hg⟩
theorem row_ne {w : World} {base : Nat} {e t : TypeId} {n : Nat} {v : Value} {k : Nat} {cs : List Value} {ar : Array Value} (h : w.ownsRow base e n v k cs) {i : Nat} (hB : Blk w i t ar) (hne : e ≠ t) : v.ownBlock ≠ some i := fun hi => by
  obtain ⟨cur, hc⟩ := row_type h hi
  unfold Blk at hB hc
  rw [hB] at hc
  cases hc
  exact hne rfl
/-- A row shows its cells. -/
theorem row_lies {w : World} {base : Nat} {e : TypeId} {n : Nat} {A : Option Addr} {m c k : Nat} {cs : List Value} (h : w.ownsRow base e n (.slice A m c) k cs) : m = k ∧ k ≤ c ∧ Lies w w.heap.size A cs := by
  rcases h.2 with ⟨h0, h1⟩ | ⟨g, cap, cur, h1, _, hg, hc, _, _, htk⟩
  · simp only [Value.slice.injEq] at h0
    obtain ⟨rfl, rfl, rfl⟩ := h0
    refine ⟨h1.symm, by omega, .inl (List.length_eq_zero_iff.1 (by rw [h.1, h1, Nat.zero_mul]))⟩
  · simp only [Value.slice.injEq] at h1
    obtain ⟨rfl, rfl, rfl⟩ := h1
    refine ⟨rfl, hc, .inr ⟨g, 0, rfl, Blk.lt hg, fun j u hu => ?_⟩⟩
    rw [Nat.zero_add, Blk.cell hg]
    rw [← htk, List.getElem?_take] at hu
    split at hu
    · rw [← Array.getElem?_toList]; exact hu
    · cases hu
theorem TokOwn.at_ {w : World} {base : Nat} {v : Value} {L : List Tok} (h : TokOwn w base v L) : TokAt w v L := by
  obtain ⟨A, c, rfl⟩ : ∃ A c, v = .slice A L.length c := by
    rcases h.2 with ⟨h0, h1⟩ | ⟨g, cap, cur, h1, _⟩
    · exact ⟨none, 0, by rw [h0, h1]⟩
    · exact ⟨_, _, h1⟩
  obtain ⟨_, h2, h3⟩ := row_lies h
  exact ⟨A, c, rfl, h2, h3⟩
theorem append_tok {w : World} {base : Nat} {v : Value} {L : List Tok} (hO : TokOwn w base v L) (hL : L.length ≤ 1000000000) (hb : base ≤ w.heap.size) (t : Tok) :
    ∃ A c w', (Builtin.append_ #[39, 39] 39 #[v, .slice (some ⟨w.heap.size, 0, none⟩) 1 1]).run Tryz.prog (w.alloc (.cells #[.int .i64 t.id, .string t.body] 50)) = .ok (.slice A (L.length + 1) c) w' ∧
      TokOwn w' base (.slice A (L.length + 1) c) (L ++ [t]) ∧ Keeps (fun i => v.ownBlock = some i) w w' ∧ (v.ownBlock = (Value.slice A (L.length + 1) c).ownBlock ∨ ∀ i, (Value.slice A (L.length + 1) c).ownBlock = some i → w.heap.size ≤ i) := by
  obtain ⟨A, c, w', h1, h2, h3, h4⟩ := append_one (tS := 39) rowTok infoTok rfl (by decide) (by decide) hO hL hb (tokCells t) rfl (fun u hu => by
    simp only [tokCells, List.mem_cons, List.not_mem_nil, or_false] at hu
    rcases hu with rfl | rfl <;> rfl)
  refine ⟨A, c, w', h1, ?_, h3, h4⟩
  unfold TokOwn
  rw [List.length_append, List.flatMap_append]
  simpa using h2
end Go.Proofs.YthgfbaekmhpiaaaGreatDoor
namespace Go.Proofs.YthgfbaekmhpiaaaGreatDoor
open Go.RowKit Go.Sort

def zeroMsg : List Value := [.string ⟨#[]⟩, .int .i64 0, .int .i64 0, .int .i64 0, .slice none 0 0]
/-- What readMessage has in memory: the text variable, the closure, the result's block, the message. -/
structure RM (w W : World) (tb cb X : Nat) (l : List UInt8) (cs : List Value) : Prop where
  B : Below w.heap.size w W
  C : CutAt W cb tb l
  R : Blk W w.heap.size 109 zeroMsg.toArray
  M : Blk W X 109 cs.toArray
  a1 : w.heap.size < tb
  a2 : w.heap.size < cb
  a3 : w.heap.size < X
  a4 : tb ≠ X
  a5 : cb ≠ X
theorem RM.below {w W W' : World} {tb cb X : Nat} {l : List UInt8} {cs : List Value} (h : RM w W tb cb X l cs) (hb : Below W.heap.size W W') : RM w W' tb cb X l cs :=
  ⟨h.B.trans (hb.mono h.B.size), h.C.below hb, h.R.below hb h.R.lt, h.M.below hb h.M.lt, h.a1, h.a2, h.a3, h.a4, h.a5⟩
theorem RM.cut {w W W' : World} {tb cb X : Nat} {l l' : List UInt8} {cs : List Value} (h : RM w W tb cb X l cs) (hc : CutAt W' cb tb l') (hk : Keeps (fun i => i = tb) W W') : RM w W' tb cb X l' cs :=
  ⟨h.B.trans (hk.below (B := w.heap.size) (fun i hi e => by have := h.a1; omega) h.B.size), hc, h.R.keep hk (by have := h.a1; omega), h.M.keep hk (fun e => h.a4 e.symm), h.a1, h.a2, h.a3, h.a4, h.a5⟩
theorem RM.set {w W : World} {tb cb X : Nat} {l : List UInt8} {cs : List Value} (h : RM w W tb cb X l cs) (i : Nat) (v : Value) : RM w (W.setCell ⟨X, i, none⟩ v) tb cb X l (cs.set i v) := by
  have hk : Keeps (fun j => j = X) W (W.setCell ⟨X, i, none⟩ v) := (Keeps.refl (fun j => j = X) W).setCell (p := ⟨X, i, none⟩) (fun _ => rfl) _
  have hm := h.M.set i v
  rw [List.setIfInBounds_toArray] at hm
  exact ⟨h.B.trans (hk.below (B := w.heap.size) (fun j hj e => by have := h.a3; omega) h.B.size), h.C.keep hk h.a5 h.a4, h.R.keep hk (by have := h.a3; omega), hm, h.a1, h.a2, h.a3, h.a4, h.a5⟩
theorem RM.drew {w W : World} {tb cb X : Nat} {l : List UInt8} {cs : List Value} (h : RM w W tb cb X l cs) : RM w W.drew tb cb X l cs := ⟨⟨h.B.os, h.B.tape, h.B.output, h.B.size, h.B.block⟩, h.C.drew, h.R, h.M, h.a1, h.a2, h.a3, h.a4, h.a5⟩
theorem RM.keep {S : Nat → Prop} {w W W' : World} {tb cb X : Nat} {l : List UInt8} {cs : List Value} (h : RM w W tb cb X l cs) (hk : Keeps S W W') (h0 : ∀ i, S i → w.heap.size < i) (h1 : ¬ S tb) (h2 : ¬ S cb) (h3 : ¬ S X) : RM w W' tb cb X l cs :=
  ⟨h.B.trans (hk.below (B := w.heap.size) (fun i hi e => by have := h0 i e; omega) h.B.size), h.C.keep hk h2 h1, h.R.keep hk (fun e => by have := h0 _ e; omega), h.M.keep hk h3, h.a1, h.a2, h.a3, h.a4, h.a5⟩
/-- append in a region that draws its order, its run known. -/
theorem step_append_run {P : Program} {ops : Array Oper} {o : Oper} {a : Act} {w : World} {K : Act → World → Prop} {Q : Exit → Act → World → Prop} {E : Prop}
    (hg : o.guard = none) (s x : Operand) (t : TypeId) (hop : o.op = Op.call { callee := Callee.builtin Builtin.append, args := #[s, x], argTypes := #[t, t] }) {v' : Value} {w' : World}
    (hrun : (Builtin.append_ #[t, t] o.type #[a.eval s, a.eval x]).run P w = .ok v' w') (hK : K (a.put o.dst v') w') :
    if Region.wanted o (yielded ops a.tmps) = true then Oper.wp P o a w K Q else E := by
  have hw : Region.wanted o (yielded ops a.tmps) = true := by simp [Region.wanted, hg]
  rw [if_pos hw]
  unfold Oper.wp
  simp [execOp, hop, resolve, invoke, builtin, hrun, Result.andThen]
  exact hK
theorem heap_dr {W : World} {X : Nat} {v : Option Obj} (h : W.heap[X]? = v) : W.drew.heap[X]? = v := h
/-- How long the text variable's text is. -/
def txtLen (w : World) (tb : Nat) : Nat := match w.cell? ⟨tb, 0, none⟩ with
  | some (.string s) => s.size
  | _ => 0
theorem txtLen_of {w : World} {tb cb : Nat} {l : List UInt8} (h : CutAt w cb tb l) : txtLen w tb = l.length := by
  have h0 := h.txt.cell 0
  unfold txtLen
  rw [h0]
  rfl
theorem ba_ne {l : List UInt8} (h : l ≠ []) : (ba l).toList.isEmpty = false := by
  rw [Lib.toList_data, ba_list]
  simpa using h
theorem ba_nil : (ba []).toList.isEmpty = true := by
  rw [Lib.toList_data, ba_list]
  rfl
theorem tokL_pos (t : Tok) : 0 < (tokL t).length := by unfold tokL; rw [List.length_append]; simp only [List.length_cons, List.length_nil]; omega
theorem drop_tok {L : List Tok} {k : Nat} {t : Tok} (h : L[k]? = some t) : (L.drop k).flatMap tokL = tokL t ++ (L.drop (k + 1)).flatMap tokL := by
  have hk := (List.getElem?_eq_some_iff.1 h)
  rw [List.drop_eq_getElem_cons hk.1, hk.2, List.flatMap_cons]
set_option maxRecDepth 100000 in
set_option maxHeartbeats 4000000 in
theorem readMessage_ok (word : List UInt8) (s d q : Int) (L : List Tok) (w : World) (hP : PowAt w) (hw : (32 : UInt8) ∉ word) (hs : 0 ≤ s ∧ s ≤ 100000000000000000) (hd : 0 ≤ d ∧ d ≤ 100000000000000000) (hq : 0 ≤ q ∧ q ≤ 100000000000000000) (hI : ∀ t ∈ L, 0 ≤ t.id ∧ t.id ≤ 100000000000000000)
    (hV : validB (ba word) ⟨s, d, q, .slice none 0 0⟩ L = true) (hwl : word.length ≤ 1000000) (hLl : L.length ≤ 1000000000) (hlen : (L.flatMap tokL).length ≤ 100000000000000) :
    Calls Tryz.prog 61 #[.string (ba (msgL word ⟨s, d, q, .slice none 0 0⟩ L))] w fun e w' => ∃ V, e = .returned (msgVal (ba word) ⟨s, d, q, V⟩) ∧ TokOwn w' w.heap.size V L ∧ Below w.heap.size w w' := by
  have hm : msgL word ⟨s, d, q, .slice none 0 0⟩ L = word ++ 32 :: (decL s ++ 32 :: (decL d ++ 32 :: (decL q ++ 10 :: L.flatMap tokL))) := by
    unfold msgL
    rw [line_three]
    simp
  obtain ⟨m, hme⟩ : ∃ m, m = ba (msgL word ⟨s, d, q, .slice none 0 0⟩ L) := ⟨_, rfl⟩
  have HM : Hid (m = ba (word ++ 32 :: (decL s ++ 32 :: (decL d ++ 32 :: (decL q ++ 10 :: L.flatMap tokL))))) := Lib.hid (by rw [hme, hm])
  rw [← hme]
  have HM2 := Lib.hid hme
  have hl1 : (word ++ 32 :: (decL s ++ 32 :: (decL d ++ 32 :: (decL q ++ 10 :: L.flatMap tokL)))).length ≤ 1000000000000000 := by
    have h1 := decL_len (n := s) (by omega)
    have h2 := decL_len (n := d) (by omega)
    have h3 := decL_len (n := q) (by omega)
    simp only [List.length_append, List.length_cons]
    omega
  have HL1 := Lib.hid hl1
  have HHw := Lib.hid hw
  have HHs := Lib.hid hs
  have HHd := Lib.hid hd
  have HHq := Lib.hid hq
  have HHI := Lib.hid hI
  have HHV := Lib.hid hV
  have HHP := Lib.hid (fun W (hW : Below w.heap.size w W) => PowAt.below hP hW)
  have HHL := Lib.hid hLl
  have HHln := Lib.hid hlen
  have HHwl := Lib.hid hwl
  have HB1 : Hid (Below w.heap.size w ((w.alloc (.cells zeroMsg.toArray 109)).alloc (.cells #[.string m] 9))) := Lib.hid (((Below.refl _ _).alloc (Nat.le_refl _) _).alloc (by simp) _)
  have HR1 : Hid (Blk ((w.alloc (.cells zeroMsg.toArray 109)).alloc (.cells #[.string m] 9)) w.heap.size 109 zeroMsg.toArray) := Lib.hid ((Blk.new w _ _).alloc _)
  have HT1 : Hid (Blk ((w.alloc (.cells zeroMsg.toArray 109)).alloc (.cells #[.string m] 9)) (w.heap.size + 1) 9 #[.string m]) := Lib.hid (by
    have := Blk.new (w.alloc (.cells zeroMsg.toArray 109)) 9 #[.string m]
    rwa [World.size_alloc] at this)
  have hz1 : w.heap.size + 1 < ((w.alloc (.cells zeroMsg.toArray 109)).alloc (.cells #[.string m] 9)).heap.size := by simp
  clear hP hw hs hd hq hI hV hwl hLl hlen hm hme hl1
  simp only [zeroMsg] at HB1 HR1 HT1 hz1
  go_enter Tryz.func61, Tryz.ntmps61
  go_wp2_with fail
  refine (cutter_any (l := word ++ 32 :: (decL s ++ 32 :: (decL d ++ 32 :: (decL q ++ 10 :: L.flatMap tokL)))) (by rw [← HM.out]; exact HT1.out)).mono ?_
  rintro e w2 ⟨rfl, hC, hb⟩
  have hB2 := HB1.out.trans (hb.mono HB1.out.size)
  have hR2 := HR1.out.below hb HR1.out.lt
  have hz2 : w.heap.size + 1 < w2.heap.size := Nat.lt_of_lt_of_le hz1 hb.size
  obtain ⟨cb, hcb⟩ : ∃ cb, cb = ((w.alloc (.cells #[.string ⟨#[]⟩, .int .i64 0, .int .i64 0, .int .i64 0, .slice none 0 0] 109)).alloc (.cells #[.string m] 9)).heap.size := ⟨_, rfl⟩
  rw [← hcb] at hC ⊢
  have hcb2 : w.heap.size + 1 < cb := by rw [hcb]; exact hz1
  clear hcb hb HB1 HR1 HT1 hz1
  have HC2 := Lib.hid hC
  have HB2 := Lib.hid hB2
  have HR2 := Lib.hid hR2
  have hcl := hC.ptr.lt
  clear hC hB2 hR2
  unfold cutV
  go_wp2_with fail
  refine (cut0_ok _ _ 32 HC2.out HHw.out HL1.out).mono ?_
  rintro e w3 ⟨rfl, hC, hK⟩
  have hB3 := HB2.out.trans (hK.below (B := w.heap.size) (fun i hi e => by omega) HB2.out.size)
  have hR3 := HR2.out.keep hK (by omega)
  have hcl3 : cb < w3.heap.size := Nat.lt_of_lt_of_le hcl hK.size
  obtain ⟨X, hX⟩ : ∃ X, X = w3.heap.size := ⟨_, rfl⟩
  have hal : Below w3.heap.size w3 (w3.alloc (.cells #[.string (ba word), .int .i64 0, .int .i64 0, .int .i64 0, .slice none 0 0] 109)) := (Below.refl _ _).alloc (Nat.le_refl _) _
  have htl := hC.txt.lt
  have HM3 : Hid (RM w (w3.alloc (.cells #[.string (ba word), .int .i64 0, .int .i64 0, .int .i64 0, .slice none 0 0] 109)) (w.heap.size + 1) cb X (decL s ++ 32 :: (decL d ++ 32 :: (decL q ++ 10 :: L.flatMap tokL))) [.string (ba word), .int .i64 0, .int .i64 0, .int .i64 0, .slice none 0 0]) :=
    Lib.hid ⟨hB3.trans (hal.mono hB3.size), hC.below hal, hR3.below hal hR3.lt, by rw [hX]; exact Blk.new _ _ _, by omega, by omega, by omega, by omega, by omega⟩
  have HL3 : Hid ((decL s ++ 32 :: (decL d ++ 32 :: (decL q ++ 10 :: L.flatMap tokL))).length ≤ 1000000000000000) := Lib.hid (by have := HL1.out; simp at this ⊢; omega)
  clear hC hK hB3 hR3 hcl3 hal htl hcl HC2 HB2 HR2 hz2 hcb2 HM HHw
  go_wp2_with fail
  rw [← hX]
  clear hX
  generalize w3.alloc _ = w4 at HM3 ⊢
  refine (cut0_ok _ _ 32 HM3.out.C (dec_no _ 32 (by decide)) HL3.out).mono ?_
  rintro e wa3 ⟨rfl, hC, hK⟩
  have HMa3 := Lib.hid (HM3.out.cut hC hK)
  have HL4 : Hid ((decL d ++ 32 :: (decL q ++ 10 :: L.flatMap tokL)).length ≤ 1000000000000000) := Lib.hid (by have h1 := HL3.out; rw [List.length_append, List.length_cons] at h1; omega)
  clear hC hK HM3 HL3
  go_wp2_with fail
  refine (number_dec s HHs.out.1 HHs.out.2 _).mono ?_
  rintro e wb3 ⟨rfl, hb⟩
  have HMb3 := Lib.hid (HMa3.out.below hb)
  have x1 := HMb3.out.M.cell 1
  have xf1 := HMb3.out.M.frozen 1
  have zx := HMb3.out.M.lt
  simp at x1
  clear hb HMa3
  have HM4 := Lib.hid (HMb3.out.set 1 (.int .i64 s))
  simp only [List.set_cons_zero, List.set_cons_succ] at HM4
  clear HMb3
  go_wp2_with fail
  generalize wb3.setCell _ _ = w5 at HM4 ⊢
  clear x1 xf1 zx
  refine (cut0_ok _ _ 32 HM4.out.C (dec_no _ 32 (by decide)) HL4.out).mono ?_
  rintro e wa4 ⟨rfl, hC, hK⟩
  have HMa4 := Lib.hid (HM4.out.cut hC hK)
  have HL5 : Hid ((decL q ++ 10 :: L.flatMap tokL).length ≤ 1000000000000000) := Lib.hid (by have h1 := HL4.out; rw [List.length_append, List.length_cons] at h1; omega)
  clear hC hK HM4 HL4
  go_wp2_with fail
  refine (number_dec d HHd.out.1 HHd.out.2 _).mono ?_
  rintro e wb4 ⟨rfl, hb⟩
  have HMb4 := Lib.hid (HMa4.out.below hb)
  have x2 := HMb4.out.M.cell 2
  have xf2 := HMb4.out.M.frozen 2
  have zx := HMb4.out.M.lt
  simp at x2
  clear hb HMa4
  have HM5 := Lib.hid (HMb4.out.set 2 (.int .i64 d))
  simp only [List.set_cons_zero, List.set_cons_succ] at HM5
  clear HMb4
  go_wp2_with fail
  generalize wb4.setCell _ _ = w6 at HM5 ⊢
  clear x2 xf2 zx
  refine (cut0_ok _ _ 10 HM5.out.C (dec_no _ 10 (by decide)) HL5.out).mono ?_
  rintro e wa5 ⟨rfl, hC, hK⟩
  have HMa5 := Lib.hid (HM5.out.cut hC hK)
  have HL6 : Hid ((L.flatMap tokL).length ≤ 1000000000000000) := Lib.hid (by have h1 := HL5.out; rw [List.length_append, List.length_cons] at h1; omega)
  clear hC hK HM5 HL5
  go_wp2_with fail
  refine (number_dec q HHq.out.1 HHq.out.2 _).mono ?_
  rintro e wb5 ⟨rfl, hb⟩
  have HMb5 := Lib.hid (HMa5.out.below hb)
  have x3 := HMb5.out.M.cell 3
  have xf3 := HMb5.out.M.frozen 3
  have zx := HMb5.out.M.lt
  simp at x3
  clear hb HMa5
  have HM6 := Lib.hid (HMb5.out.set 3 (.int .i64 q))
  simp only [List.set_cons_zero, List.set_cons_succ] at HM6
  clear HMb5
  go_wp2_with fail
  generalize wb5.setCell _ _ = w7 at HM6 ⊢
  clear x3 xf3 zx
  go_loopw [] (fun wr => ∃ k V, k ≤ L.length ∧ TokOwn wr w.heap.size V (L.take k) ∧ RM w wr (w.heap.size + 1) cb X ((L.drop k).flatMap tokL) [.string (ba word), .int .i64 s, .int .i64 d, .int .i64 q, V]) (fun wr => txtLen wr (w.heap.size + 1))
  case atStart => exact ⟨0, .slice none 0 0, Nat.zero_le _, TokOwn.nil _ _, HM6.out⟩
  case round =>
    clear HM6 HL6
    obtain ⟨k, V, hk, hO, hM⟩ := hrel
    have HM := Lib.hid hM
    have HO := Lib.hid hO
    have t0 := hM.C.txt.cell 0
    have zt := hM.C.txt.lt
    simp only [List.getElem?_toArray, List.getElem?_cons_zero] at t0
    obtain ⟨D, hD⟩ : ∃ D, D = ba ((L.drop k).flatMap tokL) := ⟨_, rfl⟩
    rw [← hD] at t0
    clear hM hO
    by_cases hlt : k < L.length
    · obtain ⟨t, ht⟩ : ∃ t, L[k]? = some t := ⟨_, List.getElem?_eq_getElem hlt⟩
      have HDT := Lib.hid (drop_tok ht)
      have hne : D.toList.isEmpty = false := by
        rw [hD]
        exact ba_ne (by rw [HDT.out]; have := tokL_pos t; intro e; rw [List.append_eq_nil_iff] at e; rw [e.1] at this; simp at this)
      clear hD
      go_upto_region 8 with fail
      have HMd : Hid (RM w wr.drew (w.heap.size + 1) cb X (tokL t ++ (L.drop (k + 1)).flatMap tokL) [.string (ba word), .int .i64 s, .int .i64 d, .int .i64 q, V]) := Lib.hid (by have := HM.out.drew; rwa [HDT.out] at this)
      have HOd : Hid (TokOwn wr.drew w.heap.size V (L.take k)) := Lib.hid HO.out
      have HTL : Hid ((tokL t ++ (L.drop (k + 1)).flatMap tokL).length ≤ 1000000000000000) := Lib.hid (by
        rw [← HDT.out]
        have h1 := HHln.out
        have h2 : L.flatMap tokL = (L.take k).flatMap tokL ++ (L.drop k).flatMap tokL := by rw [← List.flatMap_append, List.take_append_drop]
        rw [h2, List.length_append] at h1
        omega)
      have HTI := Lib.hid (HHI.out t (List.mem_of_getElem? ht))
      have HTK : Hid (L.take (k + 1) = L.take k ++ [t]) := Lib.hid (by rw [List.take_add_one, ht]; rfl)
      have HLT := Lib.hid hlt
      have x4 := HM.out.M.cell 4
      have zx := HM.out.M.lt
      simp only [List.getElem?_toArray, List.getElem?_cons_succ, List.getElem?_cons_zero] at x4
      have HS : Hid (∀ W : World, W.heap[X]? = wr.heap[X]? → W.cell? ⟨X, 4, none⟩ = some V) := Lib.hid (fun W hW => by rw [World.cell?_of_block hW]; exact x4)
      have d0 := HS.out wr.drew rfl
      have hlk : (L.take k).length = k := by rw [List.length_take]; omega
      have HLK := Lib.hid hlk
      clear ht hlt hlk t0 zt hne
      go_region_law (first
        | (refine Lib.wp_append_run _ _ _ _ _ rfl _ _ rfl rfl _ _ hrun ?_)
        | (rw [if_pos (by rfl)]; refine Lib.wp_append_run _ _ _ _ _ rfl _ _ rfl rfl _ _ hrun ?_)
        | (go_simp; go_at_call 99; refine (cutToken_ok t _ HMd.out.C HTI.out HTL.out).mono ?_; rintro e wI ⟨rfl, hC, hK⟩
           have HMI := Lib.hid (HMd.out.cut hC hK)
           have HOI := Lib.hid (HOd.out.keep hK (fun i hi e => by subst e; exact row_ne HOd.out HMd.out.C.txt (by decide) hi))
           have hXI : wI.heap[X]? = wr.heap[X]? := hK.block X zx (fun e => HMd.out.a4 e.symm)
           have hXA : (wI.alloc (.cells #[.int .i64 t.id, .string t.body] 50)).heap[X]? = wr.heap[X]? := (Below.heap_alloc wI _ X HMI.out.M.lt).trans hXI
           have cI4 : wI.cell? ⟨X, 4, none⟩ = some V := HS.out wI hXI
           have cA4 : (wI.alloc (.cells #[.int .i64 t.id, .string t.body] 50)).cell? ⟨X, 4, none⟩ = some V := HS.out _ hXA
           have hzI : X < wI.heap.size := HMI.out.M.lt
           obtain ⟨A2, c2, w3, hrun, hO3, hK3, hv3⟩ := append_tok HOI.out (by rw [HLK.out]; have := HHL.out; omega) HMI.out.B.size t
           rw [HLK.out] at hrun hO3 hv3
           have hX3 : w3.heap[X]? = wr.heap[X]? := (hK3.block X HMI.out.M.lt (row_ne HOI.out HMI.out.M (by decide))).trans hXI
           have hz3 : X < w3.heap.size := Nat.lt_of_lt_of_le HMI.out.M.lt hK3.size
           have c43 : w3.cell? ⟨X, 4, none⟩ = some V := HS.out w3 hX3
           have f43 : w3.frozen? ⟨X, 4, none⟩ = false := (World.frozen?_of_block hX3).trans (HM.out.M.frozen 4)
           have HO3 := Lib.hid hO3
           have HK3 := Lib.hid hK3
           have HV3 := Lib.hid hv3
           clear hO3 hK3 hC hK hv3 hX3 hXI hXA
           unfold tokVal
           dsimp only))
      all_goals
        have HM3 := Lib.hid ((HMI.out.keep HK3.out (fun i hi => by
          have h1 := (World.ownsRow.lt HOI.out i hi).1
          have h2 : i ≠ w.heap.size := fun e => row_ne HOI.out HMI.out.R (by decide) (e ▸ hi)
          omega) (row_ne HOI.out HMI.out.C.txt (by decide)) (row_ne HOI.out HMI.out.C.ptr (by decide)) (row_ne HOI.out HMI.out.M (by decide))).set 4 (.slice A2 (k + 1) c2))
        have HO4 : Hid (TokOwn (w3.setCell ⟨X, 4, none⟩ (.slice A2 (k + 1) c2)) w.heap.size (.slice A2 (k + 1) c2) (L.take (k + 1))) := Lib.hid (by
          rw [HTK.out]
          exact HO3.out.keep ((Keeps.refl (fun j => j = X) w3).setCell (p := ⟨X, 4, none⟩) (fun _ => rfl) _) (fun i hi e => by
            subst e
            exact row_ne HO3.out (HMI.out.M.keep HK3.out (row_ne HOI.out HMI.out.M (by decide))) (by decide) hi))
        simp only [List.set_cons_zero, List.set_cons_succ] at HM3
        clear HS HMd HOd HMI HOI HO3 HK3 HV3 x4 zx d0 c43 f43 hz3 cI4 cA4 hzI hrun
        have HTX : Hid (txtLen (w3.setCell ⟨X, 4, none⟩ (.slice A2 (k + 1) c2)) (w.heap.size + 1) < txtLen wr (w.heap.size + 1)) := Lib.hid (by
          rw [txtLen_of HM3.out.C, txtLen_of HM.out.C, HDT.out, List.length_append]
          have := tokL_pos t
          omega)
        go_wp2_with fail
        go_roundw
        case rel => exact ⟨k + 1, _, HLT.out, HO4.out, HM3.out⟩
        case measure => exact HTX.out
    · obtain rfl : k = L.length := by omega
      have hne : D.toList.isEmpty = true := by
        rw [hD, List.drop_length]
        exact ba_nil
      have hO := HO.out
      rw [List.take_length] at hO
      obtain ⟨A, c, rfl⟩ : ∃ A c, V = .slice A L.length c := by
        obtain ⟨A, c, h, _⟩ := hO.at_
        exact ⟨A, c, h⟩
      have HOE := Lib.hid hO
      have hV := hO.at_
      have HIV := Lib.hid (isValid_any (ba word) ⟨s, d, q, .slice A L.length c⟩ L wr hV (by have := HHL.out; omega))
      have hval : validB (ba word) ⟨s, d, q, .slice A L.length c⟩ L = true := HHV.out
      rw [hval] at HIV
      have HMT := Lib.hid (fun W (hW : Below wr.heap.size wr W) => msgText_any (ba word) ⟨s, d, q, .slice A L.length c⟩ L W (hV.below hW) (HHP.out W (HM.out.B.trans (hW.mono HM.out.B.size))) (fun n hn => by
        have h1 := HHs.out
        have h2 := HHd.out
        have h3 := HHq.out
        rcases List.mem_cons.1 hn with rfl | hn
        · exact ⟨h1.1, by omega⟩
        · rcases List.mem_cons.1 hn with rfl | hn
          · exact ⟨h2.1, by omega⟩
          · rw [List.mem_singleton] at hn
            subst hn
            exact ⟨h3.1, by omega⟩) (fun t ht => ⟨(HHI.out t ht).1, by have := (HHI.out t ht).2; omega⟩) (by rw [ba_size]; exact HHwl.out) HHL.out HHln.out)
      have hmt : ba (msgL (ba word).data.toList ⟨s, d, q, .slice A L.length c⟩ L) = m := by rw [HM2.out, ba_list]; rfl
      rw [hmt] at HMT
      simp only [msgVal] at HIV HMT
      have y0 := HM.out.M.cell 0
      have y1 := HM.out.M.cell 1
      have y2 := HM.out.M.cell 2
      have y3 := HM.out.M.cell 3
      have y4 := HM.out.M.cell 4
      have zx := HM.out.M.lt
      simp at y0 y1 y2 y3 y4
      clear hD hO hV hval hmt hlt hk
      go_wp2_with fail
      refine HIV.out.mono ?_
      rintro e w5 ⟨rfl, hb5⟩
      have HM5' := Lib.hid (HM.out.below hb5)
      have HB5 := Lib.hid hb5
      clear y0 y1 y2 y3 y4 zx hb5 HIV t0 zt
      have y0 := HM5'.out.M.cell 0
      have y1 := HM5'.out.M.cell 1
      have y2 := HM5'.out.M.cell 2
      have y3 := HM5'.out.M.cell 3
      have y4 := HM5'.out.M.cell 4
      have zx := HM5'.out.M.lt
      simp at y0 y1 y2 y3 y4
      go_wp2_with fail
      refine (HMT.out _ HB5.out).mono ?_
      rintro e w6 ⟨rfl, hb6⟩
      have HM6' := Lib.hid (HM5'.out.below hb6)
      have HO6 := Lib.hid (HOE.out.below (HB5.out.trans (hb6.mono HB5.out.size)))
      clear y0 y1 y2 y3 y4 zx hb6 HMT HB5 HM5' HM HO HOE
      have y0 := HM6'.out.M.cell 0
      have y1 := HM6'.out.M.cell 1
      have y2 := HM6'.out.M.cell 2
      have y3 := HM6'.out.M.cell 3
      have y4 := HM6'.out.M.cell 4
      have zx := HM6'.out.M.lt
      simp at y0 y1 y2 y3 y4
      have hr := HM6'.out.R
      simp only [zeroMsg] at hr
      have r0 := hr.cell 0
      have r1 := hr.cell 1
      have r2 := hr.cell 2
      have r3 := hr.cell 3
      have r4 := hr.cell 4
      have q0 := hr.frozen 0
      have q1 := hr.frozen 1
      have q2 := hr.frozen 2
      have q3 := hr.frozen 3
      have q4 := hr.frozen 4
      have zr := hr.lt
      simp at r0 r1 r2 r3 r4
      have HR6 := Lib.hid hr
      clear hr
      go_wp2_with fail
      have HRE := Lib.hid (((((HR6.out.set 0 (.string (ba word))).set 1 (.int .i64 s)).set 2 (.int .i64 d)).set 3 (.int .i64 q)).set 4 (.slice A L.length c))
      have hks : Keeps (fun j => j = w.heap.size) w6 (((((w6.setCell ⟨w.heap.size, 0, none⟩ (.string (ba word))).setCell ⟨w.heap.size, 1, none⟩ (.int .i64 s)).setCell ⟨w.heap.size, 2, none⟩ (.int .i64 d)).setCell ⟨w.heap.size, 3, none⟩ (.int .i64 q)).setCell ⟨w.heap.size, 4, none⟩ (.slice A L.length c)) :=
        (((((Keeps.refl (fun j => j = w.heap.size) w6).setCell (p := ⟨w.heap.size, 0, none⟩) (fun _ => rfl) _).setCell (p := ⟨w.heap.size, 1, none⟩) (fun _ => rfl) _).setCell (p := ⟨w.heap.size, 2, none⟩) (fun _ => rfl) _).setCell (p := ⟨w.heap.size, 3, none⟩) (fun _ => rfl) _).setCell (p := ⟨w.heap.size, 4, none⟩) (fun _ => rfl) _
      have HOF := Lib.hid (HO6.out.keep hks (fun i hi e => by subst e; exact row_ne HO6.out HR6.out (by decide) hi))
      have HBF := Lib.hid (HM6'.out.B.trans (hks.below (B := w.heap.size) (fun i hi e => by omega) HM6'.out.B.size))
      clear hks
      exact bodyPost_ret (v := .agg #[.string (ba word), .int .i64 s, .int .i64 d, .int .i64 q, .slice A L.length c]) (results_agg (cs := #[.string (ba word), .int .i64 s, .int .i64 d, .int .i64 q, .slice A L.length c]) rfl (by kernel_rfl) (by kernel_rfl) HRE.out rfl rfl) rfl ⟨_, rfl, HOF.out, HBF.out⟩
end Go.Proofs.YthgfbaekmhpiaaaGreatDoor
