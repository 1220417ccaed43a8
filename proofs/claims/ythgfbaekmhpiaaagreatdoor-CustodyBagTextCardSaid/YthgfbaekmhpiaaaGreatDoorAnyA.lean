/- The contracts of number, of the closure that cutter returns and of cutToken at any text: what they return, or that they panic. Conditions: lengths; the library's two errors are error values. The contract of readMessage at any text: the valid message with this text, or a panic. Conditions: lengths; the library's table of powers of ten and its two errors lie as the program's text lays them. The text of a valid bag says this bag alone. No conditions. -/
import Derived.Test.YthgfbaekmhpiaaaGreatDoorCutA
import Derived.Deep.RegionHeld3
namespace Go.Proofs.YthgfbaekmhpiaaaGreatDoor
open Go.RowKit Go.Shelf
attribute [local go_sem] Oper.semAt_some

/-- What the program's readers panic with. -/
def badE : PanicEntry := { v := .iface 24 (.int .i64 4), recovered := false }
/-- A variable of the library that holds an error. -/
def ErrIn (g : Nat) (w : World) : Prop := ∃ ev, w.cell? ⟨g, 0, none⟩ = some ev ∧ (ev = .nilIface ∨ ∃ te pe, ev = .iface te pe)
theorem ErrIn.below {g : Nat} {w w' : World} (h : ErrIn g w) (hb : Below w.heap.size w w') : ErrIn g w' := by
  obtain ⟨ev, h1, h2⟩ := h
  exact ⟨ev, (hb.cell (World.block_lt_of_cell? w _ h1)).trans h1, h2⟩
/-- What Atoi reads where a word says no number. -/
def ErrsAt (w : World) : Prop := ErrIn (laysC172_ren.g 15) w ∧ ErrIn (laysC172_ren.g 16) w
theorem ErrsAt.below {w w' : World} (h : ErrsAt w) (hb : Below w.heap.size w w') : ErrsAt w' := ⟨h.1.below hb, h.2.below hb⟩
set_option maxRecDepth 100000 in
set_option maxHeartbeats 1000000 in
theorem number_or (s : ByteArray) (hlim : s.size ≤ 281474976710656) (w : World) (hE : ErrsAt w) :
    Calls Tryz.prog 98 #[.string s] w fun e w' => ((∃ v, e = .returned (.int .i64 v)) ∨ e = .panicked [badE]) ∧ Below w.heap.size w w' := by
  rcases h : Lib.atoiAll s.data.toList with v | _ | _
  · exact (number_ok s (by omega) v h w).mono (fun e w' h => ⟨.inl ⟨v, h.1⟩, h.2⟩)
  · obtain ⟨⟨ev, hv, hev⟩, _⟩ := hE
    have hat := Any.strconv_Atoi_syntax laysC172 s hlim h ev w hv hev
    clear hv hev h
    go_enter Tryz.func98, Tryz.ntmps98
    go_wp2_with fail
    refine hat.mono ?_
    rintro e w1 ⟨N, rfl, _, _, hB⟩
    go_wp2_with fail
    exact ⟨rfl, .inr rfl, hB⟩
  · obtain ⟨_, ev, hv, hev⟩ := hE
    have hat := Any.strconv_Atoi_range laysC172 s hlim h ev w hv hev
    clear hv hev h
    generalize Lib.atoiSat s.data.toList = sat at hat
    go_enter Tryz.func98, Tryz.ntmps98
    go_wp2_with fail
    refine hat.mono ?_
    rintro e w1 ⟨N, rfl, _, _, hB⟩
    go_wp2_with fail
    exact ⟨rfl, .inr rfl, hB⟩
theorem ib_none (c : UInt8) : ∀ a : List UInt8, c ∉ a → Lib.indexByte a c < 0
  | [], _ => by unfold Lib.indexByte; decide
  | x :: a, h => by
    have h1 : x ≠ c := fun e => h (by rw [e]; exact List.mem_cons_self)
    have h2 := ib_none c a (fun e => h (List.mem_cons_of_mem _ e))
    unfold Lib.indexByte
    simp [h1]
    omega
theorem split_first {c : UInt8} : ∀ {l : List UInt8}, c ∈ l → ∃ p r, l = p ++ c :: r ∧ c ∉ p
  | [], h => by cases h
  | x :: l, h => by
    by_cases hx : x = c
    · exact ⟨[], l, by rw [hx]; rfl, by simp⟩
    · have hl : c ∈ l := by
        rcases List.mem_cons.1 h with e | e
        · exact absurd e.symm hx
        · exact e
      obtain ⟨p, r, h1, h2⟩ := split_first hl
      exact ⟨x :: p, r, by rw [h1]; rfl, by simp only [List.mem_cons, not_or]; exact ⟨fun e => hx e.symm, h2⟩⟩
/-- What cutting a word off a text leaves: the word and a shorter text, or a panic. -/
def CutOr (w : World) (cb tb : Nat) (l : List UInt8) (e : Ending) (w' : World) : Prop :=
  ((∃ pre rest, e = .returned (.string (ba pre)) ∧ CutAt w' cb tb rest ∧ rest.length < l.length ∧ pre.length ≤ l.length) ∨ e = .panicked [badE]) ∧ Keeps (fun i => i = tb) w w'
set_option maxRecDepth 100000 in
set_option maxHeartbeats 1000000 in
theorem cut_or {w : World} {cb tb : Nat} (l : List UInt8) (n : Int) (c : UInt8) (h : CutAt w cb tb l) (hl : l.length ≤ 1000000000000000) :
    Calls Tryz.prog 116 #[.int .i64 n, .string ⟨#[c]⟩, .pointer (some ⟨cb, 0, none⟩)] w (CutOr w cb tb l) := by
  by_cases hn : 0 ≤ n ∧ n ≤ (l.length : Int)
  · obtain ⟨k, rfl⟩ : ∃ k : Nat, n = (k : Int) := ⟨n.toNat, by omega⟩
    have hk : k ≤ l.length := by omega
    by_cases hc : c ∈ l.drop k
    · obtain ⟨p, r, h1, h2⟩ := split_first hc
      have hle : l = (l.take k ++ p) ++ c :: r := by rw [List.append_assoc, ← h1, List.take_append_drop]
      have htk : (l.take k).length = k := by rw [List.length_take]; omega
      have hlen : l.length = (l.take k ++ p).length + 1 + r.length := by
        have := congrArg List.length hle
        rw [List.length_append, List.length_cons] at this
        omega
      have hlx := hl
      rw [hle] at h hlx
      refine (cut1_ok (l.take k ++ p) r k c h (by rw [List.length_append]; omega) (by rw [List.drop_left' htk]; exact h2) hlx).mono ?_
      rintro e w' ⟨rfl, hC, hK⟩
      exact ⟨.inl ⟨_, _, rfl, hC, by omega, by omega⟩, hK⟩
    · have hx1 : (ba l).extract k (ba l).size = ba (l.drop k) := by rw [ext_ba, ba_size, List.take_length]
      have HC : Hid (∀ W, Calls Tryz.prog 117 #[.string (ba (l.drop k)), .string ⟨#[c]⟩] W fun e w' => e = .returned (.bool false) ∧ W = w') := Lib.hid (fun W => (contains_any _ c W).mono (fun _ _ h => ⟨h.1.trans (by rw [ba_list, decide_eq_false (by have := ib_none c _ hc; omega)]), h.2⟩))
      have HW : Hid (∀ W, Calls Tryz.prog 45 #[.int .i64 (k : Int), .int .i64 0, .int .i64 (l.length : Int)] W fun e w' => e = .returned (.bool true) ∧ W = w') := Lib.hid (fun W => (within3_any _ _ _ W).mono (fun _ _ h => ⟨h.1.trans (by unfold inB; rw [decide_eq_true (by omega), decide_eq_true (by omega)]; rfl), h.2⟩))
      have c0 := h.ptr.cell 0
      have t0 := h.txt.cell 0
      have zc := h.ptr.lt
      have zt := h.txt.lt
      simp at c0 t0
      have hS : (ba l).size = l.length := rfl
      rw [hS] at hx1
      clear h hc
      generalize ba (l.drop k) = X1 at *
      generalize ba l = S at *
      generalize l.length = N at *
      go_enter Tryz.func116, Tryz.ntmps116
      go_wp2_with fail
      refine (HW.out _).mono ?_
      rintro e w1 ⟨rfl, rfl⟩
      clear HW
      go_wp2_with fail
      refine (HC.out _).mono ?_
      rintro e w1 ⟨rfl, rfl⟩
      clear HC
      go_wp2_with fail
      exact ⟨rfl, .inr rfl, Keeps.refl _ _⟩
  · have HW : Hid (∀ W, Calls Tryz.prog 45 #[.int .i64 n, .int .i64 0, .int .i64 (l.length : Int)] W fun e w' => e = .returned (.bool false) ∧ W = w') := Lib.hid (fun W => (within3_any _ _ _ W).mono (fun _ _ h => ⟨h.1.trans (by
      unfold inB
      by_cases h0 : 0 ≤ n
      · rw [decide_eq_true h0, decide_eq_false (fun h1 => hn ⟨h0, h1⟩)]; rfl
      · rw [decide_eq_false h0]; rfl), h.2⟩))
    have c0 := h.ptr.cell 0
    have t0 := h.txt.cell 0
    have zc := h.ptr.lt
    have zt := h.txt.lt
    simp at c0 t0
    have hS : (ba l).size = l.length := rfl
    clear h hn
    generalize ba l = S at *
    generalize l.length = N at *
    go_enter Tryz.func116, Tryz.ntmps116
    go_wp2_with fail
    refine (HW.out _).mono ?_
    rintro e w1 ⟨rfl, rfl⟩
    clear HW
    go_wp2_with fail
    exact ⟨rfl, .inr rfl, Keeps.refl _ _⟩
/-- What cutting a token off a text leaves: the token and a shorter text, or a panic. -/
def TokOr (w : World) (cb tb : Nat) (l : List UInt8) (e : Ending) (w' : World) : Prop :=
  ((∃ t rest, e = .returned (tokVal t) ∧ CutAt w' cb tb rest ∧ rest.length < l.length) ∨ e = .panicked [badE]) ∧ Keeps (fun i => i = tb) w w'
set_option maxRecDepth 100000 in
set_option maxHeartbeats 2000000 in
theorem cutToken_or {w : World} {cb tb : Nat} (l : List UInt8) (h : CutAt w cb tb l) (hE : ErrsAt w) (hKE : ∀ W, Keeps (fun i => i = tb) w W → ErrsAt W) (hl : l.length ≤ 281474976710656) :
    Calls Tryz.prog 99 #[cutV cb] w (TokOr w cb tb l) := by
  unfold cutV
  have HL := Lib.hid hl
  have HKE := Lib.hid hKE
  have hwa : Below w.heap.size w (w.alloc (.cells #[.int .i64 0, .string ⟨#[]⟩] 50)) := (Below.refl _ _).alloc (Nat.le_refl _) _
  have HC0 := Lib.hid (h.below hwa)
  have HR0 := Lib.hid (Blk.new w 50 #[.int .i64 0, .string ⟨#[]⟩])
  have HK0 := Lib.hid (Keeps.of_new (S := fun i => i = tb) hwa)
  have htb := h.txt.lt
  have hcb := h.ptr.lt
  clear h hl hwa hE hKE
  go_enter Tryz.func99, Tryz.ntmps99
  go_wp2_with fail
  refine (cut_or l 0 32 HC0.out (Nat.le_trans HL.out (by decide))).mono ?_
  rintro e w1 ⟨⟨p1, l1, rfl, hC1, hl1, hp1⟩ | rfl, hK1⟩
  rotate_left
  · go_wp2_with fail
    exact ⟨rfl, .inr rfl, HK0.out.trans hK1 (fun _ _ e => e)⟩
  have HC1 := Lib.hid hC1
  have HR1 := Lib.hid (HR0.out.keep hK1 (by omega))
  have HK1 := Lib.hid (HK0.out.trans hK1 (fun _ _ e => e))
  have HL1 : Hid (l1.length < l.length) := Lib.hid hl1
  have HP1 : Hid (p1.length ≤ l.length) := Lib.hid hp1
  clear hC1 hK1 HC0 HR0 HK0 hl1 hp1
  go_wp2_with fail
  refine (number_or (ba p1) (by rw [ba_size]; exact Nat.le_trans HP1.out HL.out) w1 (HKE.out _ HK1.out)).mono ?_
  rintro e w2 ⟨⟨i, rfl⟩ | rfl, hb2⟩
  rotate_left
  · go_wp2_with fail
    exact ⟨rfl, .inr rfl, HK1.out.trans (Keeps.of_new (S := fun i => i = tb) hb2) (fun _ _ e => e)⟩
  have HC2 := Lib.hid (HC1.out.below hb2)
  have HR2 := Lib.hid (HR1.out.below hb2 HR1.out.lt)
  have HK2 := Lib.hid (HK1.out.trans (Keeps.of_new (S := fun i => i = tb) hb2) (fun _ _ e => e))
  clear hb2 HC1 HR1 HK1
  go_wp2_with fail
  refine (cut_or l1 0 10 HC2.out (by have h1 := HL1.out; have h2 := HL.out; omega)).mono ?_
  rintro e w3 ⟨⟨p3, l3, rfl, hC3, hl3, hp3⟩ | rfl, hK3⟩
  rotate_left
  · go_wp2_with fail
    exact ⟨rfl, .inr rfl, HK2.out.trans hK3 (fun _ _ e => e)⟩
  have HC3 := Lib.hid hC3
  have HR3 := Lib.hid (HR2.out.keep hK3 (by omega))
  have HK3 := Lib.hid (HK2.out.trans hK3 (fun _ _ e => e))
  have HL3 : Hid (l3.length < l.length ∧ p3.length ≤ l.length) := Lib.hid (by have := HL1.out; omega)
  clear hC3 hK3 HC2 HR2 HK2 HL1 hl3 hp3
  go_wp2_with fail
  refine (number_or (ba p3) (by rw [ba_size]; exact Nat.le_trans HL3.out.2 HL.out) w3 (HKE.out _ HK3.out)).mono ?_
  rintro e w4 ⟨⟨j, rfl⟩ | rfl, hb4⟩
  rotate_left
  · go_wp2_with fail
    exact ⟨rfl, .inr rfl, HK3.out.trans (Keeps.of_new (S := fun i => i = tb) hb4) (fun _ _ e => e)⟩
  have HC4 := Lib.hid (HC3.out.below hb4)
  have HR4 := Lib.hid (HR3.out.below hb4 HR3.out.lt)
  have HK4 := Lib.hid (HK3.out.trans (Keeps.of_new (S := fun i => i = tb) hb4) (fun _ _ e => e))
  clear hb4 HC3 HR3 HK3
  go_wp2_with fail
  refine (cut_or l3 j 10 HC4.out (by have h1 := HL3.out; have h2 := HL.out; omega)).mono ?_
  rintro e w5 ⟨⟨p5, l5, rfl, hC5, hl5, hp5⟩ | rfl, hK5⟩
  rotate_left
  · go_wp2_with fail
    exact ⟨rfl, .inr rfl, HK4.out.trans hK5 (fun _ _ e => e)⟩
  have HC5 := Lib.hid hC5
  have HR5 := Lib.hid (HR4.out.keep hK5 (by omega))
  have HK5 := Lib.hid (HK4.out.trans hK5 (fun _ _ e => e))
  have HL5 : Hid (l5.length < l.length) := Lib.hid (by have := HL3.out; omega)
  obtain ⟨s, hs⟩ : ∃ s, s = ba p5 := ⟨_, rfl⟩
  rw [← hs]
  have r0 := HR5.out.cell 0
  have r1 := HR5.out.cell 1
  have rf0 := HR5.out.frozen 0
  have rf1 := HR5.out.frozen 1
  have rl := HR5.out.lt
  simp at r0 r1
  clear hC5 hK5 HC4 HR4 HK4 HL3 hl5 hp5 hs
  go_wp2_with fail
  have HRE := Lib.hid ((HR5.out.set 0 (.int .i64 i)).set 1 (.string s))
  have hks : Keeps (fun j => j = w.heap.size) w5 ((w5.setCell ⟨w.heap.size, 0, none⟩ (.int .i64 i)).setCell ⟨w.heap.size, 1, none⟩ (.string s)) := ((Keeps.refl (fun j => j = w.heap.size) w5).setCell (p := ⟨w.heap.size, 0, none⟩) (fun _ => rfl) _).setCell (p := ⟨w.heap.size, 1, none⟩) (fun _ => rfl) _
  have hcw : cb < w.heap.size := hcb
  have HCE := Lib.hid (HC5.out.keep hks (by omega) (by omega))
  have HKX : Hid (Keeps (fun j => j = tb) w ((w5.setCell ⟨w.heap.size, 0, none⟩ (.int .i64 i)).setCell ⟨w.heap.size, 1, none⟩ (.string s))) := Lib.hid (HK5.out.trans hks (fun j h1 h2 => by omega))
  exact bodyPost_ret (v := .agg #[.int .i64 i, .string s]) (results_agg (cs := #[.int .i64 i, .string s]) rfl (by kernel_rfl) (by kernel_rfl) HRE.out rfl rfl) rfl ⟨.inl ⟨⟨i, s⟩, l5, rfl, HCE.out, HL5.out⟩, HKX.out⟩
end Go.Proofs.YthgfbaekmhpiaaaGreatDoor
namespace Go.Proofs.YthgfbaekmhpiaaaGreatDoor
open Go.RowKit Go.Sort

/-- The message that a text says, or a panic. -/
def MsgOr (w : World) (m : ByteArray) (e : Ending) (w' : World) : Prop :=
  ((∃ (word : ByteArray) (s d q : Int) (V : Value) (L : List Tok), e = .returned (msgVal word ⟨s, d, q, V⟩) ∧ TokOwn w' w.heap.size V L ∧ validB word ⟨s, d, q, .slice none 0 0⟩ L = true ∧ ba (msgL word.data.toList ⟨s, d, q, .slice none 0 0⟩ L) = m) ∨ e = .panicked [badE]) ∧ Below w.heap.size w w'
theorem valid_facts {word : ByteArray} {s d q : Int} {V : Value} {L : List Tok} (h : validB word ⟨s, d, q, V⟩ L = true) : word.size ≤ 3 ∧ OkN [s, d, q] ∧ OkTok L ∧ L.length ≤ 8 ∧ (L.flatMap tokL).length ≤ 1000000 := by
  have hw : ∀ b : BagV, isWayB b = true → b.src = s → b.dst = d → b.seq = q → OkN [s, d, q] := fun b hb h1 h2 h3 n hn => by
    subst h1 h2 h3
    unfold isWayB isOfficeB inB at hb
    simp only [Bool.and_eq_true, decide_eq_true_eq] at hb
    simp only [List.mem_cons, List.not_mem_nil, or_false] at hn
    rcases hn with rfl | rfl | rfl <;> omega
  unfold validB at h
  split at h
  · rename_i hwd
    unfold isBagB at h
    simp only [Bool.and_eq_true] at h
    obtain ⟨⟨h1, h2⟩, h3⟩ := h
    have hl : L.length ≤ 8 := by
      unfold inB at h2
      simp only [Bool.and_eq_true, decide_eq_true_eq] at h2
      omega
    have htk : ∀ t ∈ L, isTokenB t = true := fun t ht => by
      obtain ⟨k, hk, rfl⟩ := List.getElem_of_mem ht
      unfold toksB at h3
      have h4 := List.all_eq_true.1 h3 k (List.mem_range.2 hk)
      unfold tokOk at h4
      rw [getD_of (List.getElem?_eq_getElem hk), Bool.and_eq_true] at h4
      exact h4.1
    have htb : ∀ t ∈ L, (0 ≤ t.id ∧ t.id ≤ 1000000) ∧ t.body.size ≤ 6000 := fun t ht => by
      have := htk t ht
      unfold isTokenB inB at this
      simp only [Bool.and_eq_true, decide_eq_true_eq] at this
      omega
    refine ⟨by rw [hwd]; decide, hw _ h1 rfl rfl rfl, fun t ht => by have := (htb t ht).1; omega, hl, ?_⟩
    have hone : ∀ t ∈ L, (tokL t).length ≤ 10000 := fun t ht => by
      have h5 := htb t ht
      have h6 := line2_len t.id (t.body.size : Int) (by omega) (by omega)
      rw [lineB_ba, ba_size] at h6
      unfold tokL
      rw [List.length_append, List.length_append, size_list]
      simp only [List.length_cons, List.length_nil]
      omega
    have hsum : ∀ M : List Tok, (∀ t ∈ M, (tokL t).length ≤ 10000) → (M.flatMap tokL).length ≤ 10000 * M.length := fun M => by
      induction M with
      | nil => intro _; simp
      | cons a M ih =>
        intro hM
        have h7 := ih (fun t ht => hM t (List.mem_cons_of_mem _ ht))
        have h8 := hM a List.mem_cons_self
        rw [List.flatMap_cons, List.length_append, List.length_cons]
        omega
    have := hsum L hone
    omega
  · split at h
    · rename_i hwd
      rw [Bool.and_eq_true] at h
      have hl : L.length = 0 := by
        have := h.2
        simp only [beq_iff_eq] at this
        omega
      obtain rfl := List.eq_nil_of_length_eq_zero hl
      exact ⟨by rw [hwd]; decide, hw _ h.1 rfl rfl rfl, fun t ht => (by cases ht), by simp, by simp⟩
    · cases h
set_option maxRecDepth 100000 in
set_option maxHeartbeats 4000000 in
theorem readMessage_or (m : ByteArray) (w : World) (hP : PowAt w) (hE : ErrsAt w) (hm : m.size ≤ 1000000000) :
    Calls Tryz.prog 61 #[.string m] w (MsgOr w m) := by
  obtain ⟨l0, hl0⟩ : ∃ l0, l0 = m.data.toList := ⟨_, rfl⟩
  have HM : Hid (m = ba l0) := Lib.hid (by rw [hl0, ba_eta])
  have HL0 : Hid (l0.length ≤ 1000000000) := Lib.hid (by rw [hl0, size_list]; exact hm)
  have HHP := Lib.hid (fun W (hW : Below w.heap.size w W) => PowAt.below hP hW)
  have HHE := Lib.hid (fun W (hW : Below w.heap.size w W) => ErrsAt.below hE hW)
  have HB1 : Hid (Below w.heap.size w ((w.alloc (.cells zeroMsg.toArray 109)).alloc (.cells #[.string m] 9))) := Lib.hid (((Below.refl _ _).alloc (Nat.le_refl _) _).alloc (by simp) _)
  have HR1 : Hid (Blk ((w.alloc (.cells zeroMsg.toArray 109)).alloc (.cells #[.string m] 9)) w.heap.size 109 zeroMsg.toArray) := Lib.hid ((Blk.new w _ _).alloc _)
  have HT1 : Hid (Blk ((w.alloc (.cells zeroMsg.toArray 109)).alloc (.cells #[.string m] 9)) (w.heap.size + 1) 9 #[.string m]) := Lib.hid (by
    have := Blk.new (w.alloc (.cells zeroMsg.toArray 109)) 9 #[.string m]
    rwa [World.size_alloc] at this)
  have hz1 : w.heap.size + 1 < ((w.alloc (.cells zeroMsg.toArray 109)).alloc (.cells #[.string m] 9)).heap.size := by simp
  clear hP hE hm hl0
  simp only [zeroMsg] at HB1 HR1 HT1 hz1
  go_enter Tryz.func61, Tryz.ntmps61
  go_wp2_with fail
  refine (cutter_any (l := l0) (by rw [← HM.out]; exact HT1.out)).mono ?_
  rintro e w2 ⟨rfl, hC, hb⟩
  have hB2 := HB1.out.trans (hb.mono HB1.out.size)
  have hR2 := HR1.out.below hb HR1.out.lt
  have hz2 : w.heap.size + 1 < w2.heap.size := Nat.lt_of_lt_of_le hz1 hb.size
  obtain ⟨cb, hcb⟩ : ∃ cb, cb = ((w.alloc (.cells #[.string ⟨#[]⟩, .int .i64 0, .int .i64 0, .int .i64 0, .slice none 0 0] 109)).alloc (.cells #[.string m] 9)).heap.size := ⟨_, rfl⟩
  rw [← hcb] at hC ⊢
  have hcb2 : w.heap.size + 1 < cb := by rw [hcb]; exact hz1
  clear hcb hb HB1 HR1 HT1 hz1
  have HC2 := Lib.hid hC
  have HB2 := Lib.hid hB2
  have HR2 := Lib.hid hR2
  have hcl := hC.ptr.lt
  clear hC hB2 hR2
  unfold cutV
  go_wp2_with fail
  refine (cut_or l0 0 32 HC2.out (Nat.le_trans HL0.out (by decide))).mono ?_
  rintro e w3 ⟨⟨p3, l3, rfl, hC, hl3, hp3⟩ | rfl, hK⟩
  rotate_left
  · go_wp2_with fail
    exact ⟨rfl, .inr rfl, HB2.out.trans (hK.below (B := w.heap.size) (fun i hi e => by omega) HB2.out.size)⟩
  have hB3 := HB2.out.trans (hK.below (B := w.heap.size) (fun i hi e => by omega) HB2.out.size)
  have hR3 := HR2.out.keep hK (by omega)
  have hcl3 : cb < w3.heap.size := Nat.lt_of_lt_of_le hcl hK.size
  obtain ⟨X, hX⟩ : ∃ X, X = w3.heap.size := ⟨_, rfl⟩
  obtain ⟨wd, hwd⟩ : ∃ wd, wd = ba p3 := ⟨_, rfl⟩
  rw [← hwd]
  have hal : Below w3.heap.size w3 (w3.alloc (.cells #[.string wd, .int .i64 0, .int .i64 0, .int .i64 0, .slice none 0 0] 109)) := (Below.refl _ _).alloc (Nat.le_refl _) _
  have htl := hC.txt.lt
  have HM3 : Hid (RM w (w3.alloc (.cells #[.string wd, .int .i64 0, .int .i64 0, .int .i64 0, .slice none 0 0] 109)) (w.heap.size + 1) cb X l3 [.string wd, .int .i64 0, .int .i64 0, .int .i64 0, .slice none 0 0]) :=
    Lib.hid ⟨hB3.trans (hal.mono hB3.size), hC.below hal, hR3.below hal hR3.lt, by rw [hX]; exact Blk.new _ _ _, by omega, by omega, by omega, by omega, by omega⟩
  have HL3 : Hid (l3.length ≤ 1000000000) := Lib.hid (by have := HL0.out; omega)
  clear hC hK hB3 hR3 hcl3 hal htl hcl HC2 HB2 HR2 hz2 hcb2 hwd hl3 hp3
  go_wp2_with fail
  rw [← hX]
  clear hX
  generalize w3.alloc _ = w4 at HM3 ⊢
  refine (cut_or l3 0 32 HM3.out.C (Nat.le_trans HL3.out (by decide))).mono ?_
  rintro e wa1 ⟨⟨pa1, la1, rfl, hC, hla, hpa⟩ | rfl, hK⟩
  rotate_left
  · go_wp2_with fail
    exact ⟨rfl, .inr rfl, HM3.out.B.trans (hK.below (B := w.heap.size) (fun i hi e => by omega) HM3.out.B.size)⟩
  have HMa1 := Lib.hid (HM3.out.cut hC hK)
  have HLa1 : Hid (la1.length ≤ 1000000000 ∧ pa1.length ≤ 1000000000) := Lib.hid (by have := HL3.out; omega)
  clear hC hK hla hpa HM3 HL3
  go_wp2_with fail
  refine (number_or (ba pa1) (by rw [ba_size]; exact Nat.le_trans HLa1.out.2 (by decide)) _ (HHE.out _ HMa1.out.B)).mono ?_
  rintro e wb1 ⟨⟨s, rfl⟩ | rfl, hb⟩
  rotate_left
  · go_wp2_with fail
    exact ⟨rfl, .inr rfl, HMa1.out.B.trans (hb.mono HMa1.out.B.size)⟩
  have HMb1 := Lib.hid (HMa1.out.below hb)
  have x1 := HMb1.out.M.cell 1
  have xf1 := HMb1.out.M.frozen 1
  have zx := HMb1.out.M.lt
  simp at x1
  have HLb1 := Lib.hid HLa1.out.1
  clear hb HMa1 HLa1
  have HMc1 := Lib.hid (HMb1.out.set 1 (.int .i64 s))
  simp only [List.set_cons_zero, List.set_cons_succ] at HMc1
  clear HMb1
  go_wp2_with fail
  generalize wb1.setCell _ _ = wc1 at HMc1 ⊢
  clear x1 xf1 zx
  refine (cut_or la1 0 32 HMc1.out.C (Nat.le_trans HLb1.out (by decide))).mono ?_
  rintro e wa2 ⟨⟨pa2, la2, rfl, hC, hla, hpa⟩ | rfl, hK⟩
  rotate_left
  · go_wp2_with fail
    exact ⟨rfl, .inr rfl, HMc1.out.B.trans (hK.below (B := w.heap.size) (fun i hi e => by omega) HMc1.out.B.size)⟩
  have HMa2 := Lib.hid (HMc1.out.cut hC hK)
  have HLa2 : Hid (la2.length ≤ 1000000000 ∧ pa2.length ≤ 1000000000) := Lib.hid (by have := HLb1.out; omega)
  clear hC hK hla hpa HMc1 HLb1
  go_wp2_with fail
  refine (number_or (ba pa2) (by rw [ba_size]; exact Nat.le_trans HLa2.out.2 (by decide)) _ (HHE.out _ HMa2.out.B)).mono ?_
  rintro e wb2 ⟨⟨d, rfl⟩ | rfl, hb⟩
  rotate_left
  · go_wp2_with fail
    exact ⟨rfl, .inr rfl, HMa2.out.B.trans (hb.mono HMa2.out.B.size)⟩
  have HMb2 := Lib.hid (HMa2.out.below hb)
  have x2 := HMb2.out.M.cell 2
  have xf2 := HMb2.out.M.frozen 2
  have zx := HMb2.out.M.lt
  simp at x2
  have HLb2 := Lib.hid HLa2.out.1
  clear hb HMa2 HLa2
  have HMc2 := Lib.hid (HMb2.out.set 2 (.int .i64 d))
  simp only [List.set_cons_zero, List.set_cons_succ] at HMc2
  clear HMb2
  go_wp2_with fail
  generalize wb2.setCell _ _ = wc2 at HMc2 ⊢
  clear x2 xf2 zx
  refine (cut_or la2 0 10 HMc2.out.C (Nat.le_trans HLb2.out (by decide))).mono ?_
  rintro e wa3 ⟨⟨pa3, la3, rfl, hC, hla, hpa⟩ | rfl, hK⟩
  rotate_left
  · go_wp2_with fail
    exact ⟨rfl, .inr rfl, HMc2.out.B.trans (hK.below (B := w.heap.size) (fun i hi e => by omega) HMc2.out.B.size)⟩
  have HMa3 := Lib.hid (HMc2.out.cut hC hK)
  have HLa3 : Hid (la3.length ≤ 1000000000 ∧ pa3.length ≤ 1000000000) := Lib.hid (by have := HLb2.out; omega)
  clear hC hK hla hpa HMc2 HLb2
  go_wp2_with fail
  refine (number_or (ba pa3) (by rw [ba_size]; exact Nat.le_trans HLa3.out.2 (by decide)) _ (HHE.out _ HMa3.out.B)).mono ?_
  rintro e wb3 ⟨⟨q, rfl⟩ | rfl, hb⟩
  rotate_left
  · go_wp2_with fail
    exact ⟨rfl, .inr rfl, HMa3.out.B.trans (hb.mono HMa3.out.B.size)⟩
  have HMb3 := Lib.hid (HMa3.out.below hb)
  have x3 := HMb3.out.M.cell 3
  have xf3 := HMb3.out.M.frozen 3
  have zx := HMb3.out.M.lt
  simp at x3
  have HLb3 := Lib.hid HLa3.out.1
  clear hb HMa3 HLa3
  have HMc3 := Lib.hid (HMb3.out.set 3 (.int .i64 q))
  simp only [List.set_cons_zero, List.set_cons_succ] at HMc3
  clear HMb3
  go_wp2_with fail
  generalize wb3.setCell _ _ = wc3 at HMc3 ⊢
  clear x3 xf3 zx
  go_loopw [] (fun wr => ∃ V L l, TokOwn wr w.heap.size V L ∧ L.length + l.length ≤ 1000000000 ∧ RM w wr (w.heap.size + 1) cb X l [.string wd, .int .i64 s, .int .i64 d, .int .i64 q, V]) (fun wr => txtLen wr (w.heap.size + 1))
  case atStart => exact ⟨.slice none 0 0, [], la3, TokOwn.nil _ _, by have := HLb3.out; simpa using this, HMc3.out⟩
  case round =>
    clear HMc3 HLb3
    obtain ⟨V, L, l, hO, hlen, hM⟩ := hrel
    have HM' := Lib.hid hM
    have HO := Lib.hid hO
    have HLN := Lib.hid hlen
    have t0 := hM.C.txt.cell 0
    have zt := hM.C.txt.lt
    simp only [List.getElem?_toArray, List.getElem?_cons_zero] at t0
    obtain ⟨D, hD⟩ : ∃ D, D = ba l := ⟨_, rfl⟩
    rw [← hD] at t0
    clear hM hO hlen
    by_cases hl : l = []
    rotate_left
    · have hne : D.toList.isEmpty = false := by rw [hD]; exact ba_ne hl
      clear hD
      go_upto_region 8 with fail
      have HMd : Hid (RM w wr.drew (w.heap.size + 1) cb X l [.string wd, .int .i64 s, .int .i64 d, .int .i64 q, V]) := Lib.hid HM'.out.drew
      have HOd : Hid (TokOwn wr.drew w.heap.size V L) := Lib.hid HO.out
      have x4 := HM'.out.M.cell 4
      have zx := HM'.out.M.lt
      simp only [List.getElem?_toArray, List.getElem?_cons_succ, List.getElem?_cons_zero] at x4
      have HS : Hid (∀ W : World, W.heap[X]? = wr.heap[X]? → W.cell? ⟨X, 4, none⟩ = some V) := Lib.hid (fun W hW => by rw [World.cell?_of_block hW]; exact x4)
      have d0 := HS.out wr.drew rfl
      have HCT : Hid (Calls Tryz.prog 99 #[.func (.func 116) #[] #[.pointer (some ⟨cb, 0, none⟩)]] wr.drew (TokOr wr.drew cb (w.heap.size + 1) l)) := Lib.hid (cutToken_or l HMd.out.C (HHE.out _ HMd.out.B) (fun W hW => HHE.out W (HMd.out.B.trans (hW.below (B := w.heap.size) (fun i hi e => by omega) HMd.out.B.size))) (by have := HLN.out; omega))
      clear hl t0 zt hne
      go_region_law (first
        | (refine Lib.wp_append_run _ _ _ _ _ rfl _ _ rfl rfl _ _ hrun ?_)
        | (rw [if_pos (by rfl)]; refine Lib.wp_append_run _ _ _ _ _ rfl _ _ rfl rfl _ _ hrun ?_)
        | (go_simp; go_at_call 99; refine HCT.out.mono ?_; rintro e wI ⟨⟨t, rest, rfl, hC, hlr⟩ | rfl, hK⟩
           rotate_left
           · exact ⟨rfl, .inr rfl, HMd.out.B.trans (hK.below (B := w.heap.size) (fun i hi e => by omega) HMd.out.B.size)⟩
           have HMI := Lib.hid (HMd.out.cut hC hK)
           have HOI := Lib.hid (HOd.out.keep hK (fun i hi e => by subst e; exact row_ne HOd.out HMd.out.C.txt (by decide) hi))
           have hXI : wI.heap[X]? = wr.heap[X]? := hK.block X zx (fun e => HMd.out.a4 e.symm)
           have hXA : (wI.alloc (.cells #[.int .i64 t.id, .string t.body] 50)).heap[X]? = wr.heap[X]? := (Below.heap_alloc wI _ X HMI.out.M.lt).trans hXI
           have cI4 : wI.cell? ⟨X, 4, none⟩ = some V := HS.out wI hXI
           have cA4 : (wI.alloc (.cells #[.int .i64 t.id, .string t.body] 50)).cell? ⟨X, 4, none⟩ = some V := HS.out _ hXA
           have hzI : X < wI.heap.size := HMI.out.M.lt
           obtain ⟨A2, c2, w3, hrun, hO3, hK3, hv3⟩ := append_tok HOI.out (by have := HLN.out; omega) HMI.out.B.size t
           have hX3 : w3.heap[X]? = wr.heap[X]? := (hK3.block X HMI.out.M.lt (row_ne HOI.out HMI.out.M (by decide))).trans hXI
           have hz3 : X < w3.heap.size := Nat.lt_of_lt_of_le HMI.out.M.lt hK3.size
           have c43 : w3.cell? ⟨X, 4, none⟩ = some V := HS.out w3 hX3
           have f43 : w3.frozen? ⟨X, 4, none⟩ = false := (World.frozen?_of_block hX3).trans (HM'.out.M.frozen 4)
           have HO3 := Lib.hid hO3
           have HK3 := Lib.hid hK3
           have HV3 := Lib.hid hv3
           have HLR := Lib.hid hlr
           clear hO3 hK3 hC hK hv3 hX3 hXI hXA hlr
           unfold tokVal
           dsimp only))
      all_goals
        have HM3 := Lib.hid ((HMI.out.keep HK3.out (fun i hi => by
          have h1 := (World.ownsRow.lt HOI.out i hi).1
          have h2 : i ≠ w.heap.size := fun e => row_ne HOI.out HMI.out.R (by decide) (e ▸ hi)
          omega) (row_ne HOI.out HMI.out.C.txt (by decide)) (row_ne HOI.out HMI.out.C.ptr (by decide)) (row_ne HOI.out HMI.out.M (by decide))).set 4 (.slice A2 (L.length + 1) c2))
        have HO4 : Hid (TokOwn (w3.setCell ⟨X, 4, none⟩ (.slice A2 (L.length + 1) c2)) w.heap.size (.slice A2 (L.length + 1) c2) (L ++ [t])) := Lib.hid (
          HO3.out.keep ((Keeps.refl (fun j => j = X) w3).setCell (p := ⟨X, 4, none⟩) (fun _ => rfl) _) (fun i hi e => by
            subst e
            exact row_ne HO3.out (HMI.out.M.keep HK3.out (row_ne HOI.out HMI.out.M (by decide))) (by decide) hi))
        simp only [List.set_cons_zero, List.set_cons_succ] at HM3
        clear HS HMd HOd HMI HOI HO3 HK3 HV3 x4 zx d0 c43 f43 hz3 cI4 cA4 hzI hrun HCT
        have HTX : Hid (txtLen (w3.setCell ⟨X, 4, none⟩ (.slice A2 (L.length + 1) c2)) (w.heap.size + 1) < txtLen wr (w.heap.size + 1)) := Lib.hid (by
          rw [txtLen_of HM3.out.C, txtLen_of HM'.out.C]
          exact HLR.out)
        have HLE : Hid ((L ++ [t]).length + rest.length ≤ 1000000000) := Lib.hid (by
          have h1 := HLN.out
          have h2 := HLR.out
          rw [List.length_append, List.length_singleton]
          omega)
        go_wp2_with fail
        go_roundw
        case rel => exact ⟨_, _, _, HO4.out, HLE.out, HM3.out⟩
        case measure => exact HTX.out
    · subst hl
      have hne : D.toList.isEmpty = true := by rw [hD]; exact ba_nil
      have hO := HO.out
      obtain ⟨A, c, rfl⟩ : ∃ A c, V = .slice A L.length c := by
        obtain ⟨A, c, h, _⟩ := hO.at_
        exact ⟨A, c, h⟩
      have HOE := Lib.hid hO
      have hV := hO.at_
      have HIV := Lib.hid (isValid_any wd ⟨s, d, q, .slice A L.length c⟩ L wr hV (by have := HLN.out; omega))
      have y0 := HM'.out.M.cell 0
      have y1 := HM'.out.M.cell 1
      have y2 := HM'.out.M.cell 2
      have y3 := HM'.out.M.cell 3
      have y4 := HM'.out.M.cell 4
      have zx := HM'.out.M.lt
      simp at y0 y1 y2 y3 y4
      rcases hval : validB wd ⟨s, d, q, .slice A L.length c⟩ L with _ | _
      · rw [hval] at HIV
        simp only [msgVal] at HIV
        clear hD hO hV hval
        go_wp2_with fail
        refine HIV.out.mono ?_
        rintro e w5 ⟨rfl, hb5⟩
        have HBZ := Lib.hid (HM'.out.B.trans (hb5.mono HM'.out.B.size))
        clear hb5 HIV
        go_wp2_with fail
        exact ⟨rfl, .inr rfl, HBZ.out⟩
      · rw [hval] at HIV
        obtain ⟨hf1, hf2, hf3, hf4, hf5⟩ := valid_facts hval
        have HVB := Lib.hid hval
        have HMT := Lib.hid (fun W (hW : Below wr.heap.size wr W) => msgText_any wd ⟨s, d, q, .slice A L.length c⟩ L W (hV.below hW) (HHP.out W (HM'.out.B.trans (hW.mono HM'.out.B.size))) hf2 hf3 (by omega) (by omega) (Nat.le_trans hf5 (by decide)))
        obtain ⟨tx, htx⟩ : ∃ tx, tx = ba (msgL wd.data.toList ⟨s, d, q, .slice A L.length c⟩ L) := ⟨_, rfl⟩
        rw [← htx] at HMT
        have HTX := Lib.hid (show tx = ba (msgL wd.data.toList ⟨s, d, q, .slice none 0 0⟩ L) from htx)
        simp only [msgVal] at HIV HMT
        clear hD hO hV hval htx hf1 hf2 hf3 hf4 hf5
        go_wp2_with fail
        refine HIV.out.mono ?_
        rintro e w5 ⟨rfl, hb5⟩
        have HM5' := Lib.hid (HM'.out.below hb5)
        have HB5 := Lib.hid hb5
        clear y0 y1 y2 y3 y4 zx hb5 HIV t0 zt
        have y0 := HM5'.out.M.cell 0
        have y1 := HM5'.out.M.cell 1
        have y2 := HM5'.out.M.cell 2
        have y3 := HM5'.out.M.cell 3
        have y4 := HM5'.out.M.cell 4
        have zx := HM5'.out.M.lt
        simp at y0 y1 y2 y3 y4
        go_wp2_with fail
        refine (HMT.out _ HB5.out).mono ?_
        rintro e w6 ⟨rfl, hb6⟩
        have HM6' := Lib.hid (HM5'.out.below hb6)
        have HO6 := Lib.hid (HOE.out.below (HB5.out.trans (hb6.mono HB5.out.size)))
        clear y0 y1 y2 y3 y4 zx hb6 HMT HB5 HM5' HM' HO HOE
        have y0 := HM6'.out.M.cell 0
        have y1 := HM6'.out.M.cell 1
        have y2 := HM6'.out.M.cell 2
        have y3 := HM6'.out.M.cell 3
        have y4 := HM6'.out.M.cell 4
        have zx := HM6'.out.M.lt
        simp at y0 y1 y2 y3 y4
        have hr := HM6'.out.R
        simp only [zeroMsg] at hr
        have r0 := hr.cell 0
        have r1 := hr.cell 1
        have r2 := hr.cell 2
        have r3 := hr.cell 3
        have r4 := hr.cell 4
        have q0 := hr.frozen 0
        have q1 := hr.frozen 1
        have q2 := hr.frozen 2
        have q3 := hr.frozen 3
        have q4 := hr.frozen 4
        have zr := hr.lt
        simp at r0 r1 r2 r3 r4
        have HR6 := Lib.hid hr
        clear hr
        rcases htm : (tx.toList == m.toList) with _ | _
        · go_wp2_with fail
          exact ⟨rfl, .inr rfl, HM6'.out.B⟩
        · have HTM : Hid (ba (msgL wd.data.toList ⟨s, d, q, .slice none 0 0⟩ L) = m) := Lib.hid (by
            rw [← HTX.out]
            rw [beq_iff_eq, Lib.toList_data, Lib.toList_data] at htm
            exact ByteArray.ext (Array.toList_inj.1 htm))
          go_wp2_with fail
          have HRE := Lib.hid (((((HR6.out.set 0 (.string wd)).set 1 (.int .i64 s)).set 2 (.int .i64 d)).set 3 (.int .i64 q)).set 4 (.slice A L.length c))
          have hks : Keeps (fun j => j = w.heap.size) w6 (((((w6.setCell ⟨w.heap.size, 0, none⟩ (.string wd)).setCell ⟨w.heap.size, 1, none⟩ (.int .i64 s)).setCell ⟨w.heap.size, 2, none⟩ (.int .i64 d)).setCell ⟨w.heap.size, 3, none⟩ (.int .i64 q)).setCell ⟨w.heap.size, 4, none⟩ (.slice A L.length c)) :=
            (((((Keeps.refl (fun j => j = w.heap.size) w6).setCell (p := ⟨w.heap.size, 0, none⟩) (fun _ => rfl) _).setCell (p := ⟨w.heap.size, 1, none⟩) (fun _ => rfl) _).setCell (p := ⟨w.heap.size, 2, none⟩) (fun _ => rfl) _).setCell (p := ⟨w.heap.size, 3, none⟩) (fun _ => rfl) _).setCell (p := ⟨w.heap.size, 4, none⟩) (fun _ => rfl) _
          have HOF := Lib.hid (HO6.out.keep hks (fun i hi e => by subst e; exact row_ne HO6.out HR6.out (by decide) hi))
          have HBF := Lib.hid (HM6'.out.B.trans (hks.below (B := w.heap.size) (fun i hi e => by omega) HM6'.out.B.size))
          clear hks
          exact bodyPost_ret (v := .agg #[.string wd, .int .i64 s, .int .i64 d, .int .i64 q, .slice A L.length c]) (results_agg (cs := #[.string wd, .int .i64 s, .int .i64 d, .int .i64 q, .slice A L.length c]) rfl (by kernel_rfl) (by kernel_rfl) HRE.out rfl rfl) rfl ⟨.inl ⟨wd, s, d, q, _, L, rfl, HOF.out, HVB.out, HTM.out⟩, HBF.out⟩
end Go.Proofs.YthgfbaekmhpiaaaGreatDoor
namespace Go.Proofs.YthgfbaekmhpiaaaGreatDoor
open Go.RowKit

theorem split_uniq {c : UInt8} : ∀ {p p' r r' : List UInt8}, p ++ c :: r = p' ++ c :: r' → c ∉ p → c ∉ p' → p = p' ∧ r = r'
  | [], [], r, r', h, _, _ => by simp at h; exact ⟨rfl, h⟩
  | [], x :: p', r, r', h, _, h2 => by
    simp only [List.nil_append, List.cons_append, List.cons.injEq] at h
    exact absurd (h.1 ▸ List.mem_cons_self) h2
  | x :: p, [], r, r', h, h1, _ => by
    simp only [List.nil_append, List.cons_append, List.cons.injEq] at h
    exact absurd (h.1 ▸ List.mem_cons_self) h1
  | x :: p, y :: p', r, r', h, h1, h2 => by
    simp only [List.cons_append, List.cons.injEq] at h
    obtain ⟨e1, e2⟩ := split_uniq h.2 (fun e => h1 (List.mem_cons_of_mem _ e)) (fun e => h2 (List.mem_cons_of_mem _ e))
    exact ⟨by rw [h.1, e1], e2⟩
theorem decL_inj {a b : Int} (ha : 0 ≤ a ∧ a ≤ 100000000000000000) (hb : 0 ≤ b ∧ b ≤ 100000000000000000) (h : decL a = decL b) : a = b := by
  have h1 := num_ba ha.1 ha.2
  rw [h, num_ba hb.1 hb.2] at h1
  simp at h1
  exact h1.symm
theorem tokL_inj {t t' : Tok} {r r' : List UInt8} (h : tokL t ++ r = tokL t' ++ r') (h1 : 0 ≤ t.id ∧ t.id ≤ 1000000) (h1' : 0 ≤ t'.id ∧ t'.id ≤ 1000000) (h2 : t.body.size ≤ 6000) (h2' : t'.body.size ≤ 6000) : t = t' ∧ r = r' := by
  rw [tokL_eq, tokL_eq] at h
  obtain ⟨e1, h⟩ := split_uniq h (dec_no _ 32 (by decide)) (dec_no _ 32 (by decide))
  obtain ⟨e2, h⟩ := split_uniq h (dec_no _ 10 (by decide)) (dec_no _ 10 (by decide))
  have e1 := decL_inj (by omega) (by omega) e1
  have e2 := decL_inj (by omega) (by omega) e2
  have e3 : t.body.size = t'.body.size := by omega
  obtain ⟨h3, h4⟩ := List.append_inj h (by rw [size_list, size_list]; exact e3)
  obtain ⟨i, s⟩ := t
  obtain ⟨i', s'⟩ := t'
  dsimp only at e1 h3
  refine ⟨?_, by simpa using h4⟩
  rw [e1, ByteArray.ext (Array.toList_inj.1 h3)]
theorem toks_inj : ∀ {L L' : List Tok}, L.flatMap tokL = L'.flatMap tokL → (∀ t ∈ L, (0 ≤ t.id ∧ t.id ≤ 1000000) ∧ t.body.size ≤ 6000) → (∀ t ∈ L', (0 ≤ t.id ∧ t.id ≤ 1000000) ∧ t.body.size ≤ 6000) → L = L'
  | [], [], _, _, _ => rfl
  | [], t :: L', h, _, _ => by
    have h1 := congrArg List.length h
    have h2 := tokL_pos t
    rw [List.flatMap_cons, List.length_append] at h1
    simp only [List.flatMap_nil, List.length_nil] at h1
    omega
  | t :: L, [], h, _, _ => by
    have h1 := congrArg List.length h
    have h2 := tokL_pos t
    rw [List.flatMap_cons, List.length_append] at h1
    simp only [List.flatMap_nil, List.length_nil] at h1
    omega
  | t :: L, t' :: L', h, hL, hL' => by
    rw [List.flatMap_cons, List.flatMap_cons] at h
    have h1 := hL t List.mem_cons_self
    have h2 := hL' t' List.mem_cons_self
    obtain ⟨e1, e2⟩ := tokL_inj h h1.1 h2.1 h1.2 h2.2
    rw [e1, toks_inj e2 (fun x hx => hL x (List.mem_cons_of_mem _ hx)) (fun x hx => hL' x (List.mem_cons_of_mem _ hx))]
theorem way_facts {b : BagV} (h : isWayB b = true) : (0 ≤ b.src ∧ b.src ≤ 7) ∧ (0 ≤ b.dst ∧ b.dst ≤ 7) ∧ (1 ≤ b.seq ∧ b.seq ≤ 1000000) ∧ b.src ≠ b.dst := by
  unfold isWayB isOfficeB inB at h
  simp only [Bool.and_eq_true, decide_eq_true_eq] at h
  omega
theorem bag_facts {b : BagV} {L : List Tok} (h : isBagB b L = true) : isWayB b = true ∧ (0 < L.length ∧ L.length ≤ 8) ∧ ∀ t ∈ L, (0 ≤ t.id ∧ t.id ≤ 1000000) ∧ t.body.size ≤ 6000 := by
  unfold isBagB at h
  simp only [Bool.and_eq_true] at h
  obtain ⟨⟨h1, h2⟩, h3⟩ := h
  refine ⟨h1, ?_, fun t ht => ?_⟩
  · unfold inB at h2
    simp only [Bool.and_eq_true, decide_eq_true_eq] at h2
    omega
  · obtain ⟨k, hk, rfl⟩ := List.getElem_of_mem ht
    unfold toksB at h3
    have h4 := List.all_eq_true.1 h3 k (List.mem_range.2 hk)
    unfold tokOk at h4
    rw [getD_of (List.getElem?_eq_getElem hk), Bool.and_eq_true] at h4
    have := h4.1
    unfold isTokenB inB at this
    simp only [Bool.and_eq_true, decide_eq_true_eq] at this
    omega
theorem bag_inj {b b' : BagV} {L L' : List Tok} (hv : isBagB b L = true) (hv' : isBagB b' L' = true) (h : msgL bagW.data.toList b L = msgL bagW.data.toList b' L') : b.src = b'.src ∧ b.dst = b'.dst ∧ b.seq = b'.seq ∧ L = L' := by
  obtain ⟨w1, _, t1⟩ := bag_facts hv
  obtain ⟨w2, _, t2⟩ := bag_facts hv'
  have f1 := way_facts w1
  have f2 := way_facts w2
  unfold msgL at h
  rw [line_three, line_three] at h
  simp only [List.append_assoc, List.cons_append, List.nil_append, List.append_cancel_left_eq, List.cons.injEq, true_and] at h
  obtain ⟨e1, h⟩ := split_uniq h (dec_no _ 32 (by decide)) (dec_no _ 32 (by decide))
  obtain ⟨e2, h⟩ := split_uniq h (dec_no _ 32 (by decide)) (dec_no _ 32 (by decide))
  obtain ⟨e3, h⟩ := split_uniq h (dec_no _ 10 (by decide)) (dec_no _ 10 (by decide))
  exact ⟨decL_inj (by omega) (by omega) e1, decL_inj (by omega) (by omega) e2, decL_inj (by omega) (by omega) e3, toks_inj h t1 t2⟩
end Go.Proofs.YthgfbaekmhpiaaaGreatDoor
