/- The contract of operation's text, of the kinds entering, shipping and hearing. Conditions: its numbers are not less than 0; what it names lies in memory; lengths; the library's table of powers of ten lies as the program's text lays it. Words for maps to bool that a call made: what a lookup returns, and what a store leaves. No conditions. Words for a map from ints to texts: what a lookup returns, what a store and a deletion leave. No conditions. -/
import Derived.Test.YthgfbaekmhpiaaaGreatDoorCutA
import Derived.Test.YthgfbaekmhpiaaaGreatDoorDiskA
import Derived.Maps.OwnIn
import Derived.Maps.Views
import Derived.Maps.OwnSet
namespace Go.Proofs.YthgfbaekmhpiaaaGreatDoor
open Go.RowKit Go.Sort

/-- An operation of an office. -/
structure OpV where
  kind : Int
  office : Int
  tok : Tok
  dest : Int
  ids : Value
  word : ByteArray
  bag : BagV
  note : ByteArray
def opCells (x : OpV) : List Value := [.int .i64 x.kind, .int .i64 x.office, .int .i64 x.tok.id, .string x.tok.body, .int .i64 x.dest, x.ids, .string x.word, .int .i64 x.bag.src, .int .i64 x.bag.dst, .int .i64 x.bag.seq, x.bag.toks, .string x.note]
def opVal (x : OpV) : Value := .agg #[.int .i64 x.kind, .int .i64 x.office, .int .i64 x.tok.id, .string x.tok.body, .int .i64 x.dest, x.ids, .string x.word, .int .i64 x.bag.src, .int .i64 x.bag.dst, .int .i64 x.bag.seq, x.bag.toks, .string x.note]
/-- What text has in memory: the operation and the builder behind it. -/
structure OT (w W : World) (x : OpV) (l : List UInt8) : Prop where
  B : Below w.heap.size w W
  D : BldAt W (w.heap.size + 1) (w.heap.size + 1) l
  K : Blk W w.heap.size 155 (opCells x).toArray
  z : w.heap.size + 1 < W.heap.size
theorem OT.below {w W W' : World} {x : OpV} {l : List UInt8} (h : OT w W x l) (hb : Below W.heap.size W W') : OT w W' x l :=
  ⟨h.B.trans (hb.mono h.B.size), h.D.below hb, h.K.below hb h.K.lt, Nat.lt_of_lt_of_le h.z hb.size⟩
theorem OT.put {w W W' : World} {x : OpV} {l r : List UInt8} (h : OT w W x l) (h1 : BldAt W' (w.heap.size + 1) (w.heap.size + 1) r) (h2 : Below (w.heap.size + 1) W W') : OT w W' x r :=
  ⟨h.B.trans (h2.mono (Nat.le_succ _)), h1, h.K.below h2 (Nat.lt_succ_self _), Nat.lt_of_lt_of_le h.z h2.size⟩
theorem OT.ws {w W : World} {x : OpV} {l : List UInt8} (h : OT w W x l) (s : ByteArray) (r : List UInt8) (hr : l ++ s.data.toList = r) (hlen : l.length + s.size ≤ 140737488355328) :
    Calls Tryz.prog 92 #[.pointer (some ⟨w.heap.size + 1, 0, none⟩), .string s] W fun e w' => e = .returned (.tuple #[.int .i64 s.size, .nilIface]) ∧ OT w w' x r :=
  (ws_hid h.D (Nat.le_of_lt h.z) s _ rfl r hr hlen W (Below.refl _ _)).mono (fun _ _ q => ⟨q.1, h.put q.2.out.1 q.2.out.2⟩)
theorem OT.str {w W : World} {x : OpV} {l : List UInt8} (h : OT w W x l) :
    Calls Tryz.prog 95 #[.pointer (some ⟨w.heap.size + 1, 0, none⟩)] W fun e w' => e = .returned (.string (ba l)) ∧ Below w.heap.size w w' :=
  (bs_any _ _ _ W h.D (Nat.le_of_lt h.z)).mono (fun _ _ q => ⟨q.1, h.B.trans (q.2.mono (Nat.le_succ _))⟩)
theorem OT.start (w : World) (x : OpV) : OT w ((w.alloc (.cells (opCells x).toArray 155)).alloc (.cells #[.pointer none, .slice none 0 0] 161)) x [] := by
  have h := BldAt.new (w.alloc (.cells (opCells x).toArray 155)) (B := w.heap.size + 1) (by simp)
  rw [World.size_alloc] at h
  exact ⟨((Below.refl _ _).alloc (Nat.le_refl _) _).alloc (by simp) _, h, (Blk.new w _ _).alloc _, by simp⟩
theorem line_size {ns : List Int} (hN : OkN ns) : (lineB ns).size ≤ 20 * ns.length + 1 := by
  have h1 := line_len (fun n hn => (hN n hn).2)
  rw [decs_list] at h1
  rw [lineB_ba, ba_size, lineL, List.length_append]
  simp
  omega
theorem okN2 {a b : Int} (ha : 0 ≤ a ∧ a ≤ 9223372036854775807) (hb : 0 ≤ b ∧ b ≤ 9223372036854775807) : OkN [a, b] := fun n hn => by
  rcases List.mem_cons.1 hn with rfl | hn
  · exact ha
  · rw [List.mem_singleton] at hn
    subst hn
    exact hb
theorem okN1 {a : Int} (ha : 0 ≤ a ∧ a ≤ 9223372036854775807) : OkN [a] := fun n hn => by
  rw [List.mem_singleton] at hn
  subst hn
  exact ha
theorem line_at (ns : List Int) (W : World) (g k : Nat) (hB : Blk W g 3 (ns.map (Value.int .i64)).toArray) (hP : PowAt W) (h0 : ns ≠ []) (hN : OkN ns) (hl : ns.length ≤ 1000000) (hk : k = ns.length) (l : List UInt8) (hll : lineL ns = l) :
    Calls Tryz.prog 93 #[.slice (some ⟨g, 0, none⟩) k k] W fun e w' => e = .returned (.string (ba l)) ∧ Below W.heap.size W w' := by
  subst hll
  rw [← lineB_ba]
  exact lineOf_at ns W hB hP h0 hN hl k hk
theorem lineL_len {ns : List Int} (hN : OkN ns) : (lineL ns).length ≤ 20 * ns.length + 1 := by
  have := line_size hN
  rwa [lineB_ba, ba_size] at this
theorem tokL_len {t : Tok} (hi : 0 ≤ t.id ∧ t.id ≤ 9223372036854775807) (hs : t.body.size ≤ 100000000) : (tokL t).length ≤ t.body.size + 42 := by
  have h1 := lineL_len (ns := [t.id, (t.body.size : Int)]) (okN2 hi (by omega))
  unfold tokL
  rw [List.length_append, List.length_append, size_list]
  simp only [List.length_cons, List.length_nil] at h1 ⊢
  omega
def opL1 (x : OpV) : List UInt8 := lineL [1, x.office] ++ tokL x.tok ++ x.note.data.toList
def opL5 (x : OpV) (L : List Tok) : List UInt8 := lineL [5, x.office] ++ (lineL [((msgL x.word.data.toList x.bag L).length : Int)] ++ msgL x.word.data.toList x.bag L) ++ x.note.data.toList
def opL4 (x : OpV) (ids : List Int) : List UInt8 := lineL [4, x.office] ++ (lineL [x.dest] ++ lineL ids) ++ x.note.data.toList
set_option maxRecDepth 100000 in
set_option maxHeartbeats 2000000 in
theorem opText_enter (x : OpV) (hk : x.kind = 1) (w : World) (hP : PowAt w) (ho : 0 ≤ x.office ∧ x.office ≤ 9223372036854775807) (hi : 0 ≤ x.tok.id ∧ x.tok.id ≤ 9223372036854775807) (hs : x.tok.body.size ≤ 100000000) (hn : x.note.size ≤ 100000000) :
    Calls Tryz.prog 105 #[opVal x] w fun e w' => e = .returned (.string (ba (opL1 x))) ∧ Below w.heap.size w w' := by
  obtain ⟨kd, o, ⟨i, b⟩, dest, ids, word, bag, note⟩ := x
  dsimp only at hk ho hi hs hn
  subst hk
  have H0 := Lib.hid (OT.start w ⟨1, o, ⟨i, b⟩, dest, ids, word, bag, note⟩)
  have HP := Lib.hid (fun W (hW : Below w.heap.size w W) => PowAt.below hP hW)
  obtain ⟨l1, hl1⟩ : ∃ l1, lineL [1, o] = l1 := ⟨_, rfl⟩
  have HL1 := Lib.hid (fun W g hB hW => line_at [1, o] W g 2 hB (HP.out W hW) (by simp) (okN2 (by omega) ho) (by simp) rfl l1 hl1)
  have HLS : Hid (l1.length ≤ 41) := Lib.hid (by rw [← hl1]; exact lineL_len (ns := [1, o]) (okN2 (by omega) ho))
  have HNL := Lib.hid hn
  have HTT0 := fun W (hW : Below w.heap.size w W) => tokenText_any ⟨i, b⟩ W (HP.out W hW) hi (by dsimp only; omega)
  obtain ⟨l2, hl2⟩ : ∃ l2, tokL ⟨i, b⟩ = l2 := ⟨_, rfl⟩
  have HTL : Hid (l2.length ≤ 100000100) := Lib.hid (by rw [← hl2]; have := tokL_len (t := ⟨i, b⟩) hi hs; dsimp only at this; omega)
  have HEQ : Hid (l1 ++ l2 ++ note.data.toList = opL1 ⟨1, o, ⟨i, b⟩, dest, ids, word, bag, note⟩) := Lib.hid (by rw [← hl1, ← hl2]; rfl)
  rw [hl2] at HTT0
  have HTT := Lib.hid HTT0
  unfold opVal
  simp only [opCells] at H0
  simp only [tokVal] at HTT
  dsimp only
  clear hP ho hi hs hn hl1 hl2 HTT0
  go_enter Tryz.func105, Tryz.ntmps105
  go_upto_region 2 with fail
  generalize (w.alloc (.cells _ 155)).alloc _ = W1 at H0 ⊢
  have c0 := H0.out.K.cell 0
  have c1 := H0.out.K.cell 1
  have zk := H0.out.K.lt
  simp [opCells] at c0 c1
  go_wp2_with fail
  refine (HL1.out _ _ (by exact Blk.new _ _ _) (H0.out.B.alloc H0.out.B.size _)).mono ?_
  rintro e W2 ⟨rfl, hb⟩
  have H2 := Lib.hid ((H0.out.below ((Below.refl _ _).alloc (Nat.le_refl _) _)).below hb)
  clear hb H0 c0 c1 zk HL1
  go_wp2_with fail
  refine (H2.out.ws (ba l1) l1 (by rw [ba_list]; rfl) (by have := HLS.out; rw [ba_size, List.length_nil]; omega)).mono ?_
  rintro e W3 ⟨rfl, h3⟩
  have H3 := Lib.hid h3
  clear h3 H2
  have c0 := H3.out.K.cell 0
  have c2 := H3.out.K.cell 2
  have c3 := H3.out.K.cell 3
  have zk := H3.out.K.lt
  simp [opCells] at c0 c2 c3
  go_wp2_with fail
  refine (HTT.out _ H3.out.B).mono ?_
  rintro e W4 ⟨rfl, hb⟩
  have H4 := Lib.hid (H3.out.below hb)
  clear hb H3 HTT c0 c2 c3 zk
  go_wp2_with fail
  refine (H4.out.ws (ba l2) (l1 ++ l2) (by rw [ba_list]) (by have h1 := HLS.out; have h2 := HTL.out; rw [ba_size]; omega)).mono ?_
  rintro e W5 ⟨rfl, h5⟩
  have H5 := Lib.hid h5
  clear h5 H4
  have c11 := H5.out.K.cell 11
  have zk := H5.out.K.lt
  simp [opCells] at c11
  go_wp2_with fail
  refine (H5.out.ws note (l1 ++ l2 ++ note.data.toList) rfl (by have h1 := HLS.out; have h2 := HTL.out; have h3 := HNL.out; rw [List.length_append]; omega)).mono ?_
  rintro e W6 ⟨rfl, h6⟩
  have H6 := Lib.hid h6
  clear h6 H5 c11 zk
  go_wp2_with fail
  refine H6.out.str.mono ?_
  rintro e W7 ⟨rfl, hb⟩
  have HB7 := Lib.hid hb
  clear hb H6
  go_wp2_with fail
  go_ret
  exact ⟨by rw [← HEQ.out]; simp only [List.append_assoc]; rfl, HB7.out⟩
set_option maxRecDepth 100000 in
set_option maxHeartbeats 2000000 in
theorem opText_hear (x : OpV) (L : List Tok) (hk : x.kind = 5) (w : World) (hP : PowAt w) (hT : TokAt w x.bag.toks L) (ho : 0 ≤ x.office ∧ x.office ≤ 9223372036854775807) (hN : OkN [x.bag.src, x.bag.dst, x.bag.seq]) (hI : OkTok L) (hw : x.word.size ≤ 1000000) (hLl : L.length ≤ 1000000000) (hlen : (L.flatMap tokL).length ≤ 100000000000000) (hn : x.note.size ≤ 100000000) :
    Calls Tryz.prog 105 #[opVal x] w fun e w' => e = .returned (.string (ba (opL5 x L))) ∧ Below w.heap.size w w' := by
  obtain ⟨kd, o, ⟨i, b⟩, dest, ids, word, ⟨s, d, q, T⟩, note⟩ := x
  dsimp only at hk ho hN hT hw hn
  subst hk
  have H0 := Lib.hid (OT.start w ⟨5, o, ⟨i, b⟩, dest, ids, word, ⟨s, d, q, T⟩, note⟩)
  have HP := Lib.hid (fun W (hW : Below w.heap.size w W) => PowAt.below hP hW)
  obtain ⟨l1, hl1⟩ : ∃ l1, lineL [5, o] = l1 := ⟨_, rfl⟩
  have HL1 := Lib.hid (fun W g hB hW => line_at [5, o] W g 2 hB (HP.out W hW) (by simp) (okN2 (by omega) ho) (by simp) rfl l1 hl1)
  have HLS : Hid (l1.length ≤ 41) := Lib.hid (by rw [← hl1]; exact lineL_len (ns := [5, o]) (okN2 (by omega) ho))
  have HNL := Lib.hid hn
  have HMT0 := fun W (hW : Below w.heap.size w W) (hW2 : TokAt W T L) => msgText_any word ⟨s, d, q, T⟩ L W hW2 (HP.out W hW) hN hI hw hLl hlen
  have HT := Lib.hid hT
  obtain ⟨A, c, rfl, _⟩ := hT
  obtain ⟨l2, hl2⟩ : ∃ l2, msgL word.data.toList ⟨s, d, q, .slice A L.length c⟩ L = l2 := ⟨_, rfl⟩
  rw [hl2] at HMT0
  have HMT := Lib.hid HMT0
  have hl2n : l2.length ≤ 100000002000000 := by
    have h1 := lineL_len hN
    rw [← hl2]
    unfold msgL
    simp only [List.length_append, List.length_cons, List.length_nil, size_list] at h1 ⊢
    omega
  obtain ⟨l3, hl3⟩ : ∃ l3, lineL [(l2.length : Int)] = l3 := ⟨_, rfl⟩
  have HL3 := Lib.hid (fun W g hB hW => line_at [(l2.length : Int)] W g 1 hB (HP.out W hW) (by simp) (okN1 (by omega)) (by simp) rfl l3 hl3)
  have hl3n : l3.length ≤ 21 := by rw [← hl3]; exact lineL_len (ns := [(l2.length : Int)]) (okN1 (by omega))
  have HTL : Hid ((l3 ++ l2).length ≤ 100000003000000) := Lib.hid (by rw [List.length_append]; omega)
  have HEQ : Hid (l1 ++ (l3 ++ l2) ++ note.data.toList = opL5 ⟨5, o, ⟨i, b⟩, dest, ids, word, ⟨s, d, q, .slice A L.length c⟩, note⟩ L) := Lib.hid (by unfold opL5; dsimp only; rw [hl1, hl2, hl3])
  have HSZ : Hid (((ba l2).size : Int) = (l2.length : Int)) := Lib.hid rfl
  have hcc : ¬ 9223372036854775807 < (ba l3).size + (ba l2).size := by rw [ba_size, ba_size]; omega
  have HAD : Hid (ba l3 ++ ba l2 = ba (l3 ++ l2)) := Lib.hid (ba_add _ _)
  unfold opVal
  simp only [opCells] at H0
  simp only [msgVal] at HMT
  dsimp only
  clear hP ho hN hI hw hLl hlen hn hl1 hl2 hl3 HMT0 hl2n hl3n
  go_enter Tryz.func105, Tryz.ntmps105
  go_upto_region 2 with fail
  generalize (w.alloc (.cells _ 155)).alloc _ = W1 at H0 ⊢
  have c0 := H0.out.K.cell 0
  have c1 := H0.out.K.cell 1
  have zk := H0.out.K.lt
  simp [opCells] at c0 c1
  go_wp2_with fail
  refine (HL1.out _ _ (by exact Blk.new _ _ _) (H0.out.B.alloc H0.out.B.size _)).mono ?_
  rintro e W2 ⟨rfl, hb⟩
  have H2 := Lib.hid ((H0.out.below ((Below.refl _ _).alloc (Nat.le_refl _) _)).below hb)
  clear hb H0 c0 c1 zk HL1
  go_wp2_with fail
  refine (H2.out.ws (ba l1) l1 (by rw [ba_list]; rfl) (by have := HLS.out; rw [ba_size, List.length_nil]; omega)).mono ?_
  rintro e W3 ⟨rfl, h3⟩
  have H3 := Lib.hid h3
  clear h3 H2
  have c0 := H3.out.K.cell 0
  have c6 := H3.out.K.cell 6
  have c7 := H3.out.K.cell 7
  have c8 := H3.out.K.cell 8
  have c9 := H3.out.K.cell 9
  have c10 := H3.out.K.cell 10
  have zk := H3.out.K.lt
  simp [opCells] at c0 c6 c7 c8 c9 c10
  go_wp2_with fail
  refine (HMT.out _ H3.out.B (HT.out.below H3.out.B)).mono ?_
  rintro e W4 ⟨rfl, hb⟩
  have H4 := Lib.hid (H3.out.below hb)
  clear hb H3 HMT c0 c6 c7 c8 c9 c10 zk
  have hsz : (ba l2).size = l2.length := rfl
  generalize hB2 : ba l2 = B2 at HAD hcc hsz ⊢
  generalize ba l3 = B3 at HAD hcc HL3 ⊢
  go_wp2_with fail
  refine (HL3.out _ _ (by exact Blk.new _ _ _) (H4.out.B.alloc H4.out.B.size _)).mono ?_
  rintro e W5' ⟨rfl, hb⟩
  have H5' := Lib.hid ((H4.out.below ((Below.refl _ _).alloc (Nat.le_refl _) _)).below hb)
  clear hb H4 HL3
  go_wp2_with fail
  rw [HAD.out]
  refine (H5'.out.ws (ba (l3 ++ l2)) (l1 ++ (l3 ++ l2)) (by rw [ba_list]) (by have h1 := HLS.out; have h2 := HTL.out; rw [ba_size]; omega)).mono ?_
  rintro e W5 ⟨rfl, h5⟩
  have H5 := Lib.hid h5
  clear h5 H5'
  have c11 := H5.out.K.cell 11
  have zk := H5.out.K.lt
  simp [opCells] at c11
  go_wp2_with fail
  refine (H5.out.ws note (l1 ++ (l3 ++ l2) ++ note.data.toList) rfl (by have h1 := HLS.out; have h2 := HTL.out; have h3 := HNL.out; rw [List.length_append]; omega)).mono ?_
  rintro e W6 ⟨rfl, h6⟩
  have H6 := Lib.hid h6
  clear h6 H5 c11 zk
  go_wp2_with fail
  refine H6.out.str.mono ?_
  rintro e W7 ⟨rfl, hb⟩
  have HB7 := Lib.hid hb
  clear hb H6
  go_wp2_with fail
  go_ret
  exact ⟨by rw [← HEQ.out]; simp only [List.append_assoc]; rfl, HB7.out⟩
set_option maxRecDepth 100000 in
set_option maxHeartbeats 4000000 in
theorem opText_ship (x : OpV) (nids : List Int) (hk : x.kind = 4) (w : World) (hP : PowAt w) (hT : IntsAt w x.ids nids) (ho : 0 ≤ x.office ∧ x.office ≤ 9223372036854775807) (hd : 0 ≤ x.dest ∧ x.dest ≤ 9223372036854775807) (hN : OkN nids) (h0 : nids ≠ []) (hLl : nids.length ≤ 1000) (hn : x.note.size ≤ 100000000) :
    Calls Tryz.prog 105 #[opVal x] w fun e w' => e = .returned (.string (ba (opL4 x nids))) ∧ Below w.heap.size w w' := by
  obtain ⟨kd, o, ⟨i, b⟩, dest, ids, word, bag, note⟩ := x
  dsimp only at hk ho hd hT hn
  subst hk
  have H0 := Lib.hid (OT.start w ⟨4, o, ⟨i, b⟩, dest, ids, word, bag, note⟩)
  have HP := Lib.hid (fun W (hW : Below w.heap.size w W) => PowAt.below hP hW)
  obtain ⟨l1, hl1⟩ : ∃ l1, lineL [4, o] = l1 := ⟨_, rfl⟩
  have HL1 := Lib.hid (fun W g hB hW => line_at [4, o] W g 2 hB (HP.out W hW) (by simp) (okN2 (by omega) ho) (by simp) rfl l1 hl1)
  have HLS : Hid (l1.length ≤ 41) := Lib.hid (by rw [← hl1]; exact lineL_len (ns := [4, o]) (okN2 (by omega) ho))
  have HNL := Lib.hid hn
  have HT := Lib.hid hT
  obtain ⟨A, c, rfl, _⟩ := hT
  obtain ⟨l2, hl2⟩ : ∃ l2, lineL [dest] = l2 := ⟨_, rfl⟩
  obtain ⟨l3, hl3⟩ : ∃ l3, lineL nids = l3 := ⟨_, rfl⟩
  have HL2 := Lib.hid (fun W g hB hW => line_at [dest] W g 1 hB (HP.out W hW) (by simp) (okN1 hd) (by simp) rfl l2 hl2)
  have HL3 : Hid (∀ W, Below w.heap.size w W → Calls Tryz.prog 93 #[.slice A nids.length c] W fun e w' => e = .returned (.string (ba l3)) ∧ Below W.heap.size W w') := Lib.hid (fun W hW => by
    rw [← hl3, ← lineB_ba]
    exact lineOf_v nids _ W (HT.out.below hW) (HP.out W hW) h0 hN (by omega))
  have hl2n : l2.length ≤ 21 := by rw [← hl2]; exact lineL_len (ns := [dest]) (okN1 hd)
  have hl3n : l3.length ≤ 20001 := by rw [← hl3]; have := lineL_len hN; omega
  have HTL : Hid ((l2 ++ l3).length ≤ 100000) := Lib.hid (by rw [List.length_append]; omega)
  have HEQ : Hid (l1 ++ (l2 ++ l3) ++ note.data.toList = opL4 ⟨4, o, ⟨i, b⟩, dest, .slice A nids.length c, word, bag, note⟩ nids) := Lib.hid (by unfold opL4; dsimp only; rw [hl1, hl2, hl3])
  have hcc : ¬ 9223372036854775807 < (ba l2).size + (ba l3).size := by rw [ba_size, ba_size]; omega
  have HAD : Hid (ba l2 ++ ba l3 = ba (l2 ++ l3)) := Lib.hid (ba_add _ _)
  unfold opVal
  simp only [opCells] at H0
  dsimp only
  clear hP ho hN hLl hn hl1 hl2 hl3 hl2n hl3n hd h0
  go_enter Tryz.func105, Tryz.ntmps105
  go_upto_region 2 with fail
  generalize (w.alloc (.cells _ 155)).alloc _ = W1 at H0 ⊢
  have c0 := H0.out.K.cell 0
  have c1 := H0.out.K.cell 1
  have zk := H0.out.K.lt
  simp [opCells] at c0 c1
  go_wp2_with fail
  refine (HL1.out _ _ (by exact Blk.new _ _ _) (H0.out.B.alloc H0.out.B.size _)).mono ?_
  rintro e W2 ⟨rfl, hb⟩
  have H2 := Lib.hid ((H0.out.below ((Below.refl _ _).alloc (Nat.le_refl _) _)).below hb)
  clear hb H0 c0 c1 zk HL1
  go_wp2_with fail
  refine (H2.out.ws (ba l1) l1 (by rw [ba_list]; rfl) (by have := HLS.out; rw [ba_size, List.length_nil]; omega)).mono ?_
  rintro e W3 ⟨rfl, h3⟩
  have H3 := Lib.hid h3
  clear h3 H2
  have c0 := H3.out.K.cell 0
  have zk := H3.out.K.lt
  simp [opCells] at c0
  generalize ba l3 = B3 at HAD hcc HL3
  generalize ba l2 = B2 at HAD hcc HL2
  go_upto_region 8 with fail
  have HBZ : Hid (w.heap.size + 1 ≤ W3.heap.size) := Lib.hid (Nat.le_of_lt H3.out.z)
  have HS : Hid (∀ W, Below (w.heap.size + 1) W3 W → W.cell? ⟨w.heap.size, 4, none⟩ = some (.int .i64 dest) ∧ W.cell? ⟨w.heap.size, 5, none⟩ = some (.slice A nids.length c)) := Lib.hid fun W hW => by
    have k := Blk.below H3.out.K hW (Nat.lt_succ_self _)
    have c4 := k.cell 4
    have c5 := k.cell 5
    simp [opCells] at c4 c5
    exact ⟨c4, c5⟩
  have d0 := HS.out _ (Below.refl _ W3).drew
  obtain ⟨n0, hn0⟩ : ∃ n0 : Int, n0 = ((ba (l2 ++ l3)).size : Int) := ⟨_, rfl⟩
  have HWS : Hid (∀ W, Below W3.heap.size W3 W → Calls Tryz.prog 92 #[.pointer (some ⟨w.heap.size + 1, 0, none⟩), .string (B2 ++ B3)] W fun e w' => e = .returned (.tuple #[.int .i64 n0, .nilIface]) ∧ Hid (BldAt w' (w.heap.size + 1) (w.heap.size + 1) (l1 ++ (l2 ++ l3)) ∧ Below (w.heap.size + 1) W w')) := by
    rw [HAD.out]
    exact Lib.hid (fun W hW => ws_hid H3.out.D HBZ.out (ba (l2 ++ l3)) n0 hn0 (l1 ++ (l2 ++ l3)) (by rw [ba_list]) (by have h1 := HLS.out; have h2 := HTL.out; rw [ba_size]; omega) W hW)
  clear hn0 c0
  go_region_held3 (fun W => W.cell? ⟨w.heap.size, 4, none⟩ = some (.int .i64 dest) ∧ W.cell? ⟨w.heap.size, 5, none⟩ = some (.slice A nids.length c))
    (exact HS.out _ (by repeat (first | (with_reducible assumption) | (with_reducible exact Below.refl _ _) | (with_reducible refine below_dry ?_) | (with_reducible refine below_aly HBZ.out ?_ _))))
    (first
      | (have hxx := hFirst.out; go_at_call 93; refine (HL3.out _ (H3.out.B.trans (Below.mono (by repeat (first | (with_reducible assumption) | (with_reducible refine below_alx ?_ _) | (with_reducible exact Below.refl _ _) | (with_reducible refine below_drx ?_))) H3.out.B.size))).mono ?_; rintro e wJ ⟨rfl, hbJ⟩; have hBJ := below_twox (w := W3) hbJ (by repeat (first | (with_reducible assumption) | (with_reducible refine below_alx ?_ _) | (with_reducible exact Below.refl _ _) | (with_reducible refine below_drx ?_))); have hBJ2 := below_mony HBZ.out hBJ; clear hxx)
      | (go_at_call 93; refine (HL2.out _ _ (by exact Blk.new _ _ _) (H3.out.B.trans (Below.mono (by repeat (first | (with_reducible assumption) | (with_reducible refine below_alx ?_ _) | (with_reducible exact Below.refl _ _) | (with_reducible refine below_drx ?_))) H3.out.B.size))).mono ?_; rintro e wI ⟨rfl, hbI⟩; have hBI := below_twox (w := W3) hbI (by repeat (first | (with_reducible assumption) | (with_reducible refine below_alx ?_ _) | (with_reducible exact Below.refl _ _) | (with_reducible refine below_drx ?_))); have hBI2 := below_mony HBZ.out hBI; have hFirst := Lib.hid True.intro)
      | (go_at_call 92; refine (HWS.out _ (by with_reducible assumption)).mono ?_; rintro e wK ⟨rfl, HBK⟩; have hBK2 := hBJ2.trans HBK.out.2))
  all_goals
    have H5 := Lib.hid ((H3.out.below hBJ).put HBK.out.1 HBK.out.2)
    clear HS d0 HWS H3 HBZ HL2 HL3 hBJ hBJ2 hBI hBI2 hBK2 HBK hbI hbJ hFirst
    have c11 := H5.out.K.cell 11
    have zk := H5.out.K.lt
    simp [opCells] at c11
    go_wp2_with fail
    refine (H5.out.ws note (l1 ++ (l2 ++ l3) ++ note.data.toList) rfl (by have h1 := HLS.out; have h2 := HTL.out; have h3 := HNL.out; rw [List.length_append]; omega)).mono ?_
    rintro e W6 ⟨rfl, h6⟩
    have H6 := Lib.hid h6
    clear h6 H5 c11 zk
    go_wp2_with fail
    refine H6.out.str.mono ?_
    rintro e W7 ⟨rfl, hb⟩
    have HB7 := Lib.hid hb
    clear hb H6
    go_wp2_with fail
    go_ret
    exact ⟨by rw [← HEQ.out]; simp only [List.append_assoc]; rfl, HB7.out⟩
end Go.Proofs.YthgfbaekmhpiaaaGreatDoor
namespace Go.Proofs.YthgfbaekmhpiaaaGreatDoor
open Go.RowKit

theorem boolRow : Tryz.prog.underlying 4 = some .bool := by kernel_rfl
theorem intRowS : Tryz.prog.underlying 3 = some (.int .i64) := by kernel_rfl
theorem zeroBool (w : World) : (zeroValue 4).run Tryz.prog w = .ok (.bool false) w := by kernel_rfl

/-- Block b is a map to bool with keys of type K, of at most n entries, that answers p k at the key k. -/
def SetAt (K : TypeId) (w : World) (b n : Nat) (p : Lit → Bool) : Prop :=
  ∃ D : DataW Unit, w.ownsMap Tryz.prog K (plainElem Tryz.prog 4) b n D ∧ Maps.IsMap D ∧ ∀ k, D.atKey k (.lit (.bool false)) = .lit (.bool (p k))

theorem plain_bool_inv {v : Value} {z : DataW Unit × List MemPlace} (h : plainElem Tryz.prog 4 v = some z) : ∃ x, v = .bool x ∧ z = (.lit (.bool x), []) := by
  unfold plainElem at h
  rw [boolRow] at h
  cases v <;> simp at h
  exact ⟨_, rfl, h.symm⟩

section
variable {K : TypeId} {w w' : World} {b n : Nat} {p : Lit → Bool}
theorem SetAt.lt (h : SetAt K w b n p) : b < w.heap.size := by
  obtain ⟨D, h, _⟩ := h; exact h.lt
theorem SetAt.made (K : TypeId) (w : World) : SetAt K (w.alloc (.map #[] 0)) w.heap.size 0 (fun _ => false) :=
  ⟨.map [], World.ownsMap_made w _ K _, Maps.isMap_empty, fun _ => rfl⟩
theorem SetAt.of_block (h : SetAt K w b n p) (hb : w'.heap[b]? = w.heap[b]?) : SetAt K w' b n p := by
  obtain ⟨D, ⟨es, ck, h1, h2⟩, h3⟩ := h
  exact ⟨D, ⟨es, ck, hb.trans h1, h2⟩, h3⟩
theorem SetAt.alloc (h : SetAt K w b n p) (o : Obj) : SetAt K (w.alloc o) b n p := h.of_block (Below.heap_alloc w o b h.lt)
theorem SetAt.drew (h : SetAt K w b n p) : SetAt K w.drew b n p := h.of_block rfl
theorem SetAt.drewN (h : SetAt K w b n p) (m : Nat) : SetAt K (w.drewN m) b n p := h.of_block rfl
theorem SetAt.set (h : SetAt K w b n p) {a : Addr} (ha : b ≠ a.block) (v : Value) : SetAt K (w.setCell a v) b n p := h.of_block (Below.heap_setCell w a v b ha)
theorem SetAt.below {B : Nat} (h : SetAt K w b n p) (hb : Below B w w') (hB : b < B) : SetAt K w' b n p := h.of_block (hb.block b hB)
theorem SetAt.keep {S : Nat → Prop} (h : SetAt K w b n p) (hk : Keeps S w w') (hn : ¬ S b) : SetAt K w' b n p := h.of_block (hk.block b h.lt hn)
theorem SetAt.mono (h : SetAt K w b n p) {n' : Nat} (hn : n ≤ n') : SetAt K w b n' p := by
  obtain ⟨D, h1, h2⟩ := h; exact ⟨D, h1.mono hn, h2⟩
theorem SetAt.congr {q : Lit → Bool} (h : SetAt K w b n p) (hq : ∀ k, q k = p k) : SetAt K w b n q := by
  obtain rfl : q = p := funext hq
  exact h

/-- 'm[k]'. -/
theorem SetAt.look (h : SetAt K w b n p) (law : Maps.Keyed Tryz.prog K) {t : TypeId} (ht : Tryz.prog.underlying t = some (.map K 4)) {key : Value} {kl : Lit} (hkey : keyOf Tryz.prog K key = some kl) :
    (Instr.lookup t (.map (some b)) key false).run Tryz.prog w = .ok (.bool (p kl)) w := by
  obtain ⟨D, h, _, hp⟩ := h
  obtain ⟨v, ps, hrun, hv⟩ := h.lookup law ht (zeroBool w) (plainElem_bool boolRow false) hkey
  obtain ⟨x, rfl, hx⟩ := plain_bool_inv hv
  rw [hrun]
  simp only [Prod.mk.injEq] at hx
  rw [hp kl] at hx
  simp at hx
  rw [hx.1]

/-- 'm[k] = x'. -/
theorem SetAt.store (h : SetAt K w b n p) (law : Maps.Keyed Tryz.prog K) {t : TypeId} (ht : Tryz.prog.underlying t = some (.map K 4)) (hn : n < maxLen) {key : Value} {kl : Lit} (hkey : keyOf Tryz.prog K key = some kl) (x : Bool) :
    ∃ w', (Instr.mapUpdate t (.map (some b)) key (.bool x)).run Tryz.prog w = .ok () w' ∧ (∀ q : Lit → Bool, q kl = x → (∀ k, k ≠ kl → q k = p k) → SetAt K w' b (n + 1) q) ∧ Keeps (fun i => i = b) w w' := by
  obtain ⟨D, h, hm, hp⟩ := h
  obtain ⟨w', hrun, h1, h2⟩ := h.update law ht hn hkey (plainElem_bool boolRow x)
  refine ⟨w', hrun, fun q hq1 hq2 => ⟨_, h1, hm.put _ _, fun k => ?_⟩, Keeps.of_grown h2 (fun k e _ => by cases e; rfl)⟩
  by_cases hk : k = kl
  · subst hk
    rw [Maps.atKey_put_same hm (law.key hkey), hq1]
  · rw [Maps.atKey_put_other hk, hp k, hq2 k hk]
end

theorem lawInt : Maps.Keyed Tryz.prog 3 := Maps.int_keyed intRowS
theorem keyInt {n : Int} (h : -9223372036854775808 ≤ n ∧ n ≤ 9223372036854775807) : keyOf Tryz.prog 3 (.int .i64 n) = some (.int .i64 n) :=
  Maps.keyOf_int_mk intRowS (by have h1 : IntKind.i64.min = -9223372036854775808 := rfl; have h2 : IntKind.i64.max = 9223372036854775807 := rfl; simp [Lit.wf, h1, h2]; omega)
/-- A view of int keys. -/
def onInt (f : Int → Bool) : Lit → Bool
  | .int .i64 n => f n
  | _ => false
theorem onInt_at (f : Int → Bool) (n : Int) : onInt f (.int .i64 n) = f n := rfl
theorem onInt_other {f g : Int → Bool} {m : Int} (h : ∀ n, n ≠ m → f n = g n) (k : Lit) (hk : k ≠ .int .i64 m) : onInt f k = onInt g k := by
  unfold onInt
  split
  · rename_i n
    exact h n (fun e => hk (by rw [e]))
  · rfl
theorem mapIntRow : Tryz.prog.underlying 138 = some (.map 3 4) := by kernel_rfl
end Go.Proofs.YthgfbaekmhpiaaaGreatDoor
namespace Go.Proofs.YthgfbaekmhpiaaaGreatDoor
open Go.RowKit Go.Shelf

/-- Elements that are held as they are. -/
def heldR (v : Value) : Option (DataW Value × List MemPlace) := some (.held v, [])
theorem mapTextRow : Tryz.prog.underlying 137 = some (.map 3 9) := by kernel_rfl
theorem zeroText (w : World) : (zeroValue 9).run Tryz.prog w = .ok (.string ⟨#[]⟩) w := by kernel_rfl
/-- Block b is a map of at most n entries that has at the key k the text f k. -/
def MapS (w : World) (b n : Nat) (f : Int → Option ByteArray) : Prop :=
  ∃ D : DataW Value, w.ownsMap Tryz.prog 3 heldR b n D ∧ Maps.IsMap D ∧ ∀ (k : Int) d, D.atKey (.int .i64 k) d = match f k with | some s => .held (.string s) | none => d
section
variable {w w' : World} {b n : Nat} {f : Int → Option ByteArray}
theorem MapS.lt (h : MapS w b n f) : b < w.heap.size := by obtain ⟨D, h, _⟩ := h; exact h.lt
theorem MapS.of_block (h : MapS w b n f) (hb : w'.heap[b]? = w.heap[b]?) : MapS w' b n f := by
  obtain ⟨D, ⟨es, ck, h1, h2⟩, h3⟩ := h
  exact ⟨D, ⟨es, ck, hb.trans h1, h2⟩, h3⟩
theorem MapS.below {B : Nat} (h : MapS w b n f) (hb : Below B w w') (hB : b < B) : MapS w' b n f := h.of_block (hb.block b hB)
theorem MapS.keep {S : Nat → Prop} (h : MapS w b n f) (hk : Keeps S w w') (hn : ¬ S b) : MapS w' b n f := h.of_block (hk.block b h.lt hn)
theorem MapS.congr {g : Int → Option ByteArray} (h : MapS w b n f) (hq : ∀ k, g k = f k) : MapS w b n g := by
  obtain rfl : g = f := funext hq
  exact h
theorem MapS.new_of {W : World} {b : Nat} (hb : W.heap[b]? = some (.map #[] 0)) : MapS W b 0 (fun _ => none) := by
  have h : W.ownsMap Tryz.prog 3 heldR b 0 (.map [] : DataW Value) := by
    obtain ⟨es, ck, h1, h2⟩ := World.ownsMap_made W Tryz.prog 3 heldR
    rw [World.alloc_heap_new] at h1
    exact ⟨es, ck, hb.trans h1, h2⟩
  exact ⟨.map [], h, Maps.isMap_empty, fun _ _ => rfl⟩
theorem MapS.store (h : MapS w b n f) (hn : n < maxLen) {k : Int} (hk : -9223372036854775808 ≤ k ∧ k ≤ 9223372036854775807) (s : ByteArray) :
    ∃ w', (Instr.mapUpdate 137 (.map (some b)) (.int .i64 k) (.string s)).run Tryz.prog w = .ok () w' ∧ MapS w' b (n + 1) (fun j => if j = k then some s else f j) ∧ Keeps (fun i => i = b) w w' := by
  obtain ⟨D, h, hm, hp⟩ := h
  obtain ⟨w', hrun, h1, h2⟩ := h.update lawInt mapTextRow hn (keyInt hk) (show heldR (.string s) = some (.held (.string s), []) from rfl)
  refine ⟨w', hrun, ⟨_, h1, hm.put _ _, fun j d => ?_⟩, Keeps.of_grown h2 (fun k e _ => by cases e; rfl)⟩
  by_cases hj : j = k
  · subst hj
    rw [Maps.atKey_put_same hm (lawInt.key (keyInt hk))]
    simp
  · rw [Maps.atKey_put_other (fun e => hj (by cases e; rfl)), hp j]
    simp [hj]
theorem MapS.drop (h : MapS w b n f) {k : Int} (hk : -9223372036854775808 ≤ k ∧ k ≤ 9223372036854775807) (ty : TypeId) :
    ∃ w', (Builtin.delete_ #[137, 3] ty #[.map (some b), .int .i64 k]).run Tryz.prog w = .ok (.tuple #[]) w' ∧ MapS w' b n (fun j => if j = k then none else f j) ∧ Keeps (fun i => i = b) w w' := by
  obtain ⟨D, h, hm, hp⟩ := h
  obtain ⟨w', hrun, h1, h2⟩ := h.drop lawInt mapTextRow (keyInt hk) ty
  refine ⟨w', hrun, ⟨_, h1, h1.isMap, fun j d => ?_⟩, Keeps.of_grown h2.grown (fun k e _ => by cases e; rfl)⟩
  by_cases hj : j = k
  · subst hj
    rw [Maps.atKey_del_same]
    simp
  · rw [Maps.atKey_del_other (fun e => hj (by cases e; rfl)), hp j]
    simp [hj]
theorem MapS.has (h : MapS w b n f) : ∃ D : DataW Value, w.ownsMap Tryz.prog 3 heldR b n D ∧ ∀ k : Int, Maps.has D (.int .i64 k) = (f k).isSome := by
  obtain ⟨D, h, hm, hp⟩ := h
  refine ⟨D, h, fun k => ?_⟩
  cases hf : f k with
  | none => exact Maps.has_false_of_atKey (fun z => by rw [hp, hf])
  | some s => exact Maps.has_true_of_atKey (y := .held (.string s)) (fun z => by rw [hp, hf])
/-- 'v, ok := m[k]'. -/
theorem MapS.look_ok (h : MapS w b n f) {k : Int} (hk : -9223372036854775808 ≤ k ∧ k ≤ 9223372036854775807) :
    (Instr.lookup 137 (.map (some b)) (.int .i64 k) true).run Tryz.prog w = .ok (.tuple #[.string ((f k).getD ⟨#[]⟩), .bool (f k).isSome]) w := by
  obtain ⟨D, h, hm, hp⟩ := h
  obtain ⟨v, ps, hrun, hv⟩ := h.look_ok lawInt mapTextRow (zeroText w) (show heldR (.string ⟨#[]⟩) = some (.held (.string ⟨#[]⟩), []) from rfl) (keyInt hk)
  rw [hp] at hv
  rw [hrun]
  cases hf : f k with
  | none =>
    rw [hf] at hv
    rw [Maps.has_false_of_atKey (fun z => by rw [hp, hf])]
    simp [heldR] at hv
    rw [hv.1]
    rfl
  | some s =>
    rw [hf] at hv
    rw [Maps.has_true_of_atKey (y := .held (.string s)) (fun z => by rw [hp, hf])]
    simp [heldR] at hv
    rw [hv.1]
    rfl
/-- 'm[k]'. -/
theorem MapS.look (h : MapS w b n f) {k : Int} (hk : -9223372036854775808 ≤ k ∧ k ≤ 9223372036854775807) :
    (Instr.lookup 137 (.map (some b)) (.int .i64 k) false).run Tryz.prog w = .ok (.string ((f k).getD ⟨#[]⟩)) w := by
  obtain ⟨D, h, hm, hp⟩ := h
  obtain ⟨v, ps, hrun, hv⟩ := h.lookup lawInt mapTextRow (zeroText w) (show heldR (.string ⟨#[]⟩) = some (.held (.string ⟨#[]⟩), []) from rfl) (keyInt hk)
  rw [hp] at hv
  rw [hrun]
  cases hf : f k with
  | none =>
    rw [hf] at hv
    simp [heldR] at hv
    rw [hv.1]
    rfl
  | some s =>
    rw [hf] at hv
    simp [heldR] at hv
    rw [hv.1]
    rfl
end
theorem mapBoolRow : Tryz.prog.underlying 138 = some (.map 3 4) := by kernel_rfl
end Go.Proofs.YthgfbaekmhpiaaaGreatDoor
