/- The contract of Write on a valid entry. Conditions: lengths; the library's table of powers of ten lies as the program's text lays it. The contract of Write on any entry. Conditions: a length; the library's table of powers of ten lies as the program's text lays it. -/
import Derived.Test.YthbgmhhbkojcmaaGreatDoorWriteA
import Derived.Test.YthbgmhhbkojcmaaGreatDoorItoaA
import Derived.Test.YthbgmhhbkojcmaaGreatDoorOnA
import Derived.Deep.RegionHeld3
import Derived.Test.YthbgmhhbkojcmaaGreatDoorFieldsA
namespace Go.Proofs.YthbgmhhbkojcmaaGreatDoor
open Go.RowKit Go.Shelf

set_option maxRecDepth 100000 in
set_option maxHeartbeats 4000000 in
theorem write_valid (x : Ent) (hkd : x.kind = 1 ∨ x.kind = 2 ∨ x.kind = 3 ∨ x.kind = 4 ∨ x.kind = 5 ∨ x.kind = 6 ∨ x.kind = 7) (hck : ckE x = 0) (hd : 0 ≤ x.day ∧ x.day ≤ 9223372036854775807) (hf : ∀ o ∈ offs x.kind, 0 ≤ fieldOf x o ∧ fieldOf x o ≤ 9223372036854775807)
    (hn : x.name.size ≤ maxLen) (hlen : (lineB x).size ≤ 140737488355328) (w : World) (hT : PowAt w) :
    Calls Tryz.prog 7 #[entVal x] w fun e w' => e = .returned (.tuple #[.string (lineB x), .int .i64 0]) ∧ Below w.heap.size w w' := by
  have HCK := Lib.hid (fun W => checkEntry_any x W hn)
  have hX0 := EntAt.new w x
  have hB0 : Below w.heap.size w (w.alloc (.cells (entCells x).toArray 23)) := (Below.refl _ _).alloc (Nat.le_refl _) _
  have HF := Lib.hid hf
  have HP := Lib.hid (fun W (hW : Below w.heap.size w W) => PowAt.below hT hW)
  clear hT
  have HL := Lib.hid hlen
  have HC := Lib.hid hck
  have HD := Lib.hid hd
  clear hf hlen hck hd
  unfold entVal at HCK ⊢
  go_enter Tryz.func7, Tryz.ntmps7
  go_wp2_with fail
  simp only [entCells] at hX0 hB0
  generalize w.alloc (.cells _ 23) = W0 at hX0 hB0 ⊢
  obtain ⟨k0, k1, k2, k3, k4, k5, k6, k7, k8, k9, hz⟩ := EntAt.cells (x := x) hX0
  go_wp2_with fail
  refine (HCK.out _).mono ?_
  rintro e w1 ⟨rfl, hb1⟩
  rw [HC.out]
  have hX1 := Blk.below hX0 hb1 hz
  have hB1 := hB0.trans (hb1.mono hB0.size)
  clear k0 k1 k2 k3 k4 k5 k6 k7 k8 k9 hz hX0 hB0 hb1 HCK
  go_upto_region 4 with fail
  go_cut [5] (fun s wx => OwnS wx (w.heap.size + 1) s (wordsTo x 0) ∧ Below w.heap.size w wx ∧ EntAt wx w.heap.size x)
  case first =>
    have HI := Lib.hid (fun W (hW : Below w1.heap.size w1 W) => itoaP_any x.day HD.out.1 HD.out.2 W (HP.out W (hB1.trans (hW.mono hB1.size))))
    have HWd := Lib.hid (wordOf_any x.kind hkd)
    have HS : Hid (∀ W, Below w1.heap.size w1 W → W.cell? ⟨w.heap.size, 0, none⟩ = some (.int .i64 x.day) ∧ W.cell? ⟨w.heap.size, 1, none⟩ = some (.int .u8 x.kind)) := Lib.hid fun W hW => by
      obtain ⟨k0, k1, _⟩ := EntAt.cells (x := x) (Blk.below hX1 hW (Blk.lt hX1))
      exact ⟨k0, k1⟩
    have hBd : Below w1.heap.size w1 w1.drew := (Below.refl _ _).drew
    have d0 := HS.out _ hBd
    go_region_held3 (fun W => W.cell? ⟨w.heap.size, 0, none⟩ = some (.int .i64 x.day) ∧ W.cell? ⟨w.heap.size, 1, none⟩ = some (.int .u8 x.kind))
      (exact HS.out _ (by repeat (first | (with_reducible assumption) | (with_reducible refine below_al ?_ _) | (with_reducible exact Below.refl _ _) | (with_reducible refine below_d1 ?_))))
      (first
        | (go_at_call 19; refine (HI.out _ (by repeat (first | (with_reducible assumption) | (with_reducible exact Below.refl _ _) | (with_reducible refine below_d1 ?_)))).mono ?_; rintro e wI ⟨rfl, hbI⟩; have hBI := below_two2 (w := w1) hbI (by repeat (first | (with_reducible assumption) | (with_reducible exact Below.refl _ _) | (with_reducible refine below_d1 ?_))))
        | (go_at_call 20; refine (HWd.out _).mono ?_; rintro e w' ⟨rfl, rfl⟩))
    all_goals
      go_wp2_with fail
      go_meet
      have hX2 := Blk.below hX1 hBI (Blk.lt hX1)
      have hB2 := hB1.trans (hBI.mono hB1.size)
      exact ⟨OwnS.two (by have := Blk.lt hX2; omega) (Blk.new wI _ _), hB2.alloc hB2.size _, Blk.alloc hX2 _⟩
  case rest =>
    clear hX1 hB1
    obtain ⟨hO, hB, hX⟩ := hcut
    go_wp2_with fail
    refine (numbersOf_any _ x _ hX).mono ?_
    rintro e w2 ⟨A, rfl, hb2, hA⟩
    have hO2 := hO.keep (Keeps.of_new (S := fun _ => False) hb2) (fun _ _ h => h)
    have hX2 := Blk.below hX hb2 (Blk.lt hX)
    have hB2 := hB.trans (hb2.mono hB.size)
    have hlo := Blk.lt hX
    clear hO hX hB hb2
    have hl7 : (offs x.kind).length ≤ 7 := offs_len _
    have hl1 : 1 ≤ (offs x.kind).length := by rcases hkd with h | h | h | h | h | h | h <;> rw [h] <;> decide
    obtain ⟨i0, hi, hz0, hz1, hz2⟩ := info_parts infoString
    go_wp2_with fail
    go_loopw [5, 22] (fun s i wr => ∃ k : Nat, k ≤ (offs x.kind).length ∧ i = .int .i64 k ∧ OwnS wr (w.heap.size + 1) s (wordsTo x k) ∧ Below w.heap.size w wr ∧ EntAt wr w.heap.size x ∧ LiesFrom wr (w.heap.size + 1) A (ptrs w.heap.size (offs x.kind))) (fun _ i _ => (offs x.kind).length - (intOf i).toNat)
    case atStart => exact ⟨0, Nat.zero_le _, rfl, hO2, hB2, hX2, hA.elim .inl (fun ⟨b, h1, h2, h3⟩ => .inr ⟨b, h1, by omega, h3⟩)⟩
    case round =>
      clear hO2 hB2 hX2 hA hlo
      obtain ⟨k, hk, rfl, hO, hB, hX, hA⟩ := hrel
      by_cases hlt : k < (offs x.kind).length
      · obtain ⟨o, hOo⟩ : ∃ o, (offs x.kind)[k]? = some o := ⟨_, List.getElem?_eq_getElem hlt⟩
        have hom := List.mem_of_getElem? hOo
        have ho2 := offs_lt x.kind o hom
        have HI := Lib.hid (itoaP_any (fieldOf x o) (HF.out o hom).1 (HF.out o hom).2 wr (HP.out wr hB))
        have HSN := Lib.hid (wordsTo_snoc x k o hOo)
        have HLN := Lib.hid (wordsTo_len x k hk)
        have p1 : (ptrs w.heap.size (offs x.kind))[k]? = some (.pointer (some ⟨w.heap.size, o, none⟩)) := by simp [ptrs, hOo]
        have hc1 := (Blk.cell hX o).trans (fieldOf_cell x o ho2)
        clear hOo hom ho2
        have hA' := hA
        rcases hA' with h0 | ⟨b, rfl, hb1, hb3, hc⟩
        · rw [h0] at p1; cases p1
        have q1 := hc k _ p1
        clear p1
        go_wp2_with fail
        refine HI.out.mono ?_
        rintro e wq ⟨rfl, hbq⟩
        replace hO := hO.keep (Keeps.of_new (S := fun _ => False) hbq) (fun _ _ h => h)
        replace hX := Blk.below hX hbq (Blk.lt hX)
        replace hB := hB.trans (hbq.mono hB.size)
        replace hc := fun k u (h : (ptrs w.heap.size (offs x.kind))[k]? = some u) => (hbq.cell (p := ⟨b, k, none⟩) hb3).trans (hc k u h)
        replace hA := hA.keep (Keeps.of_new (S := fun _ => False) hbq) (fun _ _ h => h)
        clear hbq
        have hw1 := Blk.lt hX
        have hne : ∀ g, u5.ownBlock = some g → g ≠ b := fun g hg e => by
          subst e
          obtain ⟨g', c', h1, h2, h3, h4, h5⟩ := OwnS.shape hO (by simp [wordsTo])
          subst h1
          simp [Value.ownBlock] at hg
          subst hg
          have := h5 0 (decB x.day) (by simp [wordsTo])
          have h6 := hc 0 (.pointer (some ⟨w.heap.size, ((offs x.kind)[0]'(by omega)), none⟩)) (by simp [ptrs])
          rw [this] at h6
          cases h6
        have hO' : wq.ownsRow (w.heap.size + 1) 9 1 u5 (wordsTo x k).length ((wordsTo x k).map Value.string) := hO
        have HA := Lib.hid hA
        clear hc q1 hc1
        go_wp2_with (at_builtin; refine wpList_append_own_at _ rfl _ _ 51 rfl (w.heap.size + 1) 9 i0 (.string ⟨#[]⟩) 1 16 stringsRow hi hz0 hz1 hz2 rfl (by decide) _ _ _ rfl (hO'.alloc _) ⟨wq.heap.size, 0, none⟩ 1 1 [.string (decB (fieldOf x o))] rfl rfl (cell_one_new _ _ _) (fun u hu => by simp at hu; subst hu; rfl) (by rw [HLN.out]; unfold maxLen; omega) (by rw [HLN.out]; omega) (by simp; omega) ?_; intro v' w4 hO4 hgrow hnil hloc)
        have hO5 : OwnS w4 (w.heap.size + 1) v' (wordsTo x (k + 1)) := by rw [HSN.out]; exact OwnS.snoc hO4
        have hne5 : ∀ i, u5.ownBlock = some i → w.heap.size + 1 ≤ i := fun i h => (hO'.lt i h).1
        have hB4 : Below w.heap.size w w4 := Below.grown (hB.alloc hB.size _) hgrow (by have := hB.size; simp; omega) (fun i h => by have := hne5 i h; omega)
        have hX4 : EntAt w4 w.heap.size x := Blk.grownS (Blk.alloc hX _) hgrow (fun i h => by have := hne5 i h; omega)
        have hA4 := (HA.out.allocS _).grownS hgrow hne
        clear hO4 hO' hO hne hne5 hgrow hnil hloc hX hB hA
        go_wp2
        go_roundw
        case rel => exact ⟨k + 1, by omega, by go_num, hO5, hB4, hX4, hA4⟩
        case measure => simp [intOf]; omega
      · have HT : k = (offs x.kind).length := by omega
        subst HT
        have HLN := Lib.hid (wordsTo_len x _ hk)
        obtain ⟨k0, k1, k2, k3, k4, k5, k6, k7, k8, k9, hz⟩ := EntAt.cells (x := x) hX
        clear hA k0 k2 k3 k4 k5 k6 k7 k8
        have hO' : wr.ownsRow (w.heap.size + 1) 9 1 u5 (wordsTo x (offs x.kind).length).length ((wordsTo x (offs x.kind).length).map Value.string) := hO
        by_cases hk1 : x.kind = 1
        · have HA : Hid (wordsAll x = wordsTo x (offs x.kind).length ++ [x.name]) := Lib.hid (by simp [wordsAll, hk1])
          rw [hk1] at k1
          clear hk1
          go_wp2_with (at_builtin; refine wpList_append_own_at _ rfl _ _ 51 rfl (w.heap.size + 1) 9 i0 (.string ⟨#[]⟩) 1 16 stringsRow hi hz0 hz1 hz2 rfl (by decide) _ _ _ rfl (hO'.alloc _) ⟨wr.heap.size, 0, none⟩ 1 1 [.string x.name] rfl rfl (cell_one_new _ _ _) (fun u hu => by simp at hu; subst hu; rfl) (by rw [HLN.out]; unfold maxLen; omega) (by rw [HLN.out]; omega) (by simp; omega) ?_; intro v' w4 hO4 hgrow hnil hloc)
          have hO5 : OwnS w4 (w.heap.size + 1) v' (wordsAll x) := by rw [HA.out]; exact OwnS.snoc hO4
          have hne5 : ∀ i, u5.ownBlock = some i → w.heap.size + 1 ≤ i := fun i h => (hO'.lt i h).1
          have hB4 : Below w.heap.size w w4 := Below.grown (hB.alloc hB.size _) hgrow (by have := hB.size; simp; omega) (fun i h => by have := hne5 i h; omega)
          obtain ⟨g, c, rfl, h2, h3, h4, h5⟩ := hO5.shape (by rw [HA.out]; simp)
          have HJ := Lib.hid (join_any g c (wordsAll x) w4 h5 h4 (by rw [HA.out, List.length_append, HLN.out]; simp; omega) h2 HL.out)
          clear h5 h4 h2 h3 hO5 hO4 hgrow hnil hloc hne5 hO' hO hX hB
          clear HLN
          go_wp2_with fail
          refine HJ.out.mono ?_
          rintro e w5 ⟨rfl, hb5⟩
          go_wp2_with fail
          go_ret2
          exact ⟨rfl, hB4.trans (hb5.mono hB4.size)⟩
        · have HA : Hid (wordsAll x = wordsTo x (offs x.kind).length) := Lib.hid (by simp [wordsAll, hk1])
          have hO5 : OwnS wr (w.heap.size + 1) u5 (wordsAll x) := by rw [HA.out]; exact hO
          obtain ⟨g, c, rfl, h2, h3, h4, h5⟩ := hO5.shape (by rw [HA.out]; simp [wordsTo])
          have HJ := Lib.hid (join_any g c (wordsAll x) wr h5 h4 (by rw [HA.out, HLN.out]; omega) h2 HL.out)
          have hkb : (x.kind == 1) = false := by simpa using hk1
          clear h5 h4 h2 h3 hO5 hO' hO hX hk1
          clear HLN
          go_wp2_with fail
          refine HJ.out.mono ?_
          rintro e w5 ⟨rfl, hb5⟩
          go_wp2_with fail
          go_ret2
          exact ⟨rfl, hB.trans (hb5.mono hB.size)⟩
end Go.Proofs.YthbgmhhbkojcmaaGreatDoor
namespace Go.Proofs.YthbgmhhbkojcmaaGreatDoor
open Go.RowKit Go.Shelf

theorem dec_len (u : Nat) : (Lib.decDigits u).length ≤ u + 1 := by
  induction u using Nat.strongRecOn with
  | ind u ih =>
    rw [Lib.decDigits]
    split
    · simp
    · have := ih (u / 10) (by omega)
      rw [List.length_append]
      simp
      omega
theorem lens_le {M : Nat} : ∀ {l : List (List UInt8)}, (∀ s ∈ l, s.length ≤ M) → Lib.lens l ≤ M * l.length
  | [], _ => by simp [Lib.lens]
  | s :: l, h => by
    have h1 := h s (List.mem_cons_self ..)
    have h2 := lens_le (l := l) (fun z hz => h z (List.mem_cons_of_mem _ hz))
    simp only [Lib.lens, List.map_cons, List.sum_cons, List.length_cons] at h2 ⊢
    rw [Nat.mul_succ]
    omega
theorem nums_ok (x : Ent) (h : okE x = true) : (0 ≤ x.day ∧ x.day ≤ 100000) ∧ ∀ o ∈ offs x.kind, 0 ≤ fieldOf x o ∧ fieldOf x o ≤ 1000000 := by
  unfold okE at h
  simp only [Bool.and_eq_true] at h
  obtain ⟨⟨hd, hi⟩, _⟩ := h
  have hk := kind_of_vIds x hi
  unfold vDays isDayB at hd
  simp only [Bool.and_eq_true, Bool.or_eq_true, decide_eq_true_eq, beq_iff_eq] at hd
  refine ⟨by omega, ?_⟩
  unfold vIds isIdB isIdZB at hi
  rcases hk with hk | hk | hk | hk | hk | hk | hk
  all_goals
    rw [hk] at hi ⊢
    simp [isIdB] at hi
    simp only [offs]
    simp [fieldOf, entCells]
    omega
theorem whole_of_ck {x : Ent} (h : ckE x = 0) : okE x = true ∧ (x.kind = 1 → isN x.name.data.toList = true) := by
  unfold ckE at h
  by_cases h1 : okE x = false
  · rw [if_pos h1] at h; cases h
  · rw [if_neg h1] at h
    refine ⟨by simpa using h1, fun h2 => ?_⟩
    by_cases h3 : isN x.name.data.toList = false
    · rw [if_pos ⟨h2, h3⟩] at h; cases h
    · simpa using h3
theorem kinds_of_ck {x : Ent} (h : ckE x = 0) : x.kind = 1 ∨ x.kind = 2 ∨ x.kind = 3 ∨ x.kind = 4 ∨ x.kind = 5 ∨ x.kind = 6 ∨ x.kind = 7 := by
  have h1 := (whole_of_ck h).1
  unfold okE at h1
  simp only [Bool.and_eq_true] at h1
  exact kind_of_vIds x h1.1.2
theorem line_len {x : Ent} (h : ckE x = 0) : (lineB x).size ≤ 140737488355328 := by
  obtain ⟨h1, h2⟩ := whole_of_ck h
  obtain ⟨h3, h4⟩ := nums_ok x h1
  have hw : (wordsAll x).length ≤ 10 := by
    have := wordsTo_len x (offs x.kind).length (Nat.le_refl _)
    have := offs_len x.kind
    unfold wordsAll
    rw [List.length_append]
    split <;> simp <;> omega
  have hd : ∀ n : Int, 0 ≤ n → n ≤ 1000000 → (decB n).data.toList.length ≤ 1000001 := fun n h0 h1 => by
    have := dec_len n.toNat
    unfold decB
    simp
    omega
  have hall : ∀ s ∈ (wordsAll x).map (·.data.toList), s.length ≤ 1000001 := fun s hs => by
    obtain ⟨b, hb, rfl⟩ := List.mem_map.1 hs
    unfold wordsAll wordsTo at hb
    rw [List.take_of_length_le (Nat.le_refl _)] at hb
    simp only [List.mem_append, List.mem_cons, List.not_mem_nil, or_false, List.mem_map] at hb
    rcases hb with ((rfl | rfl) | ⟨o, ho, rfl⟩) | hb
    · exact hd _ h3.1 (by omega)
    · have hk := kinds_of_ck h
      rcases hk with hk | hk | hk | hk | hk | hk | hk <;> rw [hk] <;> decide
    · exact hd _ (h4 o ho).1 (h4 o ho).2
    · split at hb
      · rename_i hk
        have := h2 hk
        simp only [List.mem_cons, List.not_mem_nil, or_false] at hb
        subst hb
        unfold isN at this
        simp only [Bool.and_eq_true, decide_eq_true_eq] at this
        omega
      · simp at hb
  have hl := lens_le hall
  unfold lineB
  cases hq : (wordsAll x).map (·.data.toList) with
  | nil => simp [Lib.join, List.intercalate, ByteArray.size]
  | cons a r =>
    rw [hq] at hl
    have hj := Lib.join_length a r [32]
    have hr : r.length + 1 = (wordsAll x).length := by
      have := congrArg List.length hq
      simpa using this.symm
    have : (Lib.join (a :: r) [32]).length ≤ 140737488355328 := by
      rw [hj]
      simp only [List.length_cons, List.length_nil] at hl ⊢
      omega
    simpa [ByteArray.size] using this

set_option maxRecDepth 100000 in
set_option maxHeartbeats 2000000 in
theorem write_bad (x : Ent) (hck : ckE x ≠ 0) (hn : x.name.size ≤ maxLen) (w : World) :
    Calls Tryz.prog 7 #[entVal x] w fun e w' => e = .returned (.tuple #[.string ⟨#[]⟩, .int .i64 (ckE x)]) ∧ Below w.heap.size w w' := by
  have HCK := Lib.hid (fun W => checkEntry_any x W hn)
  have hB0 : Below w.heap.size w (w.alloc (.cells (entCells x).toArray 23)) := (Below.refl _ _).alloc (Nat.le_refl _) _
  generalize ckE x = n at *
  unfold entVal at HCK ⊢
  go_enter Tryz.func7, Tryz.ntmps7
  go_wp2_with fail
  simp only [entCells] at hB0
  refine (HCK.out _).mono ?_
  rintro e w1 ⟨rfl, hb1⟩
  have hB1 := below_two2 hb1 hB0
  clear hb1 hB0
  go_wp2_with fail
  go_ret2
  exact ⟨rfl, hB1⟩

theorem write_all (x : Ent) (hn : x.name.size ≤ maxLen) (w : World) (hT : PowAt w) :
    Calls Tryz.prog 7 #[entVal x] w fun e w' => e = .returned (.tuple #[.string (if ckE x = 0 then lineB x else ⟨#[]⟩), .int .i64 (ckE x)]) ∧ Below w.heap.size w w' := by
  by_cases h : ckE x = 0
  · rw [if_pos h, h]
    obtain ⟨h3, h4⟩ := nums_ok x (whole_of_ck h).1
    exact write_valid x (kinds_of_ck h) h ⟨h3.1, by omega⟩ (fun o ho => ⟨(h4 o ho).1, by have := (h4 o ho).2; omega⟩) hn (line_len h) w hT
  · rw [if_neg h]
    exact write_bad x h hn w
end Go.Proofs.YthbgmhhbkojcmaaGreatDoor
