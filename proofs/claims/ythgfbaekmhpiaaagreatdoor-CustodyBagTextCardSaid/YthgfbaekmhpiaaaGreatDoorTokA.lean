/- Words for tokens, bags and messages, and the contracts of the small functions of package custody on them: within, isOffice, isToken, isWay, refusesNote. No conditions. Words for a slice of tokens in memory, and the contracts of isBag and of message's isValid. Conditions: the tokens lie in memory. -/
import Derived.Test.YthgfbaekmhpiaaaGreatDoorDiskA
import Derived.Lib.QuietBelow
import Derived.BigQuiet
namespace Go.Proofs.YthgfbaekmhpiaaaGreatDoor
open Go.RowKit

/-- A token. -/
structure Tok where
  id : Int
  body : ByteArray
deriving DecidableEq
/-- A bag without its tokens, with what its slice of tokens is. -/
structure BagV where
  src : Int
  dst : Int
  seq : Int
  toks : Value
def tokCells (t : Tok) : List Value := [.int .i64 t.id, .string t.body]
def tokVal (t : Tok) : Value := .agg #[.int .i64 t.id, .string t.body]
def bagCells (b : BagV) : List Value := [.int .i64 b.src, .int .i64 b.dst, .int .i64 b.seq, b.toks]
def bagVal (b : BagV) : Value := .agg #[.int .i64 b.src, .int .i64 b.dst, .int .i64 b.seq, b.toks]
def msgCells (word : ByteArray) (b : BagV) : List Value := [.string word, .int .i64 b.src, .int .i64 b.dst, .int .i64 b.seq, b.toks]
def msgVal (word : ByteArray) (b : BagV) : Value := .agg #[.string word, .int .i64 b.src, .int .i64 b.dst, .int .i64 b.seq, b.toks]
def inB (n a b : Int) : Bool := decide (a ≤ n) && decide (n ≤ b)
def isOfficeB (n : Int) : Bool := inB n 0 7
def isTokenB (t : Tok) : Bool := inB t.id 1 1000000 && decide ((t.body.size : Int) ≤ 6000)
def isWayB (b : BagV) : Bool := isOfficeB b.src && isOfficeB b.dst && decide (b.src ≠ b.dst) && inB b.seq 1 1000000

theorem ret_bool {a b : Bool} (h : a = b) : Ending.returned (.bool a) = .returned (.bool b) := by rw [h]
theorem within3_any (n a b : Int) (w : World) :
    Calls Tryz.prog 45 #[.int .i64 n, .int .i64 a, .int .i64 b] w fun e w' => e = .returned (.bool (inB n a b)) ∧ w = w' := by
  unfold inB
  by_cases h : a ≤ n
  · go_enter Tryz.func45, Tryz.ntmps45
    go_wp2
    all_goals
      go_ret
      exact ⟨ret_bool (by rw [Bool.eq_iff_iff]; simp; try omega), rfl⟩
  · go_enter Tryz.func45, Tryz.ntmps45
    go_wp2
    all_goals
      go_ret
      exact ⟨ret_bool (by rw [Bool.eq_iff_iff]; simp; try omega), rfl⟩
theorem isOffice_any (n : Int) (w : World) :
    Calls Tryz.prog 76 #[.int .i64 n] w fun e w' => e = .returned (.bool (isOfficeB n)) ∧ w = w' := by
  unfold isOfficeB
  go_enter Tryz.func76, Tryz.ntmps76
  go_wp2_with fail
  refine (within3_any n 0 7 w).mono ?_
  rintro e w1 ⟨rfl, rfl⟩
  go_wp2_with fail
  go_ret
  exact ⟨rfl, rfl⟩
theorem isToken_any (t : Tok) (w : World) :
    Calls Tryz.prog 91 #[tokVal t] w fun e w' => e = .returned (.bool (isTokenB t)) ∧ w' = w.alloc (.cells (tokCells t).toArray 50) := by
  unfold isTokenB tokVal tokCells
  have HW := Lib.hid (fun W => within3_any t.id 1 1000000 W)
  generalize inB t.id 1 1000000 = b at HW ⊢
  cases b
  all_goals
    go_enter Tryz.func91, Tryz.ntmps91
    go_wp2_with fail
    refine (HW.out _).mono ?_
    rintro e w1 ⟨rfl, rfl⟩
    go_wp2_with fail
    all_goals
      go_ret
      exact ⟨by simp, rfl⟩
theorem refusesNote_any (s : ByteArray) (w : World) :
    Calls Tryz.prog 87 #[.string s] w fun e w' => e = .returned (.int .i64 (if (8000 : Int) < (s.size : Int) then 2 else 0)) ∧ w = w' := by
  by_cases h : (8000 : Int) < (s.size : Int)
  · rw [if_pos h]
    go_enter Tryz.func87, Tryz.ntmps87
    go_wp2
    go_ret
    exact ⟨rfl, rfl⟩
  · rw [if_neg h]
    go_enter Tryz.func87, Tryz.ntmps87
    go_wp2
    go_ret
    exact ⟨rfl, rfl⟩
theorem isWay_any (b : BagV) (w : World) :
    Calls Tryz.prog 90 #[bagVal b] w fun e w' => e = .returned (.bool (isWayB b)) ∧ w' = w.alloc (.cells (bagCells b).toArray 41) := by
  obtain ⟨s, d, q, T⟩ := b
  unfold isWayB bagVal bagCells
  dsimp only
  have H1 := Lib.hid (fun W => isOffice_any s W)
  have H2 := Lib.hid (fun W => isOffice_any d W)
  have H3 := Lib.hid (fun W => within3_any q 1 1000000 W)
  generalize isOfficeB s = b1 at H1 ⊢
  generalize isOfficeB d = b2 at H2 ⊢
  generalize inB q 1 1000000 = b3 at H3 ⊢
  cases b1
  case false =>
    go_enter Tryz.func90, Tryz.ntmps90
    go_wp2_with fail
    refine (H1.out _).mono ?_
    rintro e w1 ⟨rfl, rfl⟩
    go_wp2_with fail
    go_ret
    exact ⟨by simp, rfl⟩
  case true =>
    cases b2
    case false =>
      go_enter Tryz.func90, Tryz.ntmps90
      go_wp2_with fail
      refine (H1.out _).mono ?_
      rintro e w1 ⟨rfl, rfl⟩
      go_wp2_with fail
      refine (H2.out _).mono ?_
      rintro e w1 ⟨rfl, rfl⟩
      go_wp2_with fail
      go_ret
      exact ⟨by simp, rfl⟩
    case true =>
      by_cases hne : s = d
      case pos =>
        subst hne
        go_enter Tryz.func90, Tryz.ntmps90
        go_wp2_with fail
        refine (H1.out _).mono ?_
        rintro e w1 ⟨rfl, rfl⟩
        go_wp2_with fail
        refine (H2.out _).mono ?_
        rintro e w1 ⟨rfl, rfl⟩
        go_wp2_with fail
        go_ret
        exact ⟨by simp [*], rfl⟩
      case neg =>
        go_enter Tryz.func90, Tryz.ntmps90
        go_wp2_with fail
        refine (H1.out _).mono ?_
        rintro e w1 ⟨rfl, rfl⟩
        go_wp2_with fail
        refine (H2.out _).mono ?_
        rintro e w1 ⟨rfl, rfl⟩
        go_wp2_with fail
        refine (H3.out _).mono ?_
        rintro e w1 ⟨rfl, rfl⟩
        go_wp2_with fail
        go_ret
        exact ⟨by simp [*], rfl⟩
end Go.Proofs.YthgfbaekmhpiaaaGreatDoor
namespace Go.Proofs.YthgfbaekmhpiaaaGreatDoor
open Go.RowKit Go.Sort

theorem wrap_id (x : Int) (h1 : -9223372036854775808 ≤ x) (h2 : x ≤ 9223372036854775807) : IntKind.i64.wrap x = x := by
  have hb : IntKind.i64.bits = 64 := rfl
  have hs : IntKind.i64.signed = true := rfl
  unfold IntKind.wrap
  rw [hb, hs]
  simp
  omega
theorem meas_up (n k : Nat) (h : k < n) : n - (intOf (.int .i64 ((k : Int) + 1))).toNat < n - (intOf (.int .i64 (k : Int))).toNat := by simp only [intOf]; omega
theorem meas_up2 (n k : Nat) (h : k + 1 < n) : n - (intOf (.int .i64 ((k : Int) + 1 + 1))).toNat < n - (intOf (.int .i64 ((k + 1 : Nat) : Int))).toNat := by simp only [intOf]; omega
/-- v is a slice of the tokens L in memory. -/
def TokAt (w : World) (v : Value) (L : List Tok) : Prop := ∃ A c, v = .slice A L.length c ∧ L.length ≤ c ∧ Lies w w.heap.size A (L.flatMap tokCells)
theorem TokAt.below {w w' : World} {v : Value} {L : List Tok} (h : TokAt w v L) (hb : Below w.heap.size w w') : TokAt w' v L := by
  obtain ⟨A, c, h1, h2, h3⟩ := h
  exact ⟨A, c, h1, h2, (h3.below hb).up (Below.refl _ _) hb.size⟩
theorem tok_flat {L : List Tok} {k : Nat} {t : Tok} (h : L[k]? = some t) : (L.flatMap tokCells)[k * 2]? = some (.int .i64 t.id) ∧ (L.flatMap tokCells)[k * 2 + 1]? = some (.string t.body) := by
  induction L generalizing k with
  | nil => simp at h
  | cons a L ih =>
    cases k with
    | zero => cases h; exact ⟨rfl, rfl⟩
    | succ k =>
      have := ih (k := k) (by simpa using h)
      rw [List.flatMap_cons, show (k + 1) * 2 = k * 2 + 2 by omega]
      exact this
/-- The cells of the token with an index. -/
theorem TokAt.cells {w : World} {A : Option Addr} {n c : Nat} {L : List Tok} (h : TokAt w (.slice A n c) L) {k : Nat} {t : Tok} (hk : L[k]? = some t) :
    ∃ b o, A = some ⟨b, o, none⟩ ∧ b < w.heap.size ∧ w.cell? ⟨b, o + k * 2, none⟩ = some (.int .i64 t.id) ∧ w.cell? ⟨b, o + k * 2 + 1, none⟩ = some (.string t.body) := by
  obtain ⟨A', c', h1, h2, h3⟩ := h
  cases h1
  obtain ⟨f1, f2⟩ := tok_flat hk
  obtain ⟨b, o, rfl, hb, hc⟩ := h3.at (k * 2) (by
    rcases Nat.lt_or_ge (k * 2) (L.flatMap tokCells).length with h | h
    · exact h
    · rw [List.getElem?_eq_none h] at f1; cases f1)
  exact ⟨b, o, rfl, hb, hc _ _ f1, hc _ _ f2⟩
def tokD : Tok := ⟨0, ⟨#[]⟩⟩
/-- The token with an index is valid, and its Id is greater than that of the one before. -/
def tokOk (L : List Tok) (i : Nat) : Bool := isTokenB (L.getD i tokD) && (decide (i = 0) || decide ((L.getD (i - 1) tokD).id < (L.getD i tokD).id))
/-- The tokens are valid, and their Ids increase. -/
def toksB (L : List Tok) : Bool := (List.range L.length).all (tokOk L)
theorem toks_no {L : List Tok} {k : Nat} (hk : k < L.length) (h : tokOk L k = false) : toksB L = false := by
  unfold toksB
  rw [List.all_eq_false]
  exact ⟨k, List.mem_range.2 hk, by simp [h]⟩
theorem toks_step {L : List Tok} {k : Nat} (h : (List.range k).all (tokOk L) = true) (h1 : tokOk L k = true) : (List.range (k + 1)).all (tokOk L) = true := by
  rw [List.range_succ, List.all_append, h]
  simp [h1]
theorem getD_of {L : List Tok} {k : Nat} {t : Tok} (h : L[k]? = some t) : L.getD k tokD = t := by rw [List.getD_eq_getElem?_getD, h]; rfl
def isBagB (b : BagV) (L : List Tok) : Bool := isWayB b && inB L.length 1 8 && toksB L
set_option maxRecDepth 100000 in
set_option maxHeartbeats 2000000 in
theorem isBag_any (b : BagV) (L : List Tok) (w : World) (hL : TokAt w b.toks L) (hLm : (L.length : Int) ≤ 9223372036854775807) :
    Calls Tryz.prog 56 #[bagVal b] w fun e w' => e = .returned (.bool (isBagB b L)) ∧ Below w.heap.size w w' := by
  have HWY := Lib.hid (fun W => isWay_any b W)
  have HLM := Lib.hid hLm
  clear hLm
  obtain ⟨s, d, q, T⟩ := b
  obtain ⟨A, c, hT, hLc, hLi⟩ := hL
  dsimp only at hT
  subst hT
  have HT : Hid (TokAt w (.slice A L.length c) L) := Lib.hid ⟨A, c, rfl, hLc, hLi⟩
  have HWN := Lib.hid (fun W => within3_any (L.length : Int) 1 8 W)
  unfold isBagB bagVal
  unfold bagVal bagCells at HWY
  have HB0 : Hid (Below w.heap.size w (w.alloc (.cells (bagCells ⟨s, d, q, .slice A L.length c⟩).toArray 41))) := Lib.hid ((Below.refl _ _).alloc (Nat.le_refl _) _)
  generalize isWayB ⟨s, d, q, .slice A L.length c⟩ = b1 at HWY ⊢
  generalize hb2 : inB (L.length : Int) 1 8 = b2 at HWN ⊢
  clear hLi
  have kB := Blk.new w 41 (bagCells ⟨s, d, q, .slice A L.length c⟩).toArray
  simp only [bagCells] at kB HB0
  dsimp only at HWY
  go_enter Tryz.func56, Tryz.ntmps56
  go_wp2_with fail
  generalize w.alloc (.cells _ 41) = w0 at kB HB0 ⊢
  have b0 := kB.cell 0
  have b1' := kB.cell 1
  have b2' := kB.cell 2
  have b3 := kB.cell 3
  have bl := kB.lt
  simp at b0 b1' b2' b3
  have HT0 := Lib.hid (HT.out.below HB0.out)
  have HKB := Lib.hid kB
  clear kB
  go_wp2_with fail
  refine (HWY.out _).mono ?_
  rintro e w1 ⟨rfl, rfl⟩
  clear HWY
  cases b1
  · go_wp2_with fail
    go_ret
    exact ⟨by simp, HB0.out.alloc HB0.out.size _⟩
  · have HB1 := Lib.hid (HB0.out.alloc HB0.out.size (.cells #[Value.int .i64 s, Value.int .i64 d, Value.int .i64 q, .slice A L.length c] 41))
    have HK1 := Lib.hid (HKB.out.alloc (.cells #[Value.int .i64 s, Value.int .i64 d, Value.int .i64 q, .slice A L.length c] 41))
    have HT1 := Lib.hid (HT0.out.below ((Below.refl _ w0).alloc (Nat.le_refl _) (.cells #[Value.int .i64 s, Value.int .i64 d, Value.int .i64 q, .slice A L.length c] 41)))
    simp only [List.size_toArray, List.length_cons, List.length_nil] at HB1 HK1 HT1 ⊢
    generalize w0.alloc (.cells #[Value.int .i64 s, Value.int .i64 d, Value.int .i64 q, .slice A L.length c] 41) = w1 at HB1 HK1 HT1 ⊢
    clear HB0 HT0 HKB b0 b1' b2' b3 bl
    have b3 := HK1.out.cell 3
    have bl := HK1.out.lt
    simp [bagCells] at b3
    clear HT
    go_wp2_with fail
    refine (HWN.out _).mono ?_
    rintro e w2 ⟨rfl, rfl⟩
    clear HWN
    cases b2
    · go_wp2_with fail
      go_ret
      exact ⟨by simp, HB1.out⟩
    · go_wp2_with fail
      go_loopw [18] (fun i wr => ∃ k : Nat, k ≤ L.length ∧ i = .int .i64 k ∧ (List.range k).all (tokOk L) = true ∧ TokAt wr (.slice A L.length c) L ∧ Below w.heap.size w wr ∧ Blk wr w.heap.size 41 (bagCells ⟨s, d, q, .slice A L.length c⟩).toArray) (fun i _ => L.length - (intOf i).toNat)
      case atStart => exact ⟨0, Nat.zero_le _, rfl, rfl, HT1.out, HB1.out, HK1.out⟩
      case round =>
        clear HT1 HB1 HK1 b3 bl
        obtain ⟨k, hk, rfl, hpre, hT, hB, hK⟩ := hrel
        have HP := Lib.hid hpre
        have HT := Lib.hid hT
        have HB := Lib.hid hB
        have HK := Lib.hid hK
        have b3 := hK.cell 3
        have bl := hK.lt
        simp [bagCells] at b3
        clear hpre hB hK
        by_cases hlt : k < L.length
        · have hki : (k : Int) < (L.length : Int) := by omega
          obtain ⟨t, ht⟩ : ∃ t, L[k]? = some t := ⟨_, List.getElem?_eq_getElem hlt⟩
          obtain ⟨g, o, rfl, hg, c0, c1⟩ := hT.cells ht
          have hzw := HB.out.size
          have HLT := Lib.hid hlt
          go_wp2_with fail
          have HT5 := Lib.hid (HT.out.below ((Below.refl _ wr).alloc (Nat.le_refl _) (.cells #[Value.int .i64 t.id, Value.string t.body] 50)))
          have HB5 := Lib.hid (HB.out.alloc HB.out.size (.cells #[Value.int .i64 t.id, Value.string t.body] 50))
          have HK5 := Lib.hid (HK.out.alloc (.cells #[Value.int .i64 t.id, Value.string t.body] 50))
          have kt := Blk.new wr 50 #[Value.int .i64 t.id, Value.string t.body]
          have hzr : w.heap.size < wr.heap.size := bl
          clear HT HB HK b3 bl hT c0 c1 hg hzw
          generalize hgt : wr.heap.size = gt at kt hzr ⊢
          generalize wr.alloc (.cells #[Value.int .i64 t.id, Value.string t.body] 50) = w5 at HT5 HB5 HK5 kt ⊢
          have t0 := kt.cell 0
          have t1 := kt.cell 1
          have tl := kt.lt
          simp at t0 t1
          have b3 := HK5.out.cell 3
          simp [bagCells] at b3
          have HIT := Lib.hid (fun W => isToken_any t W)
          have HOK : Hid (tokOk L k = (isTokenB t && (decide (k = 0) || decide ((L.getD (k - 1) tokD).id < t.id)))) := Lib.hid (by unfold tokOk; rw [getD_of ht])
          generalize isTokenB t = bt at HIT HOK
          have gt0 := fun d' os => cell_regrown t0 d' os
          have gt1 := fun d' os => cell_regrown t1 d' os
          have gb3 := fun d' os => cell_regrown b3 d' os
          have HW5 := Lib.hid (fun d' os => HB5.out.trans ((below_regrown w5 d' os).mono HB5.out.size))
          unfold tokVal tokCells at HIT
          have hK5l := HK5.out.lt
          have hgr : ∀ d' (os : Array Obj), w5.heap.size ≤ (grow (redrawn w5 d') os).heap.size := fun d' os => (below_regrown w5 d' os).size
          clear t0 t1 b3 kt hgt ht
          cases bt
          · have hno := toks_no hlt (by rw [HOK.out]; rfl)
            clear HOK HP
            have HNO := Lib.hid hno
            clear hno
            refine wp_region_quiet_below (by kernel_rfl) (by kernel_rfl) ?_
            repeat (go_big_quiet_step (first | (go_at_call 91; exact Calls.regrown_of ((HIT.out _).mono (fun _ _ h => ⟨h.1, by rw [h.2]; exact (Below.refl _ _).alloc (Nat.le_refl _) _⟩)))))
            refine wpQuiet_nil ?_
            intro _ hw'
            obtain ⟨⟨dq, osq⟩, hw''⟩ := hw'
            subst hw''
            go_wp2_with fail
            go_ret
            exact ⟨by rw [HNO.out]; simp, HW5.out _ _⟩
          · by_cases hk0 : k = 0
            · have hok : tokOk L k = true := by rw [HOK.out, hk0]; rfl
              have HP2 := Lib.hid (toks_step HP.out hok)
              clear HOK HP hok
              have hk0' : ¬ (0 : Int) < (k : Int) := by omega
              have hk0d : decide (0 < k) = false := decide_eq_false (by omega)
              have HK0 := Lib.hid hk0
              clear hk0 hki
              refine wp_region_quiet_below (by kernel_rfl) (by kernel_rfl) ?_
              repeat (go_big_quiet_step (first | (go_at_call 91; exact Calls.regrown_of ((HIT.out _).mono (fun _ _ h => ⟨h.1, by rw [h.2]; exact (Below.refl _ _).alloc (Nat.le_refl _) _⟩)))))
              refine wpQuiet_nil ?_
              intro _ hw'
              obtain ⟨⟨dq, osq⟩, hw''⟩ := hw'
              subst hw''
              have HF := Lib.hid (And.intro (HT5.out.below (below_regrown w5 dq osq)) (HK5.out.below (below_regrown w5 dq osq) hK5l))
              go_wp2_with fail
              go_roundw
              case rel => exact ⟨k + 1, by have := HLT.out; omega, by go_num, HP2.out, HF.out.1, HW5.out _ _, HF.out.2⟩
              case measure => first | exact meas_up _ _ HLT.out | exact meas_up2 _ _ HLT.out
            · obtain ⟨m, rfl⟩ : ∃ m, k = m + 1 := ⟨k - 1, by omega⟩
              have hkp : (0 : Int) < ((m + 1 : Nat) : Int) := by omega
              obtain ⟨t', ht'⟩ : ∃ t', L[m]? = some t' := ⟨_, List.getElem?_eq_getElem (by omega)⟩
              obtain ⟨g', o', hgo, hgl, c0, _⟩ := HT5.out.cells ht'
              cases hgo
              have gc0 := fun d' os => cell_regrown c0 d' os
              have HOK2 : Hid (tokOk L (m + 1) = decide (t'.id < t.id)) := Lib.hid (by rw [HOK.out]; simp only [Nat.add_sub_cancel]; rw [getD_of ht']; simp)
              have hml : m < L.length := by omega
              have hmb : (L.length : Int) ≤ 9223372036854775807 := HLM.out
              have hwm : wrap64 (m : Int) = (m : Int) := by unfold wrap64; omega
              have hwm2 : wrap64 ((m : Int) + 1 + 1) = (m : Int) + 1 + 1 := by unfold wrap64; omega
              clear hmb
              clear HOK c0 ht' hk0
              by_cases hle : t.id ≤ t'.id
              · have hno := toks_no hlt (by rw [HOK2.out]; simp; omega)
                clear HOK2 HP
                have HNO := Lib.hid hno
                clear hno
                have hdl : decide (t.id ≤ t'.id) = true := decide_eq_true hle
                refine wp_region_quiet_below (by kernel_rfl) (by kernel_rfl) ?_
                repeat (go_big_quiet_step (first | (go_at_call 91; exact Calls.regrown_of ((HIT.out _).mono (fun _ _ h => ⟨h.1, by rw [h.2]; exact (Below.refl _ _).alloc (Nat.le_refl _) _⟩)))))
                refine wpQuiet_nil ?_
                intro _ hw'
                obtain ⟨⟨dq, osq⟩, hw''⟩ := hw'
                subst hw''
                go_wp2_with fail
                go_ret
                exact ⟨by rw [HNO.out]; simp, HW5.out _ _⟩
              · have hok : tokOk L (m + 1) = true := by rw [HOK2.out]; simp; omega
                have HP2 := Lib.hid (toks_step HP.out hok)
                clear HOK2 HP hok
                have hdl : decide (t.id ≤ t'.id) = false := decide_eq_false hle
                refine wp_region_quiet_below (by kernel_rfl) (by kernel_rfl) ?_
                repeat (go_big_quiet_step (first | (go_at_call 91; exact Calls.regrown_of ((HIT.out _).mono (fun _ _ h => ⟨h.1, by rw [h.2]; exact (Below.refl _ _).alloc (Nat.le_refl _) _⟩)))))
                refine wpQuiet_nil ?_
                intro _ hw'
                obtain ⟨⟨dq, osq⟩, hw''⟩ := hw'
                subst hw''
                have HF := Lib.hid (And.intro (HT5.out.below (below_regrown w5 dq osq)) (HK5.out.below (below_regrown w5 dq osq) hK5l))
                go_wp2_with fail
                go_roundw
                case rel => exact ⟨m + 1 + 1, by have := HLT.out; omega, by go_num, HP2.out, HF.out.1, HW5.out _ _, HF.out.2⟩
                case measure => rw [hwm2]; exact meas_up2 _ _ HLT.out
        · have hki : ¬ (k : Int) < (L.length : Int) := by omega
          obtain rfl : k = L.length := by omega
          have HP2 : Hid (toksB L = true) := HP
          clear HP
          go_wp2_with fail
          go_ret
          exact ⟨by rw [HP2.out]; rfl, HB.out⟩
def bagW : ByteArray := ⟨#[98, 97, 103]⟩
def gotW : ByteArray := ⟨#[103, 111, 116]⟩
def validB (word : ByteArray) (b : BagV) (L : List Tok) : Bool := if word = bagW then isBagB b L else if word = gotW then isWayB b && ((L.length : Int) == 0) else false
theorem strNe {a b : ByteArray} (h : a ≠ b) : (a.toList == b.toList) = false := by
  rw [beq_eq_false_iff_ne]
  intro e
  rw [ByteArray.toList_eq, ByteArray.toList_eq] at e
  apply h
  obtain ⟨a⟩ := a
  obtain ⟨b⟩ := b
  simpa using e
theorem ne_lit {a : ByteArray} {l : List UInt8} (h : a ≠ ⟨l.toArray⟩) : (a.toList == l) = false := by
  have := strNe h
  rwa [ByteArray.toList_eq ⟨l.toArray⟩] at this
set_option maxRecDepth 100000 in
set_option maxHeartbeats 1000000 in
theorem isValid_bag (b : BagV) (L : List Tok) (w : World) (hL : TokAt w b.toks L) (hLm : (L.length : Int) ≤ 9223372036854775807) :
    Calls Tryz.prog 100 #[msgVal bagW b] w fun e w' => e = .returned (.bool (isBagB b L)) ∧ Below w.heap.size w w' := by
  have HB0 : Hid (Below w.heap.size w (w.alloc (.cells (msgCells bagW b).toArray 109))) := Lib.hid ((Below.refl _ _).alloc (Nat.le_refl _) _)
  have HBG := Lib.hid (fun W hW => isBag_any b L W hW hLm)
  have HWY := Lib.hid (fun W => isWay_any b W)
  have HT := Lib.hid hL
  generalize isBagB b L = bb at HBG ⊢
  generalize isWayB b = bw at HWY ⊢
  obtain ⟨A, c, hT, _, _⟩ := hL
  obtain ⟨s, d, q, T⟩ := b
  dsimp only at hT
  subst hT
  unfold msgVal
  have kB := Blk.new w 109 (msgCells bagW ⟨s, d, q, .slice A L.length c⟩).toArray
  simp only [msgCells] at kB HB0
  simp only [bagVal, bagCells] at HBG HWY
  dsimp only at HT
  clear hLm
  unfold bagW at kB HB0 ⊢
  go_enter Tryz.func100, Tryz.ntmps100
  go_wp2_with fail
  generalize w.alloc (.cells _ 109) = w0 at kB HB0 ⊢
  have b0 := kB.cell 0
  have b1 := kB.cell 1
  have b2 := kB.cell 2
  have b3 := kB.cell 3
  have b4 := kB.cell 4
  have bl := kB.lt
  simp at b0 b1 b2 b3 b4
  have HT0 := Lib.hid (HT.out.below HB0.out)
  clear kB
  go_wp2_with fail
  refine (HBG.out _ HT0.out).mono ?_
  rintro e w1 ⟨rfl, hb⟩
  have HB1 := Lib.hid (HB0.out.trans (hb.mono HB0.out.size))
  clear hb b0 b1 b2 b3 b4 bl
  go_wp2_with fail
  go_ret
  exact ⟨rfl, HB1.out⟩
set_option maxRecDepth 100000 in
set_option maxHeartbeats 1000000 in
theorem isValid_got (b : BagV) (L : List Tok) (w : World) (hL : TokAt w b.toks L) (hLm : (L.length : Int) ≤ 9223372036854775807) :
    Calls Tryz.prog 100 #[msgVal gotW b] w fun e w' => e = .returned (.bool (isWayB b && ((L.length : Int) == 0))) ∧ Below w.heap.size w w' := by
  have HB0 : Hid (Below w.heap.size w (w.alloc (.cells (msgCells gotW b).toArray 109))) := Lib.hid ((Below.refl _ _).alloc (Nat.le_refl _) _)
  have HBG := Lib.hid (fun W hW => isBag_any b L W hW hLm)
  have HWY := Lib.hid (fun W => isWay_any b W)
  have HT := Lib.hid hL
  generalize isBagB b L = bb at HBG ⊢
  generalize isWayB b = bw at HWY ⊢
  obtain ⟨A, c, hT, _, _⟩ := hL
  obtain ⟨s, d, q, T⟩ := b
  dsimp only at hT
  subst hT
  unfold msgVal
  have kB := Blk.new w 109 (msgCells gotW ⟨s, d, q, .slice A L.length c⟩).toArray
  simp only [msgCells] at kB HB0
  simp only [bagVal, bagCells] at HBG HWY
  dsimp only at HT
  clear hLm
  unfold gotW at kB HB0 ⊢
  go_enter Tryz.func100, Tryz.ntmps100
  go_wp2_with fail
  generalize w.alloc (.cells _ 109) = w0 at kB HB0 ⊢
  have b0 := kB.cell 0
  have b1 := kB.cell 1
  have b2 := kB.cell 2
  have b3 := kB.cell 3
  have b4 := kB.cell 4
  have bl := kB.lt
  simp at b0 b1 b2 b3 b4
  have HT0 := Lib.hid (HT.out.below HB0.out)
  clear kB
  go_wp2_with fail
  refine (HWY.out _).mono ?_
  rintro e w1 ⟨rfl, rfl⟩
  have HB1 := Lib.hid (HB0.out.alloc HB0.out.size (.cells #[Value.int .i64 s, Value.int .i64 d, Value.int .i64 q, .slice A L.length c] 41))
  cases bw
  all_goals
    go_wp2_with fail
    go_ret
    exact ⟨by simp, HB1.out⟩
set_option maxRecDepth 100000 in
set_option maxHeartbeats 1000000 in
theorem isValid_no (b : BagV) (L : List Tok) (w : World) (hL : TokAt w b.toks L) (hLm : (L.length : Int) ≤ 9223372036854775807) (word : ByteArray) (h1 : word ≠ bagW) (h2 : word ≠ gotW) :
    Calls Tryz.prog 100 #[msgVal word b] w fun e w' => e = .returned (.bool (false)) ∧ Below w.heap.size w w' := by
  have HB0 : Hid (Below w.heap.size w (w.alloc (.cells (msgCells word b).toArray 109))) := Lib.hid ((Below.refl _ _).alloc (Nat.le_refl _) _)
  have HBG := Lib.hid (fun W hW => isBag_any b L W hW hLm)
  have HWY := Lib.hid (fun W => isWay_any b W)
  have HT := Lib.hid hL
  generalize isBagB b L = bb at HBG ⊢
  generalize isWayB b = bw at HWY ⊢
  obtain ⟨A, c, hT, _, _⟩ := hL
  obtain ⟨s, d, q, T⟩ := b
  dsimp only at hT
  subst hT
  unfold msgVal
  have kB := Blk.new w 109 (msgCells word ⟨s, d, q, .slice A L.length c⟩).toArray
  simp only [msgCells] at kB HB0
  simp only [bagVal, bagCells] at HBG HWY
  dsimp only at HT
  clear hLm
  have e1 : (word.toList == [98, 97, 103]) = false := ne_lit h1
  have e2 : (word.toList == [103, 111, 116]) = false := ne_lit h2
  clear h1 h2
  go_enter Tryz.func100, Tryz.ntmps100
  go_wp2_with fail
  generalize w.alloc (.cells _ 109) = w0 at kB HB0 ⊢
  have b0 := kB.cell 0
  have b1 := kB.cell 1
  have b2 := kB.cell 2
  have b3 := kB.cell 3
  have b4 := kB.cell 4
  have bl := kB.lt
  simp at b0 b1 b2 b3 b4
  have HT0 := Lib.hid (HT.out.below HB0.out)
  clear kB
  go_wp2_with fail
  go_ret
  exact ⟨rfl, HB0.out⟩
theorem isValid_any (word : ByteArray) (b : BagV) (L : List Tok) (w : World) (hL : TokAt w b.toks L) (hLm : (L.length : Int) ≤ 9223372036854775807) :
    Calls Tryz.prog 100 #[msgVal word b] w fun e w' => e = .returned (.bool (validB word b L)) ∧ Below w.heap.size w w' := by
  unfold validB
  by_cases h1 : word = bagW
  · rw [if_pos h1, h1]
    exact isValid_bag b L w hL hLm
  · rw [if_neg h1]
    by_cases h2 : word = gotW
    · rw [if_pos h2, h2]
      exact isValid_got b L w hL hLm
    · rw [if_neg h2]
      exact isValid_no b L w hL hLm word h1 h2
end Go.Proofs.YthgfbaekmhpiaaaGreatDoor
