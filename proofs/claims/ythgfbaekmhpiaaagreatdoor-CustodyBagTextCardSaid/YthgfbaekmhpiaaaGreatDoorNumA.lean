/- The contracts of the reference's Number and ValidToken. No conditions but bounds. The contract of the reference's ValidBag. Conditions: the tokens lie in memory. The contract of the reference's PutBag. Conditions: the tokens lie in memory. -/
import Derived.Test.YthgfbaekmhpiaaaGreatDoorGetA
namespace Go.Proofs.YthgfbaekmhpiaaaGreatDoor
open Go.RowKit Go.Shelf Go.Sort

theorem dec_small {n : Nat} (h : n < 10) : Lib.decDigits n = [UInt8.ofNat (48 + n)] := by rw [Lib.decDigits, dif_pos h]
theorem dec_big {n : Nat} (h : ¬ n < 10) : Lib.decDigits n = Lib.decDigits (n / 10) ++ Lib.decDigits (n % 10) := by
  rw [Lib.decDigits, dif_neg h, dec_small (Nat.mod_lt n (by decide))]
set_option maxRecDepth 100000 in
set_option maxHeartbeats 1000000 in
theorem refNumber_small (n : Nat) (h : n < 10) (w : World) :
    Calls Tryz.prog 59 #[.int .i64 (n : Int)] w fun e w' => e = .returned (.string (ba (Lib.decDigits n))) ∧ Below w.heap.size w w' := by
  have hcv := run_convert_bytes_arg (P := Tryz.prog) (w.alloc (.cells #[.int .u8 ((48 + n : Nat) : Int)] 5)) 54 5 rowU8 u8IntJ w.heap.size 0 1 1 [((48 + n : Nat) : Int)] rfl (fun i hi => by
    obtain rfl : i = 0 := by omega
    simp) 9 strDescJ
  have hst : strOfNums [((48 + n : Nat) : Int)] = ba (Lib.decDigits n) := by
    rw [dec_small h]
    unfold strOfNums ba
    rw [List.map_cons, List.map_nil, Int.toNat_natCast]
  rw [hst] at hcv
  generalize ba (Lib.decDigits n) = r at hcv
  have h1 : (n : Int) < 10 := by omega
  have hw1 : IntKind.i64.wrap (48 + (n : Int)) = ((48 + n : Nat) : Int) := by rw [wrap_id _ (by omega) (by omega)]; omega
  have hw2 : IntKind.u8.wrap ((48 + n : Nat) : Int) = ((48 + n : Nat) : Int) := by
    have hb : IntKind.u8.bits = 8 := rfl
    have hs : IntKind.u8.signed = false := rfl
    unfold IntKind.wrap
    rw [hb, hs]
    simp
    omega
  obtain ⟨x, hx⟩ : ∃ x : Int, x = ((48 + n : Nat) : Int) := ⟨_, rfl⟩
  rw [← hx] at hcv hw1 hw2
  have hx1 : 48 + (n : Int) = x := by omega
  clear hx
  go_enter Tryz.func59, Tryz.ntmps59
  go_wp2_with fail
  go_ret
  exact ⟨rfl, (Below.refl _ _).alloc (Nat.le_refl _) _⟩
set_option maxRecDepth 100000 in
set_option maxHeartbeats 1000000 in
theorem refNumber_any (n : Nat) (h : n ≤ 9223372036854775807) (w : World) :
    Calls Tryz.prog 59 #[.int .i64 (n : Int)] w fun e w' => e = .returned (.string (ba (Lib.decDigits n))) ∧ Below w.heap.size w w' := by
  induction n using Nat.strongRecOn generalizing w with
  | ind n ih =>
    by_cases hn : n < 10
    · exact refNumber_small n hn w
    · have HI := Lib.hid (ih (n / 10) (by omega) (by omega))
      have HS := Lib.hid (refNumber_small (n % 10) (Nat.mod_lt _ (by decide)))
      have hd := dec_big hn
      rw [hd, ← ba_add]
      have h1 : ¬ (n : Int) < 10 := by omega
      have hwq : IntKind.i64.wrap ((n : Int) / 10) = ((n / 10 : Nat) : Int) := by rw [wrap_id _ (by omega) (by omega)]; omega
      have hwr : IntKind.i64.wrap ((n : Int) % 10) = ((n % 10 : Nat) : Int) := by rw [wrap_id _ (by omega) (by omega)]; omega
      have hA : (ba (Lib.decDigits (n / 10))).size ≤ 19 := dec_len7 18 _ (by omega)
      have hB : (ba (Lib.decDigits (n % 10))).size ≤ 19 := dec_len7 18 _ (by omega)
      generalize ba (Lib.decDigits (n / 10)) = sa at HI hA ⊢
      generalize ba (Lib.decDigits (n % 10)) = sb at HS hB ⊢
      clear ih hd
      go_enter Tryz.func59, Tryz.ntmps59
      go_wp2_with fail
      refine (HI.out w).mono ?_
      rintro e w1 ⟨rfl, hb⟩
      have HB1 := Lib.hid hb
      clear hb
      go_wp2_with fail
      refine (HS.out w1).mono ?_
      rintro e w2 ⟨rfl, hb⟩
      have HB2 := Lib.hid (HB1.out.trans (hb.mono HB1.out.size))
      clear hb
      go_wp2_with fail
      go_ret
      exact ⟨rfl, HB2.out⟩
set_option maxRecDepth 100000 in
set_option maxHeartbeats 1000000 in
theorem validToken_any (t : Tok) (w : World) :
    Calls Tryz.prog 96 #[tokVal t] w fun e w' => e = .returned (.bool (isTokenB t)) ∧ w' = w.alloc (.cells (tokCells t).toArray 50) := by
  obtain ⟨i, s⟩ := t
  unfold isTokenB inB tokVal tokCells
  dsimp only
  go_enter Tryz.func96, Tryz.ntmps96
  by_cases h1 : 1 ≤ i
  · by_cases h2 : i ≤ 1000000
    · go_wp2_with fail
      go_ret
      exact ⟨by simp [h1, h2], rfl⟩
    · go_wp2_with fail
      go_ret
      exact ⟨by rw [decide_eq_false (show ¬ i ≤ 1000000 by omega)]; simp, rfl⟩
  · go_wp2_with fail
    go_ret
    exact ⟨by rw [decide_eq_false (show ¬ 1 ≤ i by omega)]; simp, rfl⟩
end Go.Proofs.YthgfbaekmhpiaaaGreatDoor
namespace Go.Proofs.YthgfbaekmhpiaaaGreatDoor
open Go.RowKit Go.Shelf Go.Sort

theorem bagNo {s d q : Int} {V : Value} {L : List Tok} (h : ¬ (s ≠ d ∧ 0 ≤ s ∧ 0 ≤ d ∧ s < 8 ∧ d < 8 ∧ 1 ≤ q ∧ q ≤ 1000000 ∧ 1 ≤ L.length ∧ L.length ≤ 8)) : isBagB ⟨s, d, q, V⟩ L = false := by
  rcases hv : isBagB ⟨s, d, q, V⟩ L with _ | _
  · rfl
  · obtain ⟨h1, h2, _⟩ := bag_facts hv
    have h3 := way_facts h1
    dsimp only at h3
    exact absurd ⟨h3.2.2.2, by omega, by omega, by omega, by omega, by omega, by omega, by omega, by omega⟩ h
theorem bagYes {s d q : Int} {V : Value} {L : List Tok} (h : s ≠ d ∧ 0 ≤ s ∧ 0 ≤ d ∧ s < 8 ∧ d < 8 ∧ 1 ≤ q ∧ q ≤ 1000000 ∧ 1 ≤ L.length ∧ L.length ≤ 8) : isBagB ⟨s, d, q, V⟩ L = toksB L := by
  obtain ⟨h1, h2, h3, h4, h5, h6, h7, h8, h9⟩ := h
  have e1 : isWayB ⟨s, d, q, V⟩ = true := by
    unfold isWayB isOfficeB inB
    simp only [Bool.and_eq_true, decide_eq_true_eq]
    refine ⟨⟨⟨⟨h2, by omega⟩, h3, by omega⟩, h1⟩, h6, h7⟩
  have e2 : inB L.length 1 8 = true := by
    unfold inB
    simp only [Bool.and_eq_true, decide_eq_true_eq]
    omega
  unfold isBagB
  rw [e1, e2]
  rfl
set_option maxRecDepth 100000 in
set_option maxHeartbeats 4000000 in
theorem validBag_any (b : BagV) (L : List Tok) (w : World) (hL : TokAt w b.toks L) (hLm : (L.length : Int) ≤ 9223372036854775807) :
    Calls Tryz.prog 58 #[bagVal b] w fun e w' => e = .returned (.bool (isBagB b L)) ∧ Below w.heap.size w w' := by
  have HLM := Lib.hid hLm
  clear hLm
  obtain ⟨s, d, q, T⟩ := b
  obtain ⟨A, c, hT, hLc, hLi⟩ := hL
  dsimp only at hT
  subst hT
  have HT : Hid (TokAt w (.slice A L.length c) L) := Lib.hid ⟨A, c, rfl, hLc, hLi⟩
  clear hLi hLc
  obtain ⟨r, hr⟩ : ∃ r, r = isBagB ⟨s, d, q, .slice A L.length c⟩ L := ⟨_, rfl⟩
  rw [← hr]
  have HR := Lib.hid hr
  clear hr
  unfold bagVal
  dsimp only
  have HB0 := Lib.hid ((Below.refl _ w).alloc (Nat.le_refl _) (.cells #[.int .i64 s, .int .i64 d, .int .i64 q, .slice A L.length c] 41))
  have HK0 := Lib.hid (Blk.new w 41 #[.int .i64 s, .int .i64 d, .int .i64 q, .slice A L.length c])
  go_enter Tryz.func58, Tryz.ntmps58
  go_upto_region 1 with fail
  generalize w.alloc _ = w0 at HB0 HK0 ⊢
  have b0 := HK0.out.cell 0
  have b1 := HK0.out.cell 1
  have b2 := HK0.out.cell 2
  have b3 := HK0.out.cell 3
  have bl := HK0.out.lt
  simp at b0 b1 b2 b3
  rcases hsd : (s == d) with _ | _
  rotate_left
  · go_wp2_with fail
    go_ret
    exact ⟨by rw [HR.out, bagNo (fun h => h.1 (by simpa using hsd))]; rfl, HB0.out⟩
  by_cases h1 : s < 0
  · go_wp2_with fail
    go_ret
    exact ⟨by rw [HR.out, bagNo (by omega)]; rfl, HB0.out⟩
  by_cases h2 : d < 0
  · go_wp2_with fail
    go_ret
    exact ⟨by rw [HR.out, bagNo (by omega)]; rfl, HB0.out⟩
  by_cases h3 : 8 ≤ s
  · go_wp2_with fail
    go_ret
    exact ⟨by rw [HR.out, bagNo (by omega)]; rfl, HB0.out⟩
  by_cases h4 : 8 ≤ d
  · go_wp2_with fail
    go_ret
    exact ⟨by rw [HR.out, bagNo (by omega)]; rfl, HB0.out⟩
  by_cases h5 : q < 1
  · go_wp2_with fail
    go_ret
    exact ⟨by rw [HR.out, bagNo (by omega)]; rfl, HB0.out⟩
  by_cases h6 : 1000000 < q
  · go_wp2_with fail
    go_ret
    exact ⟨by rw [HR.out, bagNo (by omega)]; rfl, HB0.out⟩
  by_cases h7 : (L.length : Int) < 1
  · go_wp2_with fail
    go_ret
    exact ⟨by rw [HR.out, bagNo (by omega)]; rfl, HB0.out⟩
  by_cases h8 : 8 < (L.length : Int)
  · go_wp2_with fail
    go_ret
    exact ⟨by rw [HR.out, bagNo (by omega)]; rfl, HB0.out⟩
  have HRT : Hid (r = toksB L) := Lib.hid (by rw [HR.out]; exact bagYes ⟨by simpa using hsd, by omega, by omega, by omega, by omega, by omega, by omega, by omega, by omega⟩)
  have HL8 : Hid (L.length ≤ 8) := Lib.hid (by omega)
  have HT0 := Lib.hid (HT.out.below HB0.out)
  clear HT HR
  go_wp2_with fail
  go_loopw [3] (fun i wr => ∃ k : Nat, k ≤ L.length ∧ i = .int .i64 k ∧ (List.range k).all (tokOk L) = true ∧ TokAt wr (.slice A L.length c) L ∧ Below w.heap.size w wr ∧ Blk wr w.heap.size 41 #[.int .i64 s, .int .i64 d, .int .i64 q, .slice A L.length c]) (fun i _ => L.length - (intOf i).toNat)
  case atStart => exact ⟨0, Nat.zero_le _, rfl, rfl, HT0.out, HB0.out, HK0.out⟩
  case round =>
    clear HT0 HB0 HK0 b0 b1 b2 b3 bl hsd h1 h2 h3 h4 h5 h6 h7 h8
    obtain ⟨k, hk, rfl, hpre, hT, hB, hK⟩ := hrel
    have HP := Lib.hid hpre
    have HT := Lib.hid hT
    have HB := Lib.hid hB
    have HK := Lib.hid hK
    have b3 := hK.cell 3
    have bl := hK.lt
    simp at b3
    clear hpre hB hK
    by_cases hlt : k < L.length
    · have hki : (k : Int) < (L.length : Int) := by omega
      obtain ⟨t, ht⟩ : ∃ t, L[k]? = some t := ⟨_, List.getElem?_eq_getElem hlt⟩
      obtain ⟨g, o, rfl, hg, c0, c1⟩ := hT.cells ht
      have HLT := Lib.hid hlt
      have hk8 : k < 8 := by have := HL8.out; omega
      go_upto_region 6 with fail
      have HIT := Lib.hid (fun W => validToken_any t W)
      have HOK : Hid (tokOk L k = (isTokenB t && (decide (k = 0) || decide ((L.getD (k - 1) tokD).id < t.id)))) := Lib.hid (by unfold tokOk; rw [getD_of ht])
      generalize isTokenB t = bt at HIT HOK
      have gc0 := fun d' os => cell_regrown c0 d' os
      have gc1 := fun d' os => cell_regrown c1 d' os
      have gb3 := fun d' os => cell_regrown b3 d' os
      have HW5 := Lib.hid (fun d' os => HB.out.trans ((below_regrown wr d' os).mono HB.out.size))
      unfold tokVal tokCells at HIT
      have hK5l := HK.out.lt
      have hgr : ∀ d' (os : Array Obj), wr.heap.size ≤ (grow (redrawn wr d') os).heap.size := fun d' os => (below_regrown wr d' os).size
      clear c0 c1 b3 ht
      cases bt
      · have hno := toks_no hlt (by rw [HOK.out]; rfl)
        clear HOK HP
        have HNO := Lib.hid hno
        clear hno
        refine wp_region_quiet_below (by kernel_rfl) (by kernel_rfl) ?_
        repeat (go_big_quiet_step (first | (go_at_call 96; exact Calls.regrown_of ((HIT.out _).mono (fun _ _ h => ⟨h.1, by rw [h.2]; exact (Below.refl _ _).alloc (Nat.le_refl _) _⟩)))))
        refine wpQuiet_nil ?_
        intro _ hw'
        obtain ⟨⟨dq, osq⟩, hw''⟩ := hw'
        subst hw''
        go_wp2_with fail
        go_ret
        exact ⟨by rw [HRT.out, HNO.out]; rfl, HW5.out _ _⟩
      · by_cases hk0 : k = 0
        · have hok : tokOk L k = true := by rw [HOK.out, hk0]; rfl
          have HP2 := Lib.hid (toks_step HP.out hok)
          clear HOK HP hok
          have hk0' : ¬ (0 : Int) < (k : Int) := by omega
          have hk0d : decide (0 < k) = false := decide_eq_false (by omega)
          have HK0 := Lib.hid hk0
          clear hk0 hki
          refine wp_region_quiet_below (by kernel_rfl) (by kernel_rfl) ?_
          repeat (go_big_quiet_step (first | (go_at_call 96; exact Calls.regrown_of ((HIT.out _).mono (fun _ _ h => ⟨h.1, by rw [h.2]; exact (Below.refl _ _).alloc (Nat.le_refl _) _⟩)))))
          refine wpQuiet_nil ?_
          intro _ hw'
          obtain ⟨⟨dq, osq⟩, hw''⟩ := hw'
          subst hw''
          have HF := Lib.hid (And.intro (HT.out.below (below_regrown wr dq osq)) (HK.out.below (below_regrown wr dq osq) hK5l))
          go_wp2_with fail
          go_roundw
          case rel => exact ⟨k + 1, by have := HLT.out; omega, by go_num, HP2.out, HF.out.1, HW5.out _ _, HF.out.2⟩
          case measure => first | exact meas_up _ _ HLT.out | exact meas_up2 _ _ HLT.out
        · obtain ⟨m, rfl⟩ : ∃ m, k = m + 1 := ⟨k - 1, by omega⟩
          have hkp : (0 : Int) < ((m + 1 : Nat) : Int) := by omega
          obtain ⟨t', ht'⟩ : ∃ t', L[m]? = some t' := ⟨_, List.getElem?_eq_getElem (by omega)⟩
          obtain ⟨g', o', hgo, hgl, c0, _⟩ := HT.out.cells ht'
          cases hgo
          have gcm := fun d' os => cell_regrown c0 d' os
          have HOK2 : Hid (tokOk L (m + 1) = decide (t'.id < t.id)) := Lib.hid (by rw [HOK.out]; simp only [Nat.add_sub_cancel]; rw [getD_of ht']; simp)
          have hml : m < L.length := by omega
          have hwm : wrap64 (m : Int) = (m : Int) := by unfold wrap64; omega
          have hwm2 : wrap64 ((m : Int) + 1 + 1) = (m : Int) + 1 + 1 := by unfold wrap64; omega
          clear HOK c0 ht' hk0
          by_cases hle : t.id ≤ t'.id
          · have hno := toks_no hlt (by rw [HOK2.out]; simp; omega)
            clear HOK2 HP
            have HNO := Lib.hid hno
            clear hno
            have hdl : decide (t.id ≤ t'.id) = true := decide_eq_true hle
            refine wp_region_quiet_below (by kernel_rfl) (by kernel_rfl) ?_
            repeat (go_big_quiet_step (first | (go_at_call 96; exact Calls.regrown_of ((HIT.out _).mono (fun _ _ h => ⟨h.1, by rw [h.2]; exact (Below.refl _ _).alloc (Nat.le_refl _) _⟩)))))
            refine wpQuiet_nil ?_
            intro _ hw'
            obtain ⟨⟨dq, osq⟩, hw''⟩ := hw'
            subst hw''
            go_wp2_with fail
            go_ret
            exact ⟨by rw [HRT.out, HNO.out]; rfl, HW5.out _ _⟩
          · have hok : tokOk L (m + 1) = true := by rw [HOK2.out]; simp; omega
            have HP2 := Lib.hid (toks_step HP.out hok)
            clear HOK2 HP hok
            have hdl : decide (t.id ≤ t'.id) = false := decide_eq_false hle
            refine wp_region_quiet_below (by kernel_rfl) (by kernel_rfl) ?_
            repeat (go_big_quiet_step (first | (go_at_call 96; exact Calls.regrown_of ((HIT.out _).mono (fun _ _ h => ⟨h.1, by rw [h.2]; exact (Below.refl _ _).alloc (Nat.le_refl _) _⟩)))))
            refine wpQuiet_nil ?_
            intro _ hw'
            obtain ⟨⟨dq, osq⟩, hw''⟩ := hw'
            subst hw''
            have HF := Lib.hid (And.intro (HT.out.below (below_regrown wr dq osq)) (HK.out.below (below_regrown wr dq osq) hK5l))
            go_wp2_with fail
            go_roundw
            case rel => exact ⟨m + 1 + 1, by have := HLT.out; omega, by go_num, HP2.out, HF.out.1, HW5.out _ _, HF.out.2⟩
            case measure => exact meas_up2 _ _ HLT.out
    · have hki : ¬ (k : Int) < (L.length : Int) := by omega
      obtain rfl : k = L.length := by omega
      have HP2 : Hid (toksB L = true) := HP
      clear HP
      go_wp2_with fail
      go_ret
      exact ⟨by rw [HRT.out, HP2.out]; rfl, HB.out⟩
end Go.Proofs.YthgfbaekmhpiaaaGreatDoor
namespace Go.Proofs.YthgfbaekmhpiaaaGreatDoor
open Go.RowKit Go.Shelf Go.Sort

theorem refNumber_int (n : Int) (h0 : 0 ≤ n) (h1 : n ≤ 9223372036854775807) (w : World) :
    Calls Tryz.prog 59 #[.int .i64 n] w fun e w' => e = .returned (.string (ba (decL n))) ∧ Below w.heap.size w w' := by
  have h := refNumber_any n.toNat (by omega) w
  rw [Int.toNat_of_nonneg h0] at h
  exact h
theorem dec19 {n : Int} (h : n ≤ 9223372036854775807) : (ba (decL n)).size ≤ 19 := decL_len h
theorem tokS (t : Tok) (X : List UInt8) : ba X ++ ba (decL t.id) ++ ⟨#[32]⟩ ++ ba (decL (t.body.size : Int)) ++ ⟨#[10]⟩ ++ t.body ++ ⟨#[10]⟩ = ba (X ++ tokL t) := by
  have h := tokL_eq t []
  rw [List.append_nil] at h
  rw [h, show (⟨#[32]⟩ : ByteArray) = ba [32] from rfl, show (⟨#[10]⟩ : ByteArray) = ba [10] from rfl, ← ba_eta t.body]
  simp only [ba_add, ba_list]
  congr 1
  simp
theorem headS (s d q : Int) : (⟨#[98, 97, 103, 32]⟩ : ByteArray) ++ ba (decL s) ++ ⟨#[32]⟩ ++ ba (decL d) ++ ⟨#[32]⟩ ++ ba (decL q) ++ ⟨#[10]⟩ = ba (bagW.data.toList ++ [32] ++ lineL [s, d, q]) := by
  rw [line_three, show (⟨#[98, 97, 103, 32]⟩ : ByteArray) = ba [98, 97, 103, 32] from rfl, show (⟨#[32]⟩ : ByteArray) = ba [32] from rfl, show (⟨#[10]⟩ : ByteArray) = ba [10] from rfl]
  simp only [ba_add]
  congr 1
  simp [bagW]
set_option maxRecDepth 100000 in
set_option maxHeartbeats 4000000 in
theorem refPut_any (b : BagV) (L : List Tok) (w : World) (hT : TokAt w b.toks L) (hl : (L.length : Int) ≤ 9223372036854775807) :
    Calls Tryz.prog 21 #[bagVal b] w fun e w' => e = .returned (.tuple #[.string (putTx b L), .int .i64 (putE b L)]) ∧ Below w.heap.size w w' := by
  have HI := Lib.hid (fun W (hW : Below w.heap.size w W) => validBag_any b L W (hT.below hW) hl)
  obtain ⟨s, d, q, V⟩ := b
  dsimp only at hT
  have HT := Lib.hid hT
  obtain ⟨A, c, rfl, hlc, hL⟩ := hT
  have HX := Lib.hid (Blk.new w 41 #[.int .i64 s, .int .i64 d, .int .i64 q, .slice A L.length c])
  have HB := Lib.hid ((Below.refl _ w).alloc (Nat.le_refl _) (.cells #[.int .i64 s, .int .i64 d, .int .i64 q, .slice A L.length c] 41))
  clear hL hlc
  rcases hv : isBagB ⟨s, d, q, .slice A L.length c⟩ L with _ | _
  · rw [hv] at HI
    rw [show putTx ⟨s, d, q, .slice A L.length c⟩ L = ⟨#[]⟩ by unfold putTx; rw [if_neg (by rw [hv]; decide)], show putE ⟨s, d, q, .slice A L.length c⟩ L = 1 by unfold putE; rw [if_neg (by rw [hv]; decide)]]
    unfold bagVal at HI ⊢
    dsimp only at HI ⊢
    clear hv
    go_enter Tryz.func21, Tryz.ntmps21
    go_upto_region 1 with fail
    generalize w.alloc _ = W at HX HB ⊢
    have x0 := HX.out.cell 0
    have x1 := HX.out.cell 1
    have x2 := HX.out.cell 2
    have x3 := HX.out.cell 3
    have xz := HX.out.lt
    simp at x0 x1 x2 x3
    go_wp2_with fail
    refine (HI.out W HB.out).mono ?_
    rintro e w2 ⟨rfl, hb⟩
    have HBE := Lib.hid (HB.out.trans (hb.mono HB.out.size))
    clear hb
    go_wp2_with fail
    go_ret2
    exact ⟨rfl, HBE.out⟩
  · have hg : GoodBag s d q L := hv
    obtain ⟨hf1, hf2, hf3, hf4, hf5⟩ := valid_facts (goodBag_valid hg)
    have hs := hf2 s (by simp)
    have hd := hf2 d (by simp)
    have hq := hf2 q (by simp)
    have HN1 := Lib.hid (refNumber_int s hs.1 hs.2)
    have HN2 := Lib.hid (refNumber_int d hd.1 hd.2)
    have HN3 := Lib.hid (refNumber_int q hq.1 hq.2)
    have hz1 := dec19 hs.2
    have hz2 := dec19 hd.2
    have hz3 := dec19 hq.2
    obtain ⟨pre, hpre⟩ : ∃ pre, pre = bagW.data.toList ++ [32] ++ lineL [s, d, q] := ⟨_, rfl⟩
    have HPE := Lib.hid (headS s d q)
    rw [← hpre] at HPE
    have HTX : Hid (putTx ⟨s, d, q, .slice A L.length c⟩ L = ba (pre ++ L.flatMap tokL)) := Lib.hid (by unfold putTx; rw [if_pos hv, hpre]; rfl)
    have hpl : pre.length ≤ 100 := by
      have h1 := congrArg ByteArray.size HPE.out
      rw [ba_size] at h1
      rw [← h1]
      simp only [ByteArray.size_append]
      have e1 : (⟨#[98, 97, 103, 32]⟩ : ByteArray).size = 4 := rfl
      have e2 : (⟨#[32]⟩ : ByteArray).size = 1 := rfl
      have e3 : (⟨#[10]⟩ : ByteArray).size = 1 := rfl
      omega
    clear hpre
    rw [show putE ⟨s, d, q, .slice A L.length c⟩ L = 0 by unfold putE; rw [if_pos hv]]
    obtain ⟨tx, htx⟩ : ∃ tx, tx = putTx ⟨s, d, q, .slice A L.length c⟩ L := ⟨_, rfl⟩
    rw [← htx] at HTX ⊢
    rw [hv] at HI
    unfold bagVal at HI ⊢
    dsimp only at HI ⊢
    have HOT := Lib.hid hf3
    have HLE := Lib.hid hf5
    have HPL := Lib.hid hpl
    have hl8 : L.length ≤ 8 := hf4
    generalize ba (decL s) = X1 at HN1 HPE hz1
    generalize ba (decL d) = X2 at HN2 HPE hz2
    generalize ba (decL q) = X3 at HN3 HPE hz3
    have c1 : ¬ 9223372036854775807 < 4 + X1.size := by omega
    have c2 : ¬ 9223372036854775807 < 4 + X1.size + 1 := by omega
    have e2 : ¬ 9223372036854775807 < ((⟨#[98, 97, 103, 32]⟩ : ByteArray) ++ X1).size + 1 := by simp only [ByteArray.size_append]; exact c2
    have c3 : ¬ 9223372036854775807 < 4 + X1.size + 1 + X2.size := by omega
    have e3 : ¬ 9223372036854775807 < ((⟨#[98, 97, 103, 32]⟩ : ByteArray) ++ X1 ++ ⟨#[32]⟩).size + X2.size := by simp only [ByteArray.size_append]; exact c3
    have c4 : ¬ 9223372036854775807 < 4 + X1.size + 1 + X2.size + 1 := by omega
    have e4 : ¬ 9223372036854775807 < ((⟨#[98, 97, 103, 32]⟩ : ByteArray) ++ X1 ++ ⟨#[32]⟩ ++ X2).size + 1 := by simp only [ByteArray.size_append]; exact c4
    have c5 : ¬ 9223372036854775807 < 4 + X1.size + 1 + X2.size + 1 + X3.size := by omega
    have e5 : ¬ 9223372036854775807 < ((⟨#[98, 97, 103, 32]⟩ : ByteArray) ++ X1 ++ ⟨#[32]⟩ ++ X2 ++ ⟨#[32]⟩).size + X3.size := by simp only [ByteArray.size_append]; exact c5
    have c6 : ¬ 9223372036854775807 < 4 + X1.size + 1 + X2.size + 1 + X3.size + 1 := by omega
    have e6 : ¬ 9223372036854775807 < ((⟨#[98, 97, 103, 32]⟩ : ByteArray) ++ X1 ++ ⟨#[32]⟩ ++ X2 ++ ⟨#[32]⟩ ++ X3).size + 1 := by simp only [ByteArray.size_append]; exact c6
    clear hv hg hf1 hf2 hf3 hf4 hf5 hs hd hq htx hpl hz1 hz2 hz3
    go_enter Tryz.func21, Tryz.ntmps21
    go_upto_region 1 with fail
    generalize w.alloc _ = W at HX HB ⊢
    have x0 := HX.out.cell 0
    have x1 := HX.out.cell 1
    have x2 := HX.out.cell 2
    have x3 := HX.out.cell 3
    have xz := HX.out.lt
    simp at x0 x1 x2 x3
    go_wp2_with fail
    refine (HI.out W HB.out).mono ?_
    rintro e w2 ⟨rfl, hb⟩
    have HX2 := Lib.hid (HX.out.below hb HX.out.lt)
    have HB2 := Lib.hid (HB.out.trans (hb.mono HB.out.size))
    clear hb x0 x1 x2 x3 xz
    have xz := HX2.out.lt
    go_upto_region 3 with fail
    have HS : Hid (∀ Y, Below w2.heap.size w2 Y → Y.cell? ⟨w.heap.size, 0, none⟩ = some (.int .i64 s) ∧ Y.cell? ⟨w.heap.size, 1, none⟩ = some (.int .i64 d) ∧ Y.cell? ⟨w.heap.size, 2, none⟩ = some (.int .i64 q)) := Lib.hid fun Y hY => by
      have k := Blk.below HX2.out hY HX2.out.lt
      have c0 := k.cell 0
      have c1 := k.cell 1
      have c2 := k.cell 2
      simp at c0 c1 c2
      exact ⟨c0, c1, c2⟩
    have d0 := HS.out _ (Below.refl _ w2).drew
    go_cut [4] (fun r wx => r = .string (ba pre) ∧ Below w2.heap.size w2 wx)
    case first =>
      go_region_held3 (fun W => W.cell? ⟨w.heap.size, 0, none⟩ = some (.int .i64 s) ∧ W.cell? ⟨w.heap.size, 1, none⟩ = some (.int .i64 d) ∧ W.cell? ⟨w.heap.size, 2, none⟩ = some (.int .i64 q))
        (exact HS.out _ (by repeat (first | (with_reducible assumption) | (with_reducible refine below_alx ?_ _) | (with_reducible exact Below.refl _ _) | (with_reducible refine below_drx ?_))))
        (first
          | (go_at_call 59; with_reducible refine (HN1.out _).mono ?_; rintro e wI ⟨rfl, hbI⟩; have hBI := below_twox (w := w2) hbI (by repeat (first | (with_reducible assumption) | (with_reducible exact Below.refl _ _) | (with_reducible refine below_drx ?_))))
          | (go_at_call 59; with_reducible refine (HN2.out _).mono ?_; rintro e wJ ⟨rfl, hbJ⟩; have hBJ := below_twox (w := w2) hbJ (by repeat (first | (with_reducible assumption) | (with_reducible exact Below.refl _ _) | (with_reducible refine below_drx ?_))))
          | (go_at_call 59; with_reducible refine (HN3.out _).mono ?_; rintro e wK ⟨rfl, hbK⟩; have hBK := below_twox (w := w2) hbK (by repeat (first | (with_reducible assumption) | (with_reducible exact Below.refl _ _) | (with_reducible refine below_drx ?_)))))
      all_goals
        go_wp2_with fail
        go_meet
        exact ⟨by rw [← HPE.out], hBK⟩
    case rest =>
      obtain ⟨rfl, hB⟩ := hcut
      have HX3 := Lib.hid (HX2.out.below hB HX2.out.lt)
      have HB3 := Lib.hid (HB2.out.trans (hB.mono HB2.out.size))
      clear hB HX2 HB2 HX HB HS d0 xz c1 c2 c3 c4 c5 c6 e2 e3 e4 e5 e6 HN1 HN2 HN3 HPE HI
      have HTT := Lib.hid (HT.out.below HB3.out)
      clear HT
      go_wp2_with fail
      go_loopw [4, 5] (fun sv i wr => ∃ k : Nat, k ≤ L.length ∧ i = .int .i64 (k : Int) ∧ sv = .string (ba (pre ++ (L.take k).flatMap tokL)) ∧ TokAt wr (.slice A L.length c) L ∧ Below w.heap.size w wr ∧ Blk wr w.heap.size 41 #[.int .i64 s, .int .i64 d, .int .i64 q, .slice A L.length c]) (fun _ i _ => L.length - (intOf i).toNat)
      case atStart => exact ⟨0, Nat.zero_le _, rfl, by simp, HTT.out, HB3.out, HX3.out⟩
      case round =>
        clear HTT HB3 HX3
        obtain ⟨k, hk, rfl, rfl, hT, hB, hK⟩ := hrel
        have HT := Lib.hid hT
        have HB := Lib.hid hB
        have HK := Lib.hid hK
        have b3 := hK.cell 3
        have bl := hK.lt
        simp at b3
        clear hB hK
        by_cases hlt : k < L.length
        · have hki : (k : Int) < (L.length : Int) := by omega
          obtain ⟨t, ht⟩ : ∃ t, L[k]? = some t := ⟨_, List.getElem?_eq_getElem hlt⟩
          obtain ⟨g, o, rfl, hg, c0, c1⟩ := hT.cells ht
          have HLT := Lib.hid hlt
          have hti := HOT.out t (List.mem_of_getElem? ht)
          have htb : t.body.size ≤ 1000000 := Nat.le_trans (tok_le (List.mem_of_getElem? ht)) HLE.out
          have HN1 := Lib.hid (refNumber_int t.id hti.1 hti.2)
          have HN2 := Lib.hid (refNumber_int (t.body.size : Int) (by omega) (by omega))
          have hz1 := dec19 hti.2
          have hz2 := dec19 (n := (t.body.size : Int)) (by omega)
          have htl : (ba (pre ++ (L.take k).flatMap tokL)).size ≤ 2000000 := by
            rw [ba_size, List.length_append]
            have := flat_le (L := L) k
            have := HLE.out
            have := HPL.out
            omega
          have HST := Lib.hid (tokS t (pre ++ (L.take k).flatMap tokL))
          have HNX : Hid (ba (pre ++ (L.take (k + 1)).flatMap tokL) = ba (pre ++ (L.take k).flatMap tokL ++ tokL t)) := Lib.hid (by rw [flat_take ht, List.append_assoc])
          rw [← HNX.out] at HST
          clear HNX
          obtain ⟨TN, hTN⟩ : ∃ TN, TN = ba (pre ++ (L.take (k + 1)).flatMap tokL) := ⟨_, rfl⟩
          rw [← hTN] at HST
          have HTN := Lib.hid hTN
          clear hTN
          generalize ba (pre ++ (L.take k).flatMap tokL) = TX at HST htl ⊢
          generalize ba (decL t.id) = X1 at HN1 HST hz1
          generalize ba (decL (t.body.size : Int)) = X2 at HN2 HST hz2
          obtain ⟨ti, tb⟩ := t
          dsimp only at c0 c1 HN1 HN2 htb HST
          clear hti ht hlt
          go_upto_region 8 with fail
          have HT5 := Lib.hid (HT.out.below ((Below.refl _ wr).alloc (Nat.le_refl _) (.cells #[Value.int .i64 ti, Value.string tb] 50)))
          have HB5 := Lib.hid (HB.out.alloc HB.out.size (.cells #[Value.int .i64 ti, Value.string tb] 50))
          have HK5 := Lib.hid (HK.out.alloc (.cells #[Value.int .i64 ti, Value.string tb] 50))
          have HKT := Lib.hid (Blk.new wr 50 #[Value.int .i64 ti, Value.string tb])
          obtain ⟨X, hX⟩ : ∃ X, X = wr.heap.size := ⟨_, rfl⟩
          rw [← hX] at HKT ⊢
          clear HT HB HK b3 bl hT c0 c1 hg hX
          generalize wr.alloc _ = W5 at HT5 HB5 HK5 HKT ⊢
          have HS : Hid (∀ Y, Below W5.heap.size W5 Y → Y.cell? ⟨X, 0, none⟩ = some (.int .i64 ti) ∧ Y.cell? ⟨X, 1, none⟩ = some (.string tb)) := Lib.hid fun Y hY => by
            have k := Blk.below HKT.out hY HKT.out.lt
            have c0 := k.cell 0
            have c1 := k.cell 1
            simp at c0 c1
            exact ⟨c0, c1⟩
          have d0 := HS.out _ (Below.refl _ W5).drew
          have c1 : ¬ 9223372036854775807 < TX.size + X1.size := by omega
          have c2 : ¬ 9223372036854775807 < TX.size + X1.size + 1 := by omega
          have e2 : ¬ 9223372036854775807 < ((TX : ByteArray) ++ X1).size + 1 := by simp only [ByteArray.size_append]; exact c2
          have c3 : ¬ 9223372036854775807 < TX.size + X1.size + 1 + X2.size := by omega
          have e3 : ¬ 9223372036854775807 < ((TX : ByteArray) ++ X1 ++ ⟨#[32]⟩).size + X2.size := by simp only [ByteArray.size_append]; exact c3
          have c4 : ¬ 9223372036854775807 < TX.size + X1.size + 1 + X2.size + 1 := by omega
          have e4 : ¬ 9223372036854775807 < ((TX : ByteArray) ++ X1 ++ ⟨#[32]⟩ ++ X2).size + 1 := by simp only [ByteArray.size_append]; exact c4
          have c5 : ¬ 9223372036854775807 < TX.size + X1.size + 1 + X2.size + 1 + tb.size := by omega
          have e5 : ¬ 9223372036854775807 < ((TX : ByteArray) ++ X1 ++ ⟨#[32]⟩ ++ X2 ++ ⟨#[10]⟩).size + tb.size := by simp only [ByteArray.size_append]; exact c5
          have c6 : ¬ 9223372036854775807 < TX.size + X1.size + 1 + X2.size + 1 + tb.size + 1 := by omega
          have e6 : ¬ 9223372036854775807 < ((TX : ByteArray) ++ X1 ++ ⟨#[32]⟩ ++ X2 ++ ⟨#[10]⟩ ++ tb).size + 1 := by simp only [ByteArray.size_append]; exact c6
          clear htb htl hz1 hz2
          go_region_held3 (fun W => W.cell? ⟨X, 0, none⟩ = some (.int .i64 ti) ∧ W.cell? ⟨X, 1, none⟩ = some (.string tb))
            (exact HS.out _ (by repeat (first | (with_reducible assumption) | (with_reducible refine below_alx ?_ _) | (with_reducible exact Below.refl _ _) | (with_reducible refine below_drx ?_))))
            (first
              | (go_at_call 59; with_reducible refine (HN1.out _).mono ?_; rintro e wI ⟨rfl, hbI⟩; have hBI := below_twox (w := W5) hbI (by repeat (first | (with_reducible assumption) | (with_reducible exact Below.refl _ _) | (with_reducible refine below_drx ?_))))
              | (go_at_call 59; with_reducible refine (HN2.out _).mono ?_; rintro e wJ ⟨rfl, hbJ⟩; have hBJ := below_twox (w := W5) hbJ (by repeat (first | (with_reducible assumption) | (with_reducible exact Below.refl _ _) | (with_reducible refine below_drx ?_)))))
          all_goals
            have HTF := Lib.hid (HT5.out.below hBJ)
            have HBF := Lib.hid (HB5.out.trans (hBJ.mono HB5.out.size))
            have HKF := Lib.hid (HK5.out.below hBJ HK5.out.lt)
            clear HT5 HB5 HK5 HKT HS d0 HN1 HN2 hbI hbJ hBI hBJ
            go_wp2_with fail
            go_roundw
            case rel => exact ⟨k + 1, by have := HLT.out; omega, by go_num, by rw [← HTN.out, ← HST.out], HTF.out, HBF.out, HKF.out⟩
            case measure => exact meas_up _ _ HLT.out
        · have hki : ¬ (k : Int) < (L.length : Int) := by omega
          obtain rfl : k = L.length := by omega
          have HTE : Hid (tx = ba (pre ++ (L.take L.length).flatMap tokL)) := Lib.hid (by rw [HTX.out, List.take_length])
          rw [← HTE.out]
          go_wp2_with fail
          go_ret2
          exact ⟨rfl, HB.out⟩
end Go.Proofs.YthgfbaekmhpiaaaGreatDoor
