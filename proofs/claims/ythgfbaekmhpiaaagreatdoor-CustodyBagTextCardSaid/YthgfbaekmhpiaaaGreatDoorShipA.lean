/- The sizes of the records of shipped. No conditions. The law's check of life: shipped. Conditions: the library's table of powers of ten lies in memory. -/
import Derived.Test.YthgfbaekmhpiaaaGreatDoorOffB
namespace Go.Proofs.YthgfbaekmhpiaaaGreatDoor
open Go.RowKit Go.Shelf Go.Sort

def tok7 : Tok := ⟨7, ⟨#[97, 98]⟩⟩
def noteIn : ByteArray := ⟨#[105, 110]⟩
def txE : ByteArray := ba (opL1 (opE 0 tok7 noteIn))
def txS : ByteArray := ba (opL4 (opS (.slice none 1 1)) [7])
def txB : ByteArray := ba (opL5 (opB 1 (.slice none 0 0)) [tok7])
def txG : ByteArray := ba (opL5 (opG 1 (.slice none 0 0)) [])
theorem sE : txE.size ≤ 60 := Nat.le_of_ble_eq_true (by kernel_rfl)
theorem sS : txS.size ≤ 60 := Nat.le_of_ble_eq_true (by kernel_rfl)
theorem sB : txB.size ≤ 60 := Nat.le_of_ble_eq_true (by kernel_rfl)
theorem sG : txG.size ≤ 60 := Nat.le_of_ble_eq_true (by kernel_rfl)
theorem nb_small {n : Nat} (h : n ≤ 60) : nbOf n = 1 := by unfold nbOf; omega
theorem mBag : ba (msgL [98, 97, 103] ⟨0, 1, 1, .slice none 0 0⟩ [tok7]) = ⟨#[98, 97, 103, 32, 48, 32, 49, 32, 49, 10, 55, 32, 50, 10, 97, 98, 10]⟩ := by kernel_rfl
theorem mGot : ba (msgL [103, 111, 116] ⟨1, 0, 1, .slice none 0 0⟩ []) = ⟨#[103, 111, 116, 32, 49, 32, 48, 32, 49, 10]⟩ := by kernel_rfl
theorem vBag : validB bagW ⟨0, 1, 0 + 1, .slice none 0 0⟩ [tok7] = true := by kernel_rfl
theorem vGot : validB gotW ⟨1, 0, 1, .slice none 0 0⟩ [] = true := by kernel_rfl
theorem tok7_ok : isTokenB tok7 = true := by kernel_rfl
end Go.Proofs.YthgfbaekmhpiaaaGreatDoor
namespace Go.Proofs.YthgfbaekmhpiaaaGreatDoor
open Go.RowKit Go.Shelf Go.Sort

theorem own_next {o p g h l B : Nat} {v v' : Value} {P : Nat → Prop} {w : World} (hP : ∀ i, ownO o p g v h l i → P i) (hn : newB w v v') (hB : B ≤ w.heap.size) : ∀ i, ownO o p g v' h l i → P i ∨ B ≤ i := fun i e => by
  rcases e with (e | e | e) | e
  · exact .inl (hP i (.inl (.inl e)))
  · exact .inl (hP i (.inl (.inr (.inl e))))
  · rcases hn with e2 | e2
    · exact .inl (hP i (.inl (.inr (.inr (e2 ▸ e)))))
    · exact .inr (Nat.le_trans hB (e2 i e))
  · exact .inl (hP i (.inr e))
theorem mBagT (tv : Value) : ba (msgL bagW.data.toList ⟨0, 1, 0 + 1, tv⟩ [⟨7, ⟨#[97, 98]⟩⟩]) = ⟨#[98, 97, 103, 32, 48, 32, 49, 32, 49, 10, 55, 32, 50, 10, 97, 98, 10]⟩ := by kernel_rfl
theorem mBagN : ba (msgL [98, 97, 103] ⟨0, 1, 0 + 1, .slice none 0 0⟩ [⟨7, ⟨#[97, 98]⟩⟩]) = ⟨#[98, 97, 103, 32, 48, 32, 49, 32, 49, 10, 55, 32, 50, 10, 97, 98, 10]⟩ := by kernel_rfl
theorem mGotT : ba (msgL gotW.data.toList ⟨1, 0, 0 + 1, .slice none 0 0⟩ []) = ⟨#[103, 111, 116, 32, 49, 32, 48, 32, 49, 10]⟩ := by kernel_rfl
theorem mGotN : ba (msgL [103, 111, 116] ⟨1, 0, 0 + 1, .slice none 0 0⟩ []) = ⟨#[103, 111, 116, 32, 49, 32, 48, 32, 49, 10]⟩ := by kernel_rfl
theorem room3 : (encsOf ([] : List (List Int))).length + nbOf txB.size ≤ (List.replicate 64 zeroS).length := by
  rw [nb_small sB]; simp [encsOf]
theorem len_splice1 : (splice (List.replicate 64 zeroS) (encsOf ([] : List (List Int))).length (encB (bsOf txE))).length = 64 := by
  rw [length_splice _ _ _ (by rw [encB_len, bsOf_len, nb_small sE]; simp [encsOf])]
  simp
theorem room2 : (encsOf ([] ++ [bsOf txE])).length + nbOf txS.size ≤ (splice (List.replicate 64 zeroS) (encsOf ([] : List (List Int))).length (encB (bsOf txE))).length := by
  rw [len_splice1, nb_small sS, encsOf_snoc, List.length_append, encB_len, bsOf_len, nb_small sE]
  simp [encsOf]
theorem room4 : (encsOf ([] ++ [bsOf txE] ++ [bsOf txS])).length + nbOf txG.size ≤ (splice (splice (List.replicate 64 zeroS) (encsOf ([] : List (List Int))).length (encB (bsOf txE))) (encsOf ([] ++ [bsOf txE])).length (encB (bsOf txS))).length := by
  have hl : (encsOf ([] ++ [bsOf txE])).length = 1 := by rw [encsOf_snoc, List.length_append, encB_len, bsOf_len, nb_small sE]; simp [encsOf]
  rw [length_splice _ _ _ (by rw [len_splice1, encB_len, bsOf_len, nb_small sS, hl]; omega), len_splice1, nb_small sG, encsOf_snoc, List.length_append, encB_len, bsOf_len, nb_small sS, hl]
  omega
theorem room1 : (encsOf ([] : List (List Int))).length + nbOf txE.size ≤ (List.replicate 64 zeroS).length := by
  rw [nb_small sE]; simp [encsOf]
set_option maxRecDepth 100000 in
set_option maxHeartbeats 4000000 in
theorem shipped_ok (w : World) (hP : PowAt w) :
    Calls Tryz.prog 9 #[] w fun e w' => e = .returned (.bool true) ∧ Below w.heap.size w w' := by
  have HP := Lib.hid hP
  have HD1 : Hid (Calls Tryz.prog 46 #[.int .i64 64] w fun e w' => e = .returned (.tuple #[.pointer (some ⟨w.heap.size + 1, 0, none⟩), .int .i64 0]) ∧ DiskAt w' (w.heap.size + 1) w.heap.size (.slice none 0 0) (List.replicate 64 zeroS) [] false false 0 ∧ Below w.heap.size w w') := Lib.hid (newDisk_ok 64 (by omega) (by omega) w)
  clear hP
  go_enter Tryz.func9, Tryz.ntmps9
  go_wp2_with fail
  refine HD1.out.mono ?_
  rintro e w1 ⟨rfl, hD1, hB1⟩
  clear HD1
  obtain ⟨p1, hp1⟩ : ∃ p1, p1 = w.heap.size + 1 := ⟨_, rfl⟩
  obtain ⟨g1, hg1⟩ : ∃ g1, g1 = w.heap.size := ⟨_, rfl⟩
  have hd1 : ∀ i, ownD p1 g1 (.slice none 0 0) i → w.heap.size ≤ i ∧ i < w1.heap.size := fun i e => by
    have h1 := hD1.blk.lt
    rcases e with e | e | e
    · omega
    · omega
    · simp [Value.ownBlock] at e
  rw [← hp1] at hD1 ⊢
  rw [← hg1] at hD1
  clear hp1 hg1
  have HD1 := Lib.hid hD1
  have HO1 := Lib.hid hd1
  have HB1 := Lib.hid hB1
  clear hD1 hd1 hB1
  have HD2 : Hid (Calls Tryz.prog 46 #[.int .i64 64] w1 fun e w' => e = .returned (.tuple #[.pointer (some ⟨w1.heap.size + 1, 0, none⟩), .int .i64 0]) ∧ DiskAt w' (w1.heap.size + 1) w1.heap.size (.slice none 0 0) (List.replicate 64 zeroS) [] false false 0 ∧ Below w1.heap.size w1 w') := Lib.hid (newDisk_ok 64 (by omega) (by omega) w1)
  go_wp2_with fail
  refine HD2.out.mono ?_
  rintro e w2 ⟨rfl, hD2, hB2⟩
  clear HD2
  obtain ⟨p2, hp2⟩ : ∃ p2, p2 = w1.heap.size + 1 := ⟨_, rfl⟩
  obtain ⟨g2, hg2⟩ : ∃ g2, g2 = w1.heap.size := ⟨_, rfl⟩
  have hd2 : ∀ i, ownD p2 g2 (.slice none 0 0) i → w1.heap.size ≤ i ∧ i < w2.heap.size := fun i e => by
    have h1 := hD2.blk.lt
    rcases e with e | e | e
    · omega
    · omega
    · simp [Value.ownBlock] at e
  rw [← hp2] at hD2 ⊢
  rw [← hg2] at hD2
  clear hp2 hg2
  have HD2 := Lib.hid hD2
  have HO2 := Lib.hid hd2
  have HB2 := Lib.hid (HB1.out.trans (hB2.mono HB1.out.size))
  have HZ2 := Lib.hid hB2.size
  have HW1 := Lib.hid HB1.out.size
  have HW2 := Lib.hid (Nat.le_trans HB1.out.size hB2.size)
  have HE1 := Lib.hid (HD1.out.below hB2)
  clear hD2 hd2 hB2 HB1 HD1
  have HS1 := Lib.hid (start_off HE1.out ⟨by decide, by decide⟩ (by simp) Jr.nil (fun i e => Nat.lt_of_lt_of_le (HO1.out i e).2 HZ2.out) 0 (by kernel_rfl))
  go_wp2_with fail
  refine HS1.out.mono ?_
  rintro e w3 ⟨o1, h1, l1, rfl, hF1, q1, q2, q3, hB3⟩
  have HF1 := Lib.hid hF1
  have HB3 := Lib.hid (HB2.out.trans (hB3.mono HB2.out.size))
  have HQ1 := Lib.hid (And.intro q1 (And.intro q2 q3))
  have HZ3 := Lib.hid hB3.size
  have HE2 := Lib.hid (HD2.out.below hB3)
  clear hF1 q1 q2 q3 hB3 HS1 HB2 HD2 HE1
  have HS2 := Lib.hid (start_off HE2.out ⟨by decide, by decide⟩ (by simp) Jr.nil (fun i e => Nat.lt_of_lt_of_le (HO2.out i e).2 HZ3.out) 1 (by kernel_rfl))
  go_wp2_with fail
  refine HS2.out.mono ?_
  rintro e w4 ⟨o2, h2, l2, rfl, hF2, q1, q2, q3, hB4⟩
  have HF2 := Lib.hid hF2
  have HB4 := Lib.hid (HB3.out.trans (hB4.mono HB3.out.size))
  have HQ2 := Lib.hid (And.intro q1 (And.intro q2 q3))
  have HF13 := Lib.hid HF1.out
  have HW3 := Lib.hid HB3.out.size
  have HZ4 := Lib.hid (Nat.le_trans HB3.out.size hB4.size)
  have HZ34 := Lib.hid hB4.size
  have HF1 := Lib.hid (HF1.out.below hB4)
  clear hF2 q1 q2 q3 hB4 HS2 HB3 HE2
  have HEN := Lib.hid (enter_new HF1.out (by decide) (by decide) tok7 tok7_ok rfl (by decide) (by decide) noteIn (by decide) (by kernel_rfl) (HP.out.up HB4.out) (Nat.le_trans sE (by decide)) room1)
  have HX1 : Hid (∀ i, ownO o1 p1 g1 (.slice none 0 0) h1 l1 i → (w.heap.size ≤ i ∧ i < w1.heap.size) ∨ (w2.heap.size ≤ i ∧ i < w3.heap.size)) := Lib.hid (fun i e => by
    have hq := HQ1.out
    have hz := HF13.out
    rcases e with e | e | e | e
    · exact .inl (HO1.out i e)
    · rw [e]; exact .inr ⟨hq.2.2, hz.blk.lt⟩
    · rw [e]; exact .inr ⟨hq.1, hz.held.lt⟩
    · rw [e]; exact .inr ⟨hq.2.1, hz.lost.lt⟩)
  have HX2 : Hid (∀ i, ownO o2 p2 g2 (.slice none 0 0) h2 l2 i → (w1.heap.size ≤ i ∧ i < w2.heap.size) ∨ (w3.heap.size ≤ i ∧ i < w4.heap.size)) := Lib.hid (fun i e => by
    have hq := HQ2.out
    have hz := HF2.out
    rcases e with e | e | e | e
    · exact .inl (HO2.out i e)
    · rw [e]; exact .inr ⟨hq.2.2, hz.blk.lt⟩
    · rw [e]; exact .inr ⟨hq.1, hz.held.lt⟩
    · rw [e]; exact .inr ⟨hq.2.1, hz.lost.lt⟩)
  clear HF13 HO1 HO2 HQ1 HQ2
  unfold tokVal tok7 noteIn at HEN
  dsimp only at HEN
  go_wp2_with fail
  refine HEN.out.mono ?_
  rintro e w5 ⟨rfl, v1, A1, c1, hF1, hN1, hv1, hnd, hK5⟩
  have HND := Lib.hid hnd
  clear hnd
  have HF2 := Lib.hid (HF2.out.keep hK5 (fun i e f => by
    have ha := HX1.out i f
    have hb := HX2.out i e
    have hc := HZ2.out
    have hd := HZ3.out
    omega))
  have HB5 := Lib.hid (HB4.out.trans ((hK5.below (B := w.heap.size) (fun i hi f => by
    have ha := HX1.out i f
    have hc := HZ2.out
    have hd := HW2.out
    omega) HB4.out.size)))
  have HF1 := Lib.hid hF1
  have HN1 := Lib.hid hN1
  have HV1 := Lib.hid hv1
  have HZ5 := Lib.hid hK5.size
  have HY1 := Lib.hid (own_next HX1.out hv1 (Nat.le_refl _))
  clear hF1 hN1 hv1 hK5 HEN HB4 HX1
  have HBI := Lib.hid (HB5.out.alloc HB5.out.size (.cells #[.int .i64 7] 3))
  have HFI := Lib.hid (HF1.out.below ((Below.refl _ _).alloc (Nat.le_refl _) (.cells #[.int .i64 7] 3)))
  have HGI := Lib.hid (HF2.out.below ((Below.refl _ _).alloc (Nat.le_refl _) (.cells #[.int .i64 7] 3)))
  have hII : IntsAt (w5.alloc (.cells #[.int .i64 7] 3)) (.slice (some ⟨w5.heap.size, 0, none⟩) 1 1) [7] := ⟨some ⟨w5.heap.size, 0, none⟩, 1, rfl, by simp, .inr ⟨w5.heap.size, 0, rfl, by simp, fun j v hv => by
    rw [Nat.zero_add, (Blk.new w5 3 #[.int .i64 7]).cell, List.getElem?_toArray]
    exact hv⟩⟩
  have HSH := Lib.hid (ship_new HFI.out (by decide) (some ⟨w5.heap.size, 0, none⟩) 1 7 hII (fun a ha e => by
    cases ha
    have hz := HF1.out
    rcases e with e | e | e | e
    · exact Nat.lt_irrefl _ (show w5.heap.size < w5.heap.size from hz.dl _ e)
    · have := hz.blk.lt; dsimp only at e; omega
    · have := hz.held.lt; dsimp only at e; omega
    · have := hz.lost.lt; dsimp only at e; omega) (by decide) ⟨#[97, 98]⟩ (by simp) (HP.out.up HBI.out) (Nat.le_trans sS (by decide)) room2)
  clear hII HB5 HF1 HF2
  go_wp2_with fail
  refine HSH.out.mono ?_
  rintro e w6 ⟨rfl, v2, b1, tv, hF1, hBo, hTo, hv2, hbd, hK6⟩
  have HBD := Lib.hid hbd
  clear hbd
  have HND2 : Hid (∀ i, (Value.slice A1 1 c1).ownBlock = some i → ¬ ownO o1 p1 g1 v2 h1 l1 i) := Lib.hid (fun i hi e => by
    rcases e with (e | e | e) | e
    · exact HND.out i hi (.inl (.inl e))
    · exact HND.out i hi (.inl (.inr (.inl e)))
    · rcases hv2 with e2 | e2
      · exact HND.out i hi (.inl (.inr (.inr (e2 ▸ e))))
      · have h1 := (World.ownsRow.lt HN1.out i hi).2
        have h2 := e2 i e
        simp at h2
        omega
    · exact HND.out i hi (.inr e))
  have HF2 := Lib.hid (HGI.out.keep hK6 (fun i e f => by
    have ha := HY1.out i f
    have hb := HX2.out i e
    have hc := HZ2.out
    have hd := HZ3.out
    have he := HZ34.out
    omega))
  have HB6 := Lib.hid (HBI.out.trans ((hK6.below (B := w.heap.size) (fun i hi f => by
    have ha := HY1.out i f
    have hc := HZ4.out
    have hd := HW2.out
    omega) HBI.out.size)))
  have HF1 := Lib.hid hF1
  have HBo := Lib.hid hBo
  have HTo := Lib.hid hTo
  have HZ6 := Lib.hid (show w5.heap.size ≤ w6.heap.size from Nat.le_trans (by simp) hK6.size)
  have HN2 := Lib.hid ((HN1.out.below ((Below.refl _ _).alloc (Nat.le_refl _) (.cells #[.int .i64 7] 3))).keep hK6 (fun i hi => HND.out i hi))
  obtain ⟨A2, c2, htv, _⟩ := hTo.at_
  have HTV := Lib.hid htv
  have HY2 := Lib.hid (own_next HY1.out hv2 (Nat.le_of_lt (by simp : w5.heap.size < (w5.alloc (.cells #[.int .i64 7] 3)).heap.size)))
  clear hF1 hBo hTo hv2 hK6 HSH HBI HFI HGI HY1 htv
  have HOF : Hid (Calls Tryz.prog 42 #[.pointer (some ⟨o1, 0, none⟩)] w6 fun e w' => ∃ A' c', e = .returned (.slice A' 1 c') ∧ w'.ownsRow w6.heap.size 101 2 (.slice A' 1 c') 1 [.int .i64 1, .string ⟨#[98, 97, 103, 32, 48, 32, 49, 32, 49, 10, 55, 32, 50, 10, 97, 98, 10]⟩] ∧ Below w6.heap.size w6 w') := Lib.hid ((offer_one HF1.out.blk HBo.out A2 c2 HTV.out HTo.out.at_ (by simp) (by simp) (HP.out.up HB6.out) (show OkN [0, 1, 0 + 1] from okN3 (by decide) (by decide) (by decide)) (fun t ht => by rw [List.mem_singleton] at ht; subst ht; decide) (Nat.le_of_ble_eq_true (by kernel_rfl))).mono (fun e w' h => by
    rw [mBagT tv] at h
    exact h))
  go_wp2_with fail
  refine HOF.out.mono ?_
  rintro e w7 ⟨A3, c3, rfl, hL7, hB7⟩
  obtain ⟨_, _, hLl⟩ := row_lies hL7
  rcases hLl with hLl | ⟨g7, o7, hA3, hg7, hc7⟩
  · cases hLl
  subst hA3
  have t1 := hc7 1 _ rfl
  have HT1 := Lib.hid t1
  have HG7 := Lib.hid hg7
  have HF1 := Lib.hid (HF1.out.below hB7)
  have HF2 := Lib.hid (HF2.out.below hB7)
  have HBo := Lib.hid (HBo.out.below hB7)
  have HTo := Lib.hid (HTo.out.below hB7)
  have HN3 := Lib.hid (HN2.out.below hB7)
  have HB7 := Lib.hid (HB6.out.trans (hB7.mono HB6.out.size))
  have HZ7 := Lib.hid hB7.size
  have HH2 : Hid (Calls Tryz.prog 49 #[.pointer (some ⟨o2, 0, none⟩), .string ⟨#[98, 97, 103, 32, 48, 32, 49, 32, 49, 10, 55, 32, 50, 10, 97, 98, 10]⟩, .string ⟨#[]⟩] w7 fun e w' => e = .returned (.tuple #[.string ⟨#[103, 111, 116, 32, 49, 32, 48, 32, 49, 10]⟩, .int .i64 0]) ∧ ∃ W, (∃ vp', Off W o2 p2 g2 vp' (splice (List.replicate 64 zeroS) (encsOf ([] : List (List Int))).length (encB (bsOf txB))) ([] ++ [bsOf txB]) 1 h2 l2 1 0 (.slice none 0 0) (.slice none 0 0) 0 1 (fun j => if j = 7 then some ⟨#[97, 98]⟩ else none) ∧ newB2 w7 (.slice none 0 0) vp' ∧ Keeps (ownO o2 p2 g2 (.slice none 0 0) h2 l2) w7 W) ∧ Keeps (fun j => j = w7.heap.size ∨ j = w7.heap.size + 1) W w' ∧ Keeps (ownO o2 p2 g2 (.slice none 0 0) h2 l2) w7 w') := Lib.hid (by
    have h9 := hear_bag_new HF2.out (by decide) (by decide) ⟨7, ⟨#[97, 98]⟩⟩ (by decide) vBag (Nat.le_of_ble_eq_true (by kernel_rfl)) (HP.out.up HB7.out) (fun W hK => HP.out.up (HB7.out.trans (hK.below (B := w.heap.size) (fun i hi f => by
      have ha := HX2.out i f
      have hb := HW1.out
      have hd := HW3.out
      omega) HB7.out.size))) (Nat.le_trans sB (by decide)) room3
    rw [mBagN, mGotT] at h9
    exact h9)
  have hne7 : ¬ (w7.heap.size ≤ g7) := by omega
  clear t1 hg7 hc7 hL7 hB7 HOF
  have t1 := HT1.out
  have hg7 := HG7.out
  go_wp2_with fail
  refine HH2.out.mono ?_
  rintro e w8 ⟨rfl, W, ⟨v3, hF2, hv3, hKW⟩, hK2c, hK8⟩
  have hF28 := hF2.keep hK2c (fun i e f => by
    have hz := HZ7.out
    have hz6 := HZ6.out
    have hz5 := HZ5.out
    have hb : ownO o2 p2 g2 (.slice none 0 0) h2 l2 i ∨ w7.heap.size + 2 ≤ i := by
      rcases e with (e | e | e) | e
      · exact .inl (.inl (.inl e))
      · exact .inl (.inl (.inr (.inl e)))
      · rcases hv3 with e2 | e2
        · rw [e2] at e; simp [Value.ownBlock] at e
        · exact .inr (e2 i e)
      · exact .inl (.inr e)
    rcases hb with hb | hb
    · have ha := HX2.out i hb
      have hc := HZ2.out
      have hd := HZ3.out
      have he := HZ34.out
      omega
    · omega)
  have hB8 := hK8.below (B := w.heap.size) (fun i hi f => by
    have ha := HX2.out i f
    have hb := HW1.out
    have hd := HW3.out
    omega) HB7.out.size
  have hd8 : ∀ i, w4.heap.size ≤ i → ¬ ownO o2 p2 g2 (.slice none 0 0) h2 l2 i := fun i hi f => by
    have ha := HX2.out i f
    have hc := HZ2.out
    have hd := HZ3.out
    have he := HZ34.out
    omega
  have HF1' := Lib.hid (HF1.out.keep hK8 (fun i e f => by
    have ha := HY2.out i e
    have hb := HX2.out i f
    have hc := HZ2.out
    have hd := HZ3.out
    have he := HZ34.out
    have hz5 := HZ5.out
    omega))
  have HBo8 := Lib.hid (HBo.out.keep hK8 (fun i hi => hd8 i (by
    have h1 := (World.ownsRow.lt HBo.out i hi).1
    have h2 := HZ5.out
    simp at h1
    omega)))
  have HTo8 := Lib.hid (HTo.out.keep hK8 (fun i hi => hd8 i (by
    have h1 := (World.ownsRow.lt HTo.out i hi).1
    have h2 := HZ5.out
    simp at h1
    omega)))
  have HN8 := Lib.hid (HN3.out.keep hK8 (fun i hi => hd8 i (World.ownsRow.lt HN3.out i hi).1))
  have HF28 := Lib.hid hF28
  have HB8 := Lib.hid (HB7.out.trans hB8)
  have HZ8 := Lib.hid hK8.size
  clear hF28 hB8 hd8 hF2 hv3 hKW hK2c hK8 HH2 hg7 t1 hne7
  have HHE := Lib.hid (held_any HF28.out.blk rfl rfl HF28.out.held (by decide) (fun n hn => by
    by_cases h : n = 7
    · subst h; decide
    · simp [h] at hn))
  go_wp2_with fail
  refine HHE.out.mono ?_
  rintro e w9 ⟨tl, q, rfl, hT9, hq9, hB9⟩
  have hq7 := sorted_one (i := 7) hq9.out (fun n => by by_cases h : n = 7 <;> simp [h])
  subst hq7
  have hT9' : TokOwn w9 w8.heap.size tl [⟨7, ⟨#[97, 98]⟩⟩] := hT9
  obtain ⟨A5, c5, htl, _⟩ := hT9'.at_
  subst htl
  obtain ⟨g5, o5, hA5, hg5, _, k51⟩ := hT9'.at_.cells (k := 0) (t := ⟨7, ⟨#[97, 98]⟩⟩) rfl
  subst hA5
  have hb5 := (World.ownsRow.lt hT9' g5 rfl).1
  have HK51 := Lib.hid k51
  have HG5 := Lib.hid hg5
  have HL5 := Lib.hid hb5
  have HF19 := Lib.hid (HF1'.out.below hB9)
  have HBo9 := Lib.hid (HBo8.out.below hB9)
  have HB9 := Lib.hid (HB8.out.trans (hB9.mono HB8.out.size))
  have HZ9 := Lib.hid hB9.size
  have HDL := Lib.hid HF1'.out
  have HBB := Lib.hid HBo8.out
  have hB9x := hB9
  clear hT9 hT9' hq9 hg5 k51 hb5 hB9 HHE
  have h9 := hear_got_new HF19.out HBo9.out A2 _ c2 HTV.out HBD.out (show (0 : Int) ≤ 0 + 1 ∧ (0 : Int) + 1 ≤ 1000000 by decide) vGot (HP.out.up HB9.out) (Nat.le_trans sG (by decide)) room4
  dsimp only at h9
  rw [mGotN] at h9
  have HH1 := Lib.hid h9
  clear h9
  have HN9 := Lib.hid (HN8.out.below hB9x)
  go_wp2_with fail
  refine HH1.out.mono ?_
  rintro e w10 ⟨rfl, W2, ⟨v4, g', c', hF1, hv4, hKW⟩, hK2c, hK10⟩
  have hlt : ∀ i, ownO o1 p1 g1 v2 h1 l1 i → i < w8.heap.size := fun i e => by
    have hz := HDL.out
    rcases e with e | e | e | e
    · exact hz.dl i e
    · rw [e]; exact hz.blk.lt
    · rw [e]; exact hz.held.lt
    · rw [e]; exact hz.lost.lt
  have hF110 := hF1.keep hK2c (fun i e f => by
    have hz := HZ9.out
    have hb : ownO o1 p1 g1 v2 h1 l1 i ∨ w9.heap.size + 2 ≤ i := by
      rcases e with (e | e | e) | e
      · exact .inl (.inl (.inl e))
      · exact .inl (.inl (.inr (.inl e)))
      · rcases hv4 with e2 | e2
        · exact .inl (.inl (.inr (.inr (e2 ▸ e))))
        · exact .inr (e2 i e)
      · exact .inl (.inr e)
    rcases hb with hb | hb
    · have := hlt i hb; omega
    · omega)
  have hN10 := HN9.out.keep hK10 (fun i hi f => by
    rcases f with f | f
    · exact HND2.out i hi f
    · obtain ⟨cur, hcur⟩ := row_type HBo9.out f
      exact row_ne HN9.out hcur (by decide) hi)
  have hk51 := (hK10.cell HG5.out (fun f => by
    have h5 := HL5.out
    rcases f with f | f
    · have := hlt _ f; omega
    · have := (World.ownsRow.lt HBB.out _ f).2; omega)).trans HK51.out
  have hg5 := Nat.lt_of_lt_of_le HG5.out hK10.size
  have HB10 := Lib.hid (HB9.out.trans (hK10.below (B := w.heap.size) (fun i hi f => by
    rcases f with f | f
    · have ha := HY2.out i f
      have hc := HW2.out
      have hd := HZ4.out
      have he := HZ5.out
      omega
    · have := (World.ownsRow.lt HBB.out _ f).1
      have hd := HZ4.out
      have he := HZ5.out
      simp at this
      omega) HB9.out.size))
  have HF110 := Lib.hid hF110
  have HN10 := Lib.hid hN10
  have HBG := Lib.hid (bags_none HF110.out.blk)
  have HHL := Lib.hid (fun W (hW : Below w10.heap.size w10 W) => held_any (w := W) (HF110.out.below hW).blk rfl rfl (HF110.out.below hW).held (by decide) (fun n hn => by by_cases h : n = 7 <;> simp [h] at hn))
  have HNO := Lib.hid (fun W (hW : Below w10.heap.size w10 W) => notes_any (w := W) (HF110.out.below hW).blk (HN10.out.below hW) (by simp) (by simp) (fun u hu => by rw [List.mem_singleton] at hu; subst hu; rfl))
  clear hF1 hv4 hKW hK2c hK10 hlt hF110 hN10 HH1
  go_wp2_with fail
  refine HBG.out.mono ?_
  rintro e w11 ⟨rfl, hB11⟩
  have HB11 := Lib.hid hB11
  clear hB11 HBG
  go_wp2_with fail
  refine (HHL.out w11 HB11.out).mono ?_
  rintro e w12 ⟨tl2, q2, rfl, hT12, hq12, hB12⟩
  have hq0 := sorted_none hq12.out (fun n => by by_cases h : n = 7 <;> simp [h])
  subst hq0
  obtain ⟨A6, c6, htl2, _⟩ := hT12.at_
  simp only [List.map_nil, List.length_nil] at htl2
  subst htl2
  have HB12 := Lib.hid (HB11.out.trans (hB12.mono HB11.out.size))
  clear hT12 hq12 hB12 HHL
  go_wp2_with fail
  refine (HNO.out w12 HB12.out).mono ?_
  rintro e w13 ⟨A7, c7, rfl, _, hB13⟩
  have HB13 := Lib.hid (HB10.out.trans ((HB12.out.trans (hB13.mono HB12.out.size)).mono HB10.out.size))
  clear hB13
  go_wp2_with fail
  go_ret
  exact ⟨rfl, HB13.out⟩
end Go.Proofs.YthgfbaekmhpiaaaGreatDoor
