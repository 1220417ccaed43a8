/- The contract of the reference's Cut.number. Conditions: the text is short enough. The contract of the reference's Cut.number: what it returns, and where a number stands, this number. Conditions: the text is short enough. -/
import Derived.Test.YthgfbaekmhpiaaaGreatDoorNumA
namespace Go.Proofs.YthgfbaekmhpiaaaGreatDoor
open Go.RowKit Go.Shelf Go.Sort

def DigB (c : UInt8) : Prop := 48 ≤ c.toNat ∧ c.toNat ≤ 57
def valL (l : List UInt8) : Nat := l.foldl (fun a c => 10 * a + (c.toNat - 48)) 0
theorem valL_snoc (l : List UInt8) (c : UInt8) : valL (l ++ [c]) = 10 * valL l + (c.toNat - 48) := by
  unfold valL
  rw [List.foldl_append]
  rfl
theorem valL_dec (n : Nat) : valL (Lib.decDigits n) = n := by
  induction n using Nat.strongRecOn with
  | ind n ih =>
    rw [Lib.decDigits]
    split
    · rename_i h
      have := valL_snoc [] (UInt8.ofNat (48 + n))
      rw [List.nil_append, ofNat_digit h] at this
      rw [this]
      show 10 * 0 + _ = _
      omega
    · have hd : n % 10 < 10 := Nat.mod_lt _ (by omega)
      rw [valL_snoc, ih (n / 10) (by omega), ofNat_digit hd]
      omega
theorem fold_lt : ∀ (l : List UInt8) (a : Nat), (∀ c ∈ l, DigB c) → l.foldl (fun a c => 10 * a + (c.toNat - 48)) a + 1 ≤ (a + 1) * 10 ^ l.length
  | [], a, _ => by simp
  | c :: l, a, h => by
    have h1 := fold_lt l (10 * a + (c.toNat - 48)) (fun x hx => h x (List.mem_cons_of_mem _ hx))
    have h2 := h c List.mem_cons_self
    unfold DigB at h2
    rw [List.foldl_cons, List.length_cons, Nat.pow_succ]
    refine Nat.le_trans h1 ?_
    rw [Nat.mul_comm (10 ^ l.length) 10, ← Nat.mul_assoc]
    exact Nat.mul_le_mul_right _ (by omega)
theorem valL_lt {l : List UInt8} (hd : ∀ c ∈ l, DigB c) : valL l < 10 ^ l.length := by
  have := fold_lt l 0 hd
  unfold valL
  omega
theorem dec_head (n : Nat) : ∀ r, Lib.decDigits n = 48 :: r → r = [] := by
  induction n using Nat.strongRecOn with
  | ind n ih =>
    intro r h
    rw [Lib.decDigits] at h
    split at h
    · simp at h
      exact h.2
    · rename_i hn
      cases hd : Lib.decDigits (n / 10) with
      | nil => exact absurd hd (dec_ne _)
      | cons c r' =>
        rw [hd, List.cons_append] at h
        have hc : c = 48 := (List.cons.inj h).1
        have := ih (n / 10) (by omega) r' (by rw [hd, hc])
        subst this
        subst hc
        have h9 := valL_dec (n / 10)
        rw [hd] at h9
        have h0 : valL [48] = 0 := by decide
        omega
theorem ix_at (m : ByteArray) (k : Nat) (x : UInt8) (h : m.data.toList[k]? = some x) (W : World) :
    (Instr.index 9 (.string m) (.int .i64 (k : Int))).run Tryz.prog W = .ok (.int .u8 ((x.toNat : Nat) : Int)) W := by
  have hk : k < m.size := by
    have := (List.getElem?_eq_some_iff.1 h).1
    rwa [size_list] at this
  rw [run_index_string (h := strDescJ), dif_pos ⟨by omega, by omega⟩]
  have hx : m[k] = x := by
    obtain ⟨h1, h2⟩ := List.getElem?_eq_some_iff.1 h
    rw [← h2]
    rfl
  simp only [Int.toNat_natCast]
  rw [hx]
/-- What number has read when its loop ends: where a number stands, the number's digits. -/
theorem num_good {l : List UInt8} {k n : Nat} {e : UInt8} {r : List UInt8} (hdig : ∀ c ∈ l.take k, DigB c) (hk : k ≤ 8) (hkl : k ≤ l.length)
    (hex : k = l.length ∨ ∃ c, l[k]? = some c ∧ (¬ DigB c ∨ k = 8)) (hn : n < 100000000) (he : e.toNat < 48) (hl : l = Lib.decDigits n ++ e :: r) :
    k = (Lib.decDigits n).length ∧ valL (l.take k) = n ∧ l[k]? = some e := by
  have h8 : (Lib.decDigits n).length ≤ 8 := dec_len7 7 n hn
  have hek : l[(Lib.decDigits n).length]? = some e := by
    rw [hl, List.getElem?_append_right (Nat.le_refl _)]
    simp
  have h1 : k ≤ (Lib.decDigits n).length := by
    rcases Nat.lt_or_ge (Lib.decDigits n).length k with h | h
    · have hm : e ∈ l.take k := List.mem_of_getElem? (i := (Lib.decDigits n).length) (by rw [List.getElem?_take_of_lt h]; exact hek)
      have := hdig e hm
      unfold DigB at this
      omega
    · exact h
  have h2 : (Lib.decDigits n).length ≤ k := by
    rcases Nat.lt_or_ge k (Lib.decDigits n).length with h | h
    · rcases hex with hx | ⟨c, hc, hx⟩
      · rw [hx, hl, List.length_append] at h
        omega
      · have hc2 : (Lib.decDigits n)[k]? = some c := by
          rw [hl, List.getElem?_append_left h] at hc
          exact hc
        have hd := dec_digit n c (List.mem_of_getElem? hc2)
        rcases hx with hx | hx
        · exact absurd hd hx
        · omega
    · exact h
  have h3 : k = (Lib.decDigits n).length := by omega
  refine ⟨h3, ?_, by rw [h3]; exact hek⟩
  rw [h3, hl, List.take_left, valL_dec]
end Go.Proofs.YthgfbaekmhpiaaaGreatDoor
namespace Go.Proofs.YthgfbaekmhpiaaaGreatDoor
open Go.RowKit Go.Shelf Go.Sort

/-- A reader of a message: its text, where it stands, whether it has failed. -/
def CutN (w : World) (p : Nat) (m : ByteArray) (a : Nat) (bad : Bool) : Prop := Blk w p 115 #[.string m, .int .i64 (a : Int), .bool bad]
def posN (w : World) (p : Nat) : Nat := match w.cell? ⟨p, 1, none⟩ with | some (.int _ i) => i.toNat | _ => 0
theorem posN_of {w : World} {p : Nat} {m : ByteArray} {a : Nat} {bad : Bool} (h : CutN w p m a bad) : posN w p = a := by
  have c := Blk.cell h 1
  simp at c
  unfold posN
  rw [c]
  simp
/-- What number returns. -/
def NumTo (w : World) (p : Nat) (m : ByteArray) (a : Nat) (bad : Bool) (en : UInt8) (e : Ending) (w' : World) : Prop :=
  ∃ (v a' : Nat) (bad' : Bool), e = .returned (.int .i64 (v : Int)) ∧ a ≤ a' ∧ a' ≤ m.size ∧ v ≤ 99999999 ∧ CutN w' p m a' bad' ∧ Keeps (fun i => i = p) w w' ∧
    ∀ (n : Nat) (r : List UInt8), n < 100000000 → m.data.toList.drop a = Lib.decDigits n ++ en :: r → v = n ∧ bad' = bad ∧ m.data.toList.drop a' = r
theorem pow8 {k : Nat} (h : k ≤ 8) : 10 ^ k ≤ 100000000 := Nat.pow_le_pow_right (by decide) h
theorem valL_8 {l : List UInt8} (hd : ∀ c ∈ l, DigB c) {k : Nat} (hk : l.length ≤ k) (h8 : k ≤ 8) : valL l < 10 ^ k := Nat.lt_of_lt_of_le (valL_lt hd) (Nat.pow_le_pow_right (by decide) hk)
theorem drop_next {ml dn r : List UInt8} {en : UInt8} {a b : Nat} (hl : ml.drop a = dn ++ en :: r) (hb : b - a = dn.length) (hab : a ≤ b) : ml.drop (b + 1) = r := by
  have h1 : ml.drop (b + 1) = (ml.drop a).drop (b + 1 - a) := by
    rw [List.drop_drop]
    congr 1
    omega
  rw [h1, hl, show b + 1 - a = (dn ++ [en]).length by simp; omega, show dn ++ en :: r = (dn ++ [en]) ++ r by simp, List.drop_left]
theorem take_next {l : List UInt8} {k : Nat} {x : UInt8} (h : l[k]? = some x) : l.take (k + 1) = l.take k ++ [x] := by
  rw [List.take_add_one, h]
  rfl
set_option maxRecDepth 100000 in
set_option maxHeartbeats 4000000 in
theorem refNum_any (p : Nat) (m : ByteArray) (a : Nat) (bad : Bool) (en : UInt8) (ei : Int) (hei : ei = ((en.toNat : Nat) : Int)) (he48 : en.toNat < 48) (w : World) (hC : CutN w p m a bad) (ha : a ≤ m.size) (hm : m.size ≤ 1000000000) :
    Calls Tryz.prog 62 #[.pointer (some ⟨p, 0, none⟩), .int .u8 ei] w (NumTo w p m a bad en) := by
  have HM := Lib.hid hm
  have HA := Lib.hid ha
  have HC := Lib.hid hC
  have HEI := Lib.hid hei
  have HE48 := Lib.hid he48
  unfold CutN at hC
  have c1 := hC.cell 1
  have cl := hC.lt
  simp at c1
  clear hm ha hC hei he48
  go_enter Tryz.func62, Tryz.ntmps62
  go_wp2_with fail
  go_loopw [6] (fun nv wr => ∃ b : Nat, a ≤ b ∧ b ≤ m.size ∧ b - a ≤ 8 ∧ nv = .int .i64 ((valL ((m.data.toList.drop a).take (b - a)) : Nat) : Int) ∧ (∀ c ∈ (m.data.toList.drop a).take (b - a), DigB c) ∧ CutN wr p m b bad ∧ Keeps (fun i => i = p) w wr) (fun _ wr => m.size - posN wr p)
  case atStart => exact ⟨a, Nat.le_refl _, HA.out, by omega, by rw [Nat.sub_self, List.take_zero]; rfl, by rw [Nat.sub_self, List.take_zero]; simp, HC.out, Keeps.refl _ _⟩
  case round =>
    clear HC c1 cl
    obtain ⟨b, hab, hbm, hb8, rfl, hdig, hC, hK⟩ := hrel
    have HAB := Lib.hid hab
    have HBM := Lib.hid hbm
    have HB8 := Lib.hid hb8
    have HDG := Lib.hid hdig
    have HC := Lib.hid hC
    have HK := Lib.hid hK
    have HVL : Hid (valL ((m.data.toList.drop a).take (b - a)) < 10 ^ (b - a)) := Lib.hid (valL_8 hdig (List.length_take_le _ _) hb8)
    have HLL : Hid ((m.data.toList.drop a).length = m.size - a) := Lib.hid (by rw [List.length_drop, size_list])
    have HC0 := Lib.hid hC
    have HNX : Hid (∀ x, m.data.toList[b]? = some x → (m.data.toList.drop a)[b - a]? = some x) := Lib.hid (fun x hx => by rw [List.getElem?_drop]; rw [show a + (b - a) = b by omega]; exact hx)
    obtain ⟨nv, hnv⟩ : ∃ nv, nv = valL ((m.data.toList.drop a).take (b - a)) := ⟨_, rfl⟩
    rw [← hnv] at HVL ⊢
    have HNV := Lib.hid hnv
    clear hnv
    obtain ⟨kk, hkk⟩ : ∃ kk, kk = b - a := ⟨_, rfl⟩
    have HKK := Lib.hid hkk
    have hw8 : IntKind.i64.wrap ((b : Int) - (a : Int)) = (kk : Int) := by
      have := HM.out
      rw [wrap_id _ (by omega) (by omega)]
      omega
    unfold CutN at hC
    have c0 := hC.cell 0
    have c1 := hC.cell 1
    have c2 := hC.cell 2
    have f1 := hC.frozen 1
    have f2 := hC.frozen 2
    have cl := hC.lt
    simp at c0 c1 c2
    have hb0 : (0 : Int) ≤ (b : Int) := by omega
    have hbz : b ≤ 1000000000 := Nat.le_trans hbm HM.out
    clear hab hbm hb8 hdig hC hK hkk
    have HGD : Hid ((b - a = (m.data.toList.drop a).length ∨ ∃ c, (m.data.toList.drop a)[b - a]? = some c ∧ (¬ DigB c ∨ b - a = 8)) → ∀ (n : Nat) (r : List UInt8), n < 100000000 → m.data.toList.drop a = Lib.decDigits n ++ en :: r → b - a = (Lib.decDigits n).length ∧ nv = n ∧ (m.data.toList.drop a)[b - a]? = some en) := Lib.hid (fun hex n r hn hl => by
      have h := num_good HDG.out HB8.out (by rw [HLL.out]; have := HBM.out; omega) hex hn HE48.out hl
      rw [HNV.out]
      exact h)
    by_cases hlt : (b : Int) < (m.size : Int)
    rotate_left
    · have HEX : Hid (b - a = (m.data.toList.drop a).length ∨ ∃ c, (m.data.toList.drop a)[b - a]? = some c ∧ (¬ DigB c ∨ b - a = 8)) := Lib.hid (.inl (by rw [HLL.out]; have := HBM.out; have := HAB.out; omega))
      go_upto_region 3 with fail
      go_quiet (fail)
      go_wp2_with fail
      have HC2 := Lib.hid (show CutN (wr.drewN nq) p m b bad from HC.out.drewN nq)
      have HK2 := Lib.hid (HK.out.drewN nq)
      clear HC HK c0 c1 c2 f1 f2 cl
      generalize wr.drewN nq = w2 at HC2 HK2 ⊢
      have hC2 := HC2.out
      unfold CutN at hC2
      have c0 := hC2.cell 0
      have c1 := hC2.cell 1
      have c2 := hC2.cell 2
      have f1 := hC2.frozen 1
      have f2 := hC2.frozen 2
      have cl := hC2.lt
      simp at c0 c1 c2
      have HCB := Lib.hid (fun n => show CutN ((w2.drewN n).setCell ⟨p, 2, none⟩ (.bool true)) p m b true from (hC2.drewN n).set 2 (.bool true))
      have HCG := Lib.hid (fun n => show CutN ((w2.drewN n).setCell ⟨p, 1, none⟩ (.int .i64 ((b : Int) + 1))) p m (b + 1) bad from (hC2.drewN n).set 1 (.int .i64 ((b : Int) + 1)))
      have HKB := Lib.hid (fun n => (HK2.out.drewN n).setCell (p := ⟨p, 2, none⟩) (fun _ => rfl) (.bool true))
      have HKG := Lib.hid (fun n => (HK2.out.drewN n).setCell (p := ⟨p, 1, none⟩) (fun _ => rfl) (.int .i64 ((b : Int) + 1)))
      clear hC2
      rcases hba : ((b : Int) == (a : Int)) with _ | _
      rotate_left
      · go_quiet (fail)
        go_wp2_with fail
        go_ret
        exact ⟨0, b, true, rfl, HAB.out, HBM.out, by omega, HCB.out _, HKB.out _, fun n r hn hl => by
          have h := HGD.out HEX.out n r hn hl
          have h1 : 0 < (Lib.decDigits n).length := List.length_pos_iff.2 (dec_ne n)
          have h2 : (b : Int) = (a : Int) := by simpa using hba
          omega⟩
      go_quiet (fail)
      go_wp2_with fail
      go_ret
      exact ⟨0, b, true, rfl, HAB.out, HBM.out, by omega, HCB.out _, HKB.out _, fun n r hn hl => by
        have h := HGD.out HEX.out n r hn hl
        have h1 := (List.getElem?_eq_some_iff.1 h.2.2).1
        rw [HLL.out] at h1
        have h2 := HAB.out
        omega⟩
    obtain ⟨x, hx⟩ : ∃ x, m.data.toList[b]? = some x := ⟨_, List.getElem?_eq_getElem (by rw [size_list]; omega)⟩
    have HX := Lib.hid hx
    have hix := ix_at m b x hx
    obtain ⟨xn, hxn⟩ : ∃ xn, xn = x.toNat := ⟨_, rfl⟩
    rw [← hxn] at hix
    have HXN := Lib.hid hxn
    clear hx hxn
    by_cases hd1 : 48 ≤ (xn : Int)
    rotate_left
    · have HEX : Hid (b - a = (m.data.toList.drop a).length ∨ ∃ c, (m.data.toList.drop a)[b - a]? = some c ∧ (¬ DigB c ∨ b - a = 8)) := Lib.hid (.inr ⟨x, HNX.out x HX.out, .inl (by unfold DigB; have := HXN.out; omega)⟩)
      go_upto_region 3 with fail
      go_quiet (fail)
      go_wp2_with fail
      have HC2 := Lib.hid (show CutN (wr.drewN nq) p m b bad from HC.out.drewN nq)
      have HK2 := Lib.hid (HK.out.drewN nq)
      clear HC HK c0 c1 c2 f1 f2 cl
      generalize wr.drewN nq = w2 at HC2 HK2 ⊢
      have hC2 := HC2.out
      unfold CutN at hC2
      have c0 := hC2.cell 0
      have c1 := hC2.cell 1
      have c2 := hC2.cell 2
      have f1 := hC2.frozen 1
      have f2 := hC2.frozen 2
      have cl := hC2.lt
      simp at c0 c1 c2
      have HCB := Lib.hid (fun n => show CutN ((w2.drewN n).setCell ⟨p, 2, none⟩ (.bool true)) p m b true from (hC2.drewN n).set 2 (.bool true))
      have HCG := Lib.hid (fun n => show CutN ((w2.drewN n).setCell ⟨p, 1, none⟩ (.int .i64 ((b : Int) + 1))) p m (b + 1) bad from (hC2.drewN n).set 1 (.int .i64 ((b : Int) + 1)))
      have HKB := Lib.hid (fun n => (HK2.out.drewN n).setCell (p := ⟨p, 2, none⟩) (fun _ => rfl) (.bool true))
      have HKG := Lib.hid (fun n => (HK2.out.drewN n).setCell (p := ⟨p, 1, none⟩) (fun _ => rfl) (.int .i64 ((b : Int) + 1)))
      clear hC2
      rcases hba : ((b : Int) == (a : Int)) with _ | _
      rotate_left
      · go_quiet (fail)
        go_wp2_with fail
        go_ret
        exact ⟨0, b, true, rfl, HAB.out, HBM.out, by omega, HCB.out _, HKB.out _, fun n r hn hl => by
          have h := HGD.out HEX.out n r hn hl
          have h1 : 0 < (Lib.decDigits n).length := List.length_pos_iff.2 (dec_ne n)
          have h2 : (b : Int) = (a : Int) := by simpa using hba
          omega⟩
      have HAB2 : Hid (a < b) := Lib.hid (by
        have h1 := HAB.out
        have h2 : (b : Int) ≠ (a : Int) := by simpa using hba
        omega)
      have hge : ¬ ((m.size : Int) ≤ (b : Int)) := by omega
      rcases hxe : ((xn : Int) != ei) with _ | _
      rotate_left
      · go_quiet (fail)
        go_wp2_with fail
        go_ret
        exact ⟨0, b, true, rfl, HAB.out, HBM.out, by omega, HCB.out _, HKB.out _, fun n r hn hl => by
          have h := HGD.out HEX.out n r hn hl
          have h1 := HNX.out x HX.out
          rw [h.2.2] at h1
          rw [HXN.out, HEI.out, Option.some.inj h1] at hxe
          simp at hxe⟩
      obtain ⟨x0, hx0⟩ : ∃ x, m.data.toList[a]? = some x := ⟨_, List.getElem?_eq_getElem (by rw [size_list]; have := HAB2.out; have := HBM.out; omega)⟩
      have HX0 := Lib.hid hx0
      have hix0 := ix_at m a x0 hx0
      obtain ⟨xm, hxm⟩ : ∃ xm, xm = x0.toNat := ⟨_, rfl⟩
      rw [← hxm] at hix0
      have HXM := Lib.hid hxm
      have ha0 : (a : Int) < (m.size : Int) := by have := HAB2.out; have := HBM.out; omega
      clear hx0 hxm
      rcases hx48 : ((xm : Int) == 48) with _ | _
      · go_quiet (fail)
        go_wp2_with fail
        go_ret
        exact ⟨nv, b + 1, bad, rfl, by have := HAB.out; omega, by omega, by have := Nat.lt_of_lt_of_le HVL.out (pow8 HB8.out); omega, HCG.out _, HKG.out _, fun n r hn hl => by
          have h := HGD.out HEX.out n r hn hl
          exact ⟨h.2.1, rfl, drop_next hl h.1 HAB.out⟩⟩
      by_cases hk1 : 1 < (kk : Int)
      · go_quiet (fail)
        go_wp2_with fail
        go_ret
        exact ⟨0, b, true, rfl, HAB.out, HBM.out, by omega, HCB.out _, HKB.out _, fun n r hn hl => by
          have h := HGD.out HEX.out n r hn hl
          have h1 : (m.data.toList.drop a)[0]? = some x0 := by rw [List.getElem?_drop, Nat.add_zero]; exact HX0.out
          rw [hl] at h1
          have h2 := HXM.out
          have h3 : (xm : Int) = 48 := by simpa using hx48
          have h4 : x0 = 48 := UInt8.toNat_inj.1 (by rw [← h2]; show xm = 48; omega)
          cases hd : Lib.decDigits n with
          | nil => exact absurd hd (dec_ne n)
          | cons c r' =>
            rw [hd] at h1
            have h5 : c = x0 := by simpa using h1
            have h6 := dec_head n r' (by rw [hd, h5, h4])
            have h7 := h.1
            rw [hd, h6] at h7
            have h8 := HKK.out
            simp at h7
            omega⟩
      go_quiet (fail)
      go_wp2_with fail
      go_ret
      exact ⟨nv, b + 1, bad, rfl, by have := HAB.out; omega, by omega, by have := Nat.lt_of_lt_of_le HVL.out (pow8 HB8.out); omega, HCG.out _, HKG.out _, fun n r hn hl => by
          have h := HGD.out HEX.out n r hn hl
          exact ⟨h.2.1, rfl, drop_next hl h.1 HAB.out⟩⟩
    by_cases hd2 : (xn : Int) ≤ 57
    rotate_left
    · have HEX : Hid (b - a = (m.data.toList.drop a).length ∨ ∃ c, (m.data.toList.drop a)[b - a]? = some c ∧ (¬ DigB c ∨ b - a = 8)) := Lib.hid (.inr ⟨x, HNX.out x HX.out, .inl (by unfold DigB; have := HXN.out; omega)⟩)
      go_upto_region 3 with fail
      go_quiet (fail)
      go_wp2_with fail
      have HC2 := Lib.hid (show CutN (wr.drewN nq) p m b bad from HC.out.drewN nq)
      have HK2 := Lib.hid (HK.out.drewN nq)
      clear HC HK c0 c1 c2 f1 f2 cl
      generalize wr.drewN nq = w2 at HC2 HK2 ⊢
      have hC2 := HC2.out
      unfold CutN at hC2
      have c0 := hC2.cell 0
      have c1 := hC2.cell 1
      have c2 := hC2.cell 2
      have f1 := hC2.frozen 1
      have f2 := hC2.frozen 2
      have cl := hC2.lt
      simp at c0 c1 c2
      have HCB := Lib.hid (fun n => show CutN ((w2.drewN n).setCell ⟨p, 2, none⟩ (.bool true)) p m b true from (hC2.drewN n).set 2 (.bool true))
      have HCG := Lib.hid (fun n => show CutN ((w2.drewN n).setCell ⟨p, 1, none⟩ (.int .i64 ((b : Int) + 1))) p m (b + 1) bad from (hC2.drewN n).set 1 (.int .i64 ((b : Int) + 1)))
      have HKB := Lib.hid (fun n => (HK2.out.drewN n).setCell (p := ⟨p, 2, none⟩) (fun _ => rfl) (.bool true))
      have HKG := Lib.hid (fun n => (HK2.out.drewN n).setCell (p := ⟨p, 1, none⟩) (fun _ => rfl) (.int .i64 ((b : Int) + 1)))
      clear hC2
      rcases hba : ((b : Int) == (a : Int)) with _ | _
      rotate_left
      · go_quiet (fail)
        go_wp2_with fail
        go_ret
        exact ⟨0, b, true, rfl, HAB.out, HBM.out, by omega, HCB.out _, HKB.out _, fun n r hn hl => by
          have h := HGD.out HEX.out n r hn hl
          have h1 : 0 < (Lib.decDigits n).length := List.length_pos_iff.2 (dec_ne n)
          have h2 : (b : Int) = (a : Int) := by simpa using hba
          omega⟩
      have HAB2 : Hid (a < b) := Lib.hid (by
        have h1 := HAB.out
        have h2 : (b : Int) ≠ (a : Int) := by simpa using hba
        omega)
      have hge : ¬ ((m.size : Int) ≤ (b : Int)) := by omega
      rcases hxe : ((xn : Int) != ei) with _ | _
      rotate_left
      · go_quiet (fail)
        go_wp2_with fail
        go_ret
        exact ⟨0, b, true, rfl, HAB.out, HBM.out, by omega, HCB.out _, HKB.out _, fun n r hn hl => by
          have h := HGD.out HEX.out n r hn hl
          have h1 := HNX.out x HX.out
          rw [h.2.2] at h1
          rw [HXN.out, HEI.out, Option.some.inj h1] at hxe
          simp at hxe⟩
      obtain ⟨x0, hx0⟩ : ∃ x, m.data.toList[a]? = some x := ⟨_, List.getElem?_eq_getElem (by rw [size_list]; have := HAB2.out; have := HBM.out; omega)⟩
      have HX0 := Lib.hid hx0
      have hix0 := ix_at m a x0 hx0
      obtain ⟨xm, hxm⟩ : ∃ xm, xm = x0.toNat := ⟨_, rfl⟩
      rw [← hxm] at hix0
      have HXM := Lib.hid hxm
      have ha0 : (a : Int) < (m.size : Int) := by have := HAB2.out; have := HBM.out; omega
      clear hx0 hxm
      rcases hx48 : ((xm : Int) == 48) with _ | _
      · go_quiet (fail)
        go_wp2_with fail
        go_ret
        exact ⟨nv, b + 1, bad, rfl, by have := HAB.out; omega, by omega, by have := Nat.lt_of_lt_of_le HVL.out (pow8 HB8.out); omega, HCG.out _, HKG.out _, fun n r hn hl => by
          have h := HGD.out HEX.out n r hn hl
          exact ⟨h.2.1, rfl, drop_next hl h.1 HAB.out⟩⟩
      by_cases hk1 : 1 < (kk : Int)
      · go_quiet (fail)
        go_wp2_with fail
        go_ret
        exact ⟨0, b, true, rfl, HAB.out, HBM.out, by omega, HCB.out _, HKB.out _, fun n r hn hl => by
          have h := HGD.out HEX.out n r hn hl
          have h1 : (m.data.toList.drop a)[0]? = some x0 := by rw [List.getElem?_drop, Nat.add_zero]; exact HX0.out
          rw [hl] at h1
          have h2 := HXM.out
          have h3 : (xm : Int) = 48 := by simpa using hx48
          have h4 : x0 = 48 := UInt8.toNat_inj.1 (by rw [← h2]; show xm = 48; omega)
          cases hd : Lib.decDigits n with
          | nil => exact absurd hd (dec_ne n)
          | cons c r' =>
            rw [hd] at h1
            have h5 : c = x0 := by simpa using h1
            have h6 := dec_head n r' (by rw [hd, h5, h4])
            have h7 := h.1
            rw [hd, h6] at h7
            have h8 := HKK.out
            simp at h7
            omega⟩
      go_quiet (fail)
      go_wp2_with fail
      go_ret
      exact ⟨nv, b + 1, bad, rfl, by have := HAB.out; omega, by omega, by have := Nat.lt_of_lt_of_le HVL.out (pow8 HB8.out); omega, HCG.out _, HKG.out _, fun n r hn hl => by
          have h := HGD.out HEX.out n r hn hl
          exact ⟨h.2.1, rfl, drop_next hl h.1 HAB.out⟩⟩
    by_cases hk8 : (kk : Int) < 8
    rotate_left
    · have HEX : Hid (b - a = (m.data.toList.drop a).length ∨ ∃ c, (m.data.toList.drop a)[b - a]? = some c ∧ (¬ DigB c ∨ b - a = 8)) := Lib.hid (.inr ⟨x, HNX.out x HX.out, .inr (by have := HB8.out; have := HKK.out; omega)⟩)
      go_upto_region 3 with fail
      go_quiet (fail)
      go_wp2_with fail
      have HC2 := Lib.hid (show CutN (wr.drewN nq) p m b bad from HC.out.drewN nq)
      have HK2 := Lib.hid (HK.out.drewN nq)
      clear HC HK c0 c1 c2 f1 f2 cl
      generalize wr.drewN nq = w2 at HC2 HK2 ⊢
      have hC2 := HC2.out
      unfold CutN at hC2
      have c0 := hC2.cell 0
      have c1 := hC2.cell 1
      have c2 := hC2.cell 2
      have f1 := hC2.frozen 1
      have f2 := hC2.frozen 2
      have cl := hC2.lt
      simp at c0 c1 c2
      have HCB := Lib.hid (fun n => show CutN ((w2.drewN n).setCell ⟨p, 2, none⟩ (.bool true)) p m b true from (hC2.drewN n).set 2 (.bool true))
      have HCG := Lib.hid (fun n => show CutN ((w2.drewN n).setCell ⟨p, 1, none⟩ (.int .i64 ((b : Int) + 1))) p m (b + 1) bad from (hC2.drewN n).set 1 (.int .i64 ((b : Int) + 1)))
      have HKB := Lib.hid (fun n => (HK2.out.drewN n).setCell (p := ⟨p, 2, none⟩) (fun _ => rfl) (.bool true))
      have HKG := Lib.hid (fun n => (HK2.out.drewN n).setCell (p := ⟨p, 1, none⟩) (fun _ => rfl) (.int .i64 ((b : Int) + 1)))
      clear hC2
      rcases hba : ((b : Int) == (a : Int)) with _ | _
      rotate_left
      · go_quiet (fail)
        go_wp2_with fail
        go_ret
        exact ⟨0, b, true, rfl, HAB.out, HBM.out, by omega, HCB.out _, HKB.out _, fun n r hn hl => by
          have h := HGD.out HEX.out n r hn hl
          have h1 : 0 < (Lib.decDigits n).length := List.length_pos_iff.2 (dec_ne n)
          have h2 : (b : Int) = (a : Int) := by simpa using hba
          omega⟩
      have HAB2 : Hid (a < b) := Lib.hid (by
        have h1 := HAB.out
        have h2 : (b : Int) ≠ (a : Int) := by simpa using hba
        omega)
      have hge : ¬ ((m.size : Int) ≤ (b : Int)) := by omega
      rcases hxe : ((xn : Int) != ei) with _ | _
      rotate_left
      · go_quiet (fail)
        go_wp2_with fail
        go_ret
        exact ⟨0, b, true, rfl, HAB.out, HBM.out, by omega, HCB.out _, HKB.out _, fun n r hn hl => by
          have h := HGD.out HEX.out n r hn hl
          have h1 := HNX.out x HX.out
          rw [h.2.2] at h1
          rw [HXN.out, HEI.out, Option.some.inj h1] at hxe
          simp at hxe⟩
      obtain ⟨x0, hx0⟩ : ∃ x, m.data.toList[a]? = some x := ⟨_, List.getElem?_eq_getElem (by rw [size_list]; have := HAB2.out; have := HBM.out; omega)⟩
      have HX0 := Lib.hid hx0
      have hix0 := ix_at m a x0 hx0
      obtain ⟨xm, hxm⟩ : ∃ xm, xm = x0.toNat := ⟨_, rfl⟩
      rw [← hxm] at hix0
      have HXM := Lib.hid hxm
      have ha0 : (a : Int) < (m.size : Int) := by have := HAB2.out; have := HBM.out; omega
      clear hx0 hxm
      rcases hx48 : ((xm : Int) == 48) with _ | _
      · go_quiet (fail)
        go_wp2_with fail
        go_ret
        exact ⟨nv, b + 1, bad, rfl, by have := HAB.out; omega, by omega, by have := Nat.lt_of_lt_of_le HVL.out (pow8 HB8.out); omega, HCG.out _, HKG.out _, fun n r hn hl => by
          have h := HGD.out HEX.out n r hn hl
          exact ⟨h.2.1, rfl, drop_next hl h.1 HAB.out⟩⟩
      by_cases hk1 : 1 < (kk : Int)
      · go_quiet (fail)
        go_wp2_with fail
        go_ret
        exact ⟨0, b, true, rfl, HAB.out, HBM.out, by omega, HCB.out _, HKB.out _, fun n r hn hl => by
          have h := HGD.out HEX.out n r hn hl
          have h1 : (m.data.toList.drop a)[0]? = some x0 := by rw [List.getElem?_drop, Nat.add_zero]; exact HX0.out
          rw [hl] at h1
          have h2 := HXM.out
          have h3 : (xm : Int) = 48 := by simpa using hx48
          have h4 : x0 = 48 := UInt8.toNat_inj.1 (by rw [← h2]; show xm = 48; omega)
          cases hd : Lib.decDigits n with
          | nil => exact absurd hd (dec_ne n)
          | cons c r' =>
            rw [hd] at h1
            have h5 : c = x0 := by simpa using h1
            have h6 := dec_head n r' (by rw [hd, h5, h4])
            have h7 := h.1
            rw [hd, h6] at h7
            have h8 := HKK.out
            simp at h7
            omega⟩
      exact absurd hk8 (by omega)
    have hnb : nv ≤ 100000000 := Nat.le_trans (Nat.le_of_lt HVL.out) (pow8 HB8.out)
    have hw1 : IntKind.i64.wrap (10 * (nv : Int)) = 10 * (nv : Int) := wrap_id _ (by omega) (by omega)
    have hw2 : IntKind.i64.wrap (10 * (nv : Int) + (xn : Int)) = 10 * (nv : Int) + (xn : Int) := wrap_id _ (by omega) (by omega)
    obtain ⟨nn, hnn⟩ : ∃ nn, nn = 10 * nv + (xn - 48) := ⟨_, rfl⟩
    have hw3 : IntKind.i64.wrap (10 * (nv : Int) + (xn : Int) - 48) = (nn : Int) := by rw [wrap_id _ (by omega) (by omega)]; omega
    have HNN := Lib.hid hnn
    clear hnn hnb
    go_upto_region 3 with fail
    go_quiet (fail)
    go_wp2_with fail
    have HC2 := Lib.hid (show CutN (wr.drewN nq) p m b bad from HC.out.drewN nq)
    have HK2 := Lib.hid (HK.out.drewN nq)
    clear HC HK c0 c1 c2 f1 f2 cl
    generalize wr.drewN nq = w2 at HC2 HK2 ⊢
    have hC2 := HC2.out
    unfold CutN at hC2
    have c0 := hC2.cell 0
    have c1 := hC2.cell 1
    have c2 := hC2.cell 2
    have f1 := hC2.frozen 1
    have f2 := hC2.frozen 2
    have cl := hC2.lt
    simp at c0 c1 c2
    have HCB := Lib.hid (fun n => show CutN ((w2.drewN n).setCell ⟨p, 2, none⟩ (.bool true)) p m b true from (hC2.drewN n).set 2 (.bool true))
    have HCG := Lib.hid (fun n => show CutN ((w2.drewN n).setCell ⟨p, 1, none⟩ (.int .i64 ((b : Int) + 1))) p m (b + 1) bad from (hC2.drewN n).set 1 (.int .i64 ((b : Int) + 1)))
    have HKB := Lib.hid (fun n => (HK2.out.drewN n).setCell (p := ⟨p, 2, none⟩) (fun _ => rfl) (.bool true))
    have HKG := Lib.hid (fun n => (HK2.out.drewN n).setCell (p := ⟨p, 1, none⟩) (fun _ => rfl) (.int .i64 ((b : Int) + 1)))
    clear hC2
    go_quiet (fail)
    go_wp2_with fail
    go_roundw
    case rel =>
      have hl := HNX.out x HX.out
      have ht := take_next hl
      have hba : b + 1 - a = b - a + 1 := by have := HAB.out; omega
      refine ⟨b + 1, by have := HAB.out; omega, by omega, by have := HKK.out; omega, ?_, ?_, HCG.out _, HKG.out _⟩
      · rw [hba, ht, valL_snoc, ← HNV.out, ← HXN.out, ← HNN.out]
      · rw [hba, ht]
        intro c hc
        rcases List.mem_append.1 hc with hc | hc
        · exact HDG.out c hc
        · rw [List.mem_singleton.1 hc]
          unfold DigB
          have := HXN.out
          omega
    case measure =>
      rw [posN_of (HCG.out _), posN_of HC0.out]
      omega
end Go.Proofs.YthgfbaekmhpiaaaGreatDoor
