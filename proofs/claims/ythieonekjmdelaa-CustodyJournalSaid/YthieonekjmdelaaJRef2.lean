/- The contracts of the reference's journal: Append, May, cost. Conditions: it lies in memory. -/
import Derived.Test.YthieonekjmdelaaJRef
namespace Go.Proofs.Ythieonekjmdelaa
open Go.RowKit

set_option maxRecDepth 100000 in
theorem mappend_ok {w : World} {mb B : Nat} {rv : Value} {L : List Value} {safe : Nat} {fl : Bool} {ph : ByteArray} (h : MAt w mb B rv L safe fl ph) (hl : L.length ≤ 1000000) (hB : B ≤ w.heap.size) (s : ByteArray) :
    Calls Try.prog 23 #[.pointer (some ⟨mb, 0, none⟩), .string s, .int .i64 0] w fun e w' => (∃ v, e = .returned v) ∧ (∃ rv', MAt w' mb B rv' (L ++ [.string s]) safe fl ph ∧ newB w rv rv') ∧ Keeps (fun i => i = mb ∨ rv.ownBlock = some i) w w' := by
  obtain ⟨A, c, rfl⟩ := h.form
  have c0 := h.blk.cell 0
  have c2 := h.blk.cell 2
  have f0 := h.blk.frozen 0
  have zl := h.blk.lt
  simp at c0 c2
  obtain ⟨A2, c2', w4, hrun, hO4, hK4, hv4⟩ := append_text h.own (by omega) hB s
  have hb4 := h.blk.keep hK4 h.ne
  have e0 := hb4.cell 0
  have e2 := hb4.cell 2
  have g0 := hb4.frozen 0
  have zl4 := hb4.lt
  simp at e0 e2
  have hne : (Value.slice A2 (L.length + 1) c2').ownBlock ≠ some mb := fun e => by
    rcases hv4 with hv | hv
    · exact h.ne (hv.trans e)
    · have := hv mb e; omega
  have hKs := (Keeps.refl (fun i => i = mb) w4).setCell (p := ⟨mb, 0, none⟩) (fun _ => rfl) (.slice A2 (L.length + 1) c2')
  have HF : Hid ((∃ rv', MAt (w4.setCell ⟨mb, 0, none⟩ (.slice A2 (L.length + 1) c2')) mb B rv' (L ++ [.string s]) safe fl ph ∧ newB w (.slice A L.length c) rv') ∧ Keeps (fun i => i = mb ∨ (Value.slice A L.length c).ownBlock = some i) w (w4.setCell ⟨mb, 0, none⟩ (.slice A2 (L.length + 1) c2'))) := Lib.hid
    ⟨⟨_, ⟨hb4.set 0 (.slice A2 (L.length + 1) c2'), hO4.keep hKs (fun i e e2 => hne (by rw [← e2]; exact e)), ⟨A2, c2', by rw [List.length_append]; rfl⟩, hne⟩, hv4.imp Eq.symm id⟩, (hK4.mono (fun _ _ e => .inr e)).trans hKs (fun _ _ e => .inl e)⟩
  have e2d := e2
  clear h hO4 hK4 hv4 hb4 hne hKs
  have hc2 : (w4.setCell ⟨mb, 0, none⟩ (.slice A2 (L.length + 1) c2')).cell? ⟨mb, 2, none⟩ = some (.bool fl) := by
    rw [World.cell?_setCell_other _ _ _ _ (fun e => by have := (Addr.mk.inj e).2.1; omega)]
    exact e2
  go_enter Try.func23, Try.ntmps23
  go_wp2_with (first | (at_builtin; refine Lib.wpList_append_run _ rfl _ _ _ _ rfl _ _ rfl rfl _ _ hrun ?_))
  go_end0
  exact ⟨⟨_, rfl⟩, HF.out.1, HF.out.2⟩
set_option maxRecDepth 100000 in
theorem mappend_down {w : World} {mb B : Nat} {rv : Value} {L : List Value} {safe : Nat} {fl : Bool} {ph : ByteArray} (h : MAt w mb B rv L safe fl ph) (s : ByteArray) :
    Calls Try.prog 23 #[.pointer (some ⟨mb, 0, none⟩), .string s, .int .i64 70] w fun e w' => (∃ v, e = .returned v) ∧ MAt w' mb B rv L safe true (if fl = true then ph else s) ∧ Keeps (fun i => i = mb) w w' := by
  have c2 := h.blk.cell 2
  have c3 := h.blk.cell 3
  have f2 := h.blk.frozen 2
  have f3 := h.blk.frozen 3
  have zl := h.blk.lt
  simp at c2 c3
  cases fl
  · have hKs := ((Keeps.refl (fun i => i = mb) w).setCell (p := ⟨mb, 2, none⟩) (fun _ => rfl) (.bool true)).setCell (p := ⟨mb, 3, none⟩) (fun _ => rfl) (.string s)
    have HF : Hid (MAt ((w.setCell ⟨mb, 2, none⟩ (.bool true)).setCell ⟨mb, 3, none⟩ (.string s)) mb B rv L safe true s ∧ Keeps (fun i => i = mb) w ((w.setCell ⟨mb, 2, none⟩ (.bool true)).setCell ⟨mb, 3, none⟩ (.string s))) := Lib.hid
      ⟨⟨(h.blk.set 2 (.bool true)).set 3 (.string s), h.own.keep hKs (fun i e e2 => h.ne (by rw [← e2]; exact e)), h.form, h.ne⟩, hKs⟩
    clear h hKs
    go_enter Try.func23, Try.ntmps23
    go_wp2_with fail
    go_end0
    exact ⟨⟨_, rfl⟩, HF.out.1, HF.out.2⟩
  · have HF := Lib.hid h
    clear h
    go_enter Try.func23, Try.ntmps23
    go_wp2_with fail
    go_end0
    exact ⟨⟨_, rfl⟩, HF.out, Keeps.refl _ _⟩
theorem ownT_room {w : World} {B n c : Nat} {A : Option Addr} {L : List Value} (h : OwnT w B (.slice A n c) L) (hn : n = L.length) : n ≤ c := by
  rcases h.2 with ⟨h1, _⟩ | ⟨g, cap, cur, h1, _, _, hr, _⟩
  · simp only [Value.slice.injEq] at h1
    omega
  · simp only [Value.slice.injEq] at h1
    omega
theorem same_vals (L : List Value) (n : Nat) (hn : L.length = n) (hL : AllText L) (hl : n ≤ 1000000000) (A1 A2 : Option Addr) (c1 c2 : Nat) (W : World) (h1 : TextsAt W A1 L) (h2 : TextsAt W A2 L) :
    Calls Try.prog 19 #[.slice A1 n c1, .slice A2 n c2] W fun e w' => e = .returned (.bool true) ∧ ∃ m, w' = W.drewN m := by
  have := sameTexts_eq A1 A2 c1 c2 L hL (by omega) W h1 h2
  rw [hn] at this
  exact this
set_option maxRecDepth 100000 in
theorem may_same {w : World} {mb B : Nat} {rv : Value} {L : List Value} {safe : Nat} {fl : Bool} {ph : ByteArray} (h : MAt w mb B rv L safe fl ph) (hL : AllText L) (hl : L.length ≤ 1000000) (A : Option Addr) (c : Nat) (hA : TextsAt w A L) :
    Calls Try.prog 21 #[.pointer (some ⟨mb, 0, none⟩), .slice A L.length c, .bool false] w fun e w' => e = .returned (.bool true) ∧ ∃ m, w' = w.drewN m := by
  obtain ⟨A2, c2, rfl⟩ := h.form
  have c0 := h.blk.cell 0
  have zl := h.blk.lt
  simp at c0
  have HS := Lib.hid (same_vals L L.length rfl hL (by omega) A A2 c c2 w hA h.own.texts)
  clear h hA
  go_enter Try.func21, Try.ntmps21
  go_wp2_with fail
  refine HS.out.mono ?_
  rintro e w1 ⟨rfl, n, rfl⟩
  go_wp2_with fail
  go_ret
  exact ⟨rfl, n, rfl⟩
set_option maxRecDepth 100000 in
set_option maxHeartbeats 1000000 in
theorem may_crash0 {w : World} {mb B : Nat} {rv : Value} {L : List Value} {safe : Nat} {fl : Bool} {ph : ByteArray} (h : MAt w mb B rv L safe fl ph) (hL : AllText L) (hl : L.length ≤ 1000000) (hs : safe ≤ L.length) (A : Option Addr) (c : Nat) (hc : L.length ≤ c) (hA : TextsAt w A L) :
    Calls Try.prog 21 #[.pointer (some ⟨mb, 0, none⟩), .slice A L.length c, .bool true] w fun e w' => e = .returned (.bool true) ∧ ∃ m, w' = w.drewN m := by
  obtain ⟨A2, c2, rfl⟩ := h.form
  have c0 := h.blk.cell 0
  have c1 := h.blk.cell 1
  have zl := h.blk.lt
  simp at c0 c1
  have hroom := ownT_room h.own rfl
  have HS : Hid (∀ m, Calls Try.prog 19 #[.slice A L.length c, .slice A2 L.length c2] (w.drewN m) fun e w' => e = .returned (.bool true) ∧ ∃ j, w' = (w.drewN m).drewN j) := Lib.hid (fun m => same_vals L L.length rfl hL (by omega) A A2 c c2 (w.drewN m) (hA.drewN m) (h.own.texts.drewN m))
  generalize L.length = n at *
  have g1 : ¬ (n : Int) < (safe : Int) := by omega
  have g2 : ¬ (n : Int) + 1 < (n : Int) := by omega
  have g3 : ¬ (n : Int) = (n : Int) + 1 := by omega
  have d1 : decide ((n : Int) < (safe : Int)) = false := decide_eq_false g1
  have d2 : decide ((n : Int) + 1 < (n : Int)) = false := decide_eq_false g2
  have d3 : ((n : Int) == (n : Int) + 1) = false := by simpa using g3
  have i1 : (n : Int) ≤ (c : Int) := by omega
  have i2 : (n : Int) ≤ (c2 : Int) := by omega
  clear h hA
  go_enter Try.func21, Try.ntmps21
  go_upto_region 3 with fail
  go_quiet (fail)
  have HS2 : Hid (∀ m, Calls Try.prog 19 #[.slice A n c, .slice A2 n c2] ((w.drewN nq).drewN m) fun e w' => e = .returned (.bool true) ∧ ∃ j, w' = ((w.drewN nq).drewN m).drewN j) := Lib.hid (fun m => by rw [World.drewN_drewN]; exact HS.out (nq + m))
  have c0' : (w.drewN nq).cell? ⟨mb, 0, none⟩ = some (.slice A2 n c2) := c0
  have zl' : mb < (w.drewN nq).heap.size := zl
  have HW : Hid (∀ j, ∃ m, (w.drewN nq).drewN j = w.drewN m) := Lib.hid (fun j => ⟨nq + j, World.drewN_drewN ..⟩)
  generalize w.drewN nq = w2 at HS2 c0' zl' HW ⊢
  clear c0 c1 zl
  go_upto_region 6 with fail
  go_quiet ((go_at_call 19; exact Calls.quiet_of (HS2.out _)))
  have HW2 := Lib.hid (HW.out nq)
  go_wp2_with fail
  go_ret
  exact ⟨rfl, HW2.out⟩
set_option maxRecDepth 100000 in
set_option maxHeartbeats 1000000 in
theorem may_crash1 {w : World} {mb B : Nat} {rv : Value} {L : List Value} {safe : Nat} {ph : ByteArray} (h : MAt w mb B rv L safe true ph) (hL : AllText L) (hl : L.length ≤ 1000000) (hs : safe ≤ L.length) (A : Option Addr) (c : Nat) (hc : L.length + 1 ≤ c) (hA : TextsAt w A (L ++ [.string ph])) :
    Calls Try.prog 21 #[.pointer (some ⟨mb, 0, none⟩), .slice A (L.length + 1) c, .bool true] w fun e w' => e = .returned (.bool true) ∧ ∃ m, w' = w.drewN m := by
  obtain ⟨A2, c2, rfl⟩ := h.form
  have c0 := h.blk.cell 0
  have c1 := h.blk.cell 1
  have cf := h.blk.cell 2
  have cp := h.blk.cell 3
  have zl := h.blk.lt
  simp at c0 c1 cf cp
  have hroom := ownT_room h.own rfl
  obtain ⟨g, o, rfl, zg, cg⟩ := hA L.length (.string ph) (by rw [List.getElem?_append_right (Nat.le_refl _), Nat.sub_self]; rfl)
  have hAL : TextsAt w (some ⟨g, o, none⟩) L := fun k x hx => hA k x (by rw [List.getElem?_append_left (List.getElem?_eq_some_iff.1 hx).1]; exact hx)
  have HS : Hid (∀ m, Calls Try.prog 19 #[.slice (some ⟨g, o, none⟩) L.length c, .slice A2 L.length c2] (w.drewN m) fun e w' => e = .returned (.bool true) ∧ ∃ j, w' = (w.drewN m).drewN j) := Lib.hid (fun m => same_vals L L.length rfl hL (by omega) _ A2 c c2 (w.drewN m) (hAL.drewN m) (h.own.texts.drewN m))
  generalize L.length = n at *
  have g1 : ¬ (n : Int) + 1 < (safe : Int) := by omega
  have g2 : ¬ (n : Int) + 1 < (n : Int) + 1 := by omega
  have d1 : decide ((n : Int) + 1 < (safe : Int)) = false := decide_eq_false g1
  have d2 : decide ((n : Int) + 1 < (n : Int) + 1) = false := decide_eq_false g2
  have i0 : min ((n : Int) + 1) (n : Int) = (n : Int) := by omega
  have i1 : (n : Int) ≤ (c : Int) := by omega
  have i2 : (n : Int) ≤ (c2 : Int) := by omega
  have i3 : (n : Int) + 1 - 1 = (n : Int) := by omega
  have i4 : (n : Int) < (n : Int) + 1 := by omega
  have i5 : n < n + 1 := by omega
  clear h hA hAL
  go_enter Try.func21, Try.ntmps21
  go_upto_region 3 with fail
  go_quiet (fail)
  have HS2 : Hid (∀ m, Calls Try.prog 19 #[.slice (some ⟨g, o, none⟩) n c, .slice A2 n c2] ((w.drewN nq).drewN m) fun e w' => e = .returned (.bool true) ∧ ∃ j, w' = ((w.drewN nq).drewN m).drewN j) := Lib.hid (fun m => by rw [World.drewN_drewN]; exact HS.out (nq + m))
  have c0' : (w.drewN nq).cell? ⟨mb, 0, none⟩ = some (.slice A2 n c2) := c0
  have zl' : mb < (w.drewN nq).heap.size := zl
  have HW : Hid (∀ j, ∃ m, (w.drewN nq).drewN j = w.drewN m) := Lib.hid (fun j => ⟨nq + j, World.drewN_drewN ..⟩)
  generalize w.drewN nq = w2 at HS2 c0' zl' HW ⊢
  clear c0 c1 zl cf cp zg cg
  go_upto_region 6 with fail
  go_quiet ((go_at_call 19; exact Calls.quiet_of (HS2.out _)))
  have HW2 := Lib.hid (HW.out nq)
  go_wp2_with fail
  go_ret
  exact ⟨rfl, HW2.out⟩
/-- The cost of records, as the law counts it. -/
def costR (R : List (List Int)) : Nat := (R.map fun r => 1 + r.length / 32).sum
theorem costR_snoc (R : List (List Int)) (r : List Int) : costR (R ++ [r]) = costR R + (1 + r.length / 32) := by unfold costR; simp
theorem costR_take {R : List (List Int)} {k : Nat} {r : List Int} (h : R[k]? = some r) : costR (R.take (k + 1)) = costR (R.take k) + (1 + r.length / 32) := by
  rw [List.take_add_one, h]
  exact costR_snoc _ r
theorem costR_le {R : List (List Int)} (h : ∀ r ∈ R, r.length ≤ 60000) : costR R ≤ 1876 * R.length := by
  unfold costR
  induction R with
  | nil => simp
  | cons r R ih =>
    have := h r (List.mem_cons_self ..)
    have := ih (fun x hx => h x (List.mem_cons_of_mem _ hx))
    simp only [List.map_cons, List.sum_cons, List.length_cons]
    omega
set_option maxRecDepth 100000 in
theorem mcost_any {w : World} {mb B : Nat} {rv : Value} {R : List (List Int)} {safe : Nat} {fl : Bool} {ph : ByteArray} (h : MAt w mb B rv (R.map sJ) safe fl ph) (hl : R.length ≤ 100000) (hR : ∀ r ∈ R, r.length ≤ 60000) :
    Calls Try.prog 11 #[.pointer (some ⟨mb, 0, none⟩)] w fun e w' => e = .returned (.int .i64 (costR R : Int)) ∧ w' = w := by
  obtain ⟨A2, c2, rfl⟩ := h.form
  have c0 := h.blk.cell 0
  have zl := h.blk.lt
  simp at c0
  have HT := Lib.hid h.own.texts
  clear h
  go_enter Try.func11, Try.ntmps11
  go_wp2_with fail
  go_loopw [3, 4] (fun n i wr => ∃ k : Nat, k ≤ R.length ∧ i = .int .i64 k ∧ n = .int .i64 (costR (R.take k)) ∧ w = wr) (fun _ i _ => R.length - (intOf i).toNat)
  case atStart => exact ⟨0, Nat.zero_le _, rfl, rfl, rfl⟩
  case round =>
    obtain ⟨k, hk, rfl, rfl, rfl⟩ := hrel
    have hcl := costR_le (R := R.take k) (fun r hr => hR r (List.mem_of_mem_take hr))
    have htl : (R.take k).length ≤ k := List.length_take_le _ _
    have hcl2 : costR (R.take k) ≤ 1876 * 100000 := by omega
    by_cases hlt : k < R.length
    · have hki : (k : Int) < (R.length : Int) := by omega
      obtain ⟨r, hr⟩ : ∃ r, R[k]? = some r := ⟨_, List.getElem?_eq_getElem hlt⟩
      have hrl := hR r (List.mem_of_getElem? hr)
      obtain ⟨g, o, rfl, zg, cg⟩ := HT.out k (.string (strOfNums r)) (by rw [List.getElem?_map, hr]; rfl)
      have hsr : (strOfNums r).size = r.length := strOfNums_size r
      have HC := Lib.hid (cost_any r.length (by omega) w)
      have HK : Hid ((costR (R.take k) : Int) + (1 + r.length / 32 : Nat) = (costR (R.take (k + 1)) : Int)) := Lib.hid (by rw [costR_take hr]; omega)
      generalize hct : costR (R.take k) = ct at *
      generalize hrc : 1 + r.length / 32 = rc at *
      have hrc2 : rc ≤ 1876 := by omega
      clear hct hrc hr hcl htl
      go_wp2_with fail
      refine HC.out.mono ?_
      rintro e w1 ⟨rfl, rfl⟩
      go_wp2_with fail
      go_roundw
      case rel => exact ⟨k + 1, by omega, by go_num, by rw [← HK.out], by trivial⟩
      case measure => simp [intOf]; omega
    · have hki : ¬ (k : Int) < (R.length : Int) := by omega
      obtain rfl : k = R.length := by omega
      have HTK : Hid (R.take R.length = R) := Lib.hid List.take_length
      rw [HTK.out]
      clear hcl htl
      rw [HTK.out] at hcl2
      obtain ⟨ct, hct⟩ : ∃ ct, ct = costR R := ⟨_, rfl⟩
      have HCT := Lib.hid hct
      rw [← hct] at hcl2 ⊢
      clear hct
      go_wp2_with fail
      go_ret
      exact ⟨by rw [← HCT.out]; rfl, rfl⟩
end Go.Proofs.Ythieonekjmdelaa
