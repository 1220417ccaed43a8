/- What the reference's Read makes of a line, and that it is what Read makes of it. No conditions. Contracts of the reference's word, number, counts and kind: what is cut off a line, and what it says. Condition: the text's length is a Go length. -/
import Derived.Test.YthbgmhhbkojcmaaGreatDoorRoundA
namespace Go.Proofs.YthbgmhhbkojcmaaGreatDoor
open Go.RowKit Go.Shelf

/-- The number that digits say behind a number. -/
def digN : List UInt8 → Int → Int
  | [], n => n
  | c :: r, n => if c.toNat < 48 ∨ 57 < c.toNat then -1 else digN r (n * 10 + ((c.toNat : Int) - 48))
/-- The number that one to seven digits say. -/
def refNumB (s : ByteArray) : Int := if s.data.toList.length < 1 ∨ 7 < s.data.toList.length then -1 else digN s.data.toList 0
theorem digN_append : ∀ (l r : List UInt8) (n : Int), (∀ b ∈ l, 48 ≤ b.toNat ∧ b.toNat ≤ 57) → digN (l ++ r) n = digN r (digN l n)
  | [], _, _, _ => rfl
  | c :: l, r, n, h => by
    have hc := h c (List.mem_cons_self ..)
    simp only [List.cons_append, digN]
    rw [if_neg (by omega), if_neg (by omega)]
    exact digN_append l r _ (fun b hb => h b (List.mem_cons_of_mem _ hb))
theorem digN_dec (u : Nat) : digN (Lib.decDigits u) 0 = u := by
  induction u using Nat.strongRecOn with
  | ind u ih =>
    rw [Lib.decDigits]
    split
    · rename_i h
      have := ofNat_digit h
      simp only [digN]
      rw [if_neg (by omega), this]
      omega
    · have hd : u % 10 < 10 := Nat.mod_lt _ (by omega)
      have := ofNat_digit hd
      rw [digN_append _ _ _ (dec_digit _), ih (u / 10) (by omega)]
      simp only [digN]
      rw [if_neg (by omega), this]
      omega
theorem dec_len7 : ∀ (k u : Nat), u < 10 ^ (k + 1) → (Lib.decDigits u).length ≤ k + 1
  | 0, u, h => by
    rw [Lib.decDigits, dif_pos (by simpa using h)]
    simp
  | k + 1, u, h => by
    rw [Lib.decDigits]
    split
    · simp
    · have h1 : u / 10 < 10 ^ (k + 1) := by
        rw [Nat.pow_succ] at h
        omega
      have := dec_len7 k (u / 10) h1
      simp
      omega
theorem refNum_dec {n : Int} (h0 : 0 ≤ n) (h1 : n ≤ 1000000) : refNumB (decB n) = n := by
  have hl := dec_len7 6 n.toNat (by omega)
  have hne := dec_ne n.toNat
  have hd := digN_dec n.toNat
  unfold refNumB decB
  rw [show (⟨(Lib.decDigits n.toNat).toArray⟩ : ByteArray).data.toList = Lib.decDigits n.toNat by simp]
  have : 1 ≤ (Lib.decDigits n.toNat).length := List.length_pos_iff.2 hne
  rw [if_neg (by omega), hd]
  omega

/-- The numbers of a text behind k words. -/
def refNumsOf (t : ByteArray) : List Nat → Nat → List (Nat × Int)
  | [], _ => []
  | o :: os, k => (o, refNumB (cutA (textAt t k))) :: refNumsOf t os (k + 1)
theorem refNums_lineW (ws : List ByteArray) (g : Nat → Int) (hg : ∀ o, 0 ≤ g o ∧ g o ≤ 1000000) : ∀ (os : List Nat) (k : Nat), (∀ w ∈ ws.take (k + os.length), plainW w) → (∀ j o, os[j]? = some o → ws[k + j]? = some (decB (g o))) → refNumsOf (lineW ws) os k = os.map fun o => (o, g o)
  | [], _, _, _ => rfl
  | o :: os, k, h, hw => by
    have h0 := hw 0 o rfl
    rw [Nat.add_zero] at h0
    have h1 := word_lineW k ws _ (fun w hm => h w (by
      rw [List.length_cons, show k + (os.length + 1) = (k + 1) + os.length by omega]
      exact List.mem_of_mem_take (i := k + 1) (by rwa [List.take_take, Nat.min_eq_left (by omega)]))) h0
    simp only [refNumsOf, List.map_cons]
    rw [h1, refNum_dec (hg o).1 (hg o).2, refNums_lineW ws g hg os (k + 1) (fun w hm => h w (by
      rw [List.length_cons, show k + (os.length + 1) = (k + 1) + os.length by omega]
      exact hm)) (fun j o' hj => by
      have := hw (j + 1) o' (by simpa using hj)
      rwa [show k + (j + 1) = k + 1 + j by omega] at this)]
/-- The kind that a word names; 0 if it names none. -/
def kindR (s : ByteArray) : Int := ((kindOfW s).getD 0 : Nat)
/-- The entry that the text behind a kind's word says to the reference, without its day. -/
def refEntOf (t : ByteArray) (kd : Int) : Ent :=
  ⟨0, kd, numAt (refNumsOf t (offs kd) 0) 2, numAt (refNumsOf t (offs kd) 0) 3, numAt (refNumsOf t (offs kd) 0) 4, numAt (refNumsOf t (offs kd) 0) 5, numAt (refNumsOf t (offs kd) 0) 6, numAt (refNumsOf t (offs kd) 0) 7, numAt (refNumsOf t (offs kd) 0) 8, if kd = 1 then textAt t 3 else ⟨#[]⟩⟩
/-- The entry that a line says to the reference. -/
def refSays (s : ByteArray) : Ent := { refEntOf (cutZ (cutZ s)) (kindR (cutA (cutZ s))) with day := refNumB (cutA s) }

theorem ref_rest_says {x : Ent} (h : ckE x = 0) : refNumsOf (lineW (restW x)) (offs x.kind) 0 = (offs x.kind).map (fun o => (o, fieldOf x o)) := by
  obtain ⟨h3, h4⟩ := nums_ok x (whole_of_ck h).1
  have ht : (restW x).take (offs x.kind).length = (offs x.kind).map (fun o => decB (fieldOf x o)) := by
    unfold restW
    rw [List.take_append_of_le_length (by simp)]
    exact List.take_of_length_le (by simp)
  have hp : ∀ w ∈ (restW x).take (offs x.kind).length, plainW w := fun w hw => by
    rw [ht] at hw
    obtain ⟨o, _, rfl⟩ := List.mem_map.1 hw
    exact dec_blank _
  have := refNums_lineW (restW x) (fun o => if o ∈ offs x.kind then fieldOf x o else 0) (fun o => by
      split
      · rename_i ho
        exact h4 o ho
      · omega) (offs x.kind) 0 (by rw [Nat.zero_add]; exact hp) (fun j o hj => by
        rw [Nat.zero_add]
        have hjl := (List.getElem?_eq_some_iff.1 hj).1
        rw [if_pos (List.mem_of_getElem? hj)]
        unfold restW
        rw [List.getElem?_append_left (by simpa using hjl), List.getElem?_map, hj]
        rfl)
  rw [this]
  exact List.map_congr_left fun o ho => by rw [if_pos ho]
theorem ref_ent_back {x : Ent} (h : ckE x = 0) : { refEntOf (lineW (restW x)) x.kind with day := x.day } = x := by
  have h1 := ref_rest_says h
  have h2 := (rest_says h).2
  have hw : onlyW x = x := by
    have h3 := (whole_of_ck h).1
    unfold okE at h3
    simp only [Bool.and_eq_true, decide_eq_true_eq] at h3
    exact h3.2
  have hk := kinds_of_ck h
  replace hw := hw.symm
  unfold refEntOf
  rw [h1]
  simp only [numAt_map]
  clear h1 h
  obtain ⟨day, kind, since, untl, person, place, other, at', order, name⟩ := x
  dsimp only at hk hw h2 ⊢
  unfold onlyW onlyOr at hw
  rcases hk with rfl | rfl | rfl | rfl | rfl | rfl | rfl
  all_goals
    simp at hw
    simp [offs, fieldOf, entCells, hw]
  exact h2
theorem refSays_back {x : Ent} (h : ckE x = 0) : refSays (lineB x) = x := by
  obtain ⟨hk1, hk2, hk3⟩ := kind_word h
  obtain ⟨h3, _⟩ := nums_ok x (whole_of_ck h).1
  obtain ⟨c1, c2⟩ := cut_lineW (decB x.day) (wordB x.kind :: restW x) (dec_blank _)
  obtain ⟨c3, c4⟩ := cut_lineW (wordB x.kind) (restW x) hk2
  unfold refSays kindR
  rw [line_words, c2, c3, c4, c1, hk1, refNum_dec h3.1 (by omega)]
  show { refEntOf (lineW (restW x)) ((x.kind.toNat : Nat) : Int) with day := x.day } = x
  rw [hk3]
  exact ref_ent_back h
/-- What Read makes of a line is a valid entry, and the line is its own. -/
theorem readE_of {s : ByteArray} {x : Ent} (h : readE s = some x) : ckE x = 0 ∧ lineB x = s := by
  unfold readE at h
  split at h
  · cases h
  · split at h
    · rename_i h1
      obtain rfl := Option.some.inj h
      exact h1
    · cases h
/-- The reference makes of a line what Read makes of it. -/
theorem ref_reads (s : ByteArray) : (if ckE (refSays s) = 0 ∧ lineB (refSays s) = s then some (refSays s) else none) = readE s := by
  split
  · rename_i h
    have := read_back h.1
    rw [h.2] at this
    exact this.symm
  · rename_i h
    cases hr : readE s with
    | none => rfl
    | some x =>
      obtain ⟨h1, h2⟩ := readE_of hr
      have h3 := refSays_back h1
      rw [h2] at h3
      exact absurd (by rw [h3]; exact ⟨h1, h2⟩) h
end Go.Proofs.YthbgmhhbkojcmaaGreatDoor
namespace Go.Proofs.YthbgmhhbkojcmaaGreatDoor
open Go.RowKit Go.Shelf

theorem getE (s : ByteArray) (k : Nat) (_hk : k < s.size) (hk' : k < s.data.toList.length) : s.data.toList[k] = s[k] := rfl
theorem word_hit (s : ByteArray) (k : Nat) (hk : k < s.size) (h : (32 : UInt8) ∉ s.data.toList.take k) (hc : s[k] = 32) : cutA s = s.extract 0 k ∧ cutZ s = s.extract (k + 1) s.size := by
  have hl : s.data.toList.length = s.size := by simp
  have hs : s.data.toList = s.data.toList.take k ++ 32 :: s.data.toList.drop (k + 1) := by
    conv => lhs; rw [← List.take_append_drop k s.data.toList]
    congr 1
    rw [List.drop_eq_getElem_cons (by omega), getE s k hk (by omega), hc]
  have hcut := cut_at _ (s.data.toList.drop (k + 1)) h
  rw [← hs] at hcut
  unfold cutA cutZ
  rw [hcut]
  constructor <;> apply ByteArray.ext <;> apply Array.toList_inj.1 <;> simp [ByteArray.data_extract, List.take_of_length_le]
theorem word_miss (s : ByteArray) (h : (32 : UInt8) ∉ s.data.toList) : cutA s = s ∧ cutZ s = ⟨#[]⟩ := by
  unfold cutA cutZ
  rw [cut_no _ h]
  constructor
  · apply ByteArray.ext; apply Array.toList_inj.1; simp
  · rfl

set_option maxHeartbeats 400000 in
theorem refWord_any (s : ByteArray) (hs : s.size ≤ maxLen) (w : World) :
    Calls Tryz.prog 28 #[.string s] w fun e w' => e = .returned (.tuple #[.string (cutA s), .string (cutZ s)]) ∧ Below w.heap.size w w' := by
  unfold maxLen at hs
  go_enter Tryz.func28, Tryz.ntmps28
  go_wp2
  go_loopw [4] (fun i wr => ∃ k : Nat, k ≤ s.size ∧ i = .int .i64 k ∧ wr = w ∧ Hid ((32 : UInt8) ∉ s.data.toList.take k)) (fun i _ => s.size - (intOf i).toNat)
  case atStart => exact ⟨0, Nat.zero_le _, rfl, rfl, Lib.hid (by simp)⟩
  case round =>
    obtain ⟨k, hk, rfl, rfl, H⟩ := hrel
    by_cases hlt : k < s.size
    · by_cases hc : s[k] = 32
      · obtain ⟨h1, h2⟩ := word_hit s k hlt H.out hc
        have HA := Lib.hid h1
        have HZ := Lib.hid h2
        have hc' : (s[k].toNat : Int) = 32 := by rw [hc]; rfl
        have c1 : (0 : Int) ≤ ↑k := by omega
        have c2 : (↑k : Int) ≤ ↑s.size := by omega
        have c3 : (0 : Int) ≤ ↑k + 1 := by omega
        have c4 : (↑k + 1 : Int) ≤ ↑s.size := by omega
        clear h1 h2 hc H
        go_wp2_with fail
        go_quiet (fail)
        all_goals go_wp2_with fail
        all_goals go_ret2
        all_goals exact ⟨by rw [HA.out, HZ.out]; rfl, below_drN (Below.refl _ _) _⟩
      · have hc' : ¬ (s[k].toNat : Int) = 32 := fun h => hc (UInt8.toNat_inj.1 (by have h9 : (32 : UInt8).toNat = 32 := rfl; omega))
        have HN : Hid ((32 : UInt8) ∉ s.data.toList.take (k + 1)) := Lib.hid (by
          have hl : s.data.toList.length = s.size := by simp
          rw [List.take_add_one, List.getElem?_eq_getElem (by omega), getE s k hlt (by omega)]
          intro hm
          rcases List.mem_append.1 hm with hm | hm
          · exact H.out hm
          · simp at hm
            exact hc hm.symm)
        clear hc H
        go_wp2_with fail
        go_roundw
        case rel => exact ⟨k + 1, by omega, by go_num, by first | rfl | trivial, HN⟩
        case measure => simp [intOf]; omega
    · have hN := H.out
      rw [List.take_of_length_le (by simp; omega)] at hN
      obtain ⟨h1, h2⟩ := word_miss s hN
      have HA := Lib.hid h1
      have HZ := Lib.hid h2
      clear h1 h2 hN H
      go_wp2_with fail
      go_ret2
      exact ⟨by rw [HA.out, HZ.out]; rfl, Below.refl _ _⟩

theorem digN_drop (s : ByteArray) (k : Nat) (hk : k < s.size) (n : Int) : digN (s.data.toList.drop k) n = if s[k].toNat < 48 ∨ 57 < s[k].toNat then -1 else digN (s.data.toList.drop (k + 1)) (n * 10 + ((s[k].toNat : Int) - 48)) := by
  have hl : s.data.toList.length = s.size := by simp
  rw [List.drop_eq_getElem_cons (by omega), getE s k hk (by omega)]
  rfl

set_option maxHeartbeats 800000 in
theorem refNumber_any (s : ByteArray) (w : World) :
    Calls Tryz.prog 30 #[.string s] w fun e w' => e = .returned (.int .i64 (refNumB s)) ∧ w = w' := by
  have hl : s.data.toList.length = s.size := by simp
  by_cases hz : s.size < 1 ∨ 7 < s.size
  · have HR : Hid (refNumB s = -1) := Lib.hid (by unfold refNumB; rw [hl, if_pos hz])
    rcases hz with h0 | h7
    · have h0' : (s.size : Int) < 1 := by omega
      clear hl
      go_enter Tryz.func30, Tryz.ntmps30
      go_wp2_with fail
      all_goals go_ret
      all_goals exact ⟨ret_int HR.out.symm, rfl⟩
    · have h0' : ¬ (s.size : Int) < 1 := by omega
      have h7' : (7 : Int) < (s.size : Int) := by omega
      clear hl
      go_enter Tryz.func30, Tryz.ntmps30
      go_wp2_with fail
      all_goals go_ret
      all_goals exact ⟨ret_int HR.out.symm, rfl⟩
  · have HR : Hid (refNumB s = digN s.data.toList 0) := Lib.hid (by unfold refNumB; rw [hl, if_neg hz])
    have h0' : ¬ (s.size : Int) < 1 := by omega
    have h7' : ¬ (7 : Int) < (s.size : Int) := by omega
    have h7 : s.size ≤ 7 := by omega
    clear hl hz
    go_enter Tryz.func30, Tryz.ntmps30
    go_wp2_with fail
    go_loopw [3, 4] (fun n i wr => ∃ (k : Nat) (m : Int), k ≤ s.size ∧ i = .int .i64 k ∧ n = .int .i64 m ∧ 0 ≤ m ∧ m < 10 ^ k ∧ wr = w ∧ Hid (refNumB s = digN (s.data.toList.drop k) m)) (fun _ i _ => s.size - (intOf i).toNat)
    case atStart => exact ⟨0, 0, Nat.zero_le _, rfl, rfl, by omega, by simp, rfl, HR⟩
    case round =>
      clear HR
      obtain ⟨k, m, hk, rfl, rfl, hm0, hm1, rfl, H⟩ := hrel
      by_cases hlt : k < s.size
      · have hmm : m < 1000000 := by
          have : (10 : Int) ^ k ≤ 10 ^ 6 := by
            have h6 : k ≤ 6 := by omega
            exact_mod_cast Nat.pow_le_pow_right (by omega) h6
          omega
        have hd := digN_drop s k hlt m
        by_cases hlo : s[k].toNat < 48
        · have HN : Hid (refNumB s = -1) := Lib.hid (by rw [H.out, hd, if_pos (.inl hlo)])
          have hlo' : (s[k].toNat : Int) < 48 := by omega
          clear hd H hlo
          go_wp2_with fail
          all_goals go_ret
          all_goals exact ⟨by rw [HN.out]; rfl, rfl⟩
        · by_cases hhi : 57 < s[k].toNat
          · have HN : Hid (refNumB s = -1) := Lib.hid (by rw [H.out, hd, if_pos (.inr hhi)])
            have hlo' : ¬ (s[k].toNat : Int) < 48 := by omega
            have hhi' : (57 : Int) < (s[k].toNat : Int) := by omega
            clear hd H hlo hhi
            go_wp2_with fail
            all_goals go_ret
            all_goals exact ⟨by rw [HN.out]; rfl, rfl⟩
          · have HN : Hid (refNumB s = digN (s.data.toList.drop (k + 1)) (m * 10 + ((s[k].toNat : Int) - 48))) := Lib.hid (by rw [H.out, hd, if_neg (by omega)])
            have hlo' : ¬ (s[k].toNat : Int) < 48 := by omega
            have hhi' : ¬ (57 : Int) < (s[k].toNat : Int) := by omega
            clear hd H hlo hhi
            go_wp2_with fail
            go_roundw
            case rel => exact ⟨k + 1, m * 10 + ((s[k].toNat : Int) - 48), by omega, by go_num, by go_num, by omega, by rw [Int.pow_succ]; omega, by first | rfl | trivial, HN⟩
            case measure => simp [intOf]; omega
      · have HN : Hid (refNumB s = m) := Lib.hid (by rw [H.out, List.drop_of_length_le (by simp; omega)]; rfl)
        clear H
        go_wp2_with fail
        go_ret
        exact ⟨by rw [HN.out]; rfl, rfl⟩

def countsN (k : Int) : Int := if k = 1 then 3 else if k = 5 then 7 else if k = 7 then 5 else if k = 3 ∨ k = 6 then 2 else 4
theorem counts_any (k : Int) (hk : k = 0 ∨ k = 1 ∨ k = 2 ∨ k = 3 ∨ k = 4 ∨ k = 5 ∨ k = 6 ∨ k = 7) (w : World) :
    Calls Tryz.prog 31 #[.int .u8 k] w fun e w' => e = .returned (.int .i64 (countsN k)) ∧ w = w' := by
  rcases hk with rfl | rfl | rfl | rfl | rfl | rfl | rfl | rfl
  all_goals
    go_enter Tryz.func31, Tryz.ntmps31
    go_wp2_with fail
    all_goals go_ret
    all_goals exact ⟨rfl, rfl⟩

set_option maxHeartbeats 800000 in
theorem kind_any (s : ByteArray) (w : World) :
    Calls Tryz.prog 29 #[.string s] w fun e w' => e = .returned (.int .u8 (kindR s)) ∧ w = w' := by
  cases hkw : kindOfW s with
  | some k =>
    obtain ⟨hk, hw⟩ := kindOfW_some hkw
    have hr : kindR s = k := by unfold kindR; rw [hkw]; rfl
    rw [hr]
    have n1 : (s.toList == [110, 97, 109, 101]) = (k == 1) := by rw [hw]; rcases hk with rfl | rfl | rfl | rfl | rfl | rfl | rfl <;> decide +kernel
    have n2 : (s.toList == [108, 105, 118, 101]) = (k == 2) := by rw [hw]; rcases hk with rfl | rfl | rfl | rfl | rfl | rfl | rfl <;> decide +kernel
    have n3 : (s.toList == [100, 101, 97, 116, 104]) = (k == 3) := by rw [hw]; rcases hk with rfl | rfl | rfl | rfl | rfl | rfl | rfl <;> decide +kernel
    have n4 : (s.toList == [104, 101, 105, 114]) = (k == 4) := by rw [hw]; rcases hk with rfl | rfl | rfl | rfl | rfl | rfl | rfl <;> decide +kernel
    have n5 : (s.toList == [114, 101, 100, 105, 114, 101, 99, 116]) = (k == 5) := by rw [hw]; rcases hk with rfl | rfl | rfl | rfl | rfl | rfl | rfl <;> decide +kernel
    have n6 : (s.toList == [99, 97, 110, 99, 101, 108]) = (k == 6) := by rw [hw]; rcases hk with rfl | rfl | rfl | rfl | rfl | rfl | rfl <;> decide +kernel
    have n7 : (s.toList == [114, 101, 102, 117, 115, 101]) = (k == 7) := by rw [hw]; rcases hk with rfl | rfl | rfl | rfl | rfl | rfl | rfl <;> decide +kernel
    clear hkw hr hw
    rcases hk with rfl | rfl | rfl | rfl | rfl | rfl | rfl
    all_goals
      simp only [Nat.reduceBEq] at n1 n2 n3 n4 n5 n6 n7
      go_enter Tryz.func29, Tryz.ntmps29
      go_wp2_with fail
      all_goals go_ret
      all_goals exact ⟨rfl, rfl⟩
  | none =>
    have hr : kindR s = 0 := by unfold kindR; rw [hkw]; rfl
    rw [hr]
    clear hr
    have hn : ∀ k : Nat, k = 1 ∨ k = 2 ∨ k = 3 ∨ k = 4 ∨ k = 5 ∨ k = 6 ∨ k = 7 → s ≠ wordB k := fun k hk e => by
      unfold kindOfW at hkw
      have h2 := List.find?_eq_none.1 hkw k (by simp; omega)
      simp [e] at h2
    have n1 : (s.toList == [110, 97, 109, 101]) = false := by
      have h := strEq_false (b := ⟨#[110, 97, 109, 101]⟩) (fun h => hn 1 (by omega) (h.trans (by decide +kernel)))
      rwa [show (⟨#[110, 97, 109, 101]⟩ : ByteArray).toList = [110, 97, 109, 101] by rw [ByteArray.toList_eq]] at h
    have n2 : (s.toList == [108, 105, 118, 101]) = false := by
      have h := strEq_false (b := ⟨#[108, 105, 118, 101]⟩) (fun h => hn 2 (by omega) (h.trans (by decide +kernel)))
      rwa [show (⟨#[108, 105, 118, 101]⟩ : ByteArray).toList = [108, 105, 118, 101] by rw [ByteArray.toList_eq]] at h
    have n3 : (s.toList == [100, 101, 97, 116, 104]) = false := by
      have h := strEq_false (b := ⟨#[100, 101, 97, 116, 104]⟩) (fun h => hn 3 (by omega) (h.trans (by decide +kernel)))
      rwa [show (⟨#[100, 101, 97, 116, 104]⟩ : ByteArray).toList = [100, 101, 97, 116, 104] by rw [ByteArray.toList_eq]] at h
    have n4 : (s.toList == [104, 101, 105, 114]) = false := by
      have h := strEq_false (b := ⟨#[104, 101, 105, 114]⟩) (fun h => hn 4 (by omega) (h.trans (by decide +kernel)))
      rwa [show (⟨#[104, 101, 105, 114]⟩ : ByteArray).toList = [104, 101, 105, 114] by rw [ByteArray.toList_eq]] at h
    have n5 : (s.toList == [114, 101, 100, 105, 114, 101, 99, 116]) = false := by
      have h := strEq_false (b := ⟨#[114, 101, 100, 105, 114, 101, 99, 116]⟩) (fun h => hn 5 (by omega) (h.trans (by decide +kernel)))
      rwa [show (⟨#[114, 101, 100, 105, 114, 101, 99, 116]⟩ : ByteArray).toList = [114, 101, 100, 105, 114, 101, 99, 116] by rw [ByteArray.toList_eq]] at h
    have n6 : (s.toList == [99, 97, 110, 99, 101, 108]) = false := by
      have h := strEq_false (b := ⟨#[99, 97, 110, 99, 101, 108]⟩) (fun h => hn 6 (by omega) (h.trans (by decide +kernel)))
      rwa [show (⟨#[99, 97, 110, 99, 101, 108]⟩ : ByteArray).toList = [99, 97, 110, 99, 101, 108] by rw [ByteArray.toList_eq]] at h
    have n7 : (s.toList == [114, 101, 102, 117, 115, 101]) = false := by
      have h := strEq_false (b := ⟨#[114, 101, 102, 117, 115, 101]⟩) (fun h => hn 7 (by omega) (h.trans (by decide +kernel)))
      rwa [show (⟨#[114, 101, 102, 117, 115, 101]⟩ : ByteArray).toList = [114, 101, 102, 117, 115, 101] by rw [ByteArray.toList_eq]] at h
    clear hn hkw
    go_enter Tryz.func29, Tryz.ntmps29
    go_wp2_with fail
    all_goals go_ret
    all_goals exact ⟨rfl, rfl⟩
end Go.Proofs.YthbgmhhbkojcmaaGreatDoor
