/- Words and numbers of a line: what is cut off a line that words were joined to, and what number a numeral says. A line of words: what is cut off it, word by word. Read of the line of a valid entry is the entry. -/
import Derived.Test.YthbgmhhbkojcmaaGreatDoorNumbA
import Derived.Lib.AtoiAllCases
import Derived.Lib.IndexBytes
import Derived.Test.YthbgmhhbkojcmaaGreatDoorReadBA
namespace Go.Proofs.YthbgmhhbkojcmaaGreatDoor
open Go.RowKit Go.Shelf

theorem ib_at : ∀ (a b : List UInt8), (32 : UInt8) ∉ a → Lib.indexByte (a ++ 32 :: b) 32 = (a.length : Int)
  | [], b, _ => by simp [Lib.indexByte]
  | x :: a, b, h => by
    have hx : (x == 32) = false := by
      rw [beq_eq_false_iff_ne]
      exact fun e => h (by simp [e])
    have ih := ib_at a b (fun hm => h (List.mem_cons_of_mem _ hm))
    have hne : ((a.length : Int) == -1) = false := by rw [beq_eq_false_iff_ne]; omega
    simp [Lib.indexByte, hx, ih]
theorem ib_no : ∀ (a : List UInt8), (32 : UInt8) ∉ a → Lib.indexByte a 32 = -1
  | [], _ => rfl
  | x :: a, h => by
    have hx : (x == 32) = false := by
      rw [beq_eq_false_iff_ne]
      exact fun e => h (by simp [e])
    have ih := ib_no a (fun hm => h (List.mem_cons_of_mem _ hm))
    simp [Lib.indexByte, hx, ih]
theorem cut_at (a b : List UInt8) (h : (32 : UInt8) ∉ a) : Lib.cut (a ++ 32 :: b) [32] = (a, b, true) := by
  unfold Lib.cut
  rw [Lib.index_one, ib_at a b h]
  simp
theorem cut_no (a : List UInt8) (h : (32 : UInt8) ∉ a) : Lib.cut a [32] = (a, [], false) := by
  unfold Lib.cut
  rw [Lib.index_one, ib_no a h]
  simp
theorem parse_snoc : ∀ (l : List UInt8) (acc m : Nat) (c : UInt8), Lib.parseUint10 acc l = .ok m → 48 ≤ c.toNat ∧ c.toNat ≤ 57 → m ≤ 100000000000000000 → Lib.parseUint10 acc (l ++ [c]) = .ok (m * 10 + (c.toNat - 48))
  | [], acc, m, c, h, hc, hm => by
    simp only [Lib.parseUint10] at h
    injection h with h
    subst h
    rw [List.nil_append]
    simp only [Lib.parseUint10]
    rw [if_pos hc, if_neg (by omega), if_neg (by omega)]
  | x :: l, acc, m, c, h, hc, hm => by
    rw [List.cons_append]
    simp only [Lib.parseUint10] at h ⊢
    split at h
    · rename_i h1
      rw [if_pos h1]
      split at h
      · cases h
      · rename_i h2
        rw [if_neg h2]
        split at h
        · cases h
        · rename_i h3
          rw [if_neg h3]
          exact parse_snoc l _ m c h hc hm
    · cases h
theorem ofNat_digit {d : Nat} (h : d < 10) : (UInt8.ofNat (48 + d)).toNat = 48 + d := by
  rw [UInt8.toNat_ofNat']
  omega
theorem dec_digit (u : Nat) : ∀ b ∈ Lib.decDigits u, 48 ≤ b.toNat ∧ b.toNat ≤ 57 := by
  induction u using Nat.strongRecOn with
  | ind u ih =>
    intro b hb
    rw [Lib.decDigits] at hb
    split at hb
    · rename_i hu
      rw [List.mem_singleton.1 hb, ofNat_digit hu]
      omega
    · rcases List.mem_append.1 hb with hb | hb
      · exact ih (u / 10) (by omega) b hb
      · rw [List.mem_singleton.1 hb, ofNat_digit (Nat.mod_lt _ (by omega))]
        omega
theorem dec_ne (u : Nat) : Lib.decDigits u ≠ [] := by
  rw [Lib.decDigits]
  split <;> simp
theorem parse_dec (u : Nat) (hu : u ≤ 100000000000000000) : Lib.parseUint10 0 (Lib.decDigits u) = .ok u := by
  induction u using Nat.strongRecOn with
  | ind u ih =>
    rw [Lib.decDigits]
    split
    · rename_i h
      have := parse_snoc [] 0 0 (UInt8.ofNat (48 + u)) rfl (by rw [ofNat_digit h]; omega) (by omega)
      rw [ofNat_digit h] at this
      simpa using this
    · have hd : u % 10 < 10 := Nat.mod_lt _ (by omega)
      have := parse_snoc _ 0 (u / 10) (UInt8.ofNat (48 + u % 10)) (ih (u / 10) (by omega) (by omega)) (by rw [ofNat_digit hd]; omega) (by omega)
      rw [this, ofNat_digit hd]
      congr 1
      omega
theorem atoi_dec (u : Nat) (hu : u ≤ 100000000000000000) : Lib.atoiAll (Lib.decDigits u) = .ok (u : Int) := by
  have hp := parse_dec u hu
  have hd := dec_digit u
  cases hq : Lib.decDigits u with
  | nil => exact absurd hq (dec_ne u)
  | cons c r =>
    rw [hq] at hp hd
    have hc := hd c (List.mem_cons_self ..)
    unfold Lib.atoiAll Lib.parseMag
    dsimp only
    rw [if_neg (show ¬(c.toNat = 43 ∨ c.toNat = 45) by omega), if_neg (List.cons_ne_nil _ _), hp]
    dsimp only
    rw [if_neg (by omega), if_neg (by omega), if_neg (by omega)]
/-- The number that a numeral says. -/
theorem num_dec {n : Int} (h0 : 0 ≤ n) (h1 : n ≤ 1000000) : numB (decB n) = n := by
  have h := atoi_dec n.toNat (by omega)
  unfold numB decB
  rw [show (⟨(Lib.decDigits n.toNat).toArray⟩ : ByteArray).data.toList = Lib.decDigits n.toNat by simp, h]
  show ((n.toNat : Nat) : Int) = n
  omega
/-- No numeral holds a blank. -/
theorem dec_blank (n : Int) : (32 : UInt8) ∉ (decB n).data.toList := fun h => by
  unfold decB at h
  have := dec_digit n.toNat 32 (by simpa using h)
  simp at this
end Go.Proofs.YthbgmhhbkojcmaaGreatDoor
namespace Go.Proofs.YthbgmhhbkojcmaaGreatDoor
open Go.RowKit Go.Shelf

/-- The line of some words. -/
def lineW (ws : List ByteArray) : ByteArray := ⟨(Lib.join (ws.map (·.data.toList)) [32]).toArray⟩
def plainW (w : ByteArray) : Prop := (32 : UInt8) ∉ w.data.toList
theorem lineW_two (a b : ByteArray) (r : List ByteArray) : (lineW (a :: b :: r)).data.toList = a.data.toList ++ 32 :: (lineW (b :: r)).data.toList := by
  simp [lineW, Lib.join, List.intercalate]
theorem lineW_one (a : ByteArray) : lineW [a] = a := by
  apply ByteArray.ext
  simp [lineW, Lib.join, List.intercalate]
theorem lineW_nil : lineW [] = ⟨#[]⟩ := by
  simp [lineW, Lib.join, List.intercalate]
theorem cut_lineW (a : ByteArray) (r : List ByteArray) (h : plainW a) : cutA (lineW (a :: r)) = a ∧ cutZ (lineW (a :: r)) = lineW r := by
  unfold plainW at h
  cases r with
  | nil =>
    rw [lineW_one, lineW_nil]
    unfold cutA cutZ
    rw [cut_no _ h]
    exact ⟨by apply ByteArray.ext; simp, rfl⟩
  | cons b r =>
    unfold cutA cutZ
    rw [lineW_two, cut_at _ _ h]
    exact ⟨by apply ByteArray.ext; simp, by apply ByteArray.ext; simp⟩
theorem text_lineW : ∀ (k : Nat) (ws : List ByteArray), (∀ w ∈ ws.take k, plainW w) → k ≤ ws.length → textAt (lineW ws) k = lineW (ws.drop k)
  | 0, ws, _, _ => rfl
  | k + 1, ws, h, hk => by
    have ih := text_lineW k ws (fun w hw => h w (by
      rw [List.take_add_one]
      exact List.mem_append_left _ hw)) (by omega)
    show cutZ (textAt (lineW ws) k) = _
    rw [ih]
    obtain ⟨a, ha⟩ : ∃ a, ws[k]? = some a := ⟨_, List.getElem?_eq_getElem (by omega)⟩
    have hd : ws.drop k = a :: ws.drop (k + 1) := by
      rw [List.drop_eq_getElem_cons (by omega)]
      congr 1
      rw [List.getElem?_eq_getElem (by omega)] at ha
      exact Option.some.inj ha
    rw [hd]
    exact (cut_lineW a _ (h a (by rw [List.take_add_one, ha]; simp))).2
theorem word_lineW (k : Nat) (ws : List ByteArray) (a : ByteArray) (h : ∀ w ∈ ws.take (k + 1), plainW w) (ha : ws[k]? = some a) : cutA (textAt (lineW ws) k) = a := by
  have hk : k < ws.length := (List.getElem?_eq_some_iff.1 ha).1
  rw [text_lineW k ws (fun w hw => h w (by rw [List.take_add_one]; exact List.mem_append_left _ hw)) (by omega)]
  have hd : ws.drop k = a :: ws.drop (k + 1) := by
    rw [List.drop_eq_getElem_cons hk]
    congr 1
    rw [List.getElem?_eq_getElem hk] at ha
    exact Option.some.inj ha
  rw [hd]
  exact (cut_lineW a _ (h a (by rw [List.take_add_one, ha]; simp))).1
/-- The numbers of a line of numerals. -/
theorem nums_lineW (ws : List ByteArray) (g : Nat → Int) (hg : ∀ o, 0 ≤ g o ∧ g o ≤ 1000000) : ∀ (os : List Nat) (k : Nat), (∀ w ∈ ws.take (k + os.length), plainW w) → (∀ j o, os[j]? = some o → ws[k + j]? = some (decB (g o))) → numsOf (lineW ws) os k = os.map fun o => (o, g o)
  | [], _, _, _ => rfl
  | o :: os, k, h, hw => by
    have h0 := hw 0 o rfl
    rw [Nat.add_zero] at h0
    have h1 := word_lineW k ws _ (fun w hm => h w (by
      rw [List.length_cons, show k + (os.length + 1) = (k + 1) + os.length by omega]
      exact List.mem_of_mem_take (i := k + 1) (by rwa [List.take_take, Nat.min_eq_left (by omega)]))) h0
    simp only [numsOf, List.map_cons]
    rw [h1, num_dec (hg o).1 (hg o).2, nums_lineW ws g hg os (k + 1) (fun w hm => h w (by
      rw [List.length_cons, show k + (os.length + 1) = (k + 1) + os.length by omega]
      exact hm)) (fun j o' hj => by
      have := hw (j + 1) o' (by simpa using hj)
      rwa [show k + (j + 1) = k + 1 + j by omega] at this)]
end Go.Proofs.YthbgmhhbkojcmaaGreatDoor
namespace Go.Proofs.YthbgmhhbkojcmaaGreatDoor
open Go.RowKit Go.Shelf

def restW (x : Ent) : List ByteArray := (offs x.kind).map (fun o => decB (fieldOf x o)) ++ (if x.kind = 1 then [x.name] else [])
theorem line_words (x : Ent) : lineB x = lineW (decB x.day :: wordB x.kind :: restW x) := by
  unfold lineB lineW wordsAll wordsTo restW
  rw [List.take_of_length_le (Nat.le_refl _)]
  simp
theorem numAt_map (os : List Nat) (g : Nat → Int) (o : Nat) : numAt (os.map fun o => (o, g o)) o = if o ∈ os then g o else 0 := by
  unfold numAt
  induction os with
  | nil => simp
  | cons a os ih =>
    rw [List.map_cons, List.find?_cons]
    by_cases h : a = o
    · subst h; simp
    · have h1 : (a == o) = false := beq_eq_false_iff_ne.2 h
      rw [h1]
      dsimp only
      rw [ih]
      simp [Ne.symm h]
theorem rest_says {x : Ent} (h : ckE x = 0) : numsOf (lineW (restW x)) (offs x.kind) 0 = (offs x.kind).map (fun o => (o, fieldOf x o)) ∧ textAt (lineW (restW x)) (offs x.kind).length = if x.kind = 1 then x.name else ⟨#[]⟩ := by
  obtain ⟨h3, h4⟩ := nums_ok x (whole_of_ck h).1
  have ht : (restW x).take (offs x.kind).length = (offs x.kind).map (fun o => decB (fieldOf x o)) := by
    unfold restW
    rw [List.take_append_of_le_length (by simp)]
    exact List.take_of_length_le (by simp)
  have hp : ∀ w ∈ (restW x).take (offs x.kind).length, plainW w := fun w hw => by
    rw [ht] at hw
    obtain ⟨o, _, rfl⟩ := List.mem_map.1 hw
    exact dec_blank _
  have hl : (offs x.kind).length ≤ (restW x).length := by unfold restW; simp
  constructor
  · have := nums_lineW (restW x) (fun o => if o ∈ offs x.kind then fieldOf x o else 0) (fun o => by
      split
      · rename_i ho
        exact h4 o ho
      · omega) (offs x.kind) 0 (by rw [Nat.zero_add]; exact hp) (fun j o hj => by
        rw [Nat.zero_add]
        have hjl := (List.getElem?_eq_some_iff.1 hj).1
        rw [if_pos (List.mem_of_getElem? hj)]
        unfold restW
        rw [List.getElem?_append_left (by simpa using hjl), List.getElem?_map, hj]
        rfl)
    rw [this]
    exact List.map_congr_left fun o ho => by rw [if_pos ho]
  · rw [text_lineW _ _ hp hl]
    have hd : (restW x).drop (offs x.kind).length = if x.kind = 1 then [x.name] else [] := by
      unfold restW
      rw [List.drop_append_of_le_length (by simp)]
      simp
    rw [hd]
    split
    · exact lineW_one _
    · exact lineW_nil
theorem kind_word {x : Ent} (h : ckE x = 0) : kindOfW (wordB x.kind) = some x.kind.toNat ∧ plainW (wordB x.kind) ∧ ((x.kind.toNat : Nat) : Int) = x.kind := by
  rcases kinds_of_ck h with hk | hk | hk | hk | hk | hk | hk <;> rw [hk] <;> exact ⟨by decide, by unfold plainW; decide, rfl⟩
/-- What the words of the line of a valid entry say is the entry. -/
theorem ent_back {x : Ent} (h : ckE x = 0) : { entOf (lineW (restW x)) x.kind with day := x.day } = x := by
  obtain ⟨h1, h2⟩ := rest_says h
  have hw : onlyW x = x := by
    have h3 := (whole_of_ck h).1
    unfold okE at h3
    simp only [Bool.and_eq_true, decide_eq_true_eq] at h3
    exact h3.2
  have hk := kinds_of_ck h
  replace hw := hw.symm
  unfold entOf
  rw [h1, h2]
  simp only [numAt_map]
  clear h1 h2 h
  obtain ⟨day, kind, since, untl, person, place, other, at', order, name⟩ := x
  dsimp only at hk hw ⊢
  unfold onlyW onlyOr at hw
  rcases hk with rfl | rfl | rfl | rfl | rfl | rfl | rfl
  all_goals
    simp at hw
    simp [offs, fieldOf, entCells, hw]
/-- Read of the line of a valid entry is the entry. -/
theorem read_back {x : Ent} (h : ckE x = 0) : readE (lineB x) = some x := by
  obtain ⟨hk1, hk2, hk3⟩ := kind_word h
  obtain ⟨h3, _⟩ := nums_ok x (whole_of_ck h).1
  obtain ⟨c1, c2⟩ := cut_lineW (decB x.day) (wordB x.kind :: restW x) (dec_blank _)
  obtain ⟨c3, c4⟩ := cut_lineW (wordB x.kind) (restW x) hk2
  have hs : saysE (lineB x) x.kind.toNat = x := by
    unfold saysE
    rw [line_words, c2, c4, c1, hk3, num_dec h3.1 (by omega)]
    exact ent_back h
  have hkw : kindOfW (cutA (cutZ (lineB x))) = some x.kind.toNat := by rw [line_words, c2, c3]; exact hk1
  unfold readE
  rw [hkw]
  dsimp only
  rw [hs, if_pos ⟨h, rfl⟩]
end Go.Proofs.YthbgmhhbkojcmaaGreatDoor
