/- The contract of the reference's AddedName, exactly; what is true of lists of strings that are made by it. Conditions: the list lies in memory. The contracts of the reference's Persons, Names and Called, exactly; of its SameStrings at equal lists. Conditions: the list lies in memory and has at most 60 entries. -/
import Derived.Test.YtmfjmoicnddkcaaGreatDoorAddIA
import Derived.Test.YtmfjmoicnddkcaaGreatDoorNamesPA
namespace Go.Proofs.YtmfjmoicnddkcaaGreatDoor
open Go.RowKit

theorem infoStrs : (Tryz.prog.info? 9).map (fun i => (i.zero, i.size, i.bytes)) = some (some (.string ⟨#[]⟩), 1, 16) := by kernel_rfl
theorem strsRow : Tryz.prog.underlying 33 = some (.slice 9) := by kernel_rfl
/-- v is a slice of the strings l in memory of the call's own, from block base on. -/
def OwnB (w : World) (base : Nat) (v : Value) (l : List ByteArray) : Prop := w.ownsRow base 9 1 v l.length (l.map (Value.string))
theorem OwnB.nil (w : World) (base : Nat) : OwnB w base (.slice none 0 0) [] := World.ownsRow_nil _ _ _ _
theorem OwnB.own_lt {w : World} {base : Nat} {v : Value} {l : List ByteArray} (h : OwnB w base v l) : ∀ k, v.ownBlock = some k → base ≤ k ∧ k < w.heap.size := World.ownsRow.lt h
theorem OwnB.keep {S : Nat → Prop} {w w' : World} {base : Nat} {v : Value} {l : List ByteArray} (h : OwnB w base v l) (hk : Keeps S w w') (hs : ∀ g, base ≤ g → ¬ S g) : OwnB w' base v l := by
  unfold OwnB at h ⊢
  have hlt := World.ownsRow.lt h
  refine ⟨h.1, ?_⟩
  rcases h.2 with h0 | ⟨g, cap, cur, rfl, hb, hg, rest⟩
  · exact .inl h0
  · exact .inr ⟨g, cap, cur, rfl, hb, (hk.block g (hlt g rfl).2 (hs g hb)).trans hg, rest⟩
theorem OwnB.below {w w' : World} {base : Nat} {v : Value} {l : List ByteArray} (h : OwnB w base v l) (hb : Below w.heap.size w w') : OwnB w' base v l :=
  h.keep (S := fun _ => False) (Keeps.of_new hb) (fun _ _ h => h)
theorem OwnB.mono {w : World} {base base' : Nat} {v : Value} {l : List ByteArray} (h : OwnB w base v l) (hb : base' ≤ base) : OwnB w base' v l := by
  refine ⟨h.1, ?_⟩
  rcases h.2 with h0 | ⟨g, cap, cur, rfl, hg, rest⟩
  · exact .inl h0
  · exact .inr ⟨g, cap, cur, rfl, Nat.le_trans hb hg, rest⟩
theorem OwnB.shape {w : World} {base : Nat} {v : Value} {l : List ByteArray} (h : OwnB w base v l) : ∃ A c, v = .slice A l.length c := by
  rcases h.2 with ⟨rfl, h0⟩ | ⟨g, cap, cur, rfl, _⟩
  · exact ⟨none, 0, by rw [h0]⟩
  · exact ⟨_, cap, rfl⟩
/-- The strings m lie behind A. -/
def BStrAt (w : World) (A : Option Addr) (m : List ByteArray) : Prop := ∀ k x, m[k]? = some x → ∃ g, A = some ⟨g, 0, none⟩ ∧ g < w.heap.size ∧ w.cell? ⟨g, k, none⟩ = some (.string x)
theorem BStrAt.below {w w' : World} {A : Option Addr} {m : List ByteArray} (h : BStrAt w A m) {B : Nat} (hb : Below B w w') (hB : w.heap.size ≤ B) : BStrAt w' A m := fun k x hx => by
  obtain ⟨g, h1, h2, h3⟩ := h k x hx
  exact ⟨g, h1, Nat.lt_of_lt_of_le h2 hb.size, (hb.cell (p := ⟨g, k, none⟩) (Nat.lt_of_lt_of_le h2 hB)).trans h3⟩
theorem OwnB.at {w : World} {base : Nat} {A : Option Addr} {c : Nat} {l : List ByteArray} (h : OwnB w base (.slice A l.length c) l) : BStrAt w A l := fun k x hx => by
  have hl := h.own_lt
  unfold OwnB at h
  have hk := (List.getElem?_eq_some_iff.1 hx).1
  rcases h.2 with ⟨h1, h2⟩ | ⟨g, cap, cur, h1, hb, hg, _⟩
  · omega
  · simp only [Value.slice.injEq] at h1
    obtain ⟨rfl, _, rfl⟩ := h1
    refine ⟨g, rfl, (hl g rfl).2, ?_⟩
    rw [h.cellAt k (by omega), List.getElem?_map, hx]
    rfl
theorem append_str {w : World} {base : Nat} {v : Value} {l : List ByteArray} (h : OwnB w base v l) (x : ByteArray) (hbase : base ≤ w.heap.size) (hlen : l.length ≤ 100000) (ty : TypeId) :
    ∃ v' w', (Builtin.append_ #[33, 33] ty #[v, .slice (some ⟨w.heap.size, 0, none⟩) 1 1]).run Tryz.prog (w.alloc (.cells #[.string x] 9)) = .ok v' w' ∧ OwnB w' base v' (l ++ [x]) ∧ Keeps (fun i => v.ownBlock = some i) w w' := by
  obtain ⟨i0, hi, hz0, hz1, hz2⟩ := info_parts infoStrs
  have h1 : (w.alloc (.cells #[.string x] 9)).ownsRow base 9 1 v l.length (l.map (Value.string)) := OwnB.keep h ((Keeps.refl (fun _ => False) w).alloc _) (fun _ _ h => h)
  have hc : ∀ j u, [Value.string x][j]? = some u → (w.alloc (.cells #[.string x] 9)).cell? ((⟨w.heap.size, 0, none⟩ : Addr).add j) = some u := by
    intro j u hj
    rcases j with _ | j
    · simp at hj
      subst hj
      exact (Blk.new w 9 #[.string x]).cell 0
    · simp at hj
  obtain ⟨v', w', hrun, hO, hg, _, _⟩ := run_append_own_at (P := Tryz.prog) (w.alloc (.cells #[.string x] 9)) base 33 ty 9 i0 _ 1 16 strsRow hi hz0 hz1 hz2 rfl (by decide) v l.length _ h1 ⟨w.heap.size, 0, none⟩ 1 1 [.string x] rfl hc (fun u hu => by simp at hu; subst hu; rfl) (by unfold maxLen; omega) (by omega) (by simp; omega)
  refine ⟨v', w', hrun, ?_, ((Keeps.refl (fun i => v.ownBlock = some i) w).alloc _).trans (Keeps.of_grown (S := fun i => v.ownBlock = some i) hg (fun k hk _ => hk)) (fun i _ h => h)⟩
  unfold OwnB
  rw [List.length_append, List.map_append]
  exact hO


/-- The order of strings. -/
def ltS (a b : ByteArray) : Prop := a.data.toList < b.data.toList
def leB (a b : ByteArray) : Bool := Op.bytesLess a.toList b.toList || a.toList == b.toList
theorem bytes_ext {a b : ByteArray} (h : a.data.toList = b.data.toList) : a = b := by
  obtain ⟨a⟩ := a
  obtain ⟨b⟩ := b
  simpa using h
theorem leB_iff {a b : ByteArray} : leB a b = true ↔ ltS a b ∨ a = b := by
  unfold leB ltS
  rw [bytesLess_eq, ByteArray.toList_eq, ByteArray.toList_eq, Bool.or_eq_true, decide_eq_true_iff, beq_iff_eq]
  exact ⟨fun h => h.elim .inl (fun h => .inr (bytes_ext h)), fun h => h.elim .inl (fun h => .inr (by rw [h]))⟩
theorem leB_no {a b : ByteArray} (h : ¬ leB a b = true) : ltS b a := by
  rw [leB_iff] at h
  unfold ltS at *
  apply Classical.byContradiction
  intro hn
  have h1 := List.not_lt.1 hn
  have h2 : ¬ a.data.toList < b.data.toList := fun h3 => h (.inl h3)
  exact h (.inr (bytes_ext (List.le_antisymm h1 (List.not_lt.1 h2))))
theorem ltS_irr (a : ByteArray) : ¬ ltS a a := by unfold ltS; exact List.lt_irrefl _
theorem ltS_trans {a b c : ByteArray} (h : ltS a b) (k : ltS b c) : ltS a c := by unfold ltS at *; exact List.lt_trans h k
theorem ltS_as (a b : ByteArray) (h : ltS a b) : ¬ ltS b a := fun k => ltS_irr _ (ltS_trans h k)
/-- A list with one more string. -/
def addB : List ByteArray → ByteArray → List ByteArray
  | [], n => [n]
  | x :: m, n => if leB n x = true then (if n = x then x :: m else n :: x :: m) else x :: addB m n
theorem addB_mem (m : List ByteArray) (n z : ByteArray) : z ∈ addB m n ↔ z = n ∨ z ∈ m := by
  induction m with
  | nil => simp [addB]
  | cons x m ih =>
    unfold addB
    split
    · split
      · rename_i h; subst h; simp
      · simp
    · rw [List.mem_cons, ih, List.mem_cons]
      constructor
      · rintro (h | h | h) <;> simp [h]
      · rintro (h | h | h) <;> simp [h]
theorem addB_sorted {m : List ByteArray} (h : m.Pairwise ltS) (n : ByteArray) : (addB m n).Pairwise ltS := by
  induction m with
  | nil => simp [addB]
  | cons x m ih =>
    have hx := List.pairwise_cons.1 h
    unfold addB
    split
    · rename_i h1
      split
      · exact h
      · rename_i h2
        have h3 : ltS n x := (leB_iff.1 h1).elim id (fun e => absurd e h2)
        refine List.pairwise_cons.2 ⟨fun z hz => ?_, h⟩
        rcases List.mem_cons.1 hz with rfl | hz
        · exact h3
        · exact ltS_trans h3 (hx.1 z hz)
    · rename_i h1
      refine List.pairwise_cons.2 ⟨fun z hz => ?_, ih hx.2⟩
      rcases (addB_mem m n z).1 hz with rfl | hz
      · exact leB_no h1
      · exact hx.1 z hz
theorem addB_len (m : List ByteArray) (n : ByteArray) : (addB m n).length ≤ m.length + 1 := by
  induction m with
  | nil => simp [addB]
  | cons x m ih =>
    unfold addB
    split
    · split <;> simp
    · simpa using ih
/-- The strings of some entries, in order. -/
def addS (f : Ent → Bool) (g : Ent → ByteArray) (l : List Ent) : List ByteArray := l.foldl (fun q y => if f y = true then addB q (g y) else q) []
theorem addS_next {f : Ent → Bool} {g : Ent → ByteArray} {l : List Ent} {k : Nat} {x : Ent} (hx : l[k]? = some x) : addS f g (l.take (k + 1)) = if f x = true then addB (addS f g (l.take k)) (g x) else addS f g (l.take k) := by
  unfold addS
  rw [List.take_add_one, hx]
  simp [List.foldl_append]
theorem addS_all (f : Ent → Bool) (g : Ent → ByteArray) (l : List Ent) : (addS f g l).Pairwise ltS ∧ (∀ z, z ∈ addS f g l ↔ ∃ y ∈ l, f y = true ∧ g y = z) ∧ (addS f g l).length ≤ l.length := by
  suffices h : ∀ (l : List Ent) (q : List ByteArray), q.Pairwise ltS → (l.foldl (fun q y => if f y = true then addB q (g y) else q) q).Pairwise ltS ∧ (∀ z, z ∈ l.foldl (fun q y => if f y = true then addB q (g y) else q) q ↔ z ∈ q ∨ ∃ y ∈ l, f y = true ∧ g y = z) ∧ (l.foldl (fun q y => if f y = true then addB q (g y) else q) q).length ≤ q.length + l.length by
    have h1 := h l [] List.Pairwise.nil
    refine ⟨h1.1, fun z => (h1.2.1 z).trans (by simp), by have h2 := h1.2.2; unfold addS; simpa using h2⟩
  intro l
  induction l with
  | nil => intro q hq; exact ⟨hq, fun z => by simp, by simp⟩
  | cons y l ih =>
    intro q hq
    rw [List.foldl_cons]
    by_cases hf : f y = true
    · rw [if_pos hf]
      obtain ⟨h1, h2, h3⟩ := ih (addB q (g y)) (addB_sorted hq _)
      refine ⟨h1, fun z => ?_, by have := addB_len q (g y); rw [List.length_cons]; omega⟩
      rw [h2 z, addB_mem]
      constructor
      · rintro ((rfl | h) | ⟨u, hu, hu2⟩)
        · exact .inr ⟨y, List.mem_cons_self .., hf, rfl⟩
        · exact .inl h
        · exact .inr ⟨u, List.mem_cons_of_mem _ hu, hu2⟩
      · rintro (h | ⟨u, hu, hu1, hu2⟩)
        · exact .inl (.inr h)
        · rcases List.mem_cons.1 hu with rfl | hu
          · exact .inl (.inl hu2.symm)
          · exact .inr ⟨u, hu, hu1, hu2⟩
    · rw [if_neg hf]
      obtain ⟨h1, h2, h3⟩ := ih q hq
      refine ⟨h1, fun z => ?_, by rw [List.length_cons]; omega⟩
      rw [h2 z]
      constructor
      · rintro (h | ⟨u, hu, hu2⟩)
        · exact .inl h
        · exact .inr ⟨u, List.mem_cons_of_mem _ hu, hu2⟩
      · rintro (h | ⟨u, hu, hu1, hu2⟩)
        · exact .inl h
        · rcases List.mem_cons.1 hu with rfl | hu
          · exact absurd hu1 hf
          · exact .inr ⟨u, hu, hu1, hu2⟩

set_option maxRecDepth 100000 in
set_option maxHeartbeats 4000000 in
theorem refAddB_any (A : Option Addr) (c : Nat) (m : List ByteArray) (n : ByteArray) (hm : m.length ≤ 1000) (w : World) (hA : BStrAt w A m) :
    Calls Tryz.prog 50 #[.slice A m.length c, .string n] w fun e w' => ∃ v, e = .returned v ∧ OwnB w' w.heap.size v (addB m n) ∧ Below w.heap.size w w' := by
  go_enter Tryz.func50, Tryz.ntmps50
  go_wp2_with fail
  go_loopw [5, 6, 7] (fun v b i wr => ∃ (k : Nat) (bb : Bool) (q : List ByteArray), k ≤ m.length ∧ i = .int .i64 k ∧ b = .bool bb ∧ OwnB wr w.heap.size v q ∧ Hid (q ++ (if bb = true then m.drop k else addB (m.drop k) n) = addB m n) ∧ q.length ≤ k + bb.toNat ∧ Below w.heap.size w wr) (fun _ _ i _ => m.length - (intOf i).toNat)
  case atStart => exact ⟨0, false, [], Nat.zero_le _, rfl, rfl, OwnB.nil _ _, Lib.hid (by simp), by simp, Below.refl _ _⟩
  case round =>
    obtain ⟨k, bb, q, hk, rfl, rfl, hO, HQ, hq, hB⟩ := hrel
    obtain ⟨A', c', rfl⟩ := hO.shape
    have hown := hO.own_lt
    by_cases hlt : k < m.length
    · obtain ⟨x, hx⟩ : ∃ x, m[k]? = some x := ⟨_, List.getElem?_eq_getElem hlt⟩
      obtain ⟨g, hAg, hg, hc⟩ := hA k x hx
      subst hAg
      have hcw := (hB.cell (p := ⟨g, k, none⟩) hg).trans hc
      have HT : Hid (m.drop k = x :: m.drop (k + 1)) := Lib.hid (by rw [List.drop_eq_getElem_cons hlt]; congr 1; rw [List.getElem?_eq_getElem hlt] at hx; exact Option.some.inj hx)
      have hgw : g < wr.heap.size := Nat.lt_of_lt_of_le hg hB.size
      have hql : q.length ≤ 2000 := by cases bb <;> simp at hq <;> omega
      cases bb
      · by_cases hle : leB n x = true
        · have hw : (Op.bytesLess n.toList x.toList || n.toList == x.toList) = true := hle
          obtain ⟨v1, w1, hrun1, hO1, hk1⟩ := append_str hO n hB.size (by omega) 33
          obtain ⟨A1, c1, rfl⟩ := hO1.shape
          have hB1 : Below w.heap.size w w1 := hB.trans (hk1.below (fun i h1 h2 => by have := hown i h2; omega) hB.size)
          have hown1 := hO1.own_lt
          have hl1 : (q ++ [n]).length = q.length + 1 := by simp
          have hc1 := (hB1.cell (p := ⟨g, k, none⟩) hg).trans hc
          have hg1 : g < w1.heap.size := Nat.lt_of_lt_of_le hg hB1.size
          by_cases he : n = x
          · subst he
            have HE : Hid (q ++ [n] ++ (if (true : Bool) = true then m.drop (k + 1) else addB (m.drop (k + 1)) n) = addB m n) := Lib.hid (by have h := HQ.out; rw [HT.out] at h; simpa [addB, hle] using h)
            have HL : Hid ((q ++ [n]).length ≤ k + 1 + (true : Bool).toNat) := Lib.hid (by simp at hq ⊢; omega)
            rw [hl1] at hrun1
            have HO1 : Hid (OwnB w1 w.heap.size (.slice A1 (q.length + 1) c1) (q ++ [n])) := Lib.hid (by rw [← hl1]; exact hO1)
            clear hl1
            clear hx hk1 hO hown hO1 hq HQ HT
            go_wp2_with (first | (at_builtin; refine Lib.wpList_append_run _ rfl _ _ _ _ rfl _ _ rfl rfl _ _ hrun1 ?_))
            go_roundw
            case rel => exact ⟨k + 1, true, _, by omega, by go_num, rfl, HO1.out, HE, HL.out, hB1⟩
            case measure => simp [intOf]; omega
          · have hne2 := strEq_false he
            have hw2 : Op.bytesLess n.toList x.toList = true := by
              have h := hw
              rw [hne2, Bool.or_false] at h
              exact h
            clear hw
            obtain ⟨v2, w2, hrun2, hO2, hk2⟩ := append_str hO1 x hB1.size (by rw [List.length_append]; simp only [List.length_cons, List.length_nil]; omega) 33
            rw [hl1] at hrun1 hrun2
            clear hl1
            have hB2 : Below w.heap.size w w2 := hB1.trans (hk2.below (fun i h1 h2 => by have := hown1 i h2; omega) hB1.size)
            have HE : Hid (q ++ [n] ++ [x] ++ (if (true : Bool) = true then m.drop (k + 1) else addB (m.drop (k + 1)) n) = addB m n) := Lib.hid (by have h := HQ.out; rw [HT.out] at h; simpa [addB, hle, he] using h)
            have HL : Hid ((q ++ [n] ++ [x]).length ≤ k + 1 + (true : Bool).toNat) := Lib.hid (by simp at hq ⊢; omega)
            have HO2 := Lib.hid hO2
            clear hx hk1 hO hown hO1 hq HQ HT hk2 hown1 hO2
            go_wp2_with (first | (at_builtin; refine Lib.wpList_append_run _ rfl _ _ _ _ rfl _ _ rfl rfl _ _ hrun1 ?_) | (at_builtin; refine Lib.wpList_append_run _ rfl _ _ _ _ rfl _ _ rfl rfl _ _ hrun2 ?_))
            go_roundw
            case rel => exact ⟨k + 1, true, _, by omega, by go_num, rfl, HO2.out, HE, HL.out, hB2⟩
            case measure => simp [intOf]; omega
        · have hw : (Op.bytesLess n.toList x.toList || n.toList == x.toList) = false := Bool.eq_false_iff.2 hle
          obtain ⟨v2, w2, hrun2, hO2, hk2⟩ := append_str hO x hB.size (by omega) 33
          have hB2 : Below w.heap.size w w2 := hB.trans (hk2.below (fun i h1 h2 => by have := hown i h2; omega) hB.size)
          have HE : Hid (q ++ [x] ++ (if (false : Bool) = true then m.drop (k + 1) else addB (m.drop (k + 1)) n) = addB m n) := Lib.hid (by have h := HQ.out; rw [HT.out] at h; simpa [addB, hle] using h)
          have HL : Hid ((q ++ [x]).length ≤ k + 1 + (false : Bool).toNat) := Lib.hid (by simp at hq ⊢; omega)
          have HO2 := Lib.hid hO2
          clear hx hO hown hq HQ HT hk2 hO2
          go_wp2_with (first | (at_builtin; refine Lib.wpList_append_run _ rfl _ _ _ _ rfl _ _ rfl rfl _ _ hrun2 ?_))
          go_roundw
          case rel => exact ⟨k + 1, false, _, by omega, by go_num, rfl, HO2.out, HE, HL.out, hB2⟩
          case measure => simp [intOf]; omega
      · obtain ⟨v2, w2, hrun2, hO2, hk2⟩ := append_str hO x hB.size (by omega) 33
        have hB2 : Below w.heap.size w w2 := hB.trans (hk2.below (fun i h1 h2 => by have := hown i h2; omega) hB.size)
        have HE : Hid (q ++ [x] ++ (if (true : Bool) = true then m.drop (k + 1) else addB (m.drop (k + 1)) n) = addB m n) := Lib.hid (by have h := HQ.out; rw [HT.out] at h; simpa using h)
        have HL : Hid ((q ++ [x]).length ≤ k + 1 + (true : Bool).toNat) := Lib.hid (by simp at hq ⊢; omega)
        have HO2 := Lib.hid hO2
        clear hx hO hown hq HQ HT hk2 hO2
        go_wp2_with (first | (at_builtin; refine Lib.wpList_append_run _ rfl _ _ _ _ rfl _ _ rfl rfl _ _ hrun2 ?_))
        go_roundw
        case rel => exact ⟨k + 1, true, _, by omega, by go_num, rfl, HO2.out, HE, HL.out, hB2⟩
        case measure => simp [intOf]; omega
    · obtain rfl : k = m.length := by omega
      have HQ' : Hid ((bb = true → q = addB m n) ∧ (bb = false → q ++ [n] = addB m n)) := Lib.hid (by
        have h := HQ.out
        rw [List.drop_length] at h
        constructor
        · intro hb
          subst hb
          simpa using h
        · intro hb
          subst hb
          simpa [addB] using h)
      clear HQ
      cases bb
      · obtain ⟨v2, w2, hrun2, hO2, hk2⟩ := append_str hO n hB.size (by simp at hq; omega) 33
        have hB2 : Below w.heap.size w w2 := hB.trans (hk2.below (fun i h1 h2 => by have := hown i h2; omega) hB.size)
        have HO2 := Lib.hid hO2
        clear hO hown hk2 hO2
        go_wp2_with (first | (at_builtin; refine Lib.wpList_append_run _ rfl _ _ _ _ rfl _ _ rfl rfl _ _ hrun2 ?_))
        go_ret
        exact ⟨_, rfl, by rw [← HQ'.out.2 (by first | rfl | trivial)]; exact HO2.out, hB2⟩
      · have HO2 := Lib.hid hO
        clear hO hown
        go_wp2_with fail
        go_ret
        exact ⟨_, rfl, by rw [← HQ'.out.1 (by first | rfl | trivial)]; exact HO2.out, hB⟩
end Go.Proofs.YtmfjmoicnddkcaaGreatDoor
namespace Go.Proofs.YtmfjmoicnddkcaaGreatDoor
open Go.RowKit

set_option maxRecDepth 100000 in
set_option maxHeartbeats 4000000 in
theorem refPersons_any (A : Option Addr) (c : Nat) (l : List Ent) (w : World) (hL : EntsLie w w.heap.size A l) (h60 : l.length ≤ 60) :
    Calls Tryz.prog 17 #[.slice A l.length c] w fun e w' => ∃ v, e = .returned v ∧ OwnI w' w.heap.size v (addL nameK (·.person) l) ∧ Below w.heap.size w w' := by
  have HP : Hid (addL nameK (·.person) l = addL nameK (·.person) l) := Lib.hid rfl
  generalize hR : addL nameK (·.person) l = R at HP ⊢
  have HR := Lib.hid hR.symm
  clear hR HP
  go_enter Tryz.func17, Tryz.ntmps17
  go_wp2_with fail
  go_loopw [3, 4] (fun v i wr => ∃ (k : Nat) (q : List Int), k ≤ l.length ∧ i = .int .i64 k ∧ OwnI wr w.heap.size v q ∧ Hid (q = addL nameK (·.person) (l.take k)) ∧ Below w.heap.size w wr) (fun _ i _ => l.length - (intOf i).toNat)
  case atStart => exact ⟨0, [], Nat.zero_le _, rfl, OwnI.nil _ _, Lib.hid rfl, Below.refl _ _⟩
  case round =>
    obtain ⟨k, q, hk, rfl, hO, HQ, hB⟩ := hrel
    by_cases hlt : k < l.length
    · obtain ⟨x, hx⟩ : ∃ x, l[k]? = some x := ⟨_, List.getElem?_eq_getElem hlt⟩
      have HS := Lib.hid (addL_next (f := nameK) (g := (·.person)) hx)
      obtain ⟨b, off, rfl, hb, c0, c1, c2, c3, c4, c5, c6, c7, c8, c9⟩ := (hL.below hB).at hx
      clear hx
      by_cases hk1 : x.kind = 1
      · have HN : Hid (addI q x.person = addL nameK (·.person) (l.take (k + 1))) := Lib.hid (by rw [HS.out, HQ.out]; simp [nameK, hk1])
        rw [hk1] at c1
        have hql : q.length ≤ 60 := by
          rw [HQ.out]
          have := (addL_all nameK (·.person) (l.take k)).2.2
          rw [List.length_take] at this
          omega
        obtain ⟨A2, cc, rfl⟩ := hO.shape
        have HA := Lib.hid (refAddX_any A2 cc q x.person (by omega) wr hO.at)
        clear hk1 HS HQ hO
        go_wp2_with fail
        refine HA.out.mono ?_
        rintro e w3 ⟨v3, rfl, hO3, hb3⟩
        have hB3 := hB.trans (hb3.mono hB.size)
        have hO4 := hO3.mono hB.size
        clear hb3 hO3 HA c0 c1 c2 c3 c4 c5 c6 c7 c8 c9 hB
        go_wp2_with fail
        go_roundw
        case rel => exact ⟨k + 1, _, by omega, by go_num, hO4, HN, hB3⟩
        case measure => simp [intOf]; omega
      · have HN : Hid (q = addL nameK (·.person) (l.take (k + 1))) := Lib.hid (by rw [HS.out, HQ.out]; simp [nameK, hk1])
        go_wp2
        go_roundw
        case rel => exact ⟨k + 1, q, by omega, by go_num, hO, HN, hB⟩
        case measure => simp [intOf]; omega
    · obtain rfl : k = l.length := by omega
      have HN : Hid (R = q) := Lib.hid (by rw [HR.out, HQ.out, List.take_length])
      go_wp2_with fail
      go_ret
      exact ⟨_, rfl, by rw [HN.out]; exact hO, hB⟩

set_option maxRecDepth 100000 in
set_option maxHeartbeats 4000000 in
theorem refNames_any (A : Option Addr) (c : Nat) (l : List Ent) (p : Int) (d : Int) (w : World) (hL : EntsLie w w.heap.size A l) (h60 : l.length ≤ 60) :
    Calls Tryz.prog 20 #[.slice A l.length c, .int .i64 p, .int .i64 d] w fun e w' => ∃ v, e = .returned v ∧ OwnB w' w.heap.size v (addS (nameE p d) (·.name) l) ∧ Below w.heap.size w w' := by
  generalize hR : addS (nameE p d) (·.name) l = R
  have HR := Lib.hid hR.symm
  clear hR
  go_enter Tryz.func20, Tryz.ntmps20
  go_wp2_with fail
  go_loopw [7, 8] (fun v i wr => ∃ (k : Nat) (q : List ByteArray), k ≤ l.length ∧ i = .int .i64 k ∧ OwnB wr w.heap.size v q ∧ Hid (q = addS (nameE p d) (·.name) (l.take k)) ∧ Below w.heap.size w wr) (fun _ i _ => l.length - (intOf i).toNat)
  case atStart => exact ⟨0, [], Nat.zero_le _, rfl, OwnB.nil _ _, Lib.hid rfl, Below.refl _ _⟩
  case round =>
    obtain ⟨k, q, hk, rfl, hO, HQ, hB⟩ := hrel
    by_cases hlt : k < l.length
    · obtain ⟨x, hx⟩ : ∃ x, l[k]? = some x := ⟨_, List.getElem?_eq_getElem hlt⟩
      have HX := Lib.hid hx
      have HS := Lib.hid (addS_next (f := nameE p d) (g := (·.name)) hx)
      obtain ⟨b, off, rfl, hb, c0, c1, c2, c3, c4, c5, c6, c7, c8, c9⟩ := (hL.below hB).at hx
      clear hx
      go_wp2_with fail
      refine (refHolds_any x d _).mono ?_
      rintro e w2 ⟨rfl, hb2⟩
      have hB2 := hB.trans (hb2.mono hB.size)
      have hO2 := hO.below hb2
      obtain ⟨b', off', hA, hb', d0, d1, d2, d3, d4, d5, d6, d7, d8, d9⟩ := (hL.below hB2).at HX.out
      cases hA
      clear c0 c1 c2 c3 c4 c5 c6 c7 c8 c9 hb2 hB hb' hO
      have hno : nameE p d x = false → Hid (q = addS (nameE p d) (·.name) (l.take (k + 1))) := fun h => Lib.hid (by rw [HS.out, h, HQ.out]; rfl)
      have hHQ := HQ
      by_cases hk1 : x.kind = 1
      · rw [hk1] at d1
        by_cases hk2 : x.person = p
        · rw [hk2] at d4
          cases hh : hld x d
          · have HN := hno (by unfold nameE; simp [hh])
            clear hk1 hk2 hh hno hHQ
            go_wp2
            go_roundw
            case rel => exact ⟨k + 1, q, by omega, by go_num, hO2, HN, hB2⟩
            case measure => simp [intOf]; omega
          · have hy : nameE p d x = true := by unfold nameE; simp [hk1, hk2, hh]
            have HN : Hid (addB q x.name = addS (nameE p d) (·.name) (l.take (k + 1))) := Lib.hid (by rw [HS.out, hy, hHQ.out]; rfl)
            have hql : q.length ≤ 60 := by
              rw [hHQ.out]
              have := (addS_all (nameE p d) (·.name) (l.take k)).2.2
              rw [List.length_take] at this
              omega
            clear hk1 hk2 hh hno hHQ hy
            obtain ⟨A2, cc, rfl⟩ := hO2.shape
            have HA := Lib.hid (refAddB_any A2 cc q x.name (by omega) w2 hO2.at)
            go_wp2_with fail
            refine HA.out.mono ?_
            rintro e w3 ⟨v3, rfl, hO3, hb3⟩
            have hB3 := hB2.trans (hb3.mono hB2.size)
            have hO4 := hO3.mono hB2.size
            clear hb3 hO3 HA hO2 d0 d1 d2 d3 d4 d5 d6 d7 d8 d9 hB2 HQ HS HX
            go_wp2_with fail
            go_roundw
            case rel => exact ⟨k + 1, _, by omega, by go_num, hO4, HN, hB3⟩
            case measure => simp [intOf]; omega
        · have HN := hno (by unfold nameE; simp [hk2])
          clear hk1 hno hHQ
          go_wp2
          go_roundw
          case rel => exact ⟨k + 1, q, by omega, by go_num, hO2, HN, hB2⟩
          case measure => simp [intOf]; omega
      · have HN := hno (by unfold nameE; simp [hk1])
        clear hno hHQ
        go_wp2
        go_roundw
        case rel => exact ⟨k + 1, q, by omega, by go_num, hO2, HN, hB2⟩
        case measure => simp [intOf]; omega
    · obtain rfl : k = l.length := by omega
      have HN : Hid (R = q) := Lib.hid (by rw [HR.out, HQ.out, List.take_length])
      go_wp2_with fail
      go_ret
      exact ⟨_, rfl, by rw [HN.out]; exact hO, hB⟩

set_option maxRecDepth 100000 in
set_option maxHeartbeats 4000000 in
theorem refCalled_any (A : Option Addr) (c : Nat) (l : List Ent) (nm : ByteArray) (d : Int) (w : World) (hL : EntsLie w w.heap.size A l) (h60 : l.length ≤ 60) :
    Calls Tryz.prog 22 #[.slice A l.length c, .string nm, .int .i64 d] w fun e w' => ∃ v, e = .returned v ∧ OwnI w' w.heap.size v (addL (callE nm d) (·.person) l) ∧ Below w.heap.size w w' := by
  generalize hR : addL (callE nm d) (·.person) l = R
  have HR := Lib.hid hR.symm
  clear hR
  go_enter Tryz.func22, Tryz.ntmps22
  go_wp2_with fail
  go_loopw [7, 8] (fun v i wr => ∃ (k : Nat) (q : List Int), k ≤ l.length ∧ i = .int .i64 k ∧ OwnI wr w.heap.size v q ∧ Hid (q = addL (callE nm d) (·.person) (l.take k)) ∧ Below w.heap.size w wr) (fun _ i _ => l.length - (intOf i).toNat)
  case atStart => exact ⟨0, [], Nat.zero_le _, rfl, OwnI.nil _ _, Lib.hid rfl, Below.refl _ _⟩
  case round =>
    obtain ⟨k, q, hk, rfl, hO, HQ, hB⟩ := hrel
    by_cases hlt : k < l.length
    · obtain ⟨x, hx⟩ : ∃ x, l[k]? = some x := ⟨_, List.getElem?_eq_getElem hlt⟩
      have HX := Lib.hid hx
      have HS := Lib.hid (addL_next (f := callE nm d) (g := (·.person)) hx)
      obtain ⟨b, off, rfl, hb, c0, c1, c2, c3, c4, c5, c6, c7, c8, c9⟩ := (hL.below hB).at hx
      clear hx
      go_wp2_with fail
      refine (refHolds_any x d _).mono ?_
      rintro e w2 ⟨rfl, hb2⟩
      have hB2 := hB.trans (hb2.mono hB.size)
      have hO2 := hO.below hb2
      obtain ⟨b', off', hA, hb', d0, d1, d2, d3, d4, d5, d6, d7, d8, d9⟩ := (hL.below hB2).at HX.out
      cases hA
      clear c0 c1 c2 c3 c4 c5 c6 c7 c8 c9 hb2 hB hb' hO
      have hno : callE nm d x = false → Hid (q = addL (callE nm d) (·.person) (l.take (k + 1))) := fun h => Lib.hid (by rw [HS.out, h, HQ.out]; rfl)
      have hHQ := HQ
      by_cases hk1 : x.kind = 1
      · rw [hk1] at d1
        by_cases hk2 : x.name = nm
        · rw [hk2] at d9
          cases hh : hld x d
          · have HN := hno (by unfold callE; simp [hh])
            clear hk1 hk2 hh hno hHQ
            go_wp2
            go_roundw
            case rel => exact ⟨k + 1, q, by omega, by go_num, hO2, HN, hB2⟩
            case measure => simp [intOf]; omega
          · have hy : callE nm d x = true := by unfold callE; simp [hk1, hk2, hh]
            have HN : Hid (addI q x.person = addL (callE nm d) (·.person) (l.take (k + 1))) := Lib.hid (by rw [HS.out, hy, hHQ.out]; rfl)
            have hql : q.length ≤ 60 := by
              rw [hHQ.out]
              have := (addL_all (callE nm d) (·.person) (l.take k)).2.2
              rw [List.length_take] at this
              omega
            clear hk1 hk2 hh hno hHQ hy
            obtain ⟨A2, cc, rfl⟩ := hO2.shape
            have HA := Lib.hid (refAddX_any A2 cc q x.person (by omega) w2 hO2.at)
            go_wp2_with fail
            refine HA.out.mono ?_
            rintro e w3 ⟨v3, rfl, hO3, hb3⟩
            have hB3 := hB2.trans (hb3.mono hB2.size)
            have hO4 := hO3.mono hB2.size
            clear hb3 hO3 HA hO2 d0 d1 d2 d3 d4 d5 d6 d7 d8 d9 hB2 HQ HS HX
            go_wp2_with fail
            go_roundw
            case rel => exact ⟨k + 1, _, by omega, by go_num, hO4, HN, hB3⟩
            case measure => simp [intOf]; omega
        · have HN := hno (by unfold callE; simp [hk2])
          have hne2 := strEq_false hk2
          clear hk1 hno hHQ
          go_wp2
          go_roundw
          case rel => exact ⟨k + 1, q, by omega, by go_num, hO2, HN, hB2⟩
          case measure => simp [intOf]; omega
      · have HN := hno (by unfold callE; simp [hk1])
        clear hno hHQ
        go_wp2
        go_roundw
        case rel => exact ⟨k + 1, q, by omega, by go_num, hO2, HN, hB2⟩
        case measure => simp [intOf]; omega
    · obtain rfl : k = l.length := by omega
      have HN : Hid (R = q) := Lib.hid (by rw [HR.out, HQ.out, List.take_length])
      go_wp2_with fail
      go_ret
      exact ⟨_, rfl, by rw [HN.out]; exact hO, hB⟩

set_option maxRecDepth 100000 in
set_option maxHeartbeats 2000000 in
theorem sameStrings_eq (A1 A2 : Option Addr) (c1 c2 : Nat) (q : List ByteArray) (hq : q.length ≤ 1000) (w : World) (h1 : BStrAt w A1 q) (h2 : BStrAt w A2 q) :
    Calls Tryz.prog 18 #[.slice A1 q.length c1, .slice A2 q.length c2] w fun e w' => e = .returned (.bool true) ∧ Below w.heap.size w w' := by
  go_enter Tryz.func18, Tryz.ntmps18
  go_wp2_with fail
  go_loopw [5] (fun i wr => ∃ k : Nat, k ≤ q.length ∧ i = .int .i64 k ∧ (∃ n, wr = w.drewN n)) (fun i _ => q.length - (intOf i).toNat)
  case atStart => exact ⟨0, Nat.zero_le _, rfl, ⟨0, rfl⟩⟩
  case round =>
    obtain ⟨k, hk, rfl, ⟨n, rfl⟩⟩ := hrel
    by_cases hlt : k < q.length
    · obtain ⟨x, hx⟩ : ∃ x, q[k]? = some x := ⟨_, List.getElem?_eq_getElem hlt⟩
      obtain ⟨g1, hA1, hg1, c0⟩ := h1 k x hx
      obtain ⟨g2, hA2, hg2, d0⟩ := h2 k x hx
      subst hA1
      subst hA2
      clear hx h1 h2
      go_wp2_with fail
      go_quiet (fail)
      go_wp2_with fail
      go_roundw
      case rel => exact ⟨k + 1, by omega, by go_num, by first | exact ⟨_, rfl⟩ | exact ⟨_, drewN_two _ _ _⟩⟩
      case measure => simp [intOf]; omega
    · go_wp2_with fail
      go_ret
      exact ⟨rfl, below_dr (Below.refl _ _) n⟩
end Go.Proofs.YtmfjmoicnddkcaaGreatDoor
