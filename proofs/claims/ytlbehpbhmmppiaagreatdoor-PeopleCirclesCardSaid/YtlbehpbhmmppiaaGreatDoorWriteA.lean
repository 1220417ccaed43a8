/- The contract of Write on a valid entry whose numbers are less than 100. Conditions: lengths. -/
import Derived.Test.YtlbehpbhmmppiaaGreatDoorEntryA
import Derived.Test.YtlbehpbhmmppiaaGreatDoorLaysA
namespace Go.Proofs.YtlbehpbhmmppiaaGreatDoor
open Go.RowKit Go.Shelf

def fieldOf (x : Ent) (o : Nat) : Int := match (entCells x).getD o undef with | .int _ n => n | _ => 0
theorem fieldOf_cell (x : Ent) (o : Nat) (h : 2 ≤ o ∧ o ≤ 8) : (entCells x).toArray[o]? = some (.int .i64 (fieldOf x o)) := by
  have : o = 2 ∨ o = 3 ∨ o = 4 ∨ o = 5 ∨ o = 6 ∨ o = 7 ∨ o = 8 := by omega
  rcases this with h | h | h | h | h | h | h <;> subst h <;> rfl
/-- The words of an entry's line, up to the k-th number. -/
def wordsTo (x : Ent) (k : Nat) : List ByteArray := [decB x.day, wordB x.kind] ++ ((offs x.kind).take k).map (fun o => decB (fieldOf x o))
theorem wordsTo_snoc (x : Ent) (k : Nat) (o : Nat) (h : (offs x.kind)[k]? = some o) : wordsTo x (k + 1) = wordsTo x k ++ [decB (fieldOf x o)] := by
  unfold wordsTo
  rw [List.take_add_one, h]
  simp
theorem wordsTo_len (x : Ent) (k : Nat) (h : k ≤ (offs x.kind).length) : (wordsTo x k).length = k + 2 := by
  unfold wordsTo
  simp; omega
def wordsAll (x : Ent) : List ByteArray := wordsTo x (offs x.kind).length ++ (if x.kind = 1 then [x.name] else [])
def lineB (x : Ent) : ByteArray := ⟨(Lib.join ((wordsAll x).map (·.data.toList)) [32]).toArray⟩
/-- A row of strings of the call's own. -/
def OwnS (w : World) (base : Nat) (v : Value) (l : List ByteArray) : Prop := w.ownsRow base 9 1 v l.length (l.map Value.string)
theorem stringsRow : Tryz.prog.underlying 70 = some (.slice 9) := by kernel_rfl
theorem infoString : (Tryz.prog.info? 9).map (fun i => (i.zero, i.size, i.bytes)) = some (some (.string ⟨#[]⟩), 1, 16) := by kernel_rfl
theorem OwnS.shape {w : World} {base : Nat} {v : Value} {l : List ByteArray} (h : OwnS w base v l) (hl : l ≠ []) : ∃ g c, v = .slice (some ⟨g, 0, none⟩) l.length c ∧ l.length ≤ c ∧ base ≤ g ∧ g < w.heap.size ∧ ∀ j x, l[j]? = some x → w.cell? ⟨g, j, none⟩ = some (.string x) := by
  have h' := h
  unfold OwnS at h
  rcases h.2 with ⟨rfl, h0⟩ | ⟨g, cap, cur, rfl, hg, hh, hn, _⟩
  · exact absurd (List.eq_nil_of_length_eq_zero h0) hl
  · refine ⟨g, cap, rfl, hn, hg, (h.lt g rfl).2, fun j x hx => ?_⟩
    have hj := (List.getElem?_eq_some_iff.1 hx).1
    rw [h.cellAt j (by omega)]
    simp [hx]

theorem OwnS.two {w : World} {base g : Nat} {a b : ByteArray} (hg : base ≤ g) (h : Blk w g 9 #[.string a, .string b]) : OwnS w base (.slice (some ⟨g, 0, none⟩) 2 2) [a, b] :=
  ⟨rfl, .inr ⟨g, 2, _, rfl, hg, h, Nat.le_refl _, by decide, rfl, rfl⟩⟩
theorem OwnS.keep {S : Nat → Prop} {w w' : World} {base : Nat} {v : Value} {l : List ByteArray} (h : OwnS w base v l) (hk : Keeps S w w') (hs : ∀ g, base ≤ g → ¬ S g) : OwnS w' base v l :=
  ⟨h.1, h.2.elim .inl (fun ⟨g, cap, cur, e, hg, hh, r⟩ => .inr ⟨g, cap, cur, e, hg, (hk.block g (Array.getElem?_eq_some_iff.1 hh).1 (hs g hg)).trans hh, r⟩)⟩
theorem OwnS.snoc {w : World} {base : Nat} {v : Value} {l : List ByteArray} {s : ByteArray} (h : w.ownsRow base 9 1 v (l.length + 1) (l.map Value.string ++ [.string s])) : OwnS w base v (l ++ [s]) := by
  unfold OwnS
  simpa using h

theorem Blk.grownS {w w' : World} {g : Nat} {t : TypeId} {cs : Array Value} {row : Option Nat} (h : Blk w g t cs) (hg : w.grownBy w' row) (hn : ∀ k, row = some k → k ≠ g) : Blk w' g t cs :=
  (hg.block g h.lt (fun e => hn g e.symm rfl)).trans h
theorem LiesFrom.grownS {w w' : World} {lo b : Nat} {xs : List Value} {row : Option Nat} (h : LiesFrom w lo (some ⟨b, 0, none⟩) xs) (hg : w.grownBy w' row) (hn : ∀ k, row = some k → k ≠ b) : LiesFrom w' lo (some ⟨b, 0, none⟩) xs := by
  rcases h with h | ⟨b', e, h1, h2, h3⟩
  · exact .inl h
  · cases e
    have hb : w'.heap[b]? = w.heap[b]? := hg.block b h2 (fun e => hn b e.symm rfl)
    exact .inr ⟨b, rfl, h1, Nat.lt_of_lt_of_le h2 hg.size, fun j u hu => by rw [← h3 j u hu]; simp [World.cell?, hb]⟩
theorem LiesFrom.allocS {w : World} {lo : Nat} {A : Option Addr} {xs : List Value} (h : LiesFrom w lo A xs) (o : Obj) : LiesFrom (w.alloc o) lo A xs := h.keep ((Keeps.refl (fun _ => False) w).alloc o) (fun _ _ h => h)

set_option maxRecDepth 100000 in
set_option maxHeartbeats 4000000 in
theorem write_small (x : Ent) (hkd : x.kind = 1 ∨ x.kind = 2 ∨ x.kind = 3 ∨ x.kind = 4 ∨ x.kind = 5 ∨ x.kind = 6 ∨ x.kind = 7) (hck : ckE x = 0) (hd : 0 ≤ x.day ∧ x.day < 100) (hf : ∀ o ∈ offs x.kind, 0 ≤ fieldOf x o ∧ fieldOf x o < 100)
    (hn : x.name.size ≤ maxLen) (hlen : (lineB x).size ≤ 140737488355328) (w : World) :
    Calls Tryz.prog 53 #[entVal x] w fun e w' => e = .returned (.tuple #[.string (lineB x), .int .i64 0]) ∧ Below w.heap.size w w' := by
  have HCK := Lib.hid (fun W => checkEntry_any x W hn)
  have hX0 := EntAt.new w x
  have hB0 : Below w.heap.size w (w.alloc (.cells (entCells x).toArray 41)) := (Below.refl _ _).alloc (Nat.le_refl _) _
  have HF := Lib.hid hf
  have HL := Lib.hid hlen
  have HC := Lib.hid hck
  have HD := Lib.hid hd
  clear hf hlen hck hd
  unfold entVal at HCK ⊢
  go_enter Tryz.func53, Tryz.ntmps53
  go_wp2_with fail
  simp only [entCells] at hX0 hB0
  generalize w.alloc (.cells _ 41) = W0 at hX0 hB0 ⊢
  obtain ⟨k0, k1, k2, k3, k4, k5, k6, k7, k8, k9, hz⟩ := EntAt.cells (x := x) hX0
  go_wp2_with fail
  refine (HCK.out _).mono ?_
  rintro e w1 ⟨rfl, hb1⟩
  rw [HC.out]
  have hX1 := Blk.below hX0 hb1 hz
  have hB1 := hB0.trans (hb1.mono hB0.size)
  clear k0 k1 k2 k3 k4 k5 k6 k7 k8 k9 hz hX0 hB0 hb1 HCK
  go_upto_region 4 with fail
  go_cut [5] (fun s wx => OwnS wx (w.heap.size + 1) s (wordsTo x 0) ∧ Below w.heap.size w wx ∧ EntAt wx w.heap.size x)
  case first =>
    have HI := Lib.hid (itoa_any x.day HD.out.1 HD.out.2)
    have HWd := Lib.hid (wordOf_any x.kind hkd)
    obtain ⟨k0, k1, k2, k3, k4, k5, k6, k7, k8, k9, hz⟩ := EntAt.cells (x := x) hX1
    go_region_with (first | (go_at_call 84; refine (HI.out _).mono ?_; rintro e w' ⟨rfl, rfl⟩) | (go_at_call 81; refine (HWd.out _).mono ?_; rintro e w' ⟨rfl, rfl⟩))
    all_goals go_wp2_with fail
    all_goals go_meet
    all_goals
      exact ⟨OwnS.two (by have := Blk.lt hX1; omega) ((Blk.new w1 _ _).drew), (hB1.alloc hB1.size _).drew, Blk.drew (Blk.alloc hX1 _)⟩
  case rest =>
    clear hX1 hB1
    obtain ⟨hO, hB, hX⟩ := hcut
    go_wp2_with fail
    refine (numbersOf_any _ x _ hX).mono ?_
    rintro e w2 ⟨A, rfl, hb2, hA⟩
    have hO2 := hO.keep (Keeps.of_new (S := fun _ => False) hb2) (fun _ _ h => h)
    have hX2 := Blk.below hX hb2 (Blk.lt hX)
    have hB2 := hB.trans (hb2.mono hB.size)
    have hlo := Blk.lt hX
    clear hO hX hB hb2
    have hl7 : (offs x.kind).length ≤ 7 := offs_len _
    have hl1 : 1 ≤ (offs x.kind).length := by rcases hkd with h | h | h | h | h | h | h <;> rw [h] <;> decide
    obtain ⟨i0, hi, hz0, hz1, hz2⟩ := info_parts infoString
    go_wp2_with fail
    go_loopw [5, 22] (fun s i wr => ∃ k : Nat, k ≤ (offs x.kind).length ∧ i = .int .i64 k ∧ OwnS wr (w.heap.size + 1) s (wordsTo x k) ∧ Below w.heap.size w wr ∧ EntAt wr w.heap.size x ∧ LiesFrom wr (w.heap.size + 1) A (ptrs w.heap.size (offs x.kind))) (fun _ i _ => (offs x.kind).length - (intOf i).toNat)
    case atStart => exact ⟨0, Nat.zero_le _, rfl, hO2, hB2, hX2, hA.elim .inl (fun ⟨b, h1, h2, h3⟩ => .inr ⟨b, h1, by omega, h3⟩)⟩
    case round =>
      clear hO2 hB2 hX2 hA hlo
      obtain ⟨k, hk, rfl, hO, hB, hX, hA⟩ := hrel
      by_cases hlt : k < (offs x.kind).length
      · obtain ⟨o, hOo⟩ : ∃ o, (offs x.kind)[k]? = some o := ⟨_, List.getElem?_eq_getElem hlt⟩
        have hom := List.mem_of_getElem? hOo
        have ho2 := offs_lt x.kind o hom
        have HI := Lib.hid (itoa_any (fieldOf x o) (HF.out o hom).1 (HF.out o hom).2)
        have HSN := Lib.hid (wordsTo_snoc x k o hOo)
        have HLN := Lib.hid (wordsTo_len x k hk)
        have p1 : (ptrs w.heap.size (offs x.kind))[k]? = some (.pointer (some ⟨w.heap.size, o, none⟩)) := by simp [ptrs, hOo]
        have hc1 := (Blk.cell hX o).trans (fieldOf_cell x o ho2)
        clear hOo hom ho2
        have hA' := hA
        rcases hA' with h0 | ⟨b, rfl, hb1, hb3, hc⟩
        · rw [h0] at p1; cases p1
        have q1 := hc k _ p1
        clear p1
        go_wp2_with fail
        refine (HI.out _).mono ?_
        rintro e w' ⟨rfl, rfl⟩
        have hw1 := Blk.lt hX
        have hne : ∀ g, u5.ownBlock = some g → g ≠ b := fun g hg e => by
          subst e
          obtain ⟨g', c', h1, h2, h3, h4, h5⟩ := OwnS.shape hO (by simp [wordsTo])
          subst h1
          simp [Value.ownBlock] at hg
          subst hg
          have := h5 0 (decB x.day) (by simp [wordsTo])
          have h6 := hc 0 (.pointer (some ⟨w.heap.size, ((offs x.kind)[0]'(by omega)), none⟩)) (by simp [ptrs])
          rw [this] at h6
          cases h6
        have hO' : wr.ownsRow (w.heap.size + 1) 9 1 u5 (wordsTo x k).length ((wordsTo x k).map Value.string) := hO
        have HA := Lib.hid hA
        clear hc q1 hc1
        go_wp2_with (at_builtin; refine wpList_append_own_at _ rfl _ _ 70 rfl (w.heap.size + 1) 9 i0 (.string ⟨#[]⟩) 1 16 stringsRow hi hz0 hz1 hz2 rfl (by decide) _ _ _ rfl (hO'.alloc _) ⟨wr.heap.size, 0, none⟩ 1 1 [.string (decB (fieldOf x o))] rfl rfl (cell_one_new _ _ _) (fun u hu => by simp at hu; subst hu; rfl) (by rw [HLN.out]; unfold maxLen; omega) (by rw [HLN.out]; omega) (by simp; omega) ?_; intro v' w4 hO4 hgrow hnil hloc)
        have hO5 : OwnS w4 (w.heap.size + 1) v' (wordsTo x (k + 1)) := by rw [HSN.out]; exact OwnS.snoc hO4
        have hne5 : ∀ i, u5.ownBlock = some i → w.heap.size + 1 ≤ i := fun i h => (hO'.lt i h).1
        have hB4 : Below w.heap.size w w4 := Below.grown (hB.alloc hB.size _) hgrow (by have := hB.size; simp; omega) (fun i h => by have := hne5 i h; omega)
        have hX4 : EntAt w4 w.heap.size x := Blk.grownS (Blk.alloc hX _) hgrow (fun i h => by have := hne5 i h; omega)
        have hA4 := (HA.out.allocS _).grownS hgrow hne
        clear hO4 hO' hO hne hne5 hgrow hnil hloc hX hB hA
        go_wp2
        go_roundw
        case rel => exact ⟨k + 1, by omega, by go_num, hO5, hB4, hX4, hA4⟩
        case measure => simp [intOf]; omega
      · have HT : k = (offs x.kind).length := by omega
        subst HT
        have HLN := Lib.hid (wordsTo_len x _ hk)
        obtain ⟨k0, k1, k2, k3, k4, k5, k6, k7, k8, k9, hz⟩ := EntAt.cells (x := x) hX
        clear hA k0 k2 k3 k4 k5 k6 k7 k8
        have hO' : wr.ownsRow (w.heap.size + 1) 9 1 u5 (wordsTo x (offs x.kind).length).length ((wordsTo x (offs x.kind).length).map Value.string) := hO
        by_cases hk1 : x.kind = 1
        · have HA : Hid (wordsAll x = wordsTo x (offs x.kind).length ++ [x.name]) := Lib.hid (by simp [wordsAll, hk1])
          rw [hk1] at k1
          clear hk1
          go_wp2_with (at_builtin; refine wpList_append_own_at _ rfl _ _ 70 rfl (w.heap.size + 1) 9 i0 (.string ⟨#[]⟩) 1 16 stringsRow hi hz0 hz1 hz2 rfl (by decide) _ _ _ rfl (hO'.alloc _) ⟨wr.heap.size, 0, none⟩ 1 1 [.string x.name] rfl rfl (cell_one_new _ _ _) (fun u hu => by simp at hu; subst hu; rfl) (by rw [HLN.out]; unfold maxLen; omega) (by rw [HLN.out]; omega) (by simp; omega) ?_; intro v' w4 hO4 hgrow hnil hloc)
          have hO5 : OwnS w4 (w.heap.size + 1) v' (wordsAll x) := by rw [HA.out]; exact OwnS.snoc hO4
          have hne5 : ∀ i, u5.ownBlock = some i → w.heap.size + 1 ≤ i := fun i h => (hO'.lt i h).1
          have hB4 : Below w.heap.size w w4 := Below.grown (hB.alloc hB.size _) hgrow (by have := hB.size; simp; omega) (fun i h => by have := hne5 i h; omega)
          obtain ⟨g, c, rfl, h2, h3, h4, h5⟩ := hO5.shape (by rw [HA.out]; simp)
          have HJ := Lib.hid (join_any g c (wordsAll x) w4 h5 h4 (by rw [HA.out, List.length_append, HLN.out]; simp; omega) h2 HL.out)
          clear h5 h4 h2 h3 hO5 hO4 hgrow hnil hloc hne5 hO' hO hX hB
          clear HLN
          go_wp2_with fail
          refine HJ.out.mono ?_
          rintro e w5 ⟨rfl, hb5⟩
          go_wp2_with fail
          go_ret2
          exact ⟨rfl, hB4.trans (hb5.mono hB4.size)⟩
        · have HA : Hid (wordsAll x = wordsTo x (offs x.kind).length) := Lib.hid (by simp [wordsAll, hk1])
          have hO5 : OwnS wr (w.heap.size + 1) u5 (wordsAll x) := by rw [HA.out]; exact hO
          obtain ⟨g, c, rfl, h2, h3, h4, h5⟩ := hO5.shape (by rw [HA.out]; simp [wordsTo])
          have HJ := Lib.hid (join_any g c (wordsAll x) wr h5 h4 (by rw [HA.out, HLN.out]; omega) h2 HL.out)
          have hkb : (x.kind == 1) = false := by simpa using hk1
          clear h5 h4 h2 h3 hO5 hO' hO hX hk1
          clear HLN
          go_wp2_with fail
          refine HJ.out.mono ?_
          rintro e w5 ⟨rfl, hb5⟩
          go_wp2_with fail
          go_ret2
          exact ⟨rfl, hB.trans (hb5.mono hB.size)⟩
end Go.Proofs.YtlbehpbhmmppiaaGreatDoor
