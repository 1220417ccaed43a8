/- The contracts of the reference's journal. Conditions: it lies in memory. -/
import Derived.Test.YthieonekjmdelaaJPref
namespace Go.Proofs.Ythieonekjmdelaa
open Go.RowKit

theorem cost_any (n : Nat) (hn : n ≤ 1000000) (w : World) :
    Calls Try.prog 24 #[.int .i64 (n : Int)] w fun e w' => e = .returned (.int .i64 ((1 + n / 32 : Nat) : Int)) ∧ w = w' := by
  have HE : Hid (1 + (n : Int) / 32 = ((1 + n / 32 : Nat) : Int)) := Lib.hid (by omega)
  go_enter Try.func24, Try.ntmps24
  go_wp2_with fail
  go_ret
  exact ⟨by rw [← HE.out]; rfl, rfl⟩
theorem TextsAt.keep {S : Nat → Prop} {w w' : World} {A : Option Addr} {L : List Value} (h : TextsAt w A L) (hk : Keeps S w w') (hS : ∀ g o, A = some ⟨g, o, none⟩ → 0 < L.length → ¬ S g) : TextsAt w' A L := fun k x hx => by
  obtain ⟨g, o, h1, h2, h3⟩ := h k x hx
  have hl := (List.getElem?_eq_some_iff.1 hx).1
  exact ⟨g, o, h1, Nat.lt_of_lt_of_le h2 hk.size, (hk.cell h2 (hS g o h1 (by omega))).trans h3⟩
theorem TextsAt.drewN {w : World} {A : Option Addr} {L : List Value} (h : TextsAt w A L) (n : Nat) : TextsAt (w.drewN n) A L := h
set_option maxRecDepth 100000 in
theorem texts_any (A : Option Addr) (c : Nat) (L : List Value) (hL : AllText L) (hl : L.length ≤ 1000000) (w : World) (h : TextsAt w A L) :
    Calls Try.prog 31 #[.slice A L.length c] w fun e w' => ∃ A' c', e = .returned (.slice A' L.length c') ∧ OwnT w' w.heap.size (.slice A' L.length c') L ∧ Below w.heap.size w w' := by
  have HH := Lib.hid h
  clear h
  go_enter Try.func31, Try.ntmps31
  go_wp2_with fail
  go_loopw [3, 4] (fun v i wr => ∃ k : Nat, k ≤ L.length ∧ i = .int .i64 k ∧ (∃ A' c', v = .slice A' k c') ∧ OwnT wr w.heap.size v (L.take k) ∧ Below w.heap.size w wr) (fun _ i _ => L.length - (intOf i).toNat)
  case atStart => exact ⟨0, Nat.zero_le _, rfl, ⟨none, 0, rfl⟩, World.ownsRow_nil _ _ _ _, Below.refl _ _⟩
  case round =>
    obtain ⟨k, hk, rfl, ⟨A', c', rfl⟩, hO, hB⟩ := hrel
    by_cases hlt : k < L.length
    · have hki : (k : Int) < (L.length : Int) := by omega
      obtain ⟨x, hx⟩ : ∃ x, L[k]? = some x := ⟨_, List.getElem?_eq_getElem hlt⟩
      obtain ⟨s, rfl⟩ := hL x (List.mem_of_getElem? hx)
      obtain ⟨g, o, rfl, hg, hc⟩ := HH.out k _ hx
      have hcr := (hB.cell (p := ⟨g, o + k, none⟩) hg).trans hc
      have hzr : g < wr.heap.size := Nat.lt_of_lt_of_le hg hB.size
      have htl : (L.take k).length = k := by rw [List.length_take]; omega
      obtain ⟨A2, c2, w4, hrun, hO4, hK4, _⟩ := append_text hO (by rw [htl]; omega) hB.size s
      rw [htl] at hrun hO4
      have HO : Hid (OwnT w4 w.heap.size (.slice A2 (k + 1) c2) (L.take (k + 1))) := Lib.hid (by rw [List.take_add_one, hx]; exact hO4)
      have HB4 := Lib.hid (hB.trans (hK4.below (B := w.heap.size) (fun i hi e => by have := (World.ownsRow.lt hO i e).1; omega) hB.size))
      clear hO hB hx hc htl hO4 hK4
      go_wp2_with (first | (at_builtin; refine Lib.wpList_append_run _ rfl _ _ _ _ rfl _ _ rfl rfl _ _ hrun ?_))
      go_roundw
      case rel => exact ⟨k + 1, by omega, by go_num, ⟨A2, c2, rfl⟩, HO.out, HB4.out⟩
      case measure => simp [intOf]; omega
    · have hki : ¬ (k : Int) < (L.length : Int) := by omega
      obtain rfl : k = L.length := by omega
      rw [List.take_length] at hO
      have HO := Lib.hid hO
      have HB := Lib.hid hB
      clear hO hB
      go_wp2_with fail
      go_ret
      exact ⟨A', c', rfl, HO.out, HB.out⟩

/-- The reference's journal behind mb: its records are the texts L behind rv. -/
structure MAt (w : World) (mb B : Nat) (rv : Value) (L : List Value) (safe : Nat) (fl : Bool) (ph : ByteArray) : Prop where
  blk : Blk w mb 33 #[rv, .int .i64 (safe : Int), .bool fl, .string ph]
  own : OwnT w B rv L
  form : ∃ A c, rv = .slice A L.length c
  ne : rv.ownBlock ≠ some mb
theorem MAt.keep {S : Nat → Prop} {w w' : World} {mb B : Nat} {rv : Value} {L : List Value} {safe : Nat} {fl : Bool} {ph : ByteArray} (h : MAt w mb B rv L safe fl ph) (hk : Keeps S w w') (h1 : ¬ S mb) (h2 : ∀ i, rv.ownBlock = some i → ¬ S i) : MAt w' mb B rv L safe fl ph :=
  ⟨h.blk.keep hk h1, h.own.keep hk h2, h.form, h.ne⟩
theorem MAt.below {w w' : World} {mb B : Nat} {rv : Value} {L : List Value} {safe : Nat} {fl : Bool} {ph : ByteArray} (h : MAt w mb B rv L safe fl ph) (hb : Below w.heap.size w w') : MAt w' mb B rv L safe fl ph :=
  h.keep (S := fun _ => False) (Keeps.of_new hb) (fun e => e) (fun _ _ e => e)
set_option maxRecDepth 100000 in
theorem mopened_any {w : World} {mb B : Nat} {rv : Value} {L : List Value} {safe : Nat} {fl : Bool} {ph : ByteArray} (h : MAt w mb B rv L safe fl ph) (A : Option Addr) (c : Nat) (L2 : List Value) (hL2 : AllText L2) (hl : L2.length ≤ 1000000) (hA : TextsAt w A L2) :
    Calls Try.prog 22 #[.pointer (some ⟨mb, 0, none⟩), .slice A L2.length c] w fun e w' => (∃ v, e = .returned v) ∧ (∃ rv', MAt w' mb w.heap.size rv' L2 L2.length false ⟨#[]⟩) ∧ Keeps (fun i => i = mb) w w' := by
  have HT := Lib.hid (texts_any A c L2 hL2 hl w hA)
  have HM := Lib.hid h
  have hzl := h.blk.lt
  clear h hA
  go_enter Try.func22, Try.ntmps22
  go_wp2_with fail
  refine HT.out.mono ?_
  rintro e w1 ⟨A', c', rfl, hO, hB⟩
  have hm := HM.out.below hB
  have c0 := hm.blk.cell 0
  have c1 := hm.blk.cell 1
  have c2 := hm.blk.cell 2
  have c3 := hm.blk.cell 3
  have f0 := hm.blk.frozen 0
  have f1 := hm.blk.frozen 1
  have f2 := hm.blk.frozen 2
  have f3 := hm.blk.frozen 3
  have zl := hm.blk.lt
  simp at c0 c1 c2 c3
  have hne : (Value.slice A' L2.length c').ownBlock ≠ some mb := fun e => by have := (World.ownsRow.lt hO _ e).1; omega
  have hK := ((((Keeps.refl (fun i => i = mb) w1).setCell (p := ⟨mb, 0, none⟩) (fun _ => rfl) (.slice A' L2.length c')).setCell (p := ⟨mb, 1, none⟩) (fun _ => rfl) (.int .i64 (L2.length : Int))).setCell (p := ⟨mb, 2, none⟩) (fun _ => rfl) (.bool false)).setCell (p := ⟨mb, 3, none⟩) (fun _ => rfl) (.string ⟨#[]⟩)
  have HF : Hid ((∃ rv', MAt ((((w1.setCell ⟨mb, 0, none⟩ (.slice A' L2.length c')).setCell ⟨mb, 1, none⟩ (.int .i64 (L2.length : Int))).setCell ⟨mb, 2, none⟩ (.bool false)).setCell ⟨mb, 3, none⟩ (.string ⟨#[]⟩)) mb w.heap.size rv' L2 L2.length false ⟨#[]⟩) ∧ Keeps (fun i => i = mb) w ((((w1.setCell ⟨mb, 0, none⟩ (.slice A' L2.length c')).setCell ⟨mb, 1, none⟩ (.int .i64 (L2.length : Int))).setCell ⟨mb, 2, none⟩ (.bool false)).setCell ⟨mb, 3, none⟩ (.string ⟨#[]⟩))) := Lib.hid
    ⟨⟨_, (((hm.blk.set 0 (.slice A' L2.length c')).set 1 (.int .i64 (L2.length : Int))).set 2 (.bool false)).set 3 (.string ⟨#[]⟩), hO.keep hK (fun i e e2 => hne (by rw [← e2]; exact e)), ⟨A', c', rfl⟩, hne⟩, (Keeps.of_new hB).trans hK (fun _ _ e => e)⟩
  clear hm hO hne hK HM HT hB
  go_wp2_with fail
  go_end0
  exact ⟨⟨_, rfl⟩, HF.out.1, HF.out.2⟩
end Go.Proofs.Ythieonekjmdelaa
