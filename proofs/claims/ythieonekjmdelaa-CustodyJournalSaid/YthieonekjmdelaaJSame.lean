/- The contracts of SameTexts at equal lists, and of journals. Conditions: the texts lie in memory. -/
import Derived.Test.YthieonekjmdelaaJOps
namespace Go.Proofs.Ythieonekjmdelaa
open Go.RowKit

/-- The texts of a slice lie in memory. -/
def TextsAt (w : World) (A : Option Addr) (L : List Value) : Prop := ∀ k x, L[k]? = some x → ∃ g o, A = some ⟨g, o, none⟩ ∧ g < w.heap.size ∧ w.cell? ⟨g, o + k, none⟩ = some x
theorem OwnT.texts {w : World} {B n c : Nat} {A : Option Addr} {L : List Value} (h : OwnT w B (.slice A n c) L) : TextsAt w A L := fun k x hx => by
  obtain ⟨g, h1, h2, h3⟩ := h.cell hx
  exact ⟨g, 0, h1, h2, by rw [Nat.zero_add]; exact h3⟩
theorem TextsAt.below {w w' : World} {A : Option Addr} {L : List Value} (h : TextsAt w A L) (hb : Below w.heap.size w w') : TextsAt w' A L := fun k x hx => by
  obtain ⟨g, o, h1, h2, h3⟩ := h k x hx
  exact ⟨g, o, h1, Nat.lt_of_lt_of_le h2 hb.size, (hb.cell (p := ⟨g, o + k, none⟩) h2).trans h3⟩
theorem TextsAt.take {w : World} {A : Option Addr} {L : List Value} (h : TextsAt w A L) (n : Nat) : TextsAt w A (L.take n) := fun k x hx => by
  rw [List.getElem?_take] at hx
  split at hx
  · exact h k x hx
  · simp at hx
/-- All are texts. -/
def AllText (L : List Value) : Prop := ∀ x ∈ L, ∃ s, x = .string s
theorem sameTexts_eq (A1 A2 : Option Addr) (c1 c2 : Nat) (L : List Value) (hL : AllText L) (hl : L.length ≤ 1000000000) (w : World) (h1 : TextsAt w A1 L) (h2 : TextsAt w A2 L) :
    Calls Try.prog 19 #[.slice A1 L.length c1, .slice A2 L.length c2] w fun e w' => e = .returned (.bool true) ∧ ∃ n, w' = w.drewN n := by
  go_enter Try.func19, Try.ntmps19
  go_wp2_with fail
  go_loopw [5] (fun i wr => ∃ k n : Nat, k ≤ L.length ∧ i = .int .i64 k ∧ wr = w.drewN n) (fun i _ => L.length - (intOf i).toNat)
  case atStart => exact ⟨0, 0, Nat.zero_le _, rfl, rfl⟩
  case round =>
    obtain ⟨k, n, hk, rfl, hw⟩ := hrel
    by_cases hlt : k < L.length
    · have hki : (k : Int) < (L.length : Int) := by omega
      obtain ⟨x, hx⟩ : ∃ x, L[k]? = some x := ⟨_, List.getElem?_eq_getElem hlt⟩
      obtain ⟨s, rfl⟩ := hL x (List.mem_of_getElem? hx)
      obtain ⟨g1, o1, rfl, z1, q1⟩ := h1 k _ hx
      obtain ⟨g2, o2, rfl, z2, q2⟩ := h2 k _ hx
      have r1 : wr.cell? ⟨g1, o1 + k, none⟩ = some (.string s) := by rw [hw]; exact q1
      have r2 : wr.cell? ⟨g2, o2 + k, none⟩ = some (.string s) := by rw [hw]; exact q2
      have HW := Lib.hid hw
      clear q1 q2 hx hw h1 h2
      go_upto_region 6 with fail
      go_quiet (fail)
      have HW2 : Hid (wr.drewN nq = w.drewN (n + nq)) := Lib.hid (by rw [HW.out, World.drewN_drewN])
      go_wp2_with fail
      go_roundw
      case rel => exact ⟨k + 1, n + nq, by omega, by go_num, HW2.out⟩
      case measure => simp [intOf]; omega
    · have hki : ¬ (k : Int) < (L.length : Int) := by omega
      have HW := Lib.hid hw
      clear hw h1 h2
      go_wp2_with fail
      go_ret
      exact ⟨rfl, n, HW.out⟩
theorem allText_sJ (R : List (List Int)) : AllText (R.map sJ) := fun x hx => by
  obtain ⟨r, _, rfl⟩ := List.mem_map.1 hx
  exact ⟨_, rfl⟩
set_option maxRecDepth 100000 in
set_option maxHeartbeats 2000000 in
theorem journals_any (w : World) : Calls Try.prog 7 #[] w fun e w' => e = .returned (.bool true) ∧ Below w.heap.size w w' := by
  go_enter Try.func7, Try.ntmps7
  go_wp2_with fail
  refine (newDisk_live 32 (by decide) (by decide) _).mono ?_
  rintro e w1 ⟨p, M, rfl, hD, hM, hB1⟩
  have HO1 := Lib.hid (open_live hD)
  have HB1 := Lib.hid hB1
  have HM := Lib.hid hM
  clear hD hB1 hM
  go_wp2_with fail
  refine HO1.out.mono ?_
  rintro e w2 ⟨jb, A, c, M2, rfl, hJ, hO, _, hG, _⟩
  obtain ⟨hb, hm⟩ := hG.below HM.out HB1.out.size
  have HB2 := Lib.hid (HB1.out.trans hb)
  have HM2 := Lib.hid hm
  have HA := Lib.hid (append_live hJ ⟨#[111, 110, 101]⟩ (by decide) (by decide))
  clear hJ hO hG hb hm HB1 HM HO1
  go_wp2_with fail
  refine HA.out.mono ?_
  rintro e w3 (⟨rfl, M3, hJ, hG⟩ | ⟨_, hst, _⟩)
  rotate_left
  · cases hst
  obtain ⟨hb, hm⟩ := hG.below HM2.out HB2.out.size
  have HB3 := Lib.hid (HB2.out.trans hb)
  have HM3 := Lib.hid hm
  have HS := Lib.hid (sync_live hJ)
  clear hJ hG hb hm HB2 HM2 HA
  go_wp2_with fail
  refine HS.out.mono ?_
  rintro e w4 (⟨rfl, hJ, hG⟩ | ⟨_, hst, _⟩)
  rotate_left
  · cases hst
  obtain ⟨hb, hm⟩ := hG.below HM3.out HB3.out.size
  have HB4 := Lib.hid (HB3.out.trans hb)
  have HM4 := Lib.hid hm
  have HC := Lib.hid (crash_dlive hJ.disk none 0 [] (by decide) (by simp) (fun h => by simp at h))
  clear hJ hG hb hm HB3 HM3 HS
  go_wp2_with fail
  refine HC.out.mono ?_
  rintro e w5 ⟨⟨v, rfl⟩, hD, hG⟩
  obtain ⟨hb, hm⟩ := hG.below HM4.out HB4.out.size
  have HB5 := Lib.hid (HB4.out.trans hb)
  have HO2 := Lib.hid (open_live hD)
  clear hD hG hb hm HB4 HM4 HC
  go_wp2_with fail
  refine HO2.out.mono ?_
  rintro e w6 ⟨jb2, A2, c2, M6, rfl, hJ, hO, _, hG, hB6⟩
  have HB6 := Lib.hid (HB5.out.trans (hB6.mono HB5.out.size))
  have HL := Lib.hid (len_live hJ)
  obtain ⟨g, rfl, hgl, hc⟩ := hO.cell (k := 0) (x := .string ⟨#[111, 110, 101]⟩) (by
    show some (Value.string (strOfNums (bsOf ⟨#[111, 110, 101]⟩))) = _
    rw [str_bsOf])
  simp only [List.nil_append, List.length_cons, List.length_nil, Nat.zero_add] at HL
  clear hJ hO hG hB6 HB5 HO2
  go_wp2_with fail
  refine HL.out.mono ?_
  rintro e w7 ⟨rfl, rfl⟩
  go_wp2_with fail
  go_ret
  exact ⟨rfl, HB6.out⟩
end Go.Proofs.Ythieonekjmdelaa
