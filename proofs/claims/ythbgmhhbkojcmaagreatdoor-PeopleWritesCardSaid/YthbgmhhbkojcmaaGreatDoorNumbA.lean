/- The contract of number on any word: the number that it says, or -1. Conditions: a length; the library's two errors are error values. The contract of strings.Cut at a blank, at any string. Conditions: a length. -/
import Derived.Test.YthbgmhhbkojcmaaGreatDoorLaysA
import Derived.Test.YthbgmhhbkojcmaaGreatDoorCheckA
import Derived.Lib.CutLaws
import Derived.Shelf.Strings.Search2
import Derived.BigQuiet
namespace Go.Proofs.YthbgmhhbkojcmaaGreatDoor
open Go.RowKit Go.Shelf
attribute [local go_sem] Oper.semAt_some

/-- A variable of the library that holds an error. -/
def ErrIn (g : Nat) (w : World) : Prop := ∃ ev, w.cell? ⟨g, 0, none⟩ = some ev ∧ (ev = .nilIface ∨ ∃ te pe, ev = .iface te pe)
theorem ErrIn.below {g : Nat} {w w' : World} (h : ErrIn g w) (hb : Below w.heap.size w w') : ErrIn g w' := by
  obtain ⟨ev, h1, h2⟩ := h
  exact ⟨ev, (hb.cell (World.block_lt_of_cell? w _ h1)).trans h1, h2⟩
/-- What Atoi reads where a word says no number. -/
def ErrsAt (w : World) : Prop := ErrIn (laysC172_ren.g 15) w ∧ ErrIn (laysC172_ren.g 16) w
theorem ErrsAt.below {w w' : World} (h : ErrsAt w) (hb : Below w.heap.size w w') : ErrsAt w' := ⟨h.1.below hb, h.2.below hb⟩
/-- The number that a word says; -1 if it says none. -/
def numB (s : ByteArray) : Int := match Lib.atoiAll s.data.toList with | .ok v => v | _ => -1

set_option maxRecDepth 100000 in
set_option maxHeartbeats 1000000 in
theorem number_all (s : ByteArray) (hlim : s.size ≤ 281474976710656) (w : World) (hE : ErrsAt w) :
    Calls Tryz.prog 27 #[.string s] w fun e w' => e = .returned (.int .i64 (numB s)) ∧ Below w.heap.size w w' := by
  unfold numB
  rcases h : Lib.atoiAll s.data.toList with v | _ | _
  · exact number_any s (by omega) v h w
  · obtain ⟨⟨ev, hv, hev⟩, _⟩ := hE
    have hat := Any.strconv_Atoi_syntax laysC172 s hlim h ev w hv hev
    clear hv hev h
    go_enter Tryz.func27, Tryz.ntmps27
    go_wp2_with fail
    refine hat.mono ?_
    rintro e w1 ⟨N, rfl, _, _, hB⟩
    go_wp2_with fail
    all_goals
      go_ret
      exact ⟨rfl, hB⟩
  · obtain ⟨_, ev, hv, hev⟩ := hE
    have hat := Any.strconv_Atoi_range laysC172 s hlim h ev w hv hev
    clear hv hev h
    generalize Lib.atoiSat s.data.toList = sat at hat
    go_enter Tryz.func27, Tryz.ntmps27
    go_wp2_with fail
    refine hat.mono ?_
    rintro e w1 ⟨N, rfl, _, _, hB⟩
    go_wp2_with fail
    all_goals
      go_ret
      exact ⟨rfl, hB⟩
end Go.Proofs.YthbgmhhbkojcmaaGreatDoor
namespace Go.Proofs.YthbgmhhbkojcmaaGreatDoor
open Go.RowKit Go.Shelf

theorem index_blank (s : ByteArray) : Lib.indexB s ⟨#[32]⟩ = Lib.indexByte s.data.toList 32 := by
  unfold Lib.indexB
  exact Lib.index_one _ _
theorem liteIndex_blank (s : ByteArray) (w : World) : Calls Tryz.prog 90 #[.string s, .string ⟨#[32]⟩] w fun e w' => e = .returned (.int .i64 (Lib.indexB s ⟨#[32]⟩)) ∧ w = w' := by
  rw [index_blank]
  exact (Any.stringslite_Index_one { laysCut with } s 32 w).mono fun _ _ ⟨h1, h2⟩ => ⟨h1, h2.symm⟩

set_option maxRecDepth 100000 in
set_option maxHeartbeats 2000000 in
theorem liteCut_all (s : ByteArray) (hs : s.size ≤ maxLen) (w : World) :
    Calls Tryz.prog 61 #[.string s, .string ⟨#[32]⟩] w fun e w' => e = .returned (.tuple #[.string (cutA s), .string (cutZ s), .bool (cutF s)]) ∧ ∃ n, w' = w.drewN n := by
  have HX := Lib.hid (liteIndex_blank s)
  unfold cutA cutZ cutF
  unfold maxLen at hs
  rcases Lib.indexB_cases s ⟨#[32]⟩ with hix | ⟨i, hix, hroom⟩
  · obtain ⟨e1, e2, e3⟩ := Lib.cutB_miss s ⟨#[32]⟩ hix
    dsimp only at e1 e2 e3
    rw [e1, e2, e3]
    rw [hix] at HX
    clear e1 e2 e3 hix
    go_enter Tryz.func61, Tryz.ntmps61
    go_wp2_with fail
    refine (HX.out _).mono ?_
    rintro e w1 ⟨rfl, rfl⟩
    go_wp2_with fail
    go_ret3
    exact ⟨rfl, 0, rfl⟩
  · obtain ⟨e1, e2, e3⟩ := Lib.cutB_hit s ⟨#[32]⟩ i hix
    dsimp only at e1 e2 e3
    rw [e1, e2, e3]
    rw [hix] at HX
    have hr : i + 1 ≤ s.size := hroom
    have c1 : (0 : Int) ≤ ↑i := by omega
    have c2 : (↑i : Int) ≤ ↑s.size := by omega
    have c3 : (0 : Int) ≤ ↑i + 1 := by omega
    have c4 : (↑i + 1 : Int) ≤ ↑s.size := by omega
    clear e1 e2 e3 hix hroom
    go_enter Tryz.func61, Tryz.ntmps61
    go_wp2_with fail
    refine (HX.out _).mono ?_
    rintro e w1 ⟨rfl, rfl⟩
    go_wp2_with fail
    go_quiet (fail)
    go_wp2_with fail
    go_ret3
    exact ⟨rfl, by first | exact ⟨_, rfl⟩ | exact ⟨1, rfl⟩⟩

set_option maxRecDepth 100000 in
set_option maxHeartbeats 2000000 in
theorem cut_all (s : ByteArray) (hs : s.size ≤ maxLen) (w : World) :
    Calls Tryz.prog 25 #[.string s, .string ⟨#[32]⟩] w fun e w' => e = .returned (.tuple #[.string (cutA s), .string (cutZ s), .bool (cutF s)]) ∧ ∃ n, w' = w.drewN n := by
  have HX := Lib.hid (liteCut_all s hs)
  go_enter Tryz.func25, Tryz.ntmps25
  go_wp2_with fail
  refine (HX.out _).mono ?_
  rintro e w1 ⟨rfl, n, rfl⟩
  go_wp2_with fail
  go_ret3
  exact ⟨rfl, n, rfl⟩
end Go.Proofs.YthbgmhhbkojcmaaGreatDoor
