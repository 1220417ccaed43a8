/- The contract of append2. Conditions: the disk, the journal and the reference's journal lie in memory. -/
import Derived.Test.YthieonekjmdelaaJLaw1
namespace Go.Proofs.Ythieonekjmdelaa
open Go.RowKit

theorem used_cost (R : List (List Int)) : (encsOf R).length ≤ 2 * costR R := by
  unfold costR
  induction R with
  | nil => simp [encsOf]
  | cons r R ih =>
    have h1 : encsOf (r :: R) = encB r ++ encsOf R := List.flatMap_cons
    have h2 : nbOf r.length ≤ 2 * (1 + r.length / 32) := by unfold nbOf; omega
    rw [h1, List.length_append, encB_len, List.map_cons, List.sum_cons]
    omega
theorem sJ_bs (s : ByteArray) : sJ (bsOf s) = .string s := by unfold sJ; rw [str_bsOf]
/-- What append2 leaves. -/
def App2 (w0 : World) (jb p mb N : Nat) (R : List (List Int)) (w' : World) : Prop := ∃ R', JS w0 w' jb p mb N R' ∧ R'.length ≤ R.length + 1
set_option maxRecDepth 100000 in
set_option maxHeartbeats 2000000 in
theorem append2_any {w0 w : World} {jb p mb N : Nat} {R : List (List Int)} (h : JS w0 w jb p mb N R) (hRl : R.length ≤ 1000) (s : ByteArray) (hs : s.size ≤ 61000) (hN : N ≤ 65536) :
    Calls Try.prog 10 #[.pointer (some ⟨p, 0, none⟩), .pointer (some ⟨jb, 0, none⟩), .pointer (some ⟨mb, 0, none⟩), .string s, .int .i64 (costR R : Int), .int .i64 ((N / 2 : Nat) : Int)] w fun e w' => e = .returned (.bool true) ∧ App2 w0 jb p mb N R w' := by
  have hcl := costR_le h.recs
  have HJS := Lib.hid h
  obtain ⟨⟨M, rv, safe, fl, ph, hm, hsf, hM, hmM, hrM, hst⟩, hmb, hrec, hB⟩ := h
  have hw := hB.size
  have hmz := hm.blk.lt
  rcases hst with ⟨st, hJ, rfl⟩ | ⟨X, hJ, hX⟩
  · have HDN := Lib.hid (down_live hJ.disk)
    by_cases hbig : s.size ≤ 60000
    rotate_left
    · have hbi : (60000 : Int) < (s.size : Int) := by omega
      obtain ⟨_, _, _, hup, _⟩ := hJ
      have HAP := Lib.hid (append_long jb s (by omega) w hup.at_.lt)
      have HF : Hid (App2 w0 jb p mb N R w) := Lib.hid ⟨R, HJS.out, by omega⟩
      clear hm hup hrec hB HJS hM hmM hrM
      go_enter Try.func10, Try.ntmps10
      go_wp2_with fail
      refine HDN.out.mono ?_
      rintro e w1 ⟨rfl, rfl⟩
      go_wp2_with fail
      refine HAP.out.mono ?_
      rintro e w1 ⟨rfl, rfl⟩
      go_wp2_with fail
      go_ret
      exact ⟨rfl, HF.out⟩
    have hbi : ¬ (60000 : Int) < (s.size : Int) := by omega
    by_cases hroom : (encsOf R).length + nbOf s.size ≤ N
    · have HAP := Lib.hid (append_live hJ s hbig hroom)
      have HM := Lib.hid hm
      have HS := Lib.hid (And.intro hM (And.intro hmM hrM))
      have HR := Lib.hid hrec
      have HB := Lib.hid hB
      clear hm hJ hrec hB HJS hM hmM hrM
      go_enter Try.func10, Try.ntmps10
      go_wp2_with fail
      refine HDN.out.mono ?_
      rintro e w1 ⟨rfl, rfl⟩
      go_wp2_with fail
      refine HAP.out.mono ?_
      rintro e w3 (⟨rfl, M3, hJ3, hG3⟩ | ⟨rfl, rfl, M3, hJ3, hG3⟩)
      · have hm3 := HM.out.keep hG3.keep HS.out.2.1 HS.out.2.2
        have hb3 := hG3.below HS.out.1 hw
        have hLm : (R.map sJ).length = R.length := List.length_map _
        have HMA := Lib.hid (mappend_ok hm3 (by rw [hLm]; omega) (Nat.le_trans hw hb3.1.size) s)
        have HF : Hid (∀ w4, (∃ rv', MAt w4 mb w0.heap.size rv' (R.map sJ ++ [.string s]) safe false ph ∧ newB w3 rv rv') → Keeps (fun i => i = mb ∨ rv.ownBlock = some i) w3 w4 → App2 w0 jb p mb N R w4) := Lib.hid (fun w4 hm4 hK4 => by
          obtain ⟨rv', hm4, hnb⟩ := hm4
          have hfm := hG3.far hmz HS.out.2.1
          have hfr : ∀ i, rv.ownBlock = some i → ¬ M3 i := fun i e => hG3.far (World.ownsRow.lt HM.out.own i e).2 (HS.out.2.2 i e)
          refine ⟨R ++ [bsOf s], ⟨⟨M3, rv', safe, false, ph, ?_, by rw [List.length_append]; omega, hb3.2, hfm, fun i e1 e2 => ?_, .inl ⟨st, hJ3.keep hK4 (fun i e1 e2 => ?_), rfl⟩⟩, hmb, fun r hr => ?_, ?_⟩, by rw [List.length_append]; exact Nat.le_refl _⟩
          · rw [List.map_append, List.map_singleton, sJ_bs]
            exact hm4
          · rcases hnb with hv | hv
            · exact hfr i (by rw [← hv]; exact e1) e2
            · have := hv i e1
              obtain ⟨_, _, _, _, _, _, _, hok⟩ := hJ3
              have := hok i e2
              omega
          · rcases e2 with e2 | e2
            · exact hfm (by rw [← e2]; exact e1)
            · exact hfr i e2 e1
          · rcases List.mem_append.1 hr with hr | hr
            · exact HR.out r hr
            · rw [List.mem_singleton.1 hr, bsOf_len]
              exact hbig
          · have hbb := HB.out.trans hb3.1
            exact hbb.trans (hK4.below (fun i hi e => by
              rcases e with e | e
              · omega
              · have := (World.ownsRow.lt HM.out.own i e).1; omega) hbb.size))
        clear hJ3 hG3 hm3 hb3 HAP
        go_wp2_with fail
        refine HMA.out.mono ?_
        rintro e w4 ⟨⟨v, rfl⟩, hm4, hK4⟩
        have HF4 := Lib.hid (HF.out w4 hm4 hK4)
        clear hm4 hK4 HMA HF
        go_wp2_with fail
        go_ret
        exact ⟨rfl, HF4.out⟩
      · have hm3 := HM.out.keep hG3.keep HS.out.2.1 HS.out.2.2
        have hb3 := hG3.below HS.out.1 hw
        have HMA := Lib.hid (mappend_down hm3 s)
        have hfm := hG3.far hmz HS.out.2.1
        have hfr : ∀ i, rv.ownBlock = some i → ¬ M3 i := fun i e => hG3.far (World.ownsRow.lt HM.out.own i e).2 (HS.out.2.2 i e)
        have HF : Hid (∀ w4, MAt w4 mb w0.heap.size rv (R.map sJ) safe true (if false = true then ph else s) → Keeps (fun i => i = mb) w3 w4 → App2 w0 jb p mb N R w4 ∧ JDead M3 w4 jb p N R (some (bsOf s))) := Lib.hid (fun w4 hm4 hK4 => by
          have hJ4 : JDead M3 w4 jb p N R (some (bsOf s)) := hJ3.keep hK4 (fun i e1 e2 => hfm (by rw [← e2]; exact e1))
          refine ⟨⟨R, ⟨⟨M3, rv, safe, true, s, hm4, hsf, hb3.2, hfm, hfr, .inr ⟨_, hJ4, fun r hr => ⟨rfl, by cases hr; rw [str_bsOf]⟩⟩⟩, hmb, HR.out, ?_⟩, by omega⟩, hJ4⟩
          have hbb := HB.out.trans hb3.1
          exact hbb.trans (hK4.below (fun i hi e => by omega) hbb.size))
        clear hJ3 hG3 hm3 hb3 HAP hfm hfr
        go_wp2_with fail
        refine HMA.out.mono ?_
        rintro e w4 ⟨⟨v, rfl⟩, hm4, hK4⟩
        have HF4 := Lib.hid (HF.out w4 hm4 hK4)
        clear hm4 hK4 HMA HF
        go_wp2_with fail
        refine (down_dead HF4.out.2).mono ?_
        rintro e w5 ⟨rfl, rfl⟩
        go_wp2_with fail
        go_ret
        exact ⟨rfl, HF4.out.1⟩
    · have HAP := Lib.hid (append_full hJ s hbig (by omega))
      have HF : Hid (∀ w4, Below w.heap.size w w4 → App2 w0 jb p mb N R w4) := Lib.hid (fun w4 hb => ⟨R, HJS.out.same hb, by omega⟩)
      have hus := used_cost R
      have hnb : nbOf s.size ≤ 2 * (1 + s.size / 32) := by unfold nbOf; omega
      have HC := Lib.hid (fun W => cost_any s.size (by omega) W)
      have hcr : costR R ≤ 1876000 := by omega
      have hgt : ((N / 2 : Nat) : Int) < (costR R : Int) + ((1 + s.size / 32 : Nat) : Int) := by omega
      have hq : 1 + s.size / 32 ≤ 2000 := by omega
      clear hm hJ hrec hB HJS hM hmM hrM hus hnb hcl hroom
      generalize costR R = cr at *
      generalize 1 + s.size / 32 = sc at *
      generalize N / 2 = half at *
      have hhalf : half ≤ 2000000 := by omega
      go_enter Try.func10, Try.ntmps10
      go_wp2_with fail
      refine HDN.out.mono ?_
      rintro e w1 ⟨rfl, rfl⟩
      go_wp2_with fail
      refine HAP.out.mono ?_
      rintro e w3 ⟨rfl, _, hb⟩
      have HF3 := Lib.hid (HF.out w3 hb)
      clear hb HF HAP
      go_wp2_with fail
      refine (HC.out _).mono ?_
      rintro e w4 ⟨rfl, rfl⟩
      go_wp2_with fail
      go_ret
      exact ⟨rfl, HF3.out⟩
  · have HDN := Lib.hid (down_dead hJ)
    by_cases hbig : s.size ≤ 60000
    rotate_left
    · have hbi : (60000 : Int) < (s.size : Int) := by omega
      obtain ⟨_, _, hdn, _⟩ := hJ
      have HAP := Lib.hid (append_long jb s (by omega) w (Blk.lt hdn.at_))
      have HF : Hid (App2 w0 jb p mb N R w) := Lib.hid ⟨R, HJS.out, by omega⟩
      clear hm hdn hrec hB HJS hM hmM hrM hX
      go_enter Try.func10, Try.ntmps10
      go_wp2_with fail
      refine HDN.out.mono ?_
      rintro e w1 ⟨rfl, rfl⟩
      go_wp2_with fail
      refine HAP.out.mono ?_
      rintro e w1 ⟨rfl, rfl⟩
      go_wp2_with fail
      go_ret
      exact ⟨rfl, HF.out⟩
    have hbi : ¬ (60000 : Int) < (s.size : Int) := by omega
    have HAP := Lib.hid (append_dead hJ s hbig)
    have HMA := Lib.hid (mappend_down hm s)
    have HF : Hid (∀ w4, MAt w4 mb w0.heap.size rv (R.map sJ) safe true (if fl = true then ph else s) → Keeps (fun i => i = mb) w w4 → App2 w0 jb p mb N R w4 ∧ JDead M w4 jb p N R X) := Lib.hid (fun w4 hm4 hK4 => by
      have hJ4 : JDead M w4 jb p N R X := hJ.keep hK4 (fun i e1 e2 => hmM (by rw [← e2]; exact e1))
      refine ⟨⟨R, ⟨⟨M, rv, safe, true, _, hm4, hsf, hM, hmM, hrM, .inr ⟨X, hJ4, fun r hr => ⟨rfl, ?_⟩⟩⟩, hmb, hrec, hB.trans (hK4.below (fun i hi e => by omega) hw)⟩, by omega⟩, hJ4⟩
      obtain ⟨h1, h2⟩ := hX r hr
      rw [if_pos h1]
      exact h2)
    clear hm hJ hrec hB HJS hM hmM hrM hX
    go_enter Try.func10, Try.ntmps10
    go_wp2_with fail
    refine HDN.out.mono ?_
    rintro e w1 ⟨rfl, rfl⟩
    go_wp2_with fail
    refine HAP.out.mono ?_
    rintro e w3 ⟨rfl, rfl⟩
    go_wp2_with fail
    refine HMA.out.mono ?_
    rintro e w4 ⟨⟨v, rfl⟩, hm4, hK4⟩
    have HF4 := Lib.hid (HF.out w4 hm4 hK4)
    clear hm4 hK4 HMA HF
    go_wp2_with fail
    refine (down_dead HF4.out.2).mono ?_
    rintro e w5 ⟨rfl, rfl⟩
    go_wp2_with fail
    go_ret
    exact ⟨rfl, HF4.out.1⟩
end Go.Proofs.Ythieonekjmdelaa
