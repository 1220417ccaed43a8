/- The law of CustodyPrefix. Conditions: the texts and the numbers lie in memory. -/
import Derived.Test.YthieonekjmdelaaJPref
namespace Go.Proofs.Ythieonekjmdelaa
open Go.RowKit

/-- The crash behind the loop. -/
theorem crash_end {w0 w : World} {M : Nat → Prop} {jb p k safe : Nat} {l : List ByteArray} (h : PrefAt M w jb p l k) (hM : ∀ i, M i → w0.heap.size ≤ i) (hs : safe ≤ k) (hB : Below w0.heap.size w0 w) (KA : Option Addr) (kc : Nat) (K : List Int) (hKl : K.length ≤ 9223372036854775807) (hKi : ∀ x ∈ K, -9223372036854775808 ≤ x ∧ x ≤ 9223372036854775807) (hK : NumsAt w0 KA K) :
    Calls Try.prog 15 #[.pointer (some ⟨p, 0, none⟩), .slice KA K.length kc] w fun e w' => (∃ v, e = .returned v) ∧ (∃ m M', safe ≤ m ∧ m ≤ k + 1 ∧ m ≤ l.length ∧ DLive M' w' p 8000 ((l.take m).map bsOf) false ∧ ∀ i, M' i → w0.heap.size ≤ i) ∧ Below w0.heap.size w0 w' := by
  refine (crash_pref h KA kc K hKl hKi (hK.keepJ hB hM)).mono ?_
  rintro e w' ⟨he, ⟨m, h1, h2, h3, hD⟩, hG⟩
  exact ⟨he, ⟨m, M, by omega, h2, h3, hD, hM⟩, hB.trans (hG.below hM hB.size).1⟩
theorem same_m (L : List ByteArray) (m : Nat) (hm : L.length = m) (hl : m ≤ 1000000000) (A1 A2 : Option Addr) (c1 c2 : Nat) (W : World) (h1 : TextsAt W A1 (strV L)) (h2 : TextsAt W A2 (strV L)) :
    Calls Try.prog 19 #[.slice A1 m c1, .slice A2 m c2] W fun e w' => e = .returned (.bool true) ∧ ∃ n, w' = W.drewN n := by
  have := sameTexts_eq A1 A2 c1 c2 (strV L) (strV_all L) (by rw [strV_len]; omega) W h1 h2
  rw [strV_len, hm] at this
  exact this
set_option maxRecDepth 100000 in
set_option maxHeartbeats 4000000 in
theorem prefix_any (A : Option Addr) (c : Nat) (l : List ByteArray) (hl : l.length ≤ 9223372036854775807) (hlc : l.length ≤ c) (hls : ∀ s ∈ l, s.size ≤ 9223372036854775807) (synced stop : Int)
    (K1 K2 : Option Addr) (kc1 kc2 : Nat) (one two : List Int) (h1l : one.length ≤ 9223372036854775807) (h2l : two.length ≤ 9223372036854775807) (h1i : ∀ x ∈ one, -9223372036854775808 ≤ x ∧ x ≤ 9223372036854775807) (h2i : ∀ x ∈ two, -9223372036854775808 ≤ x ∧ x ≤ 9223372036854775807)
    (w : World) (hA : TextsAt w A (strV l)) (hK1 : NumsAt w K1 one) (hK2 : NumsAt w K2 two) :
    Calls Try.prog 4 #[.slice A l.length c, .int .i64 synced, .int .i64 stop, .slice K1 one.length kc1, .slice K2 two.length kc2] w fun e w' => e = .returned (.bool true) ∧ Below w.heap.size w w' := by
  have HJS := Lib.hid journals_any
  have HA := Lib.hid hA
  have HK1 := Lib.hid hK1
  have HK2 := Lib.hid hK2
  have H1I := Lib.hid h1i
  have H2I := Lib.hid h2i
  clear hA hK1 hK2 h1i h2i
  go_enter Try.func4, Try.ntmps4
  go_wp2_with fail
  go_loopw [11, 12] (fun n i wr => ∃ k : Nat, k ≤ l.length ∧ k ≤ 201 ∧ i = .int .i64 k ∧ n = .int .i64 (totB (l.take k)) ∧ (∀ s ∈ l.take k, s.size ≤ 60000) ∧ w = wr) (fun _ i _ => l.length - (intOf i).toNat)
  case atStart => exact ⟨0, Nat.zero_le _, by omega, rfl, rfl, fun s hs => by simp at hs, rfl⟩
  case round =>
    obtain ⟨k, hk, hk2, rfl, rfl, hsm, rfl⟩ := hrel
    have htb := totB_bound _ hsm
    have htl : (l.take k).length ≤ k := List.length_take_le _ _
    have htb2 : totB (l.take k) ≤ 20000000 := by omega
    by_cases hlt : k < l.length ∧ k ≤ 200
    · obtain ⟨hlt, hle⟩ := hlt
      have hki : (k : Int) < (l.length : Int) := by omega
      have hki2 : (k : Int) ≤ 200 := by omega
      obtain ⟨s, hs⟩ : ∃ s, l[k]? = some s := ⟨_, List.getElem?_eq_getElem hlt⟩
      have hss := hls s (List.mem_of_getElem? hs)
      obtain ⟨g, o, rfl, hg, hc⟩ := HA.out k (.string s) (by unfold strV; rw [List.getElem?_map, hs]; rfl)
      have HS := Lib.hid hs
      have HSM := Lib.hid hsm
      clear hs hsm
      by_cases hbig : s.size ≤ 60000
      · have hbi : ¬ (60000 : Int) < (s.size : Int) := by omega
        have HT : Hid ((totB (l.take k) : Int) + 32 + (s.size : Int) = (totB (l.take (k + 1)) : Int)) := Lib.hid (by rw [totB_take l HS.out]; omega)
        generalize totB (l.take k) = tb at *
        go_wp2_with fail
        go_roundw
        case rel =>
          refine ⟨k + 1, by omega, by omega, by go_num, by rw [← HT.out], fun x hx => ?_, by trivial⟩
          rw [List.take_add_one, HS.out] at hx
          rcases List.mem_append.1 hx with hx | hx
          · exact HSM.out x hx
          · simp at hx
            rw [hx]
            exact hbig
        case measure => simp [intOf]; omega
      · have hbi : (60000 : Int) < (s.size : Int) := by omega
        generalize totB (l.take k) = tb at *
        go_wp2_with fail
        refine (HJS.out _).mono ?_
        rintro e w1 ⟨rfl, hb⟩
        go_wp2_with fail
        go_ret
        exact ⟨rfl, hb⟩
    · by_cases hk3 : k < l.length
      · have e1 : (k : Int) < (l.length : Int) := by omega
        have e2 : ¬ (k : Int) ≤ 200 := by omega
        have e3 : (200 : Int) < (l.length : Int) := by omega
        generalize totB (l.take k) = tb at *
        go_wp2_with fail
        refine (HJS.out _).mono ?_
        rintro e w1 ⟨rfl, hb⟩
        go_wp2_with fail
        go_ret
        exact ⟨rfl, hb⟩
      obtain rfl : k = l.length := by omega
      have e1 : ¬ (l.length : Int) < (l.length : Int) := by omega
      have htk : l.take l.length = l := List.take_length
      rw [htk]
      rw [htk] at htb2 hsm
      have HSM := Lib.hid hsm
      have HUS := Lib.hid (used_le l)
      have HTB := Lib.hid (fun k => totB_le l k)
      clear hsm htb htl
      obtain ⟨tb, htbe⟩ : ∃ tb, tb = totB l := ⟨_, rfl⟩
      have HTE := Lib.hid htbe
      rw [← htbe] at htb2 ⊢
      clear htbe
      by_cases c1 : l.length ≤ 200
      rotate_left
      · have e2 : (200 : Int) < (l.length : Int) := by omega
        go_wp2_with fail
        refine (HJS.out _).mono ?_
        rintro e w1 ⟨rfl, hb⟩
        go_wp2_with fail
        go_ret
        exact ⟨rfl, hb⟩
      have c1i : ¬ (200 : Int) < (l.length : Int) := by omega
      by_cases c2 : tb ≤ 100000
      rotate_left
      · have e2 : (100000 : Int) < (tb : Int) := by omega
        go_wp2_with fail
        refine (HJS.out _).mono ?_
        rintro e w1 ⟨rfl, hb⟩
        go_wp2_with fail
        go_ret
        exact ⟨rfl, hb⟩
      have c2i : ¬ (100000 : Int) < (tb : Int) := by omega
      by_cases c3 : one.length ≤ 200
      rotate_left
      · have e2 : (200 : Int) < (one.length : Int) := by omega
        go_wp2_with fail
        refine (HJS.out _).mono ?_
        rintro e w1 ⟨rfl, hb⟩
        go_wp2_with fail
        go_ret
        exact ⟨rfl, hb⟩
      have c3i : ¬ (200 : Int) < (one.length : Int) := by omega
      by_cases c4 : two.length ≤ 200
      rotate_left
      · have e2 : (200 : Int) < (two.length : Int) := by omega
        go_wp2_with fail
        refine (HJS.out _).mono ?_
        rintro e w1 ⟨rfl, hb⟩
        go_wp2_with fail
        go_ret
        exact ⟨rfl, hb⟩
      have c4i : ¬ (200 : Int) < (two.length : Int) := by omega
      go_wp2_with fail
      refine (newDisk_live 8000 (by decide) (by decide) _).mono ?_
      rintro e w1 ⟨p, M, rfl, hD, hM, hB1⟩
      have HO1 := Lib.hid (open_live hD)
      have HB1 := Lib.hid hB1
      have HM := Lib.hid hM
      clear hD hB1 hM
      go_wp2_with fail
      refine HO1.out.mono ?_
      rintro e w2 ⟨jb, A0, c0, M2, rfl, hJ, hO, _, hG, _⟩
      obtain ⟨hb, hm⟩ := hG.below HM.out HB1.out.size
      have HR : Hid (PrefSt w w2 jb p l synced 0 0) := Lib.hid ⟨⟨M2, false, by rw [List.take_zero]; exact hJ, hm, fun h => by cases h⟩, Nat.le_refl _, HB1.out.trans hb⟩
      clear hJ hO hG hb hm HB1 HM HO1
      have HUK : Hid (∀ k s, l[k]? = some s → (encsOf ((l.take k).map bsOf)).length + nbOf s.size ≤ 8000) := Lib.hid (fun k s hs => by
        have h1 := used_le (l.take (k + 1))
        have h2 := HTB.out (k + 1)
        have h3 : (l.take (k + 1)).length ≤ l.length := List.length_take_le' _ _
        rw [take_snoc_map l hs, encsOf_snoc, List.length_append, encB_len, bsOf_len] at h1
        have := HTE.out
        omega)
      go_wp2_with fail
      go_loopw [18, 19, 20] (fun sf gv i wr => ∃ k safe : Nat, k ≤ l.length ∧ i = .int .i64 k ∧ sf = .int .i64 safe ∧ gv = .int .i64 k ∧ PrefSt w wr jb p l synced k safe) (fun _ _ i _ => l.length - (intOf i).toNat)
      case atStart => exact ⟨0, 0, Nat.zero_le _, rfl, rfl, rfl, HR.out⟩
      case round =>
        obtain ⟨k, safe, hk, rfl, rfl, rfl, hR⟩ := hrel
        obtain ⟨⟨M, st, hJ, hM, hst⟩, hsafe, hBr⟩ := hR
        have HBr := Lib.hid hBr
        have HM := Lib.hid hM
        have HST := Lib.hid hst
        have hsafei : (safe : Int) ≤ (k : Int) := by omega
        by_cases hlt : k < l.length
        case' neg =>
          have e2 : ¬ (k : Int) < (l.length : Int) := by omega
          have HCR := Lib.hid (crash_end (l := l) (k := k) (safe := safe) ⟨hk, .inl ⟨st, hJ⟩⟩ hM hsafe hBr K1 kc1 one h1l H1I.out HK1.out)
          clear hJ hM hst hBr
          go_wp2_with fail
          refine HCR.out.mono ?_
        case' pos =>
          have e2 : (k : Int) < (l.length : Int) := by omega
          obtain ⟨s, hs⟩ : ∃ s, l[k]? = some s := ⟨_, List.getElem?_eq_getElem hlt⟩
          obtain ⟨g, o, rfl, hg, hc⟩ := HA.out k (.string s) (by unfold strV; rw [List.getElem?_map, hs]; rfl)
          have hss := HSM.out s (List.mem_of_getElem? hs)
          have HUS2 := Lib.hid (HUK.out k s hs)
          have HS := Lib.hid hs
          have hcr := (hBr.cell (p := ⟨g, o + k, none⟩) hg).trans hc
          have hzr : g < wr.heap.size := Nat.lt_of_lt_of_le hg hBr.size
          have HC0 := Lib.hid hc
          clear hc hs hst hBr hM
          by_cases heq : (k : Int) = synced
          case' pos =>
            subst heq
            obtain ⟨n3, hn3, hne⟩ := at_modN 300 (by omega) (by omega) stop
            have hne' : wrap64 ((IntKind.u64.wrap stop).tmod 300) = (n3 : Int) := hne
            have HSL := Lib.hid (stop_live hJ (n3 : Int) (by omega))
            have HNE := Lib.hid hne'
            clear hJ hne hne'
            go_wp2_with fail
            rw [HNE.out]
            refine HSL.out.mono ?_
            rintro e w2 ⟨⟨v, rfl⟩, ⟨st2, hJ2⟩, hG2⟩
            obtain ⟨hb2, hm2⟩ := hG2.below HM.out HBr.out.size
            have hc2 := (hb2.cell (p := ⟨g, o + k, none⟩) hg).trans hcr
            have hz2 : g < w2.heap.size := Nat.lt_of_lt_of_le hzr hb2.size
            have HAP := Lib.hid (append_live hJ2 s hss HUS2.out)
            have HB2 := Lib.hid (HBr.out.trans hb2)
            have HM2 := Lib.hid hm2
            clear hJ2 hG2 hb2 hm2 HSL HNE hcr hzr
            go_wp2_with fail
            refine HAP.out.mono ?_
            rintro e w3 (⟨rfl, M3, hJ3, hG3⟩ | ⟨rfl, hst2, M3, hJ3, hG3⟩)
            · obtain ⟨hb3, hm3⟩ := hG3.below HM2.out HB2.out.size
              have HF : Hid (PrefSt w w3 jb p l (k : Int) (k + 1) safe) := Lib.hid ⟨⟨M3, st2, by rw [take_snoc_map l HS.out]; exact hJ3, hm3, fun _ => by omega⟩, by omega, HB2.out.trans hb3⟩
              have hirr : ¬ (k : Int) < (k : Int) := by omega
              clear hJ3 hG3 hb3 hm3 HAP
              go_wp2_with fail
              go_roundw
              case rel => exact ⟨k + 1, safe, by omega, by go_num, rfl, by go_num, HF.out⟩
              case measure => simp [intOf]; omega
            obtain ⟨hb3, hm3⟩ := hG3.below HM2.out HB2.out.size
            have HCR := Lib.hid (crash_end (l := l) (k := k) (safe := safe) ⟨hk, .inr ⟨s, HS.out, hJ3⟩⟩ hm3 hsafe (HB2.out.trans hb3) K1 kc1 one h1l H1I.out HK1.out)
            have hirr : ¬ (k : Int) < (k : Int) := by omega
            clear hJ3 hG3 hb3 hm3 HAP
            go_wp2_with fail
            refine HCR.out.mono ?_
          case' neg =>
            have HAP := Lib.hid (append_live hJ s hss HUS2.out)
            clear hJ
            go_wp2_with fail
            refine HAP.out.mono ?_
            rintro e w3 (⟨rfl, M3, hJ3, hG3⟩ | ⟨rfl, hst2, M3, hJ3, hG3⟩)
            · obtain ⟨hb3, hm3⟩ := hG3.below HM.out HBr.out.size
              by_cases hsy : (k : Int) < synced
              · obtain rfl : st = false := by
                  cases st
                  · rfl
                  · have := HST.out rfl
                    omega
                have HSY := Lib.hid (sync_live hJ3)
                have HB3 := Lib.hid (HBr.out.trans hb3)
                have HM3 := Lib.hid hm3
                clear hJ3 hG3 hb3 hm3 HAP
                go_wp2_with fail
                refine HSY.out.mono ?_
                rintro e w4 (⟨rfl, hJ4, hG4⟩ | ⟨_, hst3, _⟩)
                rotate_left
                · cases hst3
                obtain ⟨hb4, hm4⟩ := hG4.below HM3.out HB3.out.size
                have HF : Hid (PrefSt w w4 jb p l synced (k + 1) (k + 1)) := Lib.hid ⟨⟨M3, false, by rw [take_snoc_map l HS.out]; exact hJ4, hm4, fun h => by cases h⟩, Nat.le_refl _, HB3.out.trans hb4⟩
                clear hJ4 hG4 hb4 hm4 HSY
                go_wp2_with fail
                go_roundw
                case rel => exact ⟨k + 1, k + 1, by omega, by go_num, by go_num, by go_num, HF.out⟩
                case measure => simp [intOf]; omega
              · have HF : Hid (PrefSt w w3 jb p l synced (k + 1) safe) := Lib.hid ⟨⟨M3, st, by rw [take_snoc_map l HS.out]; exact hJ3, hm3, fun _ => by omega⟩, by omega, HBr.out.trans hb3⟩
                clear hJ3 hG3 hb3 hm3 HAP
                go_wp2_with fail
                go_roundw
                case rel => exact ⟨k + 1, safe, by omega, by go_num, rfl, by go_num, HF.out⟩
                case measure => simp [intOf]; omega
            obtain ⟨hb3, hm3⟩ := hG3.below HM.out HBr.out.size
            have hsy := HST.out hst2
            have HCR := Lib.hid (crash_end (l := l) (k := k) (safe := safe) ⟨hk, .inr ⟨s, HS.out, hJ3⟩⟩ hm3 hsafe (HBr.out.trans hb3) K1 kc1 one h1l H1I.out HK1.out)
            have hirr : ¬ (k : Int) < synced := by omega
            clear hJ3 hG3 hb3 hm3 HAP
            go_wp2_with fail
            refine HCR.out.mono ?_
        all_goals
          rintro e wA ⟨⟨v, rfl⟩, ⟨m, MA, hm1, hm2, hm3, hD, hMA⟩, hBA⟩
          have HOA := Lib.hid (open_live hD)
          have HBA := Lib.hid hBA
          have HMA := Lib.hid hMA
          have HLM : Hid ((l.take m).length = m) := Lib.hid (by rw [List.length_take]; omega)
          have i1 : ¬ (m : Int) < (safe : Int) := by omega
          have i2 : ¬ (k : Int) + 1 < (m : Int) := by omega
          have i3 : ¬ (l.length : Int) < (m : Int) := by omega
          have i4 : (m : Int) ≤ (l.length : Int) := by omega
          have i5 : (m : Int) ≤ (c : Int) := by omega
          clear hD hBA hMA HCR
          go_wp2_with fail
          refine HOA.out.mono ?_
          rintro e wB ⟨jbB, A2, c2, MB, rfl, hJB, hOB, hnB, hGB, hBB⟩
          rw [strV_back, List.length_map, HLM.out] at hOB
          rw [List.length_map, HLM.out] at hnB
          rw [List.length_map, HLM.out]
          obtain ⟨hbB, hmB⟩ := hGB.below HMA.out HBA.out.size
          have hbB2 := HBA.out.trans hbB
          have HCB := Lib.hid (crash_dlive hJB.disk K2 kc2 two h2l H2I.out (HK2.out.keepJ hbB2 hmB))
          have HOB := Lib.hid hOB
          have HNB := Lib.hid hnB
          have HBB := Lib.hid hbB2
          have HMB := Lib.hid hmB
          clear hJB hOB hnB hGB hBB hbB hbB2 hmB HOA
          go_wp2_with fail
          refine HCB.out.mono ?_
          rintro e wC ⟨⟨v2, rfl⟩, hDC, hGC⟩
          have hOC := HOB.out.keep hGC.keep (fun i e => HNB.out i e)
          obtain ⟨hbC, hmC⟩ := hGC.below HMB.out HBB.out.size
          have HOC := Lib.hid hOC
          have HBC := Lib.hid (HBB.out.trans hbC)
          have HOD := Lib.hid (open_live hDC)
          clear hDC hGC hOC hbC hmC HCB
          go_wp2_with fail
          refine HOD.out.mono ?_
          rintro e wD ⟨jbD, A3, c3, MD, rfl, hJD, hOD, _, _, hBD⟩
          rw [strV_back, List.length_map, HLM.out] at hOD
          rw [List.length_map, HLM.out]
          have hr1 := (HOC.out.below hBD).texts
          have hr2 := hOD.texts
          have hbD2 := HBC.out.trans (hBD.mono HBC.out.size)
          have hr3 := (HA.out.take m).below hbD2
          have htk : (strV l).take m = strV (l.take m) := by unfold strV; rw [List.map_take]
          rw [htk] at hr3
          have HR1 := Lib.hid hr1
          have HR2 := Lib.hid hr2
          have HR3 := Lib.hid hr3
          have HBD := Lib.hid hbD2
          have HSM2 := Lib.hid (fun A1 A2 c1 c2 W h1 h2 => same_m (l.take m) m HLM.out (by omega) A1 A2 c1 c2 W h1 h2)
          clear hJD hOD hBD hr1 hr2 hr3 hbD2 htk HOD
          go_wp2_with fail
          refine (HJS.out wD).mono ?_
          rintro e wE ⟨rfl, hBE⟩
          have HBE := Lib.hid hBE
          have HB1 := Lib.hid (HBD.out.trans (hBE.mono HBD.out.size))
          clear hBE
          go_wp2_with fail
          refine (HSM2.out _ _ _ _ _ (HR1.out.below HBE.out) (HR3.out.below HBE.out)).mono ?_
          rintro e wF ⟨rfl, n1, rfl⟩
          have HBF := Lib.hid (HBE.out.trans (below_dr (B := wD.heap.size) (Below.refl _ wE) n1))
          have HB2 := Lib.hid (HB1.out.trans (below_dr (B := w.heap.size) (Below.refl _ wE) n1))
          generalize wE.drewN n1 = wF at HBF HB2 ⊢
          go_wp2_with fail
          refine (HSM2.out _ _ _ _ _ (HR2.out.below HBF.out) (HR1.out.below HBF.out)).mono ?_
          rintro e wG ⟨rfl, n2, rfl⟩
          have HB3 := Lib.hid (HB2.out.trans (below_dr (B := w.heap.size) (Below.refl _ wF) n2))
          generalize wF.drewN n2 = wG at HB3 ⊢
          go_wp2_with fail
          go_ret
          exact ⟨rfl, HB3.out⟩
end Go.Proofs.Ythieonekjmdelaa
