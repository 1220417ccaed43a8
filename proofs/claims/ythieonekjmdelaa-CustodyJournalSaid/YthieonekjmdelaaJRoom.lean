/- The law of CustodyRoom. Conditions: the texts lie in memory. -/
import Derived.Test.YthieonekjmdelaaJSame
namespace Go.Proofs.Ythieonekjmdelaa
open Go.RowKit

theorem at_modN (m : Nat) (hm : 0 < m) (hm2 : m ≤ 100000) (sector : Int) : ∃ k : Nat, k < m ∧ wrap64 ((IntKind.u64.wrap sector).tmod (m : Int)) = (k : Int) := by
  have h0 : 0 ≤ IntKind.u64.wrap sector := by
    unfold IntKind.wrap
    exact Int.emod_nonneg _ (by decide)
  have h1 := Int.tmod_nonneg (m : Int) h0
  have h2 := Int.tmod_lt_of_pos (IntKind.u64.wrap sector) (show (0 : Int) < (m : Int) by omega)
  refine ⟨((IntKind.u64.wrap sector).tmod (m : Int)).toNat, by omega, ?_⟩
  generalize (IntKind.u64.wrap sector).tmod (m : Int) = x at h1 h2
  unfold wrap64
  omega
def strV (l : List ByteArray) : List Value := l.map Value.string
/-- What the law has between two rounds. -/
structure RoomAt (w0 w : World) (jb p N : Nat) (wv : Value) (L : List ByteArray) (left : Nat) : Prop where
  live : ∃ M, JLive M w jb p N (L.map bsOf) false ∧ (∀ i, M i → w0.heap.size ≤ i) ∧ ∀ i, wv.ownBlock = some i → ¬ M i
  want : OwnT w w0.heap.size wv (strV L)
  form : ∃ A c, wv = .slice A L.length c
  room : (encsOf (L.map bsOf)).length + 2 * left ≤ N
  below : Below w0.heap.size w0 w
set_option maxRecDepth 100000 in
set_option maxHeartbeats 2000000 in
theorem room_any (sectors : Int) (A : Option Addr) (c : Nat) (l : List ByteArray) (hl : l.length ≤ 9223372036854775807) (hls : ∀ s ∈ l, s.size ≤ 9223372036854775807) (w : World) (hA : TextsAt w A (strV l)) :
    Calls Try.prog 5 #[.int .i64 sectors, .slice A l.length c] w fun e w' => e = .returned (.bool true) ∧ Below w.heap.size w w' := by
  go_enter Try.func5, Try.ntmps5
  go_wp2_with fail
  obtain ⟨k0, hk0, hke⟩ := at_modN 2000 (by omega) (by omega) sectors
  have hke' : wrap64 ((IntKind.u64.wrap sectors).tmod 2000) = (k0 : Int) := hke
  rw [hke', show wrap64 (16 + (k0 : Int)) = ((16 + k0 : Nat) : Int) by unfold wrap64; omega]
  clear hke hke'
  generalize hN : 16 + k0 = N
  have hN1 : 16 ≤ N := by omega
  have hN2 : N ≤ 2015 := by omega
  refine (newDisk_live N (by omega) (by omega) _).mono ?_
  rintro e w1 ⟨p, M, rfl, hD, hM, hB1⟩
  have HO1 := Lib.hid (open_live hD)
  have HB1 := Lib.hid hB1
  have HM := Lib.hid hM
  clear hD hB1 hM
  go_wp2_with fail
  refine HO1.out.mono ?_
  rintro e w2 ⟨jb, A0, c0, M2, rfl, hJ, hO, _, hG, _⟩
  obtain ⟨hb, hm⟩ := hG.below HM.out HB1.out.size
  have HR : Hid (RoomAt w w2 jb p N (.slice none 0 0) [] (N / 2)) := Lib.hid ⟨⟨M2, hJ, hm, fun i hi => by simp [Value.ownBlock] at hi⟩, World.ownsRow_nil _ _ _ _, ⟨none, 0, rfl⟩, by show 0 + 2 * (N / 2) ≤ N; omega, HB1.out.trans hb⟩
  have HDIV : Hid ((N : Int) / 2 = ((N / 2 : Nat) : Int)) := Lib.hid (by omega)
  clear hJ hO hG hb hm HB1 HM HO1 hN
  go_upto_region 9 with fail
  rw [HDIV.out]
  have hH : N / 2 ≤ 2015 := by omega
  generalize N / 2 = H at HR hH ⊢
  have HJS := Lib.hid journals_any
  clear HDIV
  go_wp2_with fail
  go_loopw [11, 12, 13] (fun lf wv i wr => ∃ (k left : Nat) (L : List ByteArray), k ≤ l.length ∧ k ≤ 2000 ∧ L.length ≤ k ∧ i = .int .i64 k ∧ lf = .int .i64 left ∧ left ≤ 2015 ∧ RoomAt w wr jb p N wv L left) (fun _ _ i _ => l.length - (intOf i).toNat)
  case atStart => exact ⟨0, H, [], Nat.zero_le _, Nat.zero_le _, Nat.le_refl _, rfl, rfl, hH, HR.out⟩
  case round =>
    obtain ⟨k, left, L, hk, hk2, hLk, rfl, rfl, hleft, hR⟩ := hrel
    by_cases h1 : k < l.length ∧ k < 2000
    · obtain ⟨h1, h2⟩ := h1
      have h1i : (k : Int) < (l.length : Int) := by omega
      have h2i : (k : Int) < 2000 := by omega
      obtain ⟨s, hs⟩ : ∃ s, l[k]? = some s := ⟨_, List.getElem?_eq_getElem h1⟩
      have hss := hls s (List.mem_of_getElem? hs)
      obtain ⟨g, o, rfl, hg, hc0⟩ := hA k (.string s) (by unfold strV; rw [List.getElem?_map, hs]; rfl)
      have hc := (hR.below.cell (p := ⟨g, o + k, none⟩) hg).trans hc0
      have HC0 := Lib.hid hc0
      clear hc0
      have HRr := Lib.hid hR
      clear hs hR hA
      by_cases h3 : s.size ≤ 60000
      · have h3i : ¬ (60000 : Int) < (s.size : Int) := by omega
        by_cases h4 : 1 + s.size / 32 ≤ left
        · have h4i : ¬ (left : Int) < 1 + (s.size : Int) / 32 := by omega
          obtain ⟨M, hJ, hM, hW⟩ := HRr.out.live
          have hnb : nbOf s.size ≤ 2 * (1 + s.size / 32) := by unfold nbOf; omega
          have hroom := HRr.out.room
          have HAP := Lib.hid (append_live hJ s h3 (by omega))
          have HM := Lib.hid hM
          have HW := Lib.hid hW
          have HSUB : Hid ((left : Int) - 1 - (s.size : Int) / 32 = ((left - 1 - s.size / 32 : Nat) : Int)) := Lib.hid (by omega)
          clear hJ hM hW
          go_upto_region 15 with fail
          rw [HSUB.out]
          go_wp2_with fail
          refine HAP.out.mono ?_
          rintro e w3 (⟨rfl, M3, hJ3, hG3⟩ | ⟨_, hst, _⟩)
          rotate_left
          · cases hst
          obtain ⟨Aw, cw, rfl⟩ := HRr.out.form
          have hOw := HRr.out.want
          have hO3 := hOw.keep hG3.keep (fun i e => HW.out i e)
          have hfar : ∀ i, (Value.slice Aw L.length cw).ownBlock = some i → ¬ M3 i := fun i e => hG3.far (World.ownsRow.lt hOw i e).2 (HW.out i e)
          have hB3 := hG3.below HM.out HRr.out.below.size
          have HB3 := Lib.hid hB3.1
          have hLv : (strV L).length = L.length := by unfold strV; rw [List.length_map]
          obtain ⟨A', c', w4, hrun, hO4, hK4, hv4⟩ := append_text hO3 (by rw [hLv]; omega) (Nat.le_trans HRr.out.below.size hG3.keep.size) s
          rw [hLv] at hrun hO4 hv4
          have HF : Hid (RoomAt w w4 jb p N (.slice A' (L.length + 1) c') (L ++ [s]) (left - 1 - s.size / 32)) := Lib.hid (by
            have hkB := (HRr.out.below.trans hB3.1)
            refine ⟨⟨M3, ?_, hB3.2, fun i e => ?_⟩, ?_, ⟨A', c', by rw [List.length_append]; rfl⟩, ?_, hkB.trans (hK4.below (fun i hi e => by have := (World.ownsRow.lt hOw i e).1; omega) hkB.size)⟩
            · rw [List.map_append]
              exact hJ3.keep hK4 (fun i e1 e2 => hfar i e2 e1)
            · rcases hv4 with hv | hv
              · exact hfar i (by rw [hv]; exact e)
              · intro e2
                have := hv i e
                obtain ⟨_, _, _, _, _, _, _, hok⟩ := hJ3
                have := hok i e2
                omega
            · unfold strV at hO4 ⊢
              rw [List.map_append]
              exact hO4
            · rw [List.map_append, List.map_singleton, encsOf_snoc, List.length_append, encB_len, bsOf_len]
              omega)
          clear hOw hO3 hfar hB3 hO4 hK4 hv4 hG3 hJ3 HAP HW HM
          have hc3 := ((HRr.out.below.trans HB3.out).cell (p := ⟨g, o + k, none⟩) hg).trans HC0.out
          have hz3 : g < w3.heap.size := Nat.lt_of_lt_of_le hg (HRr.out.below.trans HB3.out).size
          go_upto_region 17 with fail
          go_wp2_with (first | (at_builtin; refine Lib.wpList_append_run _ rfl _ _ _ _ rfl _ _ rfl rfl _ _ hrun ?_))
          go_roundw
          case rel => exact ⟨k + 1, left - 1 - s.size / 32, L ++ [s], by omega, by omega, by rw [List.length_append]; exact Nat.succ_le_succ hLk, by go_num, rfl, by omega, HF.out⟩
          case measure => simp [intOf]; omega
        · have h4i : (left : Int) < 1 + (s.size : Int) / 32 := by omega
          go_wp2_with fail
          go_roundw
          case rel => exact ⟨k + 1, left, L, by omega, by omega, by omega, by go_num, rfl, hleft, HRr.out⟩
          case measure => simp [intOf]; omega
      · have h3i : (60000 : Int) < (s.size : Int) := by omega
        go_wp2_with fail
        go_roundw
        case rel => exact ⟨k + 1, left, L, by omega, by omega, by omega, by go_num, rfl, hleft, HRr.out⟩
        case measure => simp [intOf]; omega
    · have HRr := Lib.hid hR
      obtain ⟨M, hJ, hM, hW⟩ := hR.live
      have HS := Lib.hid (sync_live hJ)
      have HM := Lib.hid hM
      have HW := Lib.hid hW
      obtain ⟨Aw, cw, rfl⟩ := hR.form
      clear hJ hM hW hR hA
      by_cases h2 : k < l.length
      case' pos =>
        have h2i : (k : Int) < (l.length : Int) := by omega
        have h3i : ¬ (k : Int) < 2000 := by omega
        clear h1
        go_wp2_with fail
        refine HS.out.mono ?_
      case' neg =>
        have h2i : ¬ (k : Int) < (l.length : Int) := by omega
        clear h1
        go_wp2_with fail
        refine HS.out.mono ?_
      all_goals
        rintro e w4 (⟨rfl, hJ, hG⟩ | ⟨_, hst, _⟩)
        rotate_left
        · cases hst
        have HC := Lib.hid (crash_dlive hJ.disk none 0 [] (by decide) (by simp) (fun h => by simp at h))
        have HG := Lib.hid hG
        clear hJ hG HS
        go_wp2_with fail
        refine HC.out.mono ?_
        rintro e w5 ⟨⟨v, rfl⟩, hD, hG⟩
        have HO2 := Lib.hid (open_live hD)
        have HG5 := Lib.hid (HG.out.trans hG)
        clear hD hG HC HG
        go_wp2_with fail
        refine HO2.out.mono ?_
        rintro e w6 ⟨jb2, A2, c2, M6, rfl, hJ, hO, _, hG, hB6⟩
        have hOw6 := (HRr.out.want.keep HG5.out.keep (fun i e => HW.out i e)).below hB6
        have hb5 := (HG5.out.below HM.out HRr.out.below.size).1
        have hB6' := (HRr.out.below.trans hb5)
        have HB6 := Lib.hid (hB6'.trans (hB6.mono hB6'.size))
        have hmap : ((L.map bsOf).map sJ) = strV L := by
          unfold strV
          rw [List.map_map]
          refine List.map_congr_left (fun x _ => ?_)
          show Value.string (strOfNums (bsOf x)) = _
          rw [str_bsOf]
        rw [hmap, List.length_map] at hO
        have hLv : (strV L).length = L.length := by unfold strV; rw [List.length_map]
        have HST : Hid (∀ W, Below w6.heap.size w6 W → Calls Try.prog 19 #[.slice A2 L.length c2, .slice Aw L.length cw] W fun e w' => e = .returned (.bool true) ∧ ∃ n, w' = W.drewN n) := Lib.hid (fun W hb => by
          have := sameTexts_eq A2 Aw c2 cw (strV L) (fun x hx => by unfold strV at hx; obtain ⟨s, _, rfl⟩ := List.mem_map.1 hx; exact ⟨s, rfl⟩) (by rw [hLv]; omega) W (hO.texts.below hb) (hOw6.texts.below hb)
          rw [hLv] at this
          exact this)
        rw [List.length_map]
        clear hJ hO hG hB6 hOw6 hb5 hB6' hmap HO2
        go_wp2_with fail
        refine (HJS.out w6).mono ?_
        rintro e w7 ⟨rfl, hB7⟩
        have HB7 := Lib.hid (HB6.out.trans (hB7.mono HB6.out.size))
        have HST7 := Lib.hid (HST.out w7 hB7)
        clear hB7 HST
        go_wp2_with fail
        refine HST7.out.mono ?_
        rintro e w8 ⟨rfl, n, rfl⟩
        have HB8 := Lib.hid (HB7.out.trans (below_dr (Below.refl _ w7) n))
        go_wp2_with fail
        go_ret
        exact ⟨rfl, HB8.out⟩
end Go.Proofs.Ythieonekjmdelaa
