/- PeopleCircles returns true for every list of entries, every pair and day, and leaves its arguments as they were; the package variables that it names start as the program's text lays them (the card ties them). -/
import Derived.Test.YtlbehpbhmmppiaaGreatDoorLoopsA
import Derived.Test.YtlbehpbhmmppiaaGreatDoorCircFolA
import Derived.Test.YtlbehpbhmmppiaaGreatDoorFolC
import Derived.Test.YtlbehpbhmmppiaaGreatDoorOpenA
import Derived.SizedLaws
namespace Go.Proofs.YtlbehpbhmmppiaaGreatDoor
open Go.ChangeShapes Go.WideShapes Go.ChangeAt Go.RowKit Go.Sort

theorem nobody {l : List OEnt} {d : Int} (h : ∀ x ∈ l, x.1.kind ≠ 7) (c : Int × Int) : refusesOf (deadOf l d) l d c 0 = false := by
  unfold refusesOf
  split
  · rfl
  · rw [Bool.eq_false_iff]
    intro h2
    obtain ⟨x, hx, _⟩ := List.any_eq_true.1 h2
    have h3 := List.mem_filter.1 hx
    have h4 := h3.2
    simp at h4
    exact h x h3.1 h4.1
theorem circs_new {w : World} {v : Value} {q : List (Int × Int)} (h : CircAt w v q) (t : TypeId) : CircsAt (w.alloc (.cells #[v] t)) (some ⟨w.heap.size, 0, none⟩) [q] := fun k r hr => by
  have hk := (List.getElem?_eq_some_iff.1 hr).1
  obtain rfl : k = 0 := by simpa using hk
  cases hr
  refine ⟨w.heap.size, v, rfl, by simp, (Blk.new w t #[v]).cell 0, h.below ((Below.refl _ w).alloc (Nat.le_refl _) _)⟩

set_option maxRecDepth 100000 in
set_option maxHeartbeats 8000000 in
theorem circles_walk (A : Option Addr) (c : Nat) (l : List OEnt) (cp : Int × Int) (d : Int) (hI : ∀ x ∈ l, intB x.1.place ∧ intB x.1.at') (hlen : l.length ≤ 2000000000000) (w : World) (hL : EntsLie w w.heap.size A (l.map (·.1))) (hm : MaxAt w) :
    Calls Tryz.prog 4 #[.slice A l.length c, candVal cp, .int .i64 d] w fun e w' => e = .returned (.bool true) ∧ Below w.heap.size w w' := by
  have H0 := Lib.hid fun W => refFew_any A l.length c W
  have H3 : Hid (∀ W, Below w.heap.size w W → _) := Lib.hid fun W (hW : Below w.heap.size w W) => alive_any W (hm.below hm.lt hW)
  have HLP : Hid (∀ W, Below w.heap.size w W → _) := Lib.hid fun W (hW : Below w.heap.size w W) => pLoopsX A c l d hI hlen W (hL.up hW hW.size)
  have HE : Hid (∀ W, Below w.heap.size w W → ∀ (k : Nat) x, (l.map (·.1))[k]? = some x → _) := Lib.hid fun W (hW : Below w.heap.size w W) (k : Nat) x (hx : (l.map (·.1))[k]? = some x) => (hL.up hW hW.size).at hx
  have HFO : Hid (l.length ≤ 60 → ∀ p W, Below w.heap.size w W → _) := Lib.hid fun h60 (p : Int × Int) W (hW : Below w.heap.size w W) => follows_any A c l d 0 p hI h60 W (hL.up hW hW.size)
  have HLEN := Lib.hid hlen
  obtain ⟨p, q⟩ := cp
  have hB0 : Below w.heap.size w (w.alloc (.cells #[.int .i64 p, .int .i64 q] 33)) := below_al (Below.refl _ _) _
  have kC := Blk.new w 33 #[.int .i64 p, .int .i64 q]
  unfold candVal at HFO ⊢
  unfold rtVal at HFO
  dsimp only
  clear hI hL hm hlen
  go_enter Tryz.func4, Tryz.ntmps4
  go_wp2_with fail
  generalize w.alloc (.cells _ 33) = w0 at hB0 kC ⊢
  refine (HLP.out _ hB0).mono ?_
  rintro e w1 ⟨A1, c1, R, rfl, hC1, HA1, hRl, hb1⟩
  have hB1 := hB0.trans (hb1.mono hB0.size)
  replace kC := Blk.below kC hb1 (Blk.lt kC)
  have HRl := Lib.hid hRl
  clear HLP hb1 hB0 hRl
  go_wp2_with fail
  refine (H0.out _).mono ?_
  rintro e w0' ⟨rfl, rfl⟩
  by_cases h60 : l.length ≤ 60
  rotate_left
  · rw [decide_eq_false (show ¬ (l.length : Int) ≤ 60 by omega)]
    clear h60
    go_wp2_with fail
    refine (H3.out _ hB1).mono ?_
    rintro e w3 ⟨rfl, hb3⟩
    go_wp2_with fail
    go_ret
    exact ⟨rfl, hB1.trans (hb3.mono hB1.size)⟩
  · rw [decide_eq_true (show (l.length : Int) ≤ 60 by omega)]
    cases hd : isDayB d
    · have hde : dayErr d = 1 := by unfold dayErr; rw [hd]; rfl
      rw [hde]
      clear hde hd h60
      go_wp2_with fail
      refine (H3.out _ hB1).mono ?_
      rintro e w3 ⟨rfl, hb3⟩
      go_wp2_with fail
      go_ret
      exact ⟨rfl, hB1.trans (hb3.mono hB1.size)⟩
    · have hde : dayErr d = 0 := by unfold dayErr; rw [hd]; rfl
      have HAC := Lib.hid (HA1.out.1 hd)
      have HQ60 : Hid ((∀ q, q ∈ R → q.length ≤ 60) ∧ R.length ≤ 60) := Lib.hid ⟨fun q hq => Nat.le_trans (allCirc_len HA1.out q hq) h60, Nat.le_trans HRl.out h60⟩
      rw [hde]
      have HF := Lib.hid (HFO.out h60)
      have H60 := Lib.hid h60
      have e0 := Blk.cell kC 0
      have e1 := Blk.cell kC 1
      have zC := Blk.lt kC
      simp at e0 e1
      clear hde hd h60 HA1 HFO HRl HLEN H0
      go_wp2_with fail
      refine (HF.out (p, q) _ hB1).mono ?_
      rintro e w2 ⟨hb2, ⟨k, ⟨f1, f2⟩, hops, back⟩, hv, x, rfl, hO, hFx, hx⟩
      dsimp only at hO hFx hx ⊢
      obtain ⟨A2, c2, rfl⟩ := hO.shape
      go_upto_region 5 with fail
      have hB2 : Below w1.heap.size w1 (w2.alloc (.cells #[.int .u8 k, .int .i64 f1, .int .i64 f2, .slice A2 hops.length c2, .int .i64 back] 36)) := (hb2.alloc hb2.size _)
      have kR := Blk.new w2 36 #[.int .u8 k, .int .i64 f1, .int .i64 f2, .slice A2 hops.length c2, .int .i64 back]
      go_cut [65] (fun s wx => s = .bool false ∧ Below w1.heap.size w1 wx)
      case first =>
        rcases hFx with ⟨rfl, hF⟩ | ⟨rfl, hr⟩
        rotate_left
        · clear kR hx
          go_wp2_with fail
          go_meet
          exact ⟨by first | rfl | simp, hB2⟩
        · have hval := hx.1 rfl
          have HEN := Lib.hid (hF.ended (Way.start l d (p, q)))
          clear hx hval
          by_cases hk6 : k = 6
          · subst hk6
            obtain ⟨i, hi0, hi, hX⟩ := circled_loop hF rfl HAC.out.2
            dsimp only at hi0 hi hX
            subst hi0
            obtain ⟨g, rfl, _, hRow⟩ := hO.row (by omega)
            have hlN : hops.length ≤ 61 := by
              have h1 := HEN.out.len
              have h2 := H60.out
              dsimp only at h1
              omega
            have HCI := Lib.hid (fun W (hW : Below w2.heap.size w2 W) => circled_any 6 (f1, f2) g c2 i hops A1 c1 R W (hRow.keep (S := fun _ => False) (Keeps.of_new hW) (fun h => h)) (hC1.up (hb2.trans (hW.mono hb2.size))) hi (by omega) (by have := HQ60.out.2; omega) (fun q hq => by have := HQ60.out.1 q hq; omega) hX)
            have q1 : ¬ (i : Int) < 0 := by omega
            have q2 : ¬ (hops.length : Int) ≤ (i : Int) := by omega
            have q3 : decide ((i : Int) < 0) = false := decide_eq_false q1
            have q4 : decide ((hops.length : Int) ≤ (i : Int)) = false := decide_eq_false q2
            have hW2 : Below w2.heap.size w2 (w2.alloc (.cells #[.int .u8 6, .int .i64 f1, .int .i64 f2, .slice (some ⟨g, 0, none⟩) hops.length c2, .int .i64 (i : Int)] 36)) := (Below.refl _ w2).alloc (Nat.le_refl _) _
            clear hX hRow hO hF
            generalize w2.alloc (.cells _ 36) = w3 at hB2 hW2 kR ⊢
            have r0 := kR.cell 0
            have r1 := kR.cell 1
            have r2 := kR.cell 2
            have r3 := kR.cell 3
            have r4 := kR.cell 4
            have zR := kR.lt
            simp at r0 r1 r2 r3 r4
            go_wp2_with fail
            refine (HCI.out _ hW2).mono ?_
            rintro e w4 ⟨rfl, hb4⟩
            have hB4 := hB2.trans (hb4.mono hB2.size)
            clear r0 r1 r2 r3 r4 zR kR
            go_wp2_with fail
            go_meet
            exact ⟨by first | rfl | simp, hB4⟩
          · have k1 : (k == 6) = false := by simpa using hk6
            generalize w2.alloc (.cells _ 36) = w3 at hB2 kR ⊢
            have r0 := kR.cell 0
            have zR := kR.lt
            simp at r0
            go_wp2_with fail
            go_meet
            exact ⟨by first | rfl | simp, hB2⟩
      case rest =>
        obtain ⟨rfl, hB3⟩ := hcut
        generalize wc = w3 at hB3 ⊢
        clear hB2 kR hFx hx hO hb2 e0 e1 zC
        have hC3 := hC1.up hB3
        have hBw := hB1.trans (hB3.mono hB1.size)
        have HEw : Hid (∀ W, Below w3.heap.size w3 W → Below w.heap.size w W) := Lib.hid fun W hW => hBw.trans (hW.mono hBw.size)
        clear hB1 hC1 hB3 hBw kC
        have h60 := H60.out
        go_wp2_with fail
        go_loopw [68] (fun i wr => ∃ k : Nat, k ≤ l.length ∧ i = .int .i64 k ∧ Hid (∀ y ∈ l.take k, y.1.kind ≠ 7) ∧ Below w3.heap.size w3 wr) (fun i _ => l.length - (intOf i).toNat)
        case atStart => exact ⟨0, Nat.zero_le _, rfl, Lib.hid (by simp), Below.refl _ _⟩
        case round =>
          obtain ⟨k, hk, rfl, HK, hB⟩ := hrel
          by_cases hlt : k < l.length
          · obtain ⟨x, hx⟩ : ∃ x, l[k]? = some x := ⟨_, List.getElem?_eq_getElem hlt⟩
            obtain ⟨b, off, rfl, hb, c0, c1', c2', c3, c4, c5, c6, c7, c8, c9⟩ := HE.out wr (HEw.out _ hB) k x.1 (by rw [List.getElem?_map, hx]; rfl)
            have HT : Hid (l.take (k + 1) = l.take k ++ [x]) := Lib.hid (by rw [List.take_add_one, hx]; rfl)
            have hBa := below_al hB (.cells #[.int .i64 x.1.day, .int .u8 x.1.kind, .int .i64 x.1.since, .int .i64 x.1.untl, .int .i64 x.1.person, .int .i64 x.1.place, .int .i64 x.1.other, .int .i64 x.1.at', .int .i64 x.1.order, .string x.1.name] 41)
            have HBa := Lib.hid hBa
            clear hx hB hBa
            by_cases h7 : x.1.kind = 7
            · rw [h7] at c1' HBa
              clear h7 HT HK
              go_wp2_with fail
              refine (H3.out _ (HEw.out _ HBa.out)).mono ?_
              rintro e w5 ⟨rfl, hb5⟩
              have hBz := (HEw.out _ HBa.out).trans (hb5.mono (HEw.out _ HBa.out).size)
              clear hb5
              go_wp2_with fail
              go_ret
              exact ⟨rfl, hBz⟩
            · have HKN : Hid (∀ y ∈ l.take (k + 1), y.1.kind ≠ 7) := Lib.hid fun y hy => by
                rw [HT.out] at hy
                rcases List.mem_append.1 hy with hy | hy
                · exact HK.out y hy
                · rw [List.mem_singleton.1 hy]; exact h7
              have k1 : (x.1.kind == 7) = false := by simpa using h7
              clear h7 HT HK
              go_wp2_with fail
              go_roundw
              case rel => exact ⟨k + 1, by omega, by go_num, HKN, HBa.out⟩
              case measure => simp [intOf]; omega
          · obtain rfl : k = l.length := by omega
            have HNB : Hid (∀ c, refusesOf (deadOf l d) l d c 0 = false) := Lib.hid (nobody (fun x hx => HK.out x (by rw [List.take_length]; exact hx)))
            have hC4 := hC3.up hB
            have hBw := HEw.out _ hB
            have HEx : Hid (∀ W, Below wr.heap.size wr W → Below w.heap.size w W) := Lib.hid fun W hW => hBw.trans (hW.mono hBw.size)
            clear HK hC3 HEw hB hBw HE
            have hR60 := HQ60.out.2
            go_wp2_with fail
            obtain ⟨wo, rfl⟩ : ∃ wo : World, wo = wr := ⟨_, rfl⟩
            go_loopw [79] (fun i wr => ∃ j : Nat, j ≤ R.length ∧ i = .int .i64 j ∧ Below wo.heap.size wo wr) (fun i _ => R.length - (intOf i).toNat)
            case atStart => exact ⟨0, Nat.zero_le _, rfl, Below.refl _ _⟩
            case round =>
              obtain ⟨j, hj, rfl, hB⟩ := hrel
              by_cases hltj : j < R.length
              · obtain ⟨q, hq⟩ : ∃ q, R[j]? = some q := ⟨_, List.getElem?_eq_getElem hltj⟩
                obtain ⟨g1, v1, e1, z1, a1, gq, oq, cq, rfl, hP, hne⟩ := hC4.up hB j q hq
                subst e1
                have hq60 := HQ60.out.1 q (List.mem_of_getElem? hq)
                have HQC := Lib.hid ((HAC.out.2 q).1 (List.mem_of_getElem? hq))
                have hBo := HEx.out _ hB
                have HBo := Lib.hid hB
                have HEy : Hid (∀ W, Below wr.heap.size wr W → Below w.heap.size w W) := Lib.hid fun W hW => hBo.trans (hW.mono hBo.size)
                have HPo := Lib.hid hP
                have HNE := Lib.hid hne
                clear hq hBo hP hne
                go_wp2_with fail
                clear a1 z1
                obtain ⟨wm, rfl⟩ : ∃ wm : World, wm = wr := ⟨_, rfl⟩
                go_loopw [85] (fun i wr => ∃ kk : Nat, kk ≤ q.length ∧ i = .int .i64 kk ∧ Below wm.heap.size wm wr) (fun i _ => q.length - (intOf i).toNat)
                case atStart => exact ⟨0, Nat.zero_le _, rfl, Below.refl _ _⟩
                case round =>
                  obtain ⟨kk, hkk, rfl, hB2⟩ := hrel
                  by_cases hltk : kk < q.length
                  · obtain ⟨x, hx⟩ : ∃ x, q[kk]? = some x := ⟨_, List.getElem?_eq_getElem hltk⟩
                    obtain ⟨y0, y1⟩ := (HPo.out.up hB2 HPo.out.lt).at' kk x hx
                    have zq := (HPo.out.up hB2 HPo.out.lt).lt
                    have HXQ := Lib.hid (List.mem_of_getElem? hx)
                    have hBa := below_al hB2 (.cells #[.int .i64 x.1, .int .i64 x.2] 33)
                    have HFW := Lib.hid (HF.out x _ (HEy.out _ hBa))
                    clear hx
                    go_wp2_with fail
                    refine HFW.out.mono ?_
                    rintro e w6 ⟨hb6, ⟨k, ⟨f1, f2⟩, hops, back⟩, hv, xx, rfl, hO, hFx, _⟩
                    dsimp only at hO hFx ⊢
                    obtain ⟨A2, c2, rfl⟩ := hO.shape
                    have hB6 := hBa.trans (hb6.mono hBa.size)
                    clear hBa hB2 y0 y1 zq HFW
                    rcases hFx with ⟨rfl, hFF⟩ | ⟨rfl, hr⟩
                    rotate_left
                    · have hB7 := below_al hB6 (.cells #[.int .u8 k, .int .i64 f1, .int .i64 f2, .slice A2 hops.length c2, .int .i64 back] 36)
                      clear hr hO hb6 hB6
                      go_wp2_with fail
                      go_roundw
                      case rel => exact ⟨kk + 1, by omega, by go_num, hB7⟩
                      case measure => simp [intOf]; omega
                    · obtain ⟨r1, r2, r3, r4⟩ := fol_circ HQC.out HXQ.out HNB.out hFF
                      dsimp only at r1 r2 r3 r4
                      subst r1
                      subst r2
                      obtain ⟨g, rfl, _, hRow⟩ := hO.row (by omega)
                      have hl1 : ((hops.length : Int) != (q.length : Int)) = false := by simp; omega
                      have hB7 := below_al hB6 (.cells #[.int .u8 6, .int .i64 f1, .int .i64 f2, .slice (some ⟨g, 0, none⟩) hops.length c2, .int .i64 0] 36)
                      have hRow7 := hRow.keep (S := fun _ => False) ((Keeps.refl _ w6).alloc (.cells #[.int .u8 6, .int .i64 f1, .int .i64 f2, .slice (some ⟨g, 0, none⟩) hops.length c2, .int .i64 0] 36)) (fun h => h)
                      have kR := Blk.new w6 36 #[.int .u8 6, .int .i64 f1, .int .i64 f2, .slice (some ⟨g, 0, none⟩) hops.length c2, .int .i64 0]
                      have HR3 := Lib.hid r3
                      have HR4 := Lib.hid r4
                      clear hRow hO hb6 hB6 hFF r3 r4
                      go_upto_region 20 with fail
                      generalize w6.alloc (.cells _ 36) = w7 at hB7 hRow7 kR ⊢
                      have r0 := kR.cell 0
                      have r1 := kR.cell 1
                      have r2 := kR.cell 2
                      have r3 := kR.cell 3
                      have r4 := kR.cell 4
                      have zR := kR.lt
                      simp at r0 r1 r2 r3 r4
                      have hB8 := below_al hB7 (.cells #[.slice (some ⟨gq, oq, none⟩) q.length cq] 30)
                      have HCI : Calls Tryz.prog 11 #[.agg #[.int .u8 6, .int .i64 f1, .int .i64 f2, .slice (some ⟨g, 0, none⟩) hops.length c2, .int .i64 0], .slice (some ⟨w7.heap.size, 0, none⟩) 1 1] (w7.alloc (.cells #[.slice (some ⟨gq, oq, none⟩) q.length cq] 30)) _ :=
                        circled_any 6 (f1, f2) g c2 0 hops (some ⟨w7.heap.size, 0, none⟩) 1 [q] _ (hRow7.keep (S := fun _ => False) ((Keeps.refl _ w7).alloc _) (fun h => h)) (circs_new ⟨gq, oq, cq, rfl, HPo.out.up hB7 HPo.out.lt, HNE.out⟩ _) (by have := HR3.out; omega) (by have := HR3.out; omega) (by simp) (fun r hr => by rw [List.mem_singleton.1 hr]; omega) HR4.out
                      have HCI' := Lib.hid HCI
                      clear hRow7 kR HCI HR3 HR4
                      go_wp2_with fail
                      refine HCI'.out.mono ?_
                      rintro e w9 ⟨rfl, hb9⟩
                      have hB9 := hB8.trans (hb9.mono hB8.size)
                      clear hb9 hB7 hB8 r0 r1 r2 r3 r4 zR HCI'
                      go_wp2_with fail
                      go_roundw
                      case rel => exact ⟨kk + 1, by omega, by go_num, hB9⟩
                      case measure => simp [intOf]; omega
                  · obtain rfl : kk = q.length := by omega
                    have hBn := HBo.out.trans (hB2.mono HBo.out.size)
                    clear hB2
                    go_wp2_with fail
                    go_roundw
                    case rel => exact ⟨j + 1, by omega, by go_num, hBn⟩
                    case measure => simp [intOf]; omega
              · go_wp2_with fail
                refine (H3.out _ (HEx.out _ hB)).mono ?_
                rintro e w5 ⟨rfl, hb5⟩
                have hBz := (HEx.out _ hB).trans (hb5.mono (HEx.out _ hB).size)
                clear hb5
                go_wp2_with fail
                go_ret
                exact ⟨rfl, hBz⟩
end Go.Proofs.YtlbehpbhmmppiaaGreatDoor
namespace Go.Proofs.YtlbehpbhmmppiaaGreatDoor
open Go.ChangeShapes Go.WideShapes Go.ChangeAt Go.RowKit

set_option maxRecDepth 100000 in
theorem circles_contract (H : Type) (enc : TypeId × Value → H) (W : World) (base : Nat) (args : Array Value) (ds gs : List (DataW H)) (before : List MemPlace)
    (hval : ∀ (j : Nat) t v, Tryz.f4.params[j]? = some t → args[j]? = some v → Value.okWide Tryz.prog W .any base t v)
    (hW : DataW.Whole enc Tryz.prog Tryz.f4.params.toList Rows.peopleCirclesSpec.vars false W args.toList ds gs before)
    (hz : ∀ xs ys, ds[0]? = some (.slice xs ys) → (xs.length + ys.length) * 88 ≤ reachBytes) (hsh : W.ShapedOpen Tryz.prog) :
    Calls Tryz.prog 4 args W fun e W' => ∃ v, e = .returned v ∧ Rows.peopleCirclesSpec.post enc Tryz.prog Tryz.f4 false true false false W args v W' := by
  have hW' := hW
  have hlt : ∀ p ∈ before, p.block < W.heap.size := fun p hp => hW.lt p hp
  obtain ⟨p, q, hA, hV, rfl, hfz, hnd⟩ := hW
  have hA0 : DataW.TrodAll enc Tryz.prog W 0 (fun _ => true) true [22, 33, 3] args.toList ds p := hA
  obtain ⟨v0, vs0, d0, ds0, p0, q0, hargs, rfl, rfl, h0, r0⟩ := trodAll_cons hA0
  obtain ⟨v1, vs1, d1, ds1, p1, q1, rfl, rfl, rfl, h1, r1⟩ := trodAll_cons r0
  obtain ⟨v2, vs2, d2, ds2, p2, q2, rfl, rfl, rfl, h2, r2⟩ := trodAll_cons r1
  obtain ⟨rfl, rfl, rfl⟩ := trodAll_nil r2
  obtain rfl : args = #[v0, v1, v2] := by cases args; simp_all
  obtain ⟨rfl, rfl⟩ := trodVars_none hV
  have hsl := slice_of_ok (hval 0 22 v0 rfl rfl)
  obtain ⟨A, c, l, rfl, hlc, hcm, hL, hgo, hd⟩ := open_ents (fun x hx => hlt x (by simp [hx])) h0 hsl
  obtain ⟨cp, rfl, _, _⟩ := cand_of_ok (hval 1 33 v1 rfl rfl) h1
  obtain ⟨d, rfl, rfl, rfl, _⟩ := open_int Tryz.underlying3 (hval 2 3 v2 rfl rfl) h2
  have hb : l.length ≤ 2000000000000 := by
    rcases hd with ⟨_, rfl⟩ | ⟨xs, ys, rfl, hx⟩
    · exact Nat.zero_le _
    · have := hz xs ys rfl
      have h1 : reachBytes ≤ 140737488355328 := by decide
      rw [← hx]
      omega
  obtain ⟨m, rfl⟩ := to_oents l hgo
  have hlm : (m.map (·.1)).length = m.length := List.length_map _
  have hw := circles_walk A c m cp d (fun x hx => ⟨(hgo x.1 (List.mem_map_of_mem hx)).2.2.2.2.1, (hgo x.1 (List.mem_map_of_mem hx)).2.2.2.2.2⟩) (by rw [← hlm]; exact hb) W hL (laysCut.s1_3 W hsh)
  rw [← hlm] at hw
  refine hw.mono fun e W' ⟨he, hb⟩ => ?_
  subst he
  exact law_post rfl (fun t ht => by
    have ht' : t ∈ [(22 : TypeId), 33, 3] := ht
    simp at ht'
    rcases ht' with rfl | rfl | rfl
    · exact ents_readable
    · exact cand_readable
    · exact int_readable) rfl hW' rfl hb

theorem circles_laid_met (os : Os) : laidMetH Tryz.prog Rows.peopleCirclesRow.laid ((doorW os).forCall (fun _ _ => 0) ⟨#[], #[.slice none 0 0, .agg #[.int .i64 0, .int .i64 0], .int .i64 0], []⟩).memory :=
  laidMetH_of_parts3 (fuel := 8) (laidMet_of_run' 8 (by kernel_rfl) (by kernel_rfl)) (by kernel_rfl) (by kernel_rfl)
theorem circles_reads (os : Os) {H : Type} (enc : TypeId × Value → H) : ∃ places, DataW.whole enc Tryz.prog ((doorW os).forCall (fun _ _ => 0) ⟨#[], #[.slice none 0 0, .agg #[.int .i64 0, .int .i64 0], .int .i64 0], []⟩).memory Tryz.f4.params.toList Rows.peopleCirclesSpec.vars false #[Value.slice none 0 0, Value.agg #[.int .i64 0, .int .i64 0], Value.int .i64 0].toList 8 = some ([.nil, .agg [.lit (.int .i64 0), .lit (.int .i64 0)], .lit (.int .i64 0)], [], places) :=
  ⟨[], by kernel_rfl⟩

set_option maxRecDepth 100000 in
theorem circles_lifted (os : Os) (started : os.Started) (H : Type) (enc : TypeId × Value → H) (F : Stop.Interp) :
    ReturnsInHanded {} Tryz.checked os 4 .any ((OpenSpec.ofChange Rows.peopleCirclesSpec).preRow enc Tryz.prog Tryz.f4 Rows.peopleCirclesRow.domain false Rows.peopleCirclesRow.laid) (((OpenSpec.ofChange Rows.peopleCirclesSpec).at F).post enc Tryz.prog Tryz.f4 false true false false) := by
  obtain ⟨places, hx⟩ := circles_reads os enc
  refine returnsInHanded_of_row (C := Tryz.checked) (s := OpenSpec.ofChange Rows.peopleCirclesSpec) ownKnobA started (by kernel_rfl) Tryz.func4
    (witness_row_at (enc := enc) (C := Tryz.checked) false (doorW os) #[.slice none 0 0, .agg #[.int .i64 0, .int .i64 0], .int .i64 0] rfl (by kernel_rfl) (by kernel_rfl) (by kernel_rfl)
      (OpenSpec.preRow_of_cond 8 hx (by kernel_rfl) (fun k hk => by cases hk) (by kernel_rfl) (circles_laid_met os))) ?_
  intro W base args ds gs before hval hW _ _ hz _ hsh _
  refine circles_contract H enc W base args ds gs before hval hW (fun xs ys h => ?_) hsh
  have := sized_slice (j := 0) (t := 22) (e := 41) (elems := xs) (spare := ys) hz rfl (List.getElem?_append_left (List.getElem?_eq_some_iff.1 h).1 |>.trans h) entsRow
  have hb : Tryz.checked.prog.bytesOf 41 = 88 := by kernel_rfl
  rw [hb] at this
  exact this

theorem circles_said : Rows.PeopleCirclesSaid :=
  OpenClaim.holds_of_cond 4 Tryz.f4 rfl rfl rfl rfl rfl rfl rfl ⟨rfl, rfl, rfl, rfl, rfl⟩ rfl rfl rfl rfl rfl (by kernel_rfl) Tryz.func4 (by kernel_rfl)
    (of_decide_eq_true (by kernel_rfl)) (by unfold Func.isWrapper; first | (rw [if_pos (by decide +kernel)]; kernel_rfl) | (rw [if_neg (by decide +kernel)]; exact ⟨rfl, rfl⟩))
    (fun os started H enc _ F => by rw [OpenClaim.pre_eq_preRow]; exact circles_lifted os started H enc F)

theorem circles_plain (f : FuncId) (fn : Func) (hf : Tryz.pinned.checked.prog.funcNamed "restante/restantelaw03.PeopleCircles" = some f) (hfn : Tryz.pinned.checked.prog.funcs[f]? = some fn) :
    true = Tryz.pinned.checked.prog.looks [] ∧ ∀ (j : Nat) t, fn.params[j]? = some t → Tryz.pinned.checked.prog.wantsStandIn t = false := by
  obtain rfl : f = 4 := Option.some.inj ((show Tryz.prog.funcNamed "restante/restantelaw03.PeopleCircles" = some 4 by kernel_rfl).symm.trans hf) |>.symm
  obtain rfl : fn = Tryz.f4 := (Option.some.inj (Tryz.func4.symm.trans hfn)).symm
  refine ⟨by kernel_rfl, fun j t ht => ?_⟩
  rw [Tryz.params4] at ht
  have ht' := Array.mem_of_getElem? ht
  simp at ht'
  rcases ht' with rfl | rfl | rfl
  · exact (show Tryz.prog.wantsStandIn 22 = false by kernel_rfl)
  · exact (show Tryz.prog.wantsStandIn 33 = false by kernel_rfl)
  · exact (show Tryz.prog.wantsStandIn 3 = false by kernel_rfl)

theorem peopleCircles_card : Rows.PeopleCirclesCardSaid :=
  Claim7.holds_tied_plain_at .later [] _ _ _ _ circles_said (fun _ h => by cases h) (by kernel_rfl) (fun _ h => by cases h) peopleCircles_row_tie rfl ⟨rfl, rfl⟩ (by kernel_rfl) rfl circles_plain (by kernel_rfl)
#print axioms peopleCircles_card
end Go.Proofs.YtlbehpbhmmppiaaGreatDoor
