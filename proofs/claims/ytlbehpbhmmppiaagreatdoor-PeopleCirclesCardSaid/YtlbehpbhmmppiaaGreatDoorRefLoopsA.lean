/- The contract of the reference's Loops: all circles of a day, each from its least pair on, in ascending order. Conditions: the list lies in memory; at most 60 entries. -/
import Derived.Test.YtlbehpbhmmppiaaGreatDoorRefCircA
import Derived.Test.YtlbehpbhmmppiaaGreatDoorPLoopsA
namespace Go.Proofs.YtlbehpbhmmppiaaGreatDoor
open Go.RowKit Go.Shelf
attribute [local go_sem] Oper.semAt_some

theorem OwnC.pairsAt {w : World} {base : Nat} {A : Option Addr} {c : Nat} {q : List (Int × Int)} (h : OwnC w base (.slice A q.length c) q) : PairsAt w A q := fun k x hx => by
  obtain ⟨g, rfl, _⟩ := h.some (fun e => by rw [e] at hx; simp at hx)
  have hP := OwnC.from h
  obtain ⟨h1, h2⟩ := hP.at' k x hx
  simp only [Nat.zero_add] at h1 h2
  exact ⟨g, rfl, hP.lt, h1, h2⟩
theorem allE_len (l : List Ent) (d : Int) (k : Nat) : (allE l d (l.take k)).length ≤ k := by
  have h1 := (allE_is l d (l.take k)).2.2
  have h2 : (l.take k).length ≤ k := by rw [List.length_take]; omega
  omega

set_option maxRecDepth 100000 in
set_option maxHeartbeats 8000000 in
theorem refLoops_any (A : Option Addr) (c : Nat) (l : List OEnt) (d : Int) (h60 : l.length ≤ 60) (w : World) (hL : EntsLie w w.heap.size A (l.map (·.1))) (hd0 : 0 ≤ d) (hd1 : d ≤ 100000) :
    Calls Tryz.prog 8 #[.slice A l.length c, .int .i64 d] w fun e w' => ∃ A' c' S, e = .returned (.tuple #[.slice A' S.length c', .int .i64 0]) ∧ CircsAt w' A' S ∧ Hid (AllCirc l d S) ∧ Below w.heap.size w w' := by
  have hlm : (l.map (·.1)).length = l.length := List.length_map _
  have HT : Hid (∀ (x : Ent) W, Below w.heap.size w W → _) := Lib.hid fun (x : Ent) W (hW : Below w.heap.size w W) => refTarget_any A c (l.map (·.1)) x d W (hL.up hW hW.size) (by rw [hlm]; unfold maxLen; omega)
  have HR : Hid (∀ (p : Int) W, Below w.heap.size w W → _) := Lib.hid fun (p : Int) W (hW : Below w.heap.size w W) => refReached_any A c (l.map (·.1)) p d W (hL.up hW hW.size) (by rw [hlm]; unfold maxLen; omega)
  have HC : Hid (∀ (p : Int × Int) W, Below w.heap.size w W → _) := Lib.hid fun (p : Int × Int) W (hW : Below w.heap.size w W) => refCirc_any A c l d p h60 W (hL.up hW hW.size)
  have HE : Hid (∀ W, Below w.heap.size w W → ∀ (k : Nat) x, (l.map (·.1))[k]? = some x → _) := Lib.hid fun W (hW : Below w.heap.size w W) (k : Nat) x (hx : (l.map (·.1))[k]? = some x) => (hL.up hW hW.size).at hx
  have HA : Hid (∀ (k : Nat) x, (l.map (·.1))[k]? = some x → _) := Lib.hid fun (k : Nat) x (hx : (l.map (·.1))[k]? = some x) => allE_next (l := l.map (·.1)) (d := d) hx
  have HS : Hid ((allE (l.map (·.1)) d (l.map (·.1))).Pairwise ltC ∧ (∀ x y, nxAt l d x = some y → y ∈ allE (l.map (·.1)) d (l.map (·.1)))) := Lib.hid ⟨(allE_is _ d _).1, fun x y hxy => targets_all (by
    unfold nxAt at hxy
    split at hxy
    · rename_i h1
      cases hxy
      exact hop_target h1
    · cases hxy)⟩
  have HZ := Lib.hid (allE_len (l.map (·.1)) d)
  have HLM := Lib.hid hlm
  rw [hlm] at HT HR
  unfold entVal candVal at HT
  unfold candVal at HR
  generalize hml : l.map (·.1) = m at *
  clear hL hlm hml
  go_enter Tryz.func8, Tryz.ntmps8
  go_wp2_with fail
  go_loopw [6, 7] (fun v i wr => ∃ (k : Nat) (q : List (Int × Int)) (A' : Option Addr) (c' : Nat), k ≤ l.length ∧ i = .int .i64 k ∧ v = .slice A' q.length c' ∧ OwnC wr w.heap.size (.slice A' q.length c') q ∧ Hid (q = allE m d (m.take k)) ∧ Below w.heap.size w wr) (fun _ i _ => l.length - (intOf i).toNat)
  case atStart => exact ⟨0, [], none, 0, Nat.zero_le _, rfl, rfl, OwnC.nil _ _, Lib.hid (by simp [allE]), Below.refl _ _⟩
  case round =>
    obtain ⟨k, q, A', c', hk, rfl, rfl, hO, HQ, hB⟩ := hrel
    by_cases hlt : k < l.length
    · obtain ⟨x, hx⟩ : ∃ x, m[k]? = some x := ⟨_, List.getElem?_eq_getElem (by rw [HLM.out]; exact hlt)⟩
      have hql : q.length ≤ 60 := by have := HZ.out k; rw [← HQ.out] at this; omega
      have HN := Lib.hid (HA.out k x hx)
      have HX := Lib.hid hx
      obtain ⟨b, off, rfl, hb, e0, e1, e2, e3, e4, e5, e6, e7, e8, e9⟩ := HE.out wr hB k x hx
      clear hx
      by_cases h5 : x.kind = 5
      · have HLD : Hid (ldE m d x = targetE m x d) := Lib.hid (by unfold ldE; rw [if_pos h5])
        have HTT := Lib.hid (HT.out x wr hB)
        rw [h5] at e1
        rw [h5] at HTT
        have H5 := Lib.hid h5
        clear h5
        obtain ⟨tv, htv⟩ : ∃ tv, tv = targetE m x d := ⟨_, rfl⟩
        rw [← htv] at HTT HLD
        rw [HLD.out] at HN
        clear htv HLD
        obtain ⟨⟨t1, t2⟩, is⟩ := tv
        dsimp only at HTT HN
        go_wp2_with fail
        refine HTT.out.mono ?_
        rintro e w1 ⟨rfl, hb1⟩
        have hB1 := hB.trans (hb1.mono hB.size)
        have hO1 := hO.below hb1
        clear hb1 hB hO HTT e0 e1 e2 e3 e4 e5 e6 e7 e8 e9 hb
        have hB2 : Below w.heap.size w (w1.alloc (.cells #[.int .i64 t1, .int .i64 t2] 33)) := below_al hB1 _
        have hO2 := hO1.below ((Below.refl _ w1).alloc (Nat.le_refl _) (.cells #[.int .i64 t1, .int .i64 t2] 33))
        cases is
        · have HN2 : Hid (q = allE m d (m.take (k + 1))) := Lib.hid (by rw [HN.out, if_neg (by simp), ← HQ.out])
          clear HN HQ
          obtain ⟨b', off', hA', hb', f0, f1, f2, f3, f4, f5, f6, f7, f8, f9⟩ := HE.out _ hB1 k x HX.out
          cases hA'
          rw [H5.out] at f1
          clear f0 f2 f3 f4 f5 f6 f7 f8 f9
          go_wp2_with fail
          go_roundw
          case rel => exact ⟨k + 1, q, A', c', by omega, by go_num, rfl, hO2, HN2, hB2⟩
          case measure => simp [intOf]; omega
        · have HN2 : Hid (addP q (t1, t2) = allE m d (m.take (k + 1))) := Lib.hid (by rw [HN.out, if_pos rfl, ← HQ.out])
          clear HN HQ
          have HAD : Hid (∀ W, OwnC W w.heap.size (.slice A' q.length c') q → _) := Lib.hid fun W (hW : OwnC W w.heap.size (.slice A' q.length c') q) => refAddP_any A' c' q (t1, t2) (by omega) W hW.pairsAt
          go_wp2_with fail
          refine (HAD.out _ hO2).mono ?_
          rintro e w3 ⟨v3, rfl, hO3, hb3⟩
          have hB3 := hB2.trans (hb3.mono hB2.size)
          replace hO3 := hO3.mono (base' := w.heap.size) hB2.size
          obtain ⟨A3, c3, rfl⟩ := hO3.shape
          clear hb3 hB2 hO2 HAD hB1 hO1
          obtain ⟨b', off', hA', hb', f0, f1, f2, f3, f4, f5, f6, f7, f8, f9⟩ := HE.out _ hB3 k x HX.out
          cases hA'
          rw [H5.out] at f1
          clear f0 f2 f3 f4 f5 f6 f7 f8 f9
          go_wp2_with fail
          go_roundw
          case rel => exact ⟨k + 1, _, A3, c3, by omega, by go_num, rfl, hO3, HN2, hB3⟩
          case measure => simp [intOf]; omega
      · have h5' : (x.kind == 5) = false := by simpa using h5
        have h5'' : decide (x.kind = 5) = false := by simpa using h5
        by_cases h4 : x.kind = 4
        · have HLD : Hid (ldE m d x = reachE m x.other d) := Lib.hid (by unfold ldE; rw [if_neg h5, if_pos h4])
          have HTT := Lib.hid (HR.out x.other wr hB)
          rw [h4] at e1
          clear h5 h5' h5'' h4
          obtain ⟨tv, htv⟩ : ∃ tv, tv = reachE m x.other d := ⟨_, rfl⟩
          rw [← htv] at HTT HLD
          rw [HLD.out] at HN
          clear htv HLD
          obtain ⟨⟨t1, t2⟩, is⟩ := tv
          dsimp only at HTT HN
          go_wp2_with fail
          refine HTT.out.mono ?_
          rintro e w1 ⟨rfl, hb1⟩
          have hB1 := hB.trans (hb1.mono hB.size)
          have hO1 := hO.below hb1
          clear hb1 hB hO HTT e0 e1 e2 e3 e4 e5 e6 e7 e8 e9 hb
          have hB2 : Below w.heap.size w (w1.alloc (.cells #[.int .i64 t1, .int .i64 t2] 33)) := below_al hB1 _
          have hO2 := hO1.below ((Below.refl _ w1).alloc (Nat.le_refl _) (.cells #[.int .i64 t1, .int .i64 t2] 33))
          cases is
          · have HN2 : Hid (q = allE m d (m.take (k + 1))) := Lib.hid (by rw [HN.out, if_neg (by simp), ← HQ.out])
            clear HN HQ
            go_wp2_with fail
            go_roundw
            case rel => exact ⟨k + 1, q, A', c', by omega, by go_num, rfl, hO2, HN2, hB2⟩
            case measure => simp [intOf]; omega
          · have HN2 : Hid (addP q (t1, t2) = allE m d (m.take (k + 1))) := Lib.hid (by rw [HN.out, if_pos rfl, ← HQ.out])
            clear HN HQ
            have HAD : Hid (∀ W, OwnC W w.heap.size (.slice A' q.length c') q → _) := Lib.hid fun W (hW : OwnC W w.heap.size (.slice A' q.length c') q) => refAddP_any A' c' q (t1, t2) (by omega) W hW.pairsAt
            go_wp2_with fail
            refine (HAD.out _ hO2).mono ?_
            rintro e w3 ⟨v3, rfl, hO3, hb3⟩
            have hB3 := hB2.trans (hb3.mono hB2.size)
            replace hO3 := hO3.mono (base' := w.heap.size) hB2.size
            obtain ⟨A3, c3, rfl⟩ := hO3.shape
            clear hb3 hB2 hO2 HAD hB1 hO1
            go_wp2_with fail
            go_roundw
            case rel => exact ⟨k + 1, _, A3, c3, by omega, by go_num, rfl, hO3, HN2, hB3⟩
            case measure => simp [intOf]; omega
        · have h4' : (x.kind == 4) = false := by simpa using h4
          have h4'' : decide (x.kind = 4) = false := by simpa using h4
          have HN2 : Hid (q = allE m d (m.take (k + 1))) := Lib.hid (by rw [HN.out, show ldE m d x = ((0, 0), false) by unfold ldE; rw [if_neg h5, if_neg h4], if_neg (by simp), ← HQ.out])
          clear h5 h4 HN HQ
          go_wp2_with fail
          go_roundw
          case rel => exact ⟨k + 1, q, A', c', by omega, by go_num, rfl, hO, HN2, hB⟩
          case measure => simp [intOf]; omega
    · obtain rfl : k = l.length := by omega
      have HQ2 : Hid (q = allE m d m) := Lib.hid (by rw [HQ.out, List.take_of_length_le (by rw [HLM.out]; exact Nat.le_refl _)])
      have hql : q.length ≤ 60 := by have := HZ.out l.length; rw [← HQ.out] at this; omega
      have hP := hO.pairsAt
      have HP0 := Lib.hid hP
      have HB0 := Lib.hid hB
      rw [← HQ2.out] at HS
      clear HQ HQ2 HA HT HR HE hO
      go_wp2_with fail
      obtain ⟨wo, rfl⟩ : ∃ wo : World, wo = wr := ⟨_, rfl⟩
      go_loopw [12, 13] (fun v i wr => ∃ (k : Nat) (vs : List Value) (S : List (List (Int × Int))) (Av : Option Addr) (cv : Nat), k ≤ q.length ∧ i = .int .i64 k ∧ v = .slice Av vs.length cv ∧ OwnQ wr wo.heap.size (.slice Av vs.length cv) vs ∧ vs.length ≤ k ∧ Hid (RefInv (nxAt l d) (q.take k) S) ∧ Hid (CircsT wr 0 vs S) ∧ PairsAt wr A' q ∧ Below w.heap.size w wr ∧ wo.heap.size ≤ wr.heap.size) (fun _ i _ => q.length - (intOf i).toNat)
      case atStart => exact ⟨0, [], [], none, 0, Nat.zero_le _, rfl, rfl, OwnQ.nil _ _, Nat.le_refl _, Lib.hid (refInv_nil _), Lib.hid ⟨rfl, fun j v q h => by simp at h⟩, hP, hB, Nat.le_refl _⟩
      case round =>
        clear hP hB
        obtain ⟨k, vs, S, Av, cv, hk, rfl, rfl, hO, hvk, HI, HCt, hP, hB, hz⟩ := hrel
        by_cases hlt : k < q.length
        · obtain ⟨x, hx⟩ : ∃ x, q[k]? = some x := ⟨_, List.getElem?_eq_getElem hlt⟩
          obtain ⟨g, hAg, hg, c0, c1⟩ := hP k x hx
          subst hAg
          have hg3 : g < wo.heap.size := by
            obtain ⟨g', e, h, _⟩ := HP0.out k x hx
            cases e
            exact h
          have HTK : Hid (q.take (k + 1) = q.take k ++ [x]) := Lib.hid (by rw [List.take_add_one, hx]; rfl)
          have HCC := Lib.hid (HC.out x wr hB)
          clear hx
          go_wp2_with fail
          refine HCC.out.mono ?_
          rintro e w1 ⟨A1, c1', q1, ok, rfl, HR1, HO1, hb1⟩
          have hB1 := hB.trans (hb1.mono hB.size)
          have hO1 := hO.below hb1
          have HC1 := Lib.hid (HCt.out.below hb1)
          have hP1 := hP.below hb1
          have hz1 : wo.heap.size ≤ w1.heap.size := Nat.le_trans hz hb1.size
          clear hb1 hB hO HCt hP hz HCC c0 c1 hg
          cases ok
          · have HI2 : Hid (RefInv (nxAt l d) (q.take (k + 1)) S) := Lib.hid (by rw [HTK.out]; exact refInv_no HI.out (HR1.out.2 rfl))
            go_wp2_with fail
            go_roundw
            case rel => exact ⟨k + 1, vs, S, Av, cv, by omega, by go_num, rfl, hO1, by omega, HI2, HC1, hP1, hB1, hz1⟩
            case measure => simp [intOf]; omega
          · obtain ⟨hcy, hmn⟩ := HR1.out.1 rfl
            have hO6 := HO1.out rfl
            have HI2 : Hid (RefInv (nxAt l d) (q.take (k + 1)) (S ++ [q1])) := Lib.hid (by
              rw [HTK.out]
              refine refInv_yes HI.out ?_ hcy hmn
              rw [← HTK.out]
              exact HS.out.1.sublist (List.take_sublist _ _))
            have HN6 := Lib.hid (CircT.of_own (hO6.mono (Nat.zero_le _)) (fun e => by have := hcy.head; rw [e] at this; cases this))
            obtain ⟨v7, w7, hrun, hO7, hk7⟩ := append_circ hO1 A1 q1.length c1' hz1 (by omega) 25
            have hcq := hO1.cells
            have hlq := hO1.own_lt
            have HC7 : Hid (CircsT w7 0 (vs ++ [.slice A1 q1.length c1']) (S ++ [q1])) := Lib.hid ((HC1.out.snoc HN6.out).keep hk7 (fun g cs hg h => by
              obtain ⟨cs', h'⟩ := hcq g hg
              rw [h] at h'
              simp at h'))
            have hzw := hB1.size
            have hB7 : Below w.heap.size w w7 := hB1.trans (hk7.below (fun i hi e => by have := (hlq i e).1; have := HB0.out.size; omega) hB1.size)
            have hP7 : PairsAt w7 (some ⟨g, 0, none⟩) q := fun j y hy => by
              obtain ⟨g', h1, h2, h3, h4⟩ := hP1 j y hy
              have hne : ¬ (Value.slice Av vs.length cv).ownBlock = some g' := fun h => by
                have h5 := (hlq g' h).1
                cases h1
                omega
              exact ⟨g', h1, Nat.lt_of_lt_of_le h2 hk7.size, (hk7.cell h2 hne).trans h3, (hk7.cell h2 hne).trans h4⟩
            have hz7 : wo.heap.size ≤ w7.heap.size := Nat.le_trans hz1 hk7.size
            obtain ⟨A7, c7, rfl⟩ := hO7.shape
            have HO7 : Hid (OwnQ w7 wo.heap.size (.slice A7 (vs ++ [Value.slice A1 q1.length c1']).length c7) (vs ++ [Value.slice A1 q1.length c1'])) := Lib.hid hO7
            have HV7 : Hid ((vs ++ [Value.slice A1 q1.length c1']).length = vs.length + 1) := Lib.hid (by simp)
            rw [HV7.out] at hrun
            clear hO7 hO1 HN6 HC1 hB1 hP1 hk7 hcq hlq hO6 HO1 hcy hmn HR1 HI hzw
            go_wp2_with (first | (at_builtin; refine Lib.wpList_append_run _ rfl _ _ _ _ rfl _ _ rfl rfl _ _ hrun ?_))
            go_roundw
            case rel => exact ⟨k + 1, _, _, A7, c7, by omega, by go_num, by rw [HV7.out], HO7.out, by rw [HV7.out]; omega, HI2, HC7, hP7, hB7, hz7⟩
            case measure => simp [intOf]; omega
        · obtain rfl : k = q.length := by omega
          have HAC : Hid (AllCirc l d S) := Lib.hid (by
            have h := HI.out
            rw [List.take_length] at h
            exact ⟨h.up, refInv_all h HS.out.2⟩)
          have HCA : Hid (CircsAt wr Av S) := Lib.hid (fun j r hr => by
            obtain ⟨v, hv⟩ : ∃ v, vs[j]? = some v := ⟨_, List.getElem?_eq_getElem (by rw [HCt.out.1]; exact (List.getElem?_eq_some_iff.1 hr).1)⟩
            obtain ⟨g, h1, h2, h3⟩ := hO.at.1 j v hv
            exact ⟨g, v, h1, h2, h3, (HCt.out.2 j v r hv hr).1⟩)
          have HSL := Lib.hid HCt.out.1
          clear hO hP HI HCt
          go_wp2_with fail
          go_ret2
          exact ⟨Av, cv, S, by rw [← HSL.out]; rfl, HCA.out, HAC, hB⟩
end Go.Proofs.YtlbehpbhmmppiaaGreatDoor
