/- The contract of the reference's circle: the circle that begins with a pair and goes on from it upward, if there is one. Conditions: the list lies in memory; at most 60 entries. -/
import Derived.Test.YtlbehpbhmmppiaaGreatDoorAddPA
import Derived.Test.YtlbehpbhmmppiaaGreatDoorCircSA
import Derived.Test.YtlbehpbhmmppiaaGreatDoorRefHA
import Derived.IntWalk
namespace Go.Proofs.YtlbehpbhmmppiaaGreatDoor
open Go.RowKit Go.Shelf
attribute [local go_sem] Oper.semAt_some

/-- What circle returns: a circle from its least pair on, or none. -/
def CircR (l : List OEnt) (d : Int) (c0 : Int × Int) (ok : Bool) (q : List (Int × Int)) : Prop :=
  (ok = true → CycC (nxAt l d) q c0 ∧ ∀ x, x ∈ q → x = c0 ∨ ltC c0 x) ∧ (ok = false → ∀ Q, CanonC (nxAt l d) Q → Q[0]? ≠ some c0)
theorem nx_none {l : List OEnt} {d : Int} {c : Int × Int} (h : (hopE (l.map (·.1)) c d).1 ≠ 1) : nxAt l d c = none := by
  rw [hopE_eq] at h
  unfold nxAt
  rw [if_neg]
  intro h2
  have h0 := hop_leads h2
  rw [if_neg h0, if_pos h2] at h
  exact h rfl
theorem nx_some {l : List OEnt} {d : Int} {c : Int × Int} (h : (hopE (l.map (·.1)) c d).1 = 1) : nxAt l d c = some (hopE (l.map (·.1)) c d).2.2.2.1 := by
  rw [hopE_eq] at h ⊢
  unfold nxAt
  by_cases h0 : (hopAt l d c).1.1 = 0
  · rw [if_pos h0] at h; cases h
  · rw [if_neg h0] at h ⊢
    by_cases h2 : (hopAt l d c).2 = true
    · rw [if_pos h2, if_pos h2]
      rfl
    · rw [if_neg h2] at h; simp at h

/-- A new block of one pair is a slice of one pair of the call's own. -/
theorem ownC_one {w : World} {g : Nat} {x : Int × Int} (h : w.heap[g]? = some (.cells #[.int .i64 x.1, .int .i64 x.2] 33 (0, 0))) : OwnC w g (.slice (some ⟨g, 0, none⟩) 1 1) [x] := by
  refine ⟨rfl, .inr ⟨g, 1, _, rfl, Nat.le_refl _, h, Nat.le_refl _, by unfold maxLen; omega, rfl, rfl⟩⟩
theorem ownC_last {w : World} {base g k c : Nat} {q : List (Int × Int)} {x : Int × Int} (h : OwnC w base (.slice (some ⟨g, 0, none⟩) (k + 1) c) (q ++ [x])) (hq : q.length = k) : g < w.heap.size ∧ w.cell? ⟨g, k * 2, none⟩ = some (.int .i64 x.1) ∧ w.cell? ⟨g, k * 2 + 1, none⟩ = some (.int .i64 x.2) := by
  subst hq
  have hP := OwnC.from (show OwnC w base (.slice (some ⟨g, 0, none⟩) (q ++ [x]).length c) (q ++ [x]) by simpa using h)
  obtain ⟨h1, h2⟩ := hP.at' q.length x (by simp)
  simp only [Nat.zero_add] at h1 h2
  exact ⟨hP.lt, h1, h2⟩

/-- How circle ends. -/
def CircPost (l : List OEnt) (d : Int) (c0 : Int × Int) (w : World) (e : Ending) (w' : World) : Prop := ∃ A' c' q ok, e = .returned (.tuple #[.slice A' q.length c', .bool ok]) ∧ Hid (CircR l d c0 ok q) ∧ Hid (ok = true → OwnC w' w.heap.size (.slice A' q.length c') q) ∧ Below w.heap.size w w'
theorem CircPost.mk {l : List OEnt} {d : Int} {c0 : Int × Int} {w : World} {e : Ending} {w' : World} (h : ∃ A' c' q ok, e = .returned (.tuple #[.slice A' q.length c', .bool ok]) ∧ Hid (CircR l d c0 ok q) ∧ Hid (ok = true → OwnC w' w.heap.size (.slice A' q.length c') q) ∧ Below w.heap.size w w') : CircPost l d c0 w e w' := h

set_option maxRecDepth 100000 in
set_option maxHeartbeats 8000000 in
theorem refCirc_any (A : Option Addr) (c : Nat) (l : List OEnt) (d : Int) (c0 : Int × Int) (h60 : l.length ≤ 60) (w : World) (hL : EntsLie w w.heap.size A (l.map (·.1))) :
    Calls Tryz.prog 24 #[.slice A l.length c, .agg #[.int .i64 c0.1, .int .i64 c0.2], .int .i64 d] w fun e w' => CircPost l d c0 w e w' := by
  have hlm : (l.map (·.1)).length = l.length := List.length_map _
  have HH : Hid (∀ (p : Int × Int) W, Below w.heap.size w W → _) := Lib.hid fun (p : Int × Int) W (hW : Below w.heap.size w W) => refHop_any A c (l.map (·.1)) p d W (hL.up hW hW.size) (by rw [hlm]; unfold maxLen; omega)
  have HF := Lib.hid (fun (x y : Int × Int) W => refFirst_any x y W)
  rw [hlm] at HH
  unfold hopVal candVal at HH
  clear hL hlm
  go_enter Tryz.func24, Tryz.ntmps24
  go_wp2_with fail
  have hB0 : Below w.heap.size w ((w.alloc (.cells #[.int .i64 c0.1, .int .i64 c0.2] 33)).alloc (.cells #[.int .i64 c0.1, .int .i64 c0.2] 33)) := below_al (below_al (Below.refl _ _) _) _
  have kC0 : Blk ((w.alloc (.cells #[.int .i64 c0.1, .int .i64 c0.2] 33)).alloc (.cells #[.int .i64 c0.1, .int .i64 c0.2] 33)) w.heap.size 33 #[.int .i64 c0.1, .int .i64 c0.2] := (Blk.new w _ _).alloc _
  have hO0 : OwnC ((w.alloc (.cells #[.int .i64 c0.1, .int .i64 c0.2] 33)).alloc (.cells #[.int .i64 c0.1, .int .i64 c0.2] 33)) (w.heap.size + 1) (.slice (some ⟨w.heap.size + 1, 0, none⟩) 1 1) [c0] := ownC_one (at_new (by simp))
  generalize (w.alloc (.cells _ 33)).alloc (.cells _ 33) = W0 at hB0 kC0 hO0 ⊢
  go_loopw [8, 9] (fun v i wr => ∃ (k : Nat) (q : List (Int × Int)) (cc : Int × Int) (g c' : Nat), k ≤ l.length + 1 ∧ i = .int .i64 k ∧ v = .slice (some ⟨g, 0, none⟩) (k + 1) c' ∧ OwnC wr (w.heap.size + 1) (.slice (some ⟨g, 0, none⟩) (k + 1) c') (q ++ [cc]) ∧ Hid (q.length = k) ∧ Hid (RefWalk (nxAt l d) q cc c0) ∧ Below w.heap.size w wr ∧ Blk wr w.heap.size 33 #[.int .i64 c0.1, .int .i64 c0.2]) (fun _ i _ => l.length + 1 - (intOf i).toNat)
  case atStart => exact ⟨0, [], c0, w.heap.size + 1, 1, Nat.zero_le _, rfl, rfl, hO0, Lib.hid rfl, Lib.hid (refWalk_start _ _), hB0, kC0⟩
  case round =>
    clear hB0 kC0 hO0
    obtain ⟨k, q, cc, g, c', hk, rfl, rfl, hO, HQ, HW, hB, kC⟩ := hrel
    by_cases hlt : k ≤ l.length
    · obtain ⟨hgl, e0, e1⟩ := ownC_last hO HQ.out
      have hlt' : (k : Int) ≤ (l.length : Int) := by omega
      have hHH := Lib.hid (HH.out cc wr hB)
      have h1 : IntKind.i64.wrap ((k + 1 : Nat) - 1 : Int) = k := by rw [IntWalk.i64_in _ (by omega)]; omega
      obtain ⟨hv, hhv⟩ : ∃ hv, hv = hopE (l.map (·.1)) cc d := ⟨_, rfl⟩
      rw [← hhv] at hHH
      have HV := Lib.hid hhv
      clear hhv
      obtain ⟨is, hk', ⟨f1, f2⟩, ⟨t1, t2⟩, ho⟩ := hv
      dsimp only at hHH
      go_wp2_with fail
      refine hHH.out.mono ?_
      rintro e w1 ⟨rfl, hb1⟩
      have hB1 := hB.trans (hb1.mono hB.size)
      have hO1 := hO.below hb1
      have kC1 := kC.below hb1 kC.lt
      clear hb1 hB hO kC e0 e1 hgl hHH
      by_cases his : is = 1
      · subst his
        have HN : Hid (nxAt l d cc = some (t1, t2)) := Lib.hid (by
          have h := nx_some (l := l) (d := d) (c := cc) (by rw [← HV.out])
          rw [← HV.out] at h
          exact h)
        have n0 := kC1.cell 0
        have n1 := kC1.cell 1
        have zN := kC1.lt
        simp at n0 n1
        have hq2 := eqCand (t1, t2) c0
        have hq3 := fun a b => noGuardCand .eql a b (t1, t2) c0
        unfold candVal at hq2 hq3
        dsimp only at hq2 hq3
        by_cases he : (t1, t2) = c0
        · have HY : Hid (CircR l d c0 true (q ++ [cc])) := Lib.hid ⟨(fun _ => refWalk_back HW.out (by rw [HN.out, he])), (fun h => by cases h)⟩
          have HOY : Hid (OwnC w1 (w.heap.size + 1) (.slice (some ⟨g, 0, none⟩) (q ++ [cc]).length c') (q ++ [cc])) := Lib.hid (by have h := hO1; rw [← HQ.out] at h; simpa using h)
          simp only [decide_eq_true he] at hq2
          clear he
          go_wp2_with fail
          go_ret2
          refine .mk ⟨some ⟨g, 0, none⟩, c', q ++ [cc], true, by rw [List.length_append, HQ.out]; rfl, HY, Lib.hid (fun _ => ?_), below_al hB1 _⟩
          exact (HOY.out.below ((Below.refl _ w1).alloc (Nat.le_refl _) _)).mono (by omega)
        · simp only [decide_eq_false he] at hq2
          have HCF := HF
          by_cases hf : fstB (t1, t2) c0 = true
          · have HL : Hid (CircR l d c0 false []) := Lib.hid ⟨(fun h => by cases h), (fun _ => refWalk_less HW.out HN.out (fstB_iff.1 hf))⟩
            have HC1 := Lib.hid (fun W => by have h := HF.out (t1, t2) c0 W; rw [hf] at h; exact h)
            clear he hf HCF
            go_wp2_with fail
            refine (HC1.out _).mono ?_
            rintro e w2 ⟨rfl, hb2⟩
            have hB2 := (below_al hB1 _).trans (hb2.mono (below_al hB1 _).size)
            clear hb2
            go_wp2_with fail
            go_ret2
            exact .mk ⟨none, 0, [], false, rfl, HL, Lib.hid (fun h => by cases h), hB2⟩
          · have hf' : fstB (t1, t2) c0 = false := Bool.eq_false_iff.2 hf
            have HC1 := Lib.hid (fun W => by have h := HF.out (t1, t2) c0 W; rw [hf'] at h; exact h)
            have HW2 : Hid (RefWalk (nxAt l d) (q ++ [cc]) (t1, t2) c0) := Lib.hid (refWalk_on HW.out HN.out (fstB_no hf' he))
            clear he hf hf' HCF
            go_wp2_with fail
            refine (HC1.out _).mono ?_
            rintro e w2 ⟨rfl, hb2⟩
            have hBh : Below w1.heap.size w1 w2 := ((Below.refl _ w1).alloc (Nat.le_refl _) _).trans (hb2.mono (by simp))
            have hH : Blk w2 w1.heap.size 45 #[.int .u8 hk', .int .i64 f1, .int .i64 f2, .int .i64 t1, .int .i64 t2, .int .i64 ho] := (Blk.new w1 _ _).below hb2 (Blk.lt (Blk.new w1 _ _))
            have hB2 := hB1.trans (hBh.mono hB1.size)
            have hO2 := hO1.below hBh
            have kC2 := kC1.below hBh kC1.lt
            have z1 : w.heap.size + 1 ≤ w2.heap.size := kC2.lt
            obtain ⟨v', w3, hrun, hO3, hk3⟩ := append_cand (show OwnC w2 (w.heap.size + 1) (.slice (some ⟨g, 0, none⟩) (q ++ [cc]).length c') (q ++ [cc]) by have h := hO2; rw [← HQ.out] at h; simpa using h) (t1, t2) z1 (by rw [List.length_append, HQ.out]; simp; omega) 30
            have hl3 := hO3.own_lt
            have hl2 := hO2.own_lt
            obtain ⟨A3, c3, rfl⟩ := hO3.shape
            obtain ⟨g3, rfl, _⟩ := hO3.some (by simp)
            have hlen : (q ++ [cc]).length = k + 1 := by rw [List.length_append, HQ.out]; rfl
            have hlen3 : (q ++ [cc] ++ [(t1, t2)]).length = k + 1 + 1 := by rw [List.length_append, hlen]; rfl
            rw [hlen, hlen3] at hrun
            rw [hlen3] at hO3
            have HO3 := Lib.hid hO3
            have hB3 := hB2.trans (hk3.below (fun i hi h => by rw [hlen] at h; have := (hl2 i h).1; omega) hB2.size)
            have kC3 := kC2.keep hk3 (fun h => by rw [hlen] at h; have := (hl2 _ h).1; omega)
            have HQ3 : Hid ((q ++ [cc]).length = k + 1) := Lib.hid hlen
            have h0 := hH.cell 3
            have h1' := hH.cell 4
            have zH := hH.lt
            simp at h0 h1'
            clear hO3 hO2 hO1 hlen hlen3 hk3 hl3 hl2 hBh hb2 HQ HW HN hB2 kC2 kC1 n0 n1 zN hH hB1
            go_wp2_with (first | (at_builtin; refine Lib.wpList_append_run _ rfl _ _ _ _ rfl _ _ rfl rfl _ _ hrun ?_))
            go_roundw
            case rel => exact ⟨k + 1, q ++ [cc], (t1, t2), g3, c3, by omega, by go_num, rfl, HO3.out, HQ3, HW2, hB3, kC3⟩
            case measure => simp [intOf]; omega
      · have HN : Hid (nxAt l d cc = none) := Lib.hid (nx_none (by rw [← HV.out]; exact his))
        have HL : Hid (CircR l d c0 false []) := Lib.hid ⟨(fun h => by cases h), (fun _ => refWalk_stop HW.out HN.out)⟩
        have hne : (is == 1) = false := by simpa using his
        have hne2 : (is != 1) = true := by simpa using his
        go_wp2_with fail
        go_ret2
        exact .mk ⟨none, 0, [], false, rfl, HL, Lib.hid (fun h => by cases h), below_al hB1 _⟩
    · obtain rfl : k = l.length + 1 := by omega
      have HL : Hid (CircR l d c0 false []) := Lib.hid ⟨(fun h => by cases h), (fun _ => refWalk_long (T := l.map (tgOf l d)) HW.out (fun x y h => nxAt_mem h) (by rw [List.length_map, HQ.out]; omega))⟩
      have hgt : ¬ ((l.length + 1 : Nat) : Int) ≤ (l.length : Int) := by omega
      go_wp2_with fail
      go_ret2
      exact .mk ⟨none, 0, [], false, rfl, HL, Lib.hid (fun h => by cases h), hB⟩
end Go.Proofs.YtlbehpbhmmppiaaGreatDoor
