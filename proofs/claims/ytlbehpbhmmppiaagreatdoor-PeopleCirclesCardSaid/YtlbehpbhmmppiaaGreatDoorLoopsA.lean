/- PeopleLoops returns true for every list of entries, every day, and leaves its arguments as they were; the package variables that it names start as the program's text lays them (the card ties them). -/
import Derived.Test.YtlbehpbhmmppiaaGreatDoorAliveA
import Derived.Test.YtlbehpbhmmppiaaGreatDoorOpenA
import Derived.Test.YtlbehpbhmmppiaaGreatDoorPLoopsA
import Derived.Test.YtlbehpbhmmppiaaGreatDoorRefLoopsA
import Derived.Lib.QuietBelow
import Derived.BigQuiet
import Derived.ChangeMaps5
namespace Go.Proofs.YtlbehpbhmmppiaaGreatDoor
open Go.ChangeShapes Go.WideShapes Go.ChangeAt Go.RowKit Go.Sort

/-- The error of a day. -/
def dayErr (d : Int) : Int := if isDayB d = true then 0 else 1
set_option maxRecDepth 100000 in
set_option maxHeartbeats 2000000 in
theorem samePairsF (g1 o1 c1 g2 o2 c2 : Nat) (q : List (Int × Int)) (hq : q.length ≤ 1000) (w : World) (h1 : PairsF w g1 o1 q) (h2 : PairsF w g2 o2 q) :
    Calls Tryz.prog 9 #[.slice (some ⟨g1, o1, none⟩) q.length c1, .slice (some ⟨g2, o2, none⟩) q.length c2] w fun e w' => e = .returned (.bool true) ∧ Below w.heap.size w w' := by
  have hg1 := h1.lt
  have hg2 := h2.lt
  go_enter Tryz.func9, Tryz.ntmps9
  go_wp2_with fail
  go_loopw [5] (fun i wr => ∃ k : Nat, k ≤ q.length ∧ i = .int .i64 k ∧ (∃ n, wr = w.drewN n)) (fun i _ => q.length - (intOf i).toNat)
  case atStart => exact ⟨0, Nat.zero_le _, rfl, ⟨0, rfl⟩⟩
  case round =>
    obtain ⟨k, hk, rfl, ⟨n, rfl⟩⟩ := hrel
    by_cases hlt : k < q.length
    · obtain ⟨x, hx⟩ : ∃ x, q[k]? = some x := ⟨_, List.getElem?_eq_getElem hlt⟩
      obtain ⟨c0, c1'⟩ := h1.at' k x hx
      obtain ⟨d0, d1'⟩ := h2.at' k x hx
      have hne := neCand x x
      rw [decide_eq_true rfl] at hne
      have hng := fun a b => noGuardCand .neq a b x x
      unfold candVal at hne hng
      clear hx h1 h2
      go_wp2_with fail
      go_quiet (fail)
      go_wp2_with fail
      go_roundw
      case rel => exact ⟨k + 1, by omega, by go_num, by first | exact ⟨_, rfl⟩ | exact ⟨_, drewN_two _ _ _⟩⟩
      case measure => simp [intOf]; omega
    · go_wp2_with fail
      go_ret
      exact ⟨rfl, below_dr (Below.refl _ _) n⟩

/-- What both Loops return. -/
def LoopsPost (P : List (List (Int × Int)) → Prop) (l : List OEnt) (d : Int) (w : World) (e : Ending) (w' : World) : Prop :=
  ∃ A' c' R, e = .returned (.tuple #[.slice A' R.length c', .int .i64 (dayErr d)]) ∧ CircsAt w' A' R ∧ Hid ((isDayB d = true → AllCirc l d R) ∧ (isDayB d = false → R = [])) ∧ P R ∧ Below w.heap.size w w'
theorem loopsPost_bad {P : List (List (Int × Int)) → Prop} (hP : P []) {l : List OEnt} {d : Int} {w : World} (h : isDayB d = false) : LoopsPost P l d w (.returned (.tuple #[.slice none 0 0, .int .i64 1])) w :=
  ⟨none, 0, [], by unfold dayErr; rw [if_neg (by rw [h]; simp)]; rfl, fun k q hq => by simp at hq, Lib.hid ⟨(fun h' => by rw [h] at h'; cases h'), (fun _ => rfl)⟩, hP, Below.refl _ _⟩
theorem loopsPost_good {P : List (List (Int × Int)) → Prop} {l : List OEnt} {d : Int} {w w' : World} {e : Ending} (h : isDayB d = true) {A' : Option Addr} {c' : Nat} {R : List (List (Int × Int))} (he : e = .returned (.tuple #[.slice A' R.length c', .int .i64 0])) (hC : CircsAt w' A' R) (hA : Hid (AllCirc l d R)) (hP : P R) (hB : Below w.heap.size w w') : LoopsPost P l d w e w' :=
  ⟨A', c', R, by unfold dayErr; rw [if_pos h]; exact he, hC, Lib.hid ⟨(fun _ => hA.out), (fun h' => by rw [h] at h'; cases h')⟩, hP, hB⟩
theorem allCirc_one {l : List OEnt} {d : Int} {R S : List (List (Int × Int))} (h1 : (isDayB d = true → AllCirc l d R) ∧ (isDayB d = false → R = [])) (h2 : (isDayB d = true → AllCirc l d S) ∧ (isDayB d = false → S = [])) : R = S := by
  cases h : isDayB d
  · rw [h1.2 h, h2.2 h]
  · have a := h1.1 h
    have b := h2.1 h
    exact loops_unique a.1 b.1 (fun q => (a.2 q).trans (b.2 q).symm)
theorem allCirc_len {l : List OEnt} {d : Int} {R : List (List (Int × Int))} (h : (isDayB d = true → AllCirc l d R) ∧ (isDayB d = false → R = [])) : ∀ q, q ∈ R → q.length ≤ l.length := fun q hq => by
  cases hd : isDayB d
  · rw [h.2 hd] at hq; simp at hq
  · obtain ⟨a, ha, _⟩ := ((h.1 hd).2 q).1 hq
    have := nodup_le q (l.map (tgOf l d)) ha.nodup (fun x hx => by
      obtain ⟨y, _, hy⟩ := cyc_prev ha hx
      exact nxAt_mem hy)
    simpa using this

set_option maxRecDepth 100000 in
theorem pLoopsX (A : Option Addr) (c : Nat) (l : List OEnt) (d : Int) (hI : ∀ x ∈ l, intB x.1.place ∧ intB x.1.at') (h60 : l.length ≤ 2000000000000) (w : World) (hL : EntsLie w w.heap.size A (l.map (·.1))) :
    Calls Tryz.prog 7 #[.slice A l.length c, .int .i64 d] w fun e w' => LoopsPost (fun R => R.length ≤ l.length) l d w e w' := by
  cases hd : isDayB d
  · go_enter Tryz.func7, Tryz.ntmps7
    have HB := Lib.hid (loopsPost_bad (P := fun R => R.length ≤ l.length) (by simp) (l := l) (w := w) hd)
    have HD := Lib.hid hd
    clear hd
    go_wp2_with fail
    refine (isDay_any d _).mono ?_
    rintro e w0 ⟨rfl, rfl⟩
    rw [HD.out]
    go_wp2_with fail
    go_ret2
    exact HB.out
  · exact (pLoops_any A c l d hI h60 w hL hd).mono fun e w' ⟨A', c', R, he, hC, hA, hP, hB⟩ => loopsPost_good hd he hC hA hP hB
set_option maxRecDepth 100000 in
theorem refLoopsX (A : Option Addr) (c : Nat) (l : List OEnt) (d : Int) (h60 : l.length ≤ 60) (w : World) (hL : EntsLie w w.heap.size A (l.map (·.1))) :
    Calls Tryz.prog 8 #[.slice A l.length c, .int .i64 d] w fun e w' => LoopsPost (fun _ => True) l d w e w' := by
  cases hd : isDayB d
  · have HB := Lib.hid (loopsPost_bad (P := fun _ => True) trivial (l := l) (w := w) hd)
    have h : d < 0 ∨ (¬ d < 0 ∧ 100000 < d) := by
      unfold isDayB at hd
      simp at hd
      omega
    clear hd
    rcases h with h | ⟨h, h'⟩
    · have h1 := decide_eq_true h
      go_enter Tryz.func8, Tryz.ntmps8
      go_wp2_with fail
      go_ret2
      exact HB.out
    · have h1 := decide_eq_false h
      have h2 := decide_eq_true h'
      go_enter Tryz.func8, Tryz.ntmps8
      go_wp2_with fail
      go_ret2
      exact HB.out
  · have h : 0 ≤ d ∧ d ≤ 100000 := by
      unfold isDayB at hd
      simpa using hd
    exact (refLoops_any A c l d h60 w hL h.1 h.2).mono fun e w' ⟨A', c', R, he, hC, hA, hB⟩ => loopsPost_good hd he hC hA trivial hB

set_option maxRecDepth 100000 in
set_option maxHeartbeats 8000000 in
theorem loops_walk (A : Option Addr) (c : Nat) (l : List OEnt) (d : Int) (hI : ∀ x ∈ l, intB x.1.place ∧ intB x.1.at') (w : World) (hL : EntsLie w w.heap.size A (l.map (·.1))) (hm : MaxAt w) :
    Calls Tryz.prog 3 #[.slice A l.length c, .int .i64 d] w fun e w' => e = .returned (.bool true) ∧ Below w.heap.size w w' := by
  have H0 := Lib.hid fun W => refFew_any A l.length c W
  have H3 : Hid (∀ W, Below w.heap.size w W → _) := Lib.hid fun W (hW : Below w.heap.size w W) => alive_any W (hm.below hm.lt hW)
  by_cases h60 : l.length ≤ 60
  rotate_left
  · have HI : Hid (decide ((l.length : Int) ≤ 60) = false) := Lib.hid (decide_eq_false (by omega))
    clear hL hm hI
    go_enter Tryz.func3, Tryz.ntmps3
    go_wp2_with fail
    refine (H0.out _).mono ?_
    rintro e w0 ⟨rfl, rfl⟩
    rw [HI.out]
    go_wp2_with fail
    refine (H3.out _ (Below.refl _ _)).mono ?_
    rintro e w1 ⟨rfl, hb1⟩
    go_wp2_with fail
    go_ret
    exact ⟨rfl, hb1⟩
  · have HI : Hid (decide ((l.length : Int) ≤ 60) = true) := Lib.hid (decide_eq_true (by omega))
    have K : Hid (∀ W, Below w.heap.size w W → _) := Lib.hid fun W (hW : Below w.heap.size w W) => pLoopsX A c l d hI (by omega) W (hL.up hW hW.size)
    have J : Hid (∀ W, Below w.heap.size w W → _) := Lib.hid fun W (hW : Below w.heap.size w W) => refLoopsX A c l d h60 W (hL.up hW hW.size)
    have H60 := Lib.hid h60
    clear hL hm h60 hI
    go_enter Tryz.func3, Tryz.ntmps3
    go_wp2_with fail
    refine (H0.out _).mono ?_
    rintro e w0 ⟨rfl, rfl⟩
    rw [HI.out]
    clear HI H0
    go_wp2_with fail
    refine (K.out _ (Below.refl _ _)).mono ?_
    rintro e w1 ⟨A1, c1, R, rfl, hC1, HA1, hR60, hB1⟩
    go_wp2_with fail
    refine (J.out _ hB1).mono ?_
    rintro e w2 ⟨A2, c2, S, rfl, hC2, HA2, _, hb2⟩
    obtain rfl : R = S := allCirc_one HA1.out HA2.out
    replace hR60 : R.length ≤ 60 := Nat.le_trans hR60 H60.out
    have hC1' := hC1.up hb2
    have hB2 := hB1.trans (hb2.mono hB1.size)
    have HQL : Hid (∀ q, q ∈ R → q.length ≤ 60) := Lib.hid fun q hq => Nat.le_trans (allCirc_len HA1.out q hq) H60.out
    clear hC1 hb2 hB1 HA1 HA2 K J
    generalize dayErr d = E
    go_wp2_with fail
    go_loopw [38] (fun i wr => ∃ k : Nat, k ≤ R.length ∧ i = .int .i64 k ∧ Below w2.heap.size w2 wr) (fun i _ => R.length - (intOf i).toNat)
    case atStart => exact ⟨0, Nat.zero_le _, rfl, Below.refl _ _⟩
    case round =>
      obtain ⟨k, hk, rfl, hB⟩ := hrel
      by_cases hlt : k < R.length
      · obtain ⟨q, hq⟩ : ∃ q, R[k]? = some q := ⟨_, List.getElem?_eq_getElem hlt⟩
        obtain ⟨g1, v1, e1, z1, a1, ga, oa, ca, rfl, hPa, _⟩ := hC1'.up hB k q hq
        obtain ⟨g2, v2, e2, z2, a2, gb, ob, cb, rfl, hPb, _⟩ := hC2.up hB k q hq
        subst e1
        subst e2
        have hql := HQL.out q (List.mem_of_getElem? hq)
        have HSP : Hid (∀ W, Below wr.heap.size wr W → _) := Lib.hid fun W (hW : Below wr.heap.size wr W) => samePairsF ga oa ca gb ob cb q (by omega) W (hPa.up hW hPa.lt) (hPb.up hW hPb.lt)
        have gc0 := fun d' os => cell_regrown a1 d' os
        have gc1 := fun d' os => cell_regrown a2 d' os
        have HW : Hid (∀ d' os, Below wr.heap.size wr (grow (redrawn wr d') os)) := Lib.hid (fun d' os => below_regrown wr d' os)
        have HBW := Lib.hid hB
        clear hq hPa hPb hB hql
        go_wp2_with fail
        refine wp_region_quiet_below (by kernel_rfl) (by kernel_rfl) ?_
        repeat (go_big_quiet_step (first
          | (go_at_call 9; exact Calls.regrown_of (HSP.out _ (HW.out _ _)))))
        refine wpQuiet_nil ?_
        intro _ hw'
        obtain ⟨⟨dq, osq⟩, hw''⟩ := hw'
        subst hw''
        have hbq := HW.out dq osq
        have hBq := HBW.out.trans (hbq.mono HBW.out.size)
        clear gc0 gc1 HW hbq a1 a2 HSP HBW
        dsimp only at hBq ⊢
        generalize grow (redrawn wr dq) osq = wq at hBq ⊢
        go_wp2_with fail
        go_roundw
        case rel => exact ⟨k + 1, by omega, by go_num, hBq⟩
        case measure => simp [intOf]; omega
      · go_wp2_with fail
        refine (H3.out _ (hB2.trans (hB.mono hB2.size))).mono ?_
        rintro e w5 ⟨rfl, hb5⟩
        go_wp2_with fail
        go_ret
        exact ⟨rfl, (hB2.trans (hB.mono hB2.size)).trans (hb5.mono (hB2.trans (hB.mono hB2.size)).size)⟩
end Go.Proofs.YtlbehpbhmmppiaaGreatDoor
namespace Go.Proofs.YtlbehpbhmmppiaaGreatDoor
open Go.ChangeShapes Go.WideShapes Go.ChangeAt Go.RowKit

set_option maxRecDepth 100000 in
theorem loops_contract (H : Type) (enc : TypeId × Value → H) (W : World) (base : Nat) (args : Array Value) (ds gs : List (DataW H)) (before : List MemPlace)
    (hval : ∀ (j : Nat) t v, Tryz.f3.params[j]? = some t → args[j]? = some v → Value.okWide Tryz.prog W .any base t v)
    (hW : DataW.Whole enc Tryz.prog Tryz.f3.params.toList Rows.peopleLoopsSpec.vars false W args.toList ds gs before)
    (hsh : W.ShapedOpen Tryz.prog) :
    Calls Tryz.prog 3 args W fun e W' => ∃ v, e = .returned v ∧ Rows.peopleLoopsSpec.post enc Tryz.prog Tryz.f3 false true false false W args v W' := by
  have hW' := hW
  have hlt : ∀ p ∈ before, p.block < W.heap.size := fun p hp => hW.lt p hp
  obtain ⟨p, q, hA, hV, rfl, hfz, hnd⟩ := hW
  have hA0 : DataW.TrodAll enc Tryz.prog W 0 (fun _ => true) true [22, 3] args.toList ds p := hA
  obtain ⟨v0, vs0, d0, ds0, p0, q0, hargs, rfl, rfl, h0, r0⟩ := trodAll_cons hA0
  obtain ⟨v1, vs1, d1, ds1, p1, q1, rfl, rfl, rfl, h1, r1⟩ := trodAll_cons r0
  obtain ⟨rfl, rfl, rfl⟩ := trodAll_nil r1
  obtain rfl : args = #[v0, v1] := by cases args; simp_all
  obtain ⟨rfl, rfl⟩ := trodVars_none hV
  have hsl := slice_of_ok (hval 0 22 v0 rfl rfl)
  obtain ⟨A, c, l, rfl, hlc, hcm, hL, hgo, hd⟩ := open_ents (fun x hx => hlt x (by simp [hx])) h0 hsl
  obtain ⟨n, rfl, rfl, rfl, _⟩ := open_int Tryz.underlying3 (hval 1 3 v1 rfl rfl) h1
  obtain ⟨m, rfl⟩ := to_oents l hgo
  have hlm : (m.map (·.1)).length = m.length := List.length_map _
  have hw := loops_walk A c m n (fun x hx => ⟨(hgo x.1 (List.mem_map_of_mem hx)).2.2.2.2.1, (hgo x.1 (List.mem_map_of_mem hx)).2.2.2.2.2⟩) W hL (laysCut.s1_3 W hsh)
  rw [← hlm] at hw
  refine hw.mono fun e W' ⟨he, hb⟩ => ?_
  subst he
  exact law_post rfl (fun t ht => by
    have ht' : t ∈ [(22 : TypeId), 3] := ht
    simp at ht'
    rcases ht' with rfl | rfl
    · exact ents_readable
    · exact int_readable) rfl hW' rfl hb

theorem loops_laid_met (os : Os) : laidMetH Tryz.prog Rows.peopleLoopsRow.laid ((doorW os).forCall (fun _ _ => 0) ⟨#[], #[.slice none 0 0, .int .i64 0], []⟩).memory :=
  laidMetH_of_parts3 (fuel := 8) (laidMet_of_run' 8 (by kernel_rfl) (by kernel_rfl)) (by kernel_rfl) (by kernel_rfl)
theorem loops_reads (os : Os) {H : Type} (enc : TypeId × Value → H) : ∃ places, DataW.whole enc Tryz.prog ((doorW os).forCall (fun _ _ => 0) ⟨#[], #[.slice none 0 0, .int .i64 0], []⟩).memory Tryz.f3.params.toList Rows.peopleLoopsSpec.vars false #[Value.slice none 0 0, Value.int .i64 0].toList 8 = some ([.nil, .lit (.int .i64 0)], [], places) :=
  ⟨[], by kernel_rfl⟩

set_option maxRecDepth 100000 in
theorem loops_lifted (os : Os) (started : os.Started) (H : Type) (enc : TypeId × Value → H) (F : Stop.Interp) :
    ReturnsInHanded {} Tryz.checked os 3 .any ((OpenSpec.ofChange Rows.peopleLoopsSpec).preRow enc Tryz.prog Tryz.f3 Rows.peopleLoopsRow.domain false Rows.peopleLoopsRow.laid) (((OpenSpec.ofChange Rows.peopleLoopsSpec).at F).post enc Tryz.prog Tryz.f3 false true false false) := by
  obtain ⟨places, hx⟩ := loops_reads os enc
  refine returnsInHanded_of_row (C := Tryz.checked) (s := OpenSpec.ofChange Rows.peopleLoopsSpec) ownKnobA started (by kernel_rfl) Tryz.func3
    (witness_row_at (enc := enc) (C := Tryz.checked) false (doorW os) #[.slice none 0 0, .int .i64 0] rfl (by kernel_rfl) (by kernel_rfl) (by kernel_rfl)
      (OpenSpec.preRow_of_cond 8 hx (by kernel_rfl) (fun k hk => by cases hk) (by kernel_rfl) (loops_laid_met os))) ?_
  intro W base args ds gs before hval hW _ _ _ _ hsh _
  exact loops_contract H enc W base args ds gs before hval hW hsh

theorem loops_said : Rows.PeopleLoopsSaid :=
  OpenClaim.holds_of_cond 3 Tryz.f3 rfl rfl rfl rfl rfl rfl rfl ⟨rfl, rfl, rfl, rfl, rfl⟩ rfl rfl rfl rfl rfl (by kernel_rfl) Tryz.func3 (by kernel_rfl)
    (of_decide_eq_true (by kernel_rfl)) (by unfold Func.isWrapper; first | (rw [if_pos (by decide +kernel)]; kernel_rfl) | (rw [if_neg (by decide +kernel)]; exact ⟨rfl, rfl⟩))
    (fun os started H enc _ F => by rw [OpenClaim.pre_eq_preRow]; exact loops_lifted os started H enc F)

theorem loops_plain (f : FuncId) (fn : Func) (hf : Tryz.pinned.checked.prog.funcNamed "restante/restantelaw03.PeopleLoops" = some f) (hfn : Tryz.pinned.checked.prog.funcs[f]? = some fn) :
    true = Tryz.pinned.checked.prog.looks [] ∧ ∀ (j : Nat) t, fn.params[j]? = some t → Tryz.pinned.checked.prog.wantsStandIn t = false := by
  obtain rfl : f = 3 := Option.some.inj ((show Tryz.prog.funcNamed "restante/restantelaw03.PeopleLoops" = some 3 by kernel_rfl).symm.trans hf) |>.symm
  obtain rfl : fn = Tryz.f3 := (Option.some.inj (Tryz.func3.symm.trans hfn)).symm
  refine ⟨by kernel_rfl, fun j t ht => ?_⟩
  rw [Tryz.params3] at ht
  have ht' := Array.mem_of_getElem? ht
  simp at ht'
  rcases ht' with rfl | rfl
  · exact (show Tryz.prog.wantsStandIn 22 = false by kernel_rfl)
  · exact (show Tryz.prog.wantsStandIn 3 = false by kernel_rfl)

theorem peopleLoops_card : Rows.PeopleLoopsCardSaid :=
  Claim7.holds_tied_plain_at .later [] _ _ _ _ loops_said (fun _ h => by cases h) (by kernel_rfl) (fun _ h => by cases h) peopleLoops_row_tie rfl ⟨rfl, rfl⟩ (by kernel_rfl) rfl loops_plain (by kernel_rfl)
#print axioms peopleLoops_card
end Go.Proofs.YtlbehpbhmmppiaaGreatDoor
