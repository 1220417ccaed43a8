/- PeopleNames returns true for every list of entries, every person, name and day, and leaves its arguments as they were; the package variables that it names start as the program's text lays them (the card ties them). -/
import Derived.Test.YtmfjmoicnddkcaaGreatDoorAliveA
import Derived.Test.YtmfjmoicnddkcaaGreatDoorOpenA
import Derived.Test.YtmfjmoicnddkcaaGreatDoorPHouseA
import Derived.Test.YtmfjmoicnddkcaaGreatDoorNamesPA
import Derived.Test.YtmfjmoicnddkcaaGreatDoorAddBA
import Derived.BigQuiet
import Derived.Lib.QuietBelow
import Derived.ChangeMaps5
namespace Go.Proofs.YtmfjmoicnddkcaaGreatDoor
open Go.ChangeShapes Go.WideShapes Go.ChangeAt Go.RowKit Go.Sort

theorem ints_eq {f : Ent → Bool} {g : Ent → Int} {L : List Ent} {q : List Int} (h : q.Pairwise (· < ·) ∧ ∀ n, n ∈ q ↔ ∃ y ∈ L, f y = true ∧ g y = n) : q = addL f g L :=
  sorted_eq (lt := (· < ·)) (fun x => by omega) (fun x y => by omega) h.1 (addL_all f g L).1 (fun z => (h.2 z).trans ((addL_all f g L).2.1 z).symm)
theorem strs_eq {f : Ent → Bool} {L : List Ent} {q : List (List UInt8)} (h : q.Pairwise (· < ·) ∧ ∀ s, s ∈ q ↔ ∃ y ∈ L, f y = true ∧ nmOf y = s) : q = (addS f (·.name) L).map (·.data.toList) := by
  refine sorted_eq (lt := (· < ·)) (fun x => List.lt_irrefl _) (fun x y h k => List.lt_irrefl _ (List.lt_trans h k)) h.1 ?_ (fun s => ?_)
  · rw [List.pairwise_map]
    exact (addS_all f (·.name) L).1
  · rw [h.2 s, List.mem_map]
    constructor
    · rintro ⟨y, hy, h1, h2⟩
      exact ⟨y.name, ((addS_all f (·.name) L).2.1 _).2 ⟨y, hy, h1, rfl⟩, h2⟩
    · rintro ⟨z, hz, rfl⟩
      obtain ⟨y, hy, h1, rfl⟩ := ((addS_all f (·.name) L).2.1 z).1 hz
      exact ⟨y, hy, h1, rfl⟩
theorem StrsAt.bytes {w : World} {A : Option Addr} {R : List ByteArray} (h : StrsAt w A (R.map (·.data.toList))) : BStrAt w A R := fun k x hx => by
  obtain ⟨g, h1, h2, h3⟩ := h k x.data.toList (by rw [List.getElem?_map, hx]; rfl)
  refine ⟨g, h1, h2, ?_⟩
  exact h3
theorem to_nents : ∀ l : List Ent, (∀ e ∈ l, goEnt e) → ∃ m : List NEnt, m.map (·.1) = l
  | [], _ => ⟨[], rfl⟩
  | e :: l, h => by
    obtain ⟨m, hm⟩ := to_nents l (fun x hx => h x (List.mem_cons_of_mem _ hx))
    have he := h e (List.mem_cons_self ..)
    exact ⟨⟨e, he.2.1, he.1⟩ :: m, by rw [List.map_cons, hm]⟩

set_option maxRecDepth 100000 in
set_option maxHeartbeats 8000000 in
theorem names_walk (A : Option Addr) (c : Nat) (l : List OEnt) (m : List NEnt) (hml : m.map (·.1) = l.map (·.1)) (p : Int) (nm : ByteArray) (d : Int) (hp : intB p) (w : World) (hL : EntsLie w w.heap.size A (l.map (·.1))) (hm : MaxAt w) :
    Calls Tryz.prog 3 #[.slice A l.length c, .int .i64 p, .string nm, .int .i64 d] w fun e w' => e = .returned (.bool true) ∧ Below w.heap.size w w' := by
  have H0 := Lib.hid fun W => refFew_any A l.length c W
  have H3 : Hid (∀ W, Below w.heap.size w W → _) := Lib.hid fun W (hW : Below w.heap.size w W) => alive_any W (hm.below hm.lt hW)
  by_cases h60 : l.length ≤ 60
  rotate_left
  · have HI : Hid (decide ((l.length : Int) ≤ 60) = false) := Lib.hid (decide_eq_false (by omega))
    clear hL hm hp hml
    go_enter Tryz.func3, Tryz.ntmps3
    go_wp2_with fail
    refine (H0.out _).mono ?_
    rintro e w0 ⟨rfl, rfl⟩
    rw [HI.out]
    go_wp2_with fail
    refine (H3.out _ (Below.refl _ _)).mono ?_
    rintro e w1 ⟨rfl, hb1⟩
    go_wp2_with fail
    go_ret
    exact ⟨rfl, hb1⟩
  · have HI : Hid (decide ((l.length : Int) ≤ 60) = true) := Lib.hid (decide_eq_true (by omega))
    have hlm : l.length ≤ maxLen := by unfold maxLen; omega
    have hle : (l.map (·.1)).length = l.length := List.length_map _
    have hgt : ∀ k (hk : k < l.length), ∃ x, (l.map (·.1))[k]? = some x := fun k hk => ⟨_, List.getElem?_eq_getElem (by rw [hle]; exact hk)⟩
    obtain ⟨PL, hPL⟩ : ∃ x, addL nameK (·.person) (l.map (·.1)) = x := ⟨_, rfl⟩
    obtain ⟨NL, hNL⟩ : ∃ x, addS (nameE p d) (·.name) (l.map (·.1)) = x := ⟨_, rfl⟩
    obtain ⟨CL, hCL⟩ : ∃ x, addL (callE nm d) (·.person) (l.map (·.1)) = x := ⟨_, rfl⟩
    have hPl : PL.length ≤ 60 := by rw [← hPL]; have := (addL_all nameK (·.person) (l.map (·.1))).2.2; omega
    have hNl : NL.length ≤ 60 := by rw [← hNL]; have := (addS_all (nameE p d) (·.name) (l.map (·.1))).2.2; omega
    have hCl : CL.length ≤ 60 := by rw [← hCL]; have := (addL_all (callE nm d) (·.person) (l.map (·.1))).2.2; omega
    have K1 : ∀ W, Below w.heap.size w W → Calls Tryz.prog 13 #[.slice A l.length c, .int .i64 p, .int .i64 d] W fun e w' => e = .returned (.bool (deadOf l d p)) ∧ Below W.heap.size W w' := fun W hW => pDead_any A c l p d hp W (hL.up hW hW.size) hlm
    have J1 : ∀ W, Below w.heap.size w W → Calls Tryz.prog 14 #[.slice A l.length c, .int .i64 p, .int .i64 d] W fun e w' => e = .returned (.bool (deadOf l d p)) ∧ Below W.heap.size W w' := fun W hW => by
      have h := refDead_any A c (l.map (·.1)) p d W (hL.up hW hW.size) (by rw [hle]; exact hlm)
      rwa [hle, deadE_eq] at h
    have K2 : ∀ W, Below w.heap.size w W → Calls Tryz.prog 16 #[.slice A l.length c] W fun e w' => ∃ A' c', e = .returned (.slice A' PL.length c') ∧ IntsAt w' A' PL ∧ Below W.heap.size W w' := fun W hW =>
      (pPersons_any A c l h60 W (hL.up hW hW.size)).mono fun _ _ ⟨A', c', q, he, hI, hq, _, hB⟩ => by
        have h1 := (ints_eq hq.out).trans hPL
        subst h1
        exact ⟨A', c', he, hI, hB⟩
    have J2 : ∀ W, Below w.heap.size w W → Calls Tryz.prog 17 #[.slice A l.length c] W fun e w' => ∃ A' c', e = .returned (.slice A' PL.length c') ∧ IntsAt w' A' PL ∧ Below W.heap.size W w' := fun W hW => by
      have h := refPersons_any A c (l.map (·.1)) W (hL.up hW hW.size) (by omega)
      rw [hle, hPL] at h
      exact h.mono fun _ _ ⟨v, he, hO, hB⟩ => by
        obtain ⟨A', c', rfl⟩ := hO.shape
        exact ⟨A', c', he, hO.at, hB⟩
    have K3 : ∀ W, Below w.heap.size w W → Calls Tryz.prog 19 #[.slice A l.length c, .int .i64 p, .int .i64 d] W fun e w' => ∃ A' c', e = .returned (.slice A' NL.length c') ∧ BStrAt w' A' NL ∧ Below W.heap.size W w' := fun W hW =>
      (pNames_any A c l m hml h60 p d W (hL.up hW hW.size)).mono fun _ _ ⟨A', c', q, he, hI, hq, _, hB⟩ => by
        have h1 := strs_eq hq.out
        rw [hNL] at h1
        subst h1
        rw [List.length_map] at he
        exact ⟨A', c', he, hI.bytes, hB⟩
    have J3 : ∀ W, Below w.heap.size w W → Calls Tryz.prog 20 #[.slice A l.length c, .int .i64 p, .int .i64 d] W fun e w' => ∃ A' c', e = .returned (.slice A' NL.length c') ∧ BStrAt w' A' NL ∧ Below W.heap.size W w' := fun W hW => by
      have h := refNames_any A c (l.map (·.1)) p d W (hL.up hW hW.size) (by omega)
      rw [hle, hNL] at h
      exact h.mono fun _ _ ⟨v, he, hO, hB⟩ => by
        obtain ⟨A', c', rfl⟩ := hO.shape
        exact ⟨A', c', he, hO.at, hB⟩
    have K4 : ∀ W, Below w.heap.size w W → Calls Tryz.prog 21 #[.slice A l.length c, .string nm, .int .i64 d] W fun e w' => ∃ A' c', e = .returned (.slice A' CL.length c') ∧ IntsAt w' A' CL ∧ Below W.heap.size W w' := fun W hW =>
      (pCalled_any A c l h60 nm d W (hL.up hW hW.size)).mono fun _ _ ⟨A', c', q, he, hI, hq, _, hB⟩ => by
        have h1 := (ints_eq hq.out).trans hCL
        subst h1
        exact ⟨A', c', he, hI, hB⟩
    have J4 : ∀ W, Below w.heap.size w W → Calls Tryz.prog 22 #[.slice A l.length c, .string nm, .int .i64 d] W fun e w' => ∃ A' c', e = .returned (.slice A' CL.length c') ∧ IntsAt w' A' CL ∧ Below W.heap.size W w' := fun W hW => by
      have h := refCalled_any A c (l.map (·.1)) nm d W (hL.up hW hW.size) (by omega)
      rw [hle, hCL] at h
      exact h.mono fun _ _ ⟨v, he, hO, hB⟩ => by
        obtain ⟨A', c', rfl⟩ := hO.shape
        exact ⟨A', c', he, hO.at, hB⟩
    have S2 := Lib.hid fun W A1 c1 A2 c2 h1 h2 => sameInts_eq A1 A2 c1 c2 PL (by omega) W h1 h2
    have S3 := Lib.hid fun W A1 c1 A2 c2 h1 h2 => sameStrings_eq A1 A2 c1 c2 NL (by omega) W h1 h2
    have S4 := Lib.hid fun W A1 c1 A2 c2 h1 h2 => sameInts_eq A1 A2 c1 c2 CL (by omega) W h1 h2
    clear hPL hNL hCL hPl hNl hCl
    generalize deadOf l d p = dd at K1 J1
    replace K1 := Lib.hid K1
    replace J1 := Lib.hid J1
    replace K2 := Lib.hid K2
    replace J2 := Lib.hid J2
    replace K3 := Lib.hid K3
    replace J3 := Lib.hid J3
    replace K4 := Lib.hid K4
    replace J4 := Lib.hid J4
    have HG := Lib.hid hgt
    clear hm hp hml hlm hle hgt
    go_enter Tryz.func3, Tryz.ntmps3
    go_wp2_with fail
    refine (H0.out _).mono ?_
    rintro e w0 ⟨rfl, rfl⟩
    rw [HI.out]
    clear HI H0
    go_wp2_with fail
    go_loopw [17] (fun i wr => ∃ k : Nat, k ≤ l.length ∧ i = .int .i64 k ∧ Below w.heap.size w wr) (fun i _ => l.length - (intOf i).toNat)
    case atStart => exact ⟨0, Nat.zero_le _, rfl, Below.refl _ _⟩
    case round =>
      obtain ⟨k, hk, rfl, hB⟩ := hrel
      by_cases hlt : k < l.length
      · obtain ⟨x, hx⟩ := HG.out k hlt
        obtain ⟨b, off, rfl, hb, c0, c1, c2, c3, c4, c5, c6, c7, c8, c9⟩ := (hL.below hB).at hx
        clear hx
        have hB1 := below_al hB (.cells (entCells x).toArray 26)
        have kX := Blk.new wr 26 (entCells x).toArray
        have HH := Lib.hid fun W => holds_any x d W
        have HR := Lib.hid fun W => refHolds_any x d W
        generalize hld x d = hh at HH HR
        unfold entVal at HH HR
        simp only [entCells] at hB1 kX
        go_upto_region 6 with fail
        generalize hgw : wr.heap.size = gw at kX ⊢
        generalize wr.alloc (.cells _ 26) = w1 at hB1 kX ⊢
        have g0 := fun d' os => cell_regrown (kX.cell 0) d' os
        have g1 := fun d' os => cell_regrown (kX.cell 1) d' os
        have g2 := fun d' os => cell_regrown (kX.cell 2) d' os
        have g3 := fun d' os => cell_regrown (kX.cell 3) d' os
        have g4 := fun d' os => cell_regrown (kX.cell 4) d' os
        have g5 := fun d' os => cell_regrown (kX.cell 5) d' os
        have g6 := fun d' os => cell_regrown (kX.cell 6) d' os
        have g7 := fun d' os => cell_regrown (kX.cell 7) d' os
        have g8 := fun d' os => cell_regrown (kX.cell 8) d' os
        have g9 := fun d' os => cell_regrown (kX.cell 9) d' os
        clear c0 c1 c2 c3 c4 c5 c6 c7 c8 c9 hb kX
        refine wp_region_quiet_below (by kernel_rfl) (by kernel_rfl) ?_
        repeat (go_big_quiet_step (first
          | (go_at_call 11; exact Calls.regrown_of (HH.out _))
          | (go_at_call 12; exact Calls.regrown_of (HR.out _))))
        refine wpQuiet_nil ?_
        intro _ hw'
        obtain ⟨⟨dq, osq⟩, hw''⟩ := hw'
        subst hw''
        have hB2 := below_two2 (below_regrown w1 dq osq) hB1
        go_wp2_with fail
        go_roundw
        case rel => exact ⟨k + 1, by omega, by go_num, hB2⟩
        case measure => simp [intOf]; omega
      · clear hL HG
        go_wp2_with fail
        refine (K1.out _ hB).mono ?_
        rintro e w1 ⟨rfl, hb1⟩
        have hB1 := hB.trans (hb1.mono hB.size)
        clear hb1 hB
        go_wp2_with fail
        refine (J1.out _ hB1).mono ?_
        rintro e w2 ⟨rfl, hb2⟩
        have hB2 := hB1.trans (hb2.mono hB1.size)
        clear hb2 hB1
        go_wp2_with fail
        refine (K2.out _ hB2).mono ?_
        rintro e w3 ⟨A3, c3, rfl, hI3, hb3⟩
        have hB3 := hB2.trans (hb3.mono hB2.size)
        clear hb3 hB2
        go_wp2_with fail
        refine (J2.out _ hB3).mono ?_
        rintro e w4 ⟨A4, c4, rfl, hI4, hb4⟩
        have hB4 := hB3.trans (hb4.mono hB3.size)
        have hs1 := Lib.hid (S2.out w4 A3 c3 A4 c4 (hI3.below hb4 (Nat.le_refl _)) hI4)
        clear hb4 hB3 hI3 hI4
        go_wp2_with fail
        refine hs1.out.mono ?_
        rintro e w5 ⟨rfl, hb5⟩
        have hB5 := hB4.trans (hb5.mono hB4.size)
        clear hb5 hB4
        go_wp2_with fail
        refine (H3.out _ hB5).mono ?_
        rintro e w6 ⟨rfl, hb6⟩
        have hB6 := hB5.trans (hb6.mono hB5.size)
        clear hb6 hB5
        go_wp2_with fail
        refine (K3.out _ hB6).mono ?_
        rintro e w7 ⟨A7, c7, rfl, hI7, hb7⟩
        have hB7 := hB6.trans (hb7.mono hB6.size)
        clear hb7 hB6
        go_wp2_with fail
        refine (J3.out _ hB7).mono ?_
        rintro e w8 ⟨A8, c8, rfl, hI8, hb8⟩
        have hB8 := hB7.trans (hb8.mono hB7.size)
        have hs3 := Lib.hid (S3.out w8 A7 c7 A8 c8 (hI7.below hb8 (Nat.le_refl _)) hI8)
        clear hb8 hB7 hI7 hI8
        go_wp2_with fail
        refine hs3.out.mono ?_
        rintro e w9 ⟨rfl, hb9⟩
        have hB9 := hB8.trans (hb9.mono hB8.size)
        clear hb9 hB8
        go_wp2_with fail
        refine (K4.out _ hB9).mono ?_
        rintro e w10 ⟨A10, c10, rfl, hI10, hb10⟩
        have hB10 := hB9.trans (hb10.mono hB9.size)
        clear hb10 hB9
        go_wp2_with fail
        refine (J4.out _ hB10).mono ?_
        rintro e w11 ⟨A11, c11, rfl, hI11, hb11⟩
        have hB11 := hB10.trans (hb11.mono hB10.size)
        have hs4 := Lib.hid (S4.out w11 A10 c10 A11 c11 (hI10.below hb11 (Nat.le_refl _)) hI11)
        clear hb11 hB10 hI10 hI11
        go_wp2_with fail
        refine hs4.out.mono ?_
        rintro e w12 ⟨rfl, hb12⟩
        go_wp2_with fail
        go_ret
        exact ⟨by first | rfl | simp, hB11.trans (hb12.mono hB11.size)⟩
end Go.Proofs.YtmfjmoicnddkcaaGreatDoor
namespace Go.Proofs.YtmfjmoicnddkcaaGreatDoor
open Go.ChangeShapes Go.WideShapes Go.ChangeAt Go.RowKit

theorem string_readable : Tryz.prog.readableRec 9 = true ∧ (9 : TypeId) < Tryz.prog.types.size := ⟨by kernel_rfl, of_decide_eq_true (by kernel_rfl)⟩
set_option maxRecDepth 100000 in
theorem names_contract (H : Type) (enc : TypeId × Value → H) (W : World) (base : Nat) (args : Array Value) (ds gs : List (DataW H)) (before : List MemPlace)
    (hval : ∀ (j : Nat) t v, Tryz.f3.params[j]? = some t → args[j]? = some v → Value.okWide Tryz.prog W .any base t v)
    (hW : DataW.Whole enc Tryz.prog Tryz.f3.params.toList Rows.peopleNamesSpec.vars false W args.toList ds gs before)
    (hsh : W.ShapedOpen Tryz.prog) :
    Calls Tryz.prog 3 args W fun e W' => ∃ v, e = .returned v ∧ Rows.peopleNamesSpec.post enc Tryz.prog Tryz.f3 false true false false W args v W' := by
  have hW' := hW
  have hlt : ∀ p ∈ before, p.block < W.heap.size := fun p hp => hW.lt p hp
  obtain ⟨p, q, hA, hV, rfl, hfz, hnd⟩ := hW
  have hA0 : DataW.TrodAll enc Tryz.prog W 0 (fun _ => true) true [22, 3, 9, 3] args.toList ds p := hA
  obtain ⟨v0, vs0, d0, ds0, p0, q0, hargs, rfl, rfl, h0, r0⟩ := trodAll_cons hA0
  obtain ⟨v1, vs1, d1, ds1, p1, q1, rfl, rfl, rfl, h1, r1⟩ := trodAll_cons r0
  obtain ⟨v2, vs2, d2, ds2, p2, q2, rfl, rfl, rfl, h2, r2⟩ := trodAll_cons r1
  obtain ⟨v3, vs3, d3, ds3, p3, q3, rfl, rfl, rfl, h3, r3⟩ := trodAll_cons r2
  obtain ⟨rfl, rfl, rfl⟩ := trodAll_nil r3
  obtain rfl : args = #[v0, v1, v2, v3] := by cases args; simp_all
  obtain ⟨rfl, rfl⟩ := trodVars_none hV
  have hsl := slice_of_ok (hval 0 22 v0 rfl rfl)
  obtain ⟨A, c, l, rfl, hlc, hcm, hL, hgo, hd⟩ := open_ents (fun x hx => hlt x (by simp [hx])) h0 hsl
  obtain ⟨n, rfl, rfl, rfl, hwn⟩ := open_int Tryz.underlying3 (hval 1 3 v1 rfl rfl) h1
  obtain ⟨nm, rfl, rfl, rfl, hnm⟩ := Go.ChangeMaps.open_string Tryz.underlying9 (hval 2 9 v2 rfl rfl) h2
  obtain ⟨d, rfl, rfl, rfl, hwd⟩ := open_int Tryz.underlying3 (hval 3 3 v3 rfl rfl) h3
  obtain ⟨m2, hm2⟩ := to_nents l hgo
  obtain ⟨m, rfl⟩ := to_oents l hgo
  have hlm : (m.map (·.1)).length = m.length := List.length_map _
  have hw := names_walk A c m m2 hm2 n nm d (isInt_wf hwn) W hL (laysCut.s1_3 W hsh)
  rw [← hlm] at hw
  refine hw.mono fun e W' ⟨he, hb⟩ => ?_
  subst he
  exact law_post rfl (fun t ht => by
    have ht' : t ∈ [(22 : TypeId), 3, 9, 3] := ht
    simp at ht'
    rcases ht' with rfl | rfl | rfl | rfl
    all_goals first
      | exact ents_readable
      | exact int_readable
      | exact string_readable) rfl hW' rfl hb

theorem names_laid_met (os : Os) : laidMetH Tryz.prog Rows.peopleNamesRow.laid ((doorW os).forCall (fun _ _ => 0) ⟨#[], #[.slice none 0 0, .int .i64 0, .string ⟨#[]⟩, .int .i64 0], []⟩).memory :=
  laidMetH_of_parts3 (fuel := 8) (laidMet_of_run' 8 (by kernel_rfl) (by kernel_rfl)) (by kernel_rfl) (by kernel_rfl)
theorem names_reads (os : Os) {H : Type} (enc : TypeId × Value → H) : ∃ places, DataW.whole enc Tryz.prog ((doorW os).forCall (fun _ _ => 0) ⟨#[], #[.slice none 0 0, .int .i64 0, .string ⟨#[]⟩, .int .i64 0], []⟩).memory Tryz.f3.params.toList Rows.peopleNamesSpec.vars false #[Value.slice none 0 0, Value.int .i64 0, Value.string ⟨#[]⟩, Value.int .i64 0].toList 8 = some ([.nil, .lit (.int .i64 0), .lit (.string []), .lit (.int .i64 0)], [], places) :=
  ⟨[], by kernel_rfl⟩

set_option maxRecDepth 100000 in
theorem names_lifted (os : Os) (started : os.Started) (H : Type) (enc : TypeId × Value → H) (F : Stop.Interp) :
    ReturnsInHanded {} Tryz.checked os 3 .any ((OpenSpec.ofChange Rows.peopleNamesSpec).preRow enc Tryz.prog Tryz.f3 Rows.peopleNamesRow.domain false Rows.peopleNamesRow.laid) (((OpenSpec.ofChange Rows.peopleNamesSpec).at F).post enc Tryz.prog Tryz.f3 false true false false) := by
  obtain ⟨places, hx⟩ := names_reads os enc
  refine returnsInHanded_of_row (C := Tryz.checked) (s := OpenSpec.ofChange Rows.peopleNamesSpec) ownKnobA started (by kernel_rfl) Tryz.func3
    (witness_row_at (enc := enc) (C := Tryz.checked) false (doorW os) #[.slice none 0 0, .int .i64 0, .string ⟨#[]⟩, .int .i64 0] rfl (by kernel_rfl) (by kernel_rfl) (by kernel_rfl)
      (OpenSpec.preRow_of_cond 8 hx (by kernel_rfl) (fun k hk => by cases hk) (by kernel_rfl) (names_laid_met os))) ?_
  intro W base args ds gs before hval hW _ _ _ _ hsh _
  exact names_contract H enc W base args ds gs before hval hW hsh

theorem names_said : Rows.PeopleNamesSaid :=
  OpenClaim.holds_of_cond 3 Tryz.f3 rfl rfl rfl rfl rfl rfl rfl ⟨rfl, rfl, rfl, rfl, rfl⟩ rfl rfl rfl rfl rfl (by kernel_rfl) Tryz.func3 (by kernel_rfl)
    (of_decide_eq_true (by kernel_rfl)) (by unfold Func.isWrapper; first | (rw [if_pos (by decide +kernel)]; kernel_rfl) | (rw [if_neg (by decide +kernel)]; exact ⟨rfl, rfl⟩))
    (fun os started H enc _ F => by rw [OpenClaim.pre_eq_preRow]; exact names_lifted os started H enc F)

theorem names_plain (f : FuncId) (fn : Func) (hf : Tryz.pinned.checked.prog.funcNamed "restante/restantelaw03.PeopleNames" = some f) (hfn : Tryz.pinned.checked.prog.funcs[f]? = some fn) :
    true = Tryz.pinned.checked.prog.looks [] ∧ ∀ (j : Nat) t, fn.params[j]? = some t → Tryz.pinned.checked.prog.wantsStandIn t = false := by
  obtain rfl : f = 3 := Option.some.inj ((show Tryz.prog.funcNamed "restante/restantelaw03.PeopleNames" = some 3 by kernel_rfl).symm.trans hf) |>.symm
  obtain rfl : fn = Tryz.f3 := (Option.some.inj (Tryz.func3.symm.trans hfn)).symm
  refine ⟨by kernel_rfl, fun j t ht => ?_⟩
  rw [Tryz.params3] at ht
  have ht' := Array.mem_of_getElem? ht
  simp at ht'
  rcases ht' with rfl | rfl | rfl | rfl
  · exact (show Tryz.prog.wantsStandIn 22 = false by kernel_rfl)
  · exact (show Tryz.prog.wantsStandIn 3 = false by kernel_rfl)
  · exact (show Tryz.prog.wantsStandIn 9 = false by kernel_rfl)
  · exact (show Tryz.prog.wantsStandIn 3 = false by kernel_rfl)

theorem peopleNames_card : Rows.PeopleNamesCardSaid :=
  Claim7.holds_tied_plain_at .later [] _ _ _ _ names_said (fun _ h => by cases h) (by kernel_rfl) (fun _ h => by cases h) peopleNames_row_tie rfl ⟨rfl, rfl⟩ (by kernel_rfl) rfl names_plain (by kernel_rfl)
#print axioms peopleNames_card
end Go.Proofs.YtmfjmoicnddkcaaGreatDoor
