/- PeopleStays returns true for every list of entries, every person and day, and leaves its arguments as they were; the package variables that it names start as the program's text lays them (the card ties them). -/
import Derived.Test.YtmfjmoicnddkcaaGreatDoorAliveA
import Derived.Test.YtmfjmoicnddkcaaGreatDoorOpenA
import Derived.Test.YtmfjmoicnddkcaaGreatDoorChangesB
import Derived.ChangeMaps5
namespace Go.Proofs.YtmfjmoicnddkcaaGreatDoor
open Go.ChangeShapes Go.WideShapes Go.ChangeAt Go.RowKit Go.Sort

set_option maxRecDepth 100000 in
set_option maxHeartbeats 8000000 in
theorem stays_walk (A : Option Addr) (c : Nat) (l : List OEnt) (m : List NEnt) (hml : m.map (·.1) = l.map (·.1)) (p d : Int) (hp : intB p) (w : World) (hL : EntsLie w w.heap.size A (l.map (·.1))) (hm : MaxAt w) :
    Calls Tryz.prog 7 #[.slice A l.length c, .int .i64 p, .int .i64 d] w fun e w' => e = .returned (.bool true) ∧ Below w.heap.size w w' := by
  have H0 := Lib.hid fun W => refFew_any A l.length c W
  have H3 : Hid (∀ W, Below w.heap.size w W → _) := Lib.hid fun W (hW : Below w.heap.size w W) => alive_any W (hm.below hm.lt hW)
  by_cases h60 : l.length ≤ 60
  rotate_left
  · have HI : Hid (decide ((l.length : Int) ≤ 60) = false) := Lib.hid (decide_eq_false (by omega))
    clear hL hm hp hml
    go_enter Tryz.func7, Tryz.ntmps7
    go_wp2_with fail
    refine (H0.out _).mono ?_
    rintro e w0 ⟨rfl, rfl⟩
    rw [HI.out]
    go_wp2_with fail
    refine (H3.out _ (Below.refl _ _)).mono ?_
    rintro e w1 ⟨rfl, hb1⟩
    go_wp2_with fail
    go_ret
    exact ⟨rfl, hb1⟩
  have HI : Hid (decide ((l.length : Int) ≤ 60) = true) := Lib.hid (decide_eq_true (by omega))
  by_cases hd1 : d < 1
  · clear hL hm hp hml h60
    go_enter Tryz.func7, Tryz.ntmps7
    go_wp2_with fail
    refine (H0.out _).mono ?_
    rintro e w0 ⟨rfl, rfl⟩
    rw [HI.out]
    go_wp2_with fail
    refine (H3.out _ (Below.refl _ _)).mono ?_
    rintro e w1 ⟨rfl, hb1⟩
    go_wp2_with fail
    go_ret
    exact ⟨rfl, hb1⟩
  by_cases hd2 : 100000 < d
  · clear hL hm hp hml h60
    go_enter Tryz.func7, Tryz.ntmps7
    go_wp2_with fail
    refine (H0.out _).mono ?_
    rintro e w0 ⟨rfl, rfl⟩
    rw [HI.out]
    go_wp2_with fail
    refine (H3.out _ (Below.refl _ _)).mono ?_
    rintro e w1 ⟨rfl, hb1⟩
    go_wp2_with fail
    go_ret
    exact ⟨rfl, hb1⟩
  have K : ∀ W, Below w.heap.size w W → Calls Tryz.prog 36 #[.slice A l.length c, .int .i64 p] W fun e w' => ∃ A' c', e = .returned (.slice A' (refChangesL l p).length c') ∧ IntsAt w' A' (refChangesL l p) ∧ Below W.heap.size W w' := fun W hW =>
    pChanges_any A c l m hml h60 p hp W (hL.up hW hW.size)
  have hRl := refChanges_len l p h60
  by_cases hin : d ∈ refChangesL l p
  · generalize refChangesL l p = R at *
    have KC := Lib.hid K
    have HIN := Lib.hid hin
    clear K hL hm hp hml h60 hin
    go_enter Tryz.func7, Tryz.ntmps7
    go_wp2_with fail
    refine (H0.out _).mono ?_
    rintro e w0 ⟨rfl, rfl⟩
    rw [HI.out]
    clear HI H0
    go_wp2_with fail
    refine (KC.out _ (Below.refl _ _)).mono ?_
    rintro e w1 ⟨A1, c1, rfl, hI1, hb1⟩
    go_wp2_with fail
    go_loopw [33] (fun i wr => ∃ k : Nat, k ≤ R.length ∧ i = .int .i64 k ∧ wr = w1 ∧ Hid (d ∉ R.take k)) (fun i _ => R.length - (intOf i).toNat)
    case atStart => exact ⟨0, Nat.zero_le _, rfl, rfl, Lib.hid (by simp)⟩
    case round =>
      obtain ⟨k, hk, rfl, rfl, HN⟩ := hrel
      by_cases hlt : k < R.length
      · obtain ⟨x, hx⟩ : ∃ x, R[k]? = some x := ⟨_, List.getElem?_eq_getElem hlt⟩
        obtain ⟨g, hA1, hg, c0⟩ := hI1 k x hx
        subst hA1
        have HX := Lib.hid hx
        clear hx
        by_cases hxd : x = d
        · subst hxd
          clear HX HN HIN
          go_wp2_with fail
          refine (H3.out _ hb1).mono ?_
          rintro e w2 ⟨rfl, hb2⟩
          go_wp2_with fail
          go_ret
          exact ⟨rfl, hb1.trans (hb2.mono hb1.size)⟩
        · have HN2 : Hid (d ∉ R.take (k + 1)) := Lib.hid (by
            rw [List.take_add_one, HX.out]
            simp only [Option.toList_some, List.mem_append, List.mem_singleton]
            rintro (h | h)
            · exact HN.out h
            · exact hxd h.symm)
          clear HX HN HIN
          go_wp2_with fail
          go_roundw
          case rel => exact ⟨k + 1, by omega, by go_num, by first | trivial | rfl, HN2⟩
          case measure => simp [intOf]; omega
      · obtain rfl : k = R.length := by omega
        exact absurd HIN.out (by have h := HN.out; rwa [List.take_length] at h)
  · have hdd : isDayB d = true := by unfold isDayB; simp; omega
    have hE := stays hdd hin
    have hwx : IntKind.i64.wrap (d - 1) = d - 1 := IntWalk.i64_in _ (by omega)
    unfold lookOf at hE
    simp only [Prod.mk.injEq] at hE
    obtain ⟨e1, e2, e3, e4, e5⟩ := hE
    have e4' := e4
    have e5' := e5
    have hlm : l.length ≤ maxLen := by unfold maxLen; omega
    have K1 : ∀ d W, Below w.heap.size w W → Calls Tryz.prog 13 #[.slice A l.length c, .int .i64 p, .int .i64 d] W fun e w' => e = .returned (.bool (deadOf l d p)) ∧ Below W.heap.size W w' := fun d W hW => pDead_any A c l p d hp W (hL.up hW hW.size) hlm
    have K2 : ∀ d W, Below w.heap.size w W → Calls Tryz.prog 23 #[.slice A l.length c, .int .i64 p, .int .i64 d] W fun e w' => ∃ A' c', e = .returned (.slice A' (placesE (l.map (·.1)) p d).length c') ∧ IntsAt w' A' (placesE (l.map (·.1)) p d) ∧ Below W.heap.size W w' := fun d W hW =>
      (pPlaces_any A c l h60 p d W (hL.up hW hW.size)).mono fun _ _ ⟨A', c', r, he, hI, hr, _, hB⟩ => by
        have h1 := places_eq hr.out
        rw [h1] at hI
        exact ⟨A', c', by rw [he, ← h1, List.length_map], hI, hB⟩
    have K3 : ∀ d W, Below w.heap.size w W → Calls Tryz.prog 19 #[.slice A l.length c, .int .i64 p, .int .i64 d] W fun e w' => ∃ A' c', e = .returned (.slice A' (namesL (l.map (·.1)) p d).length c') ∧ BStrAt w' A' (namesL (l.map (·.1)) p d) ∧ Below W.heap.size W w' := fun d W hW =>
      (pNames_any A c l m hml h60 p d W (hL.up hW hW.size)).mono fun _ _ ⟨A', c', q, he, hI, hq, _, hB⟩ => by
        have h1 := strs_eq hq.out
        subst h1
        rw [List.length_map] at he
        exact ⟨A', c', he, hI.bytes, hB⟩
    have K6 : ∀ d W, Below w.heap.size w W → Calls Tryz.prog 32 #[.slice A l.length c, .int .i64 p, .int .i64 d] W fun e w' => e = .returned (.tuple #[.int .i64 (homeOf (deadOf l d) l d p).1, .bool (homeOf (deadOf l d) l d p).2]) ∧ Below W.heap.size W w' := fun d W hW => pHome_any A c l p d hp W (hL.up hW hW.size) hlm
    have K7 : ∀ d W, Below w.heap.size w W → Calls Tryz.prog 34 #[.slice A l.length c, .int .i64 p, .int .i64 d] W fun e w' => e = .returned (.tuple #[.int .i64 (heirOf l d p).1, .bool (heirOf l d p).2]) ∧ Below W.heap.size W w' := fun d W hW => pHeir_any A c l p d W (hL.up hW hW.size) hlm
    have hNl : (namesL (l.map (·.1)) p d).length ≤ 60 := by have := (addS_all (nameE p d) (·.name) (l.map (·.1))).2.2; have hle : (l.map (·.1)).length = l.length := List.length_map _; unfold namesL; omega
    have hPl : (placesE (l.map (·.1)) p d).length ≤ 60 := by have := placesE_len (l.map (·.1)) p d; have hle : (l.map (·.1)).length = l.length := List.length_map _; omega
    have a1 := K1 d
    have b1 := K1 (d - 1)
    have a2 := K2 d
    have b2 := K2 (d - 1)
    have a3 := K3 d
    have b3 := K3 (d - 1)
    have a6 := K6 d
    have b6 := K6 (d - 1)
    have a7 := K7 d
    have b7 := K7 (d - 1)
    rw [e3] at b1
    rw [e2] at b2
    rw [e1] at b3
    rw [e4'] at b6
    rw [e5'] at b7
    clear K1 K2 K3 K6 K7 hL hm hp hml h60 hlm e1 e2 e3 e4 e5 e4' e5' hdd
    generalize refChangesL l p = R at *
    generalize namesL (l.map (·.1)) p d = NL at *
    generalize placesE (l.map (·.1)) p d = PL at *
    generalize homeOf (deadOf l d) l d p = home at *
    generalize heirOf l d p = heir at *
    generalize deadOf l d p = dd at *
    obtain ⟨hh, hs⟩ := home
    obtain ⟨kh, ks⟩ := heir
    dsimp only at a6 b6 a7 b7
    have S2 := Lib.hid fun W A1 c1 A2 c2 h1 h2 => sameInts_eq A1 A2 c1 c2 PL (by omega) W h1 h2
    have S3 := Lib.hid fun W A1 c1 A2 c2 h1 h2 => sameStrings_eq A1 A2 c1 c2 NL (by omega) W h1 h2
    have KC := Lib.hid K
    have HIN := Lib.hid hin
    clear K hin hNl hPl
    replace a1 := Lib.hid a1
    replace b1 := Lib.hid b1
    replace a2 := Lib.hid a2
    replace b2 := Lib.hid b2
    replace a3 := Lib.hid a3
    replace b3 := Lib.hid b3
    replace a6 := Lib.hid a6
    replace b6 := Lib.hid b6
    replace a7 := Lib.hid a7
    replace b7 := Lib.hid b7
    go_enter Tryz.func7, Tryz.ntmps7
    go_wp2_with fail
    refine (H0.out _).mono ?_
    rintro e w0 ⟨rfl, rfl⟩
    rw [HI.out]
    clear HI H0
    go_wp2_with fail
    refine (KC.out _ (Below.refl _ _)).mono ?_
    rintro e w1 ⟨A1, c1, rfl, hI1, hb1⟩
    go_wp2_with fail
    go_loopw [33] (fun i wr => ∃ k : Nat, k ≤ R.length ∧ i = .int .i64 k ∧ wr = w1) (fun i _ => R.length - (intOf i).toNat)
    case atStart => exact ⟨0, Nat.zero_le _, rfl, rfl⟩
    case round =>
      obtain ⟨k, hk, rfl, rfl⟩ := hrel
      by_cases hlt : k < R.length
      · obtain ⟨x, hx⟩ : ∃ x, R[k]? = some x := ⟨_, List.getElem?_eq_getElem hlt⟩
        obtain ⟨g, hA1, hg, c0⟩ := hI1 k x hx
        subst hA1
        have hxd : ¬ x = d := fun h => HIN.out (h ▸ List.mem_of_getElem? hx)
        clear hx HIN
        go_wp2_with fail
        go_roundw
        case rel => exact ⟨k + 1, by omega, by go_num, by first | trivial | rfl⟩
        case measure => simp [intOf]; omega
      · clear HIN hI1 KC
        go_wp2_with fail
        refine (a6.out _ hb1).mono ?_
        rintro e w2 ⟨rfl, hb2⟩
        have hB2 := hb1.trans (hb2.mono hb1.size)
        clear hb2 hb1
        go_wp2_with fail
        refine (b6.out _ hB2).mono ?_
        rintro e w3 ⟨rfl, hb3⟩
        have hB3 := hB2.trans (hb3.mono hB2.size)
        clear hb3 hB2
        go_wp2_with fail
        refine (a7.out _ hB3).mono ?_
        rintro e w4 ⟨rfl, hb4⟩
        have hB4 := hB3.trans (hb4.mono hB3.size)
        clear hb4 hB3
        go_wp2_with fail
        refine (b7.out _ hB4).mono ?_
        rintro e w5 ⟨rfl, hb5⟩
        have hB5 := hB4.trans (hb5.mono hB4.size)
        clear hb5 hB4
        go_wp2_with fail
        refine (a1.out _ hB5).mono ?_
        rintro e w6 ⟨rfl, hb6⟩
        have hB6 := hB5.trans (hb6.mono hB5.size)
        clear hb6 hB5
        go_wp2_with fail
        refine (b1.out _ hB6).mono ?_
        rintro e w7 ⟨rfl, hb7⟩
        have hB7 := hB6.trans (hb7.mono hB6.size)
        clear hb7 hB6
        go_wp2_with fail
        refine (H3.out _ hB7).mono ?_
        rintro e w8 ⟨rfl, hb8⟩
        have hB8 := hB7.trans (hb8.mono hB7.size)
        clear hb8 hB7
        go_wp2_with fail
        refine (a3.out _ hB8).mono ?_
        rintro e w9 ⟨A9, c9, rfl, hI9, hb9⟩
        have hB9 := hB8.trans (hb9.mono hB8.size)
        clear hb9 hB8
        go_wp2_with fail
        refine (b3.out _ hB9).mono ?_
        rintro e w10 ⟨A10, c10, rfl, hI10, hb10⟩
        have hB10 := hB9.trans (hb10.mono hB9.size)
        have HS := Lib.hid (S3.out w10 A9 c9 A10 c10 (hI9.below hb10 (Nat.le_refl _)) hI10)
        clear hI9 hI10
        clear hb10 hB9
        go_wp2_with fail
        refine (HS.out).mono ?_
        rintro e w11 ⟨rfl, hb11⟩
        have hB11 := hB10.trans (hb11.mono hB10.size)
        clear HS
        clear hb11 hB10
        go_wp2_with fail
        refine (a2.out _ hB11).mono ?_
        rintro e w12 ⟨A9, c9, rfl, hI9, hb12⟩
        have hB12 := hB11.trans (hb12.mono hB11.size)
        clear hb12 hB11
        go_wp2_with fail
        refine (b2.out _ hB12).mono ?_
        rintro e w13 ⟨A10, c10, rfl, hI10, hb13⟩
        have hB13 := hB12.trans (hb13.mono hB12.size)
        have HS := Lib.hid (S2.out w13 A9 c9 A10 c10 (hI9.below hb13 (Nat.le_refl _)) hI10)
        clear hI9 hI10
        clear hb13 hB12
        go_wp2_with fail
        refine (HS.out).mono ?_
        rintro e w14 ⟨rfl, hb14⟩
        have hB14 := hB13.trans (hb14.mono hB13.size)
        clear HS
        clear hb14 hB13
        go_wp2_with fail
        go_ret
        exact ⟨by first | rfl | simp, hB14⟩
end Go.Proofs.YtmfjmoicnddkcaaGreatDoor
namespace Go.Proofs.YtmfjmoicnddkcaaGreatDoor
open Go.ChangeShapes Go.WideShapes Go.ChangeAt Go.RowKit

set_option maxRecDepth 100000 in
theorem stays_contract (H : Type) (enc : TypeId × Value → H) (W : World) (base : Nat) (args : Array Value) (ds gs : List (DataW H)) (before : List MemPlace)
    (hval : ∀ (j : Nat) t v, Tryz.f7.params[j]? = some t → args[j]? = some v → Value.okWide Tryz.prog W .any base t v)
    (hW : DataW.Whole enc Tryz.prog Tryz.f7.params.toList Rows.peopleStaysSpec.vars false W args.toList ds gs before)
    (hsh : W.ShapedOpen Tryz.prog) :
    Calls Tryz.prog 7 args W fun e W' => ∃ v, e = .returned v ∧ Rows.peopleStaysSpec.post enc Tryz.prog Tryz.f7 false true false false W args v W' := by
  have hW' := hW
  have hlt : ∀ p ∈ before, p.block < W.heap.size := fun p hp => hW.lt p hp
  obtain ⟨p, q, hA, hV, rfl, hfz, hnd⟩ := hW
  have hA0 : DataW.TrodAll enc Tryz.prog W 0 (fun _ => true) true [22, 3, 3] args.toList ds p := hA
  obtain ⟨v0, vs0, d0, ds0, p0, q0, hargs, rfl, rfl, h0, r0⟩ := trodAll_cons hA0
  obtain ⟨v1, vs1, d1, ds1, p1, q1, rfl, rfl, rfl, h1, r1⟩ := trodAll_cons r0
  obtain ⟨v2, vs2, d2, ds2, p2, q2, rfl, rfl, rfl, h2, r2⟩ := trodAll_cons r1
  obtain ⟨rfl, rfl, rfl⟩ := trodAll_nil r2
  obtain rfl : args = #[v0, v1, v2] := by cases args; simp_all
  obtain ⟨rfl, rfl⟩ := trodVars_none hV
  have hsl := slice_of_ok (hval 0 22 v0 rfl rfl)
  obtain ⟨A, c, l, rfl, hlc, hcm, hL, hgo, hd⟩ := open_ents (fun x hx => hlt x (by simp [hx])) h0 hsl
  obtain ⟨n, rfl, rfl, rfl, hwn⟩ := open_int Tryz.underlying3 (hval 1 3 v1 rfl rfl) h1
  obtain ⟨d, rfl, rfl, rfl, hwd⟩ := open_int Tryz.underlying3 (hval 2 3 v2 rfl rfl) h2
  obtain ⟨m2, hm2⟩ := to_nents l hgo
  obtain ⟨m, rfl⟩ := to_oents l hgo
  have hlm : (m.map (·.1)).length = m.length := List.length_map _
  have hw := stays_walk A c m m2 hm2 n d (isInt_wf hwn) W hL (laysCut.s1_3 W hsh)
  rw [← hlm] at hw
  refine hw.mono fun e W' ⟨he, hb⟩ => ?_
  subst he
  exact law_post rfl (fun t ht => by
    have ht' : t ∈ [(22 : TypeId), 3, 3] := ht
    simp at ht'
    rcases ht' with rfl | rfl
    · exact ents_readable
    · exact int_readable) rfl hW' rfl hb

theorem stays_laid_met (os : Os) : laidMetH Tryz.prog Rows.peopleStaysRow.laid ((doorW os).forCall (fun _ _ => 0) ⟨#[], #[.slice none 0 0, .int .i64 0, .int .i64 0], []⟩).memory :=
  laidMetH_of_parts3 (fuel := 8) (laidMet_of_run' 8 (by kernel_rfl) (by kernel_rfl)) (by kernel_rfl) (by kernel_rfl)
theorem stays_reads (os : Os) {H : Type} (enc : TypeId × Value → H) : ∃ places, DataW.whole enc Tryz.prog ((doorW os).forCall (fun _ _ => 0) ⟨#[], #[.slice none 0 0, .int .i64 0, .int .i64 0], []⟩).memory Tryz.f7.params.toList Rows.peopleStaysSpec.vars false #[Value.slice none 0 0, Value.int .i64 0, Value.int .i64 0].toList 8 = some ([.nil, .lit (.int .i64 0), .lit (.int .i64 0)], [], places) :=
  ⟨[], by kernel_rfl⟩

set_option maxRecDepth 100000 in
theorem stays_lifted (os : Os) (started : os.Started) (H : Type) (enc : TypeId × Value → H) (F : Stop.Interp) :
    ReturnsInHanded {} Tryz.checked os 7 .any ((OpenSpec.ofChange Rows.peopleStaysSpec).preRow enc Tryz.prog Tryz.f7 Rows.peopleStaysRow.domain false Rows.peopleStaysRow.laid) (((OpenSpec.ofChange Rows.peopleStaysSpec).at F).post enc Tryz.prog Tryz.f7 false true false false) := by
  obtain ⟨places, hx⟩ := stays_reads os enc
  refine returnsInHanded_of_row (C := Tryz.checked) (s := OpenSpec.ofChange Rows.peopleStaysSpec) ownKnobA started (by kernel_rfl) Tryz.func7
    (witness_row_at (enc := enc) (C := Tryz.checked) false (doorW os) #[.slice none 0 0, .int .i64 0, .int .i64 0] rfl (by kernel_rfl) (by kernel_rfl) (by kernel_rfl)
      (OpenSpec.preRow_of_cond 8 hx (by kernel_rfl) (fun k hk => by cases hk) (by kernel_rfl) (stays_laid_met os))) ?_
  intro W base args ds gs before hval hW _ _ _ _ hsh _
  exact stays_contract H enc W base args ds gs before hval hW hsh

theorem stays_said : Rows.PeopleStaysSaid :=
  OpenClaim.holds_of_cond 7 Tryz.f7 rfl rfl rfl rfl rfl rfl rfl ⟨rfl, rfl, rfl, rfl, rfl⟩ rfl rfl rfl rfl rfl (by kernel_rfl) Tryz.func7 (by kernel_rfl)
    (of_decide_eq_true (by kernel_rfl)) (by unfold Func.isWrapper; first | (rw [if_pos (by decide +kernel)]; kernel_rfl) | (rw [if_neg (by decide +kernel)]; exact ⟨rfl, rfl⟩))
    (fun os started H enc _ F => by rw [OpenClaim.pre_eq_preRow]; exact stays_lifted os started H enc F)

theorem stays_plain (f : FuncId) (fn : Func) (hf : Tryz.pinned.checked.prog.funcNamed "restante/restantelaw03.PeopleStays" = some f) (hfn : Tryz.pinned.checked.prog.funcs[f]? = some fn) :
    true = Tryz.pinned.checked.prog.looks [] ∧ ∀ (j : Nat) t, fn.params[j]? = some t → Tryz.pinned.checked.prog.wantsStandIn t = false := by
  obtain rfl : f = 7 := Option.some.inj ((show Tryz.prog.funcNamed "restante/restantelaw03.PeopleStays" = some 7 by kernel_rfl).symm.trans hf) |>.symm
  obtain rfl : fn = Tryz.f7 := (Option.some.inj (Tryz.func7.symm.trans hfn)).symm
  refine ⟨by kernel_rfl, fun j t ht => ?_⟩
  rw [Tryz.params7] at ht
  have ht' := Array.mem_of_getElem? ht
  simp at ht'
  rcases ht' with rfl | rfl
  · exact (show Tryz.prog.wantsStandIn 22 = false by kernel_rfl)
  · exact (show Tryz.prog.wantsStandIn 3 = false by kernel_rfl)

theorem peopleStays_card : Rows.PeopleStaysCardSaid :=
  Claim7.holds_tied_plain_at .later [] _ _ _ _ stays_said (fun _ h => by cases h) (by kernel_rfl) (fun _ h => by cases h) peopleStays_row_tie rfl ⟨rfl, rfl⟩ (by kernel_rfl) rfl stays_plain (by kernel_rfl)
#print axioms peopleStays_card
end Go.Proofs.YtmfjmoicnddkcaaGreatDoor
