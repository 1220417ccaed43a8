/- PeopleKnown returns true for every list of entries and all days, and leaves its arguments as they were; the package variables that it names start as the program's text lays them (the card ties them). -/
import Derived.Test.YtddhgengahlnkaaGreatDoorAliveA
import Derived.Test.YtddhgengahlnkaaGreatDoorAppendA
namespace Go.Proofs.YtddhgengahlnkaaGreatDoor
open Go.ChangeShapes Go.WideShapes Go.ChangeAt Go.RowKit

theorem knw_twice (l : List Ent) (d o : Int) : knw (knw l d) o = knw l (min d o) := by
  unfold knw
  induction l with
  | nil => rfl
  | cons x l ih =>
    by_cases h1 : x.day ≤ d
    · by_cases h2 : x.day ≤ o
      · have h3 : x.day ≤ min d o := by omega
        rw [List.takeWhile_cons_of_pos (by simpa using h1), List.takeWhile_cons_of_pos (by simpa using h2), List.takeWhile_cons_of_pos (by simpa using h3), ih]
      · have h3 : ¬ x.day ≤ min d o := by omega
        rw [List.takeWhile_cons_of_pos (by simpa using h1), List.takeWhile_cons_of_neg (by simpa using h2), List.takeWhile_cons_of_neg (by simpa using h3)]
    · have h3 : ¬ x.day ≤ min d o := by omega
      rw [List.takeWhile_cons_of_neg (by simpa using h1), List.takeWhile_cons_of_neg (by simpa using h3)]
      rfl
theorem knw_len (l : List Ent) (d : Int) : (knw l d).length ≤ l.length := (List.takeWhile_sublist _).length_le

/-- Known in every later world: a slice that lies in memory. -/
def KnownAt (w : World) (A : Option Addr) (c : Nat) (l : List Ent) (d : Int) (f : FuncId) : Prop :=
  ∀ W, Below w.heap.size w W → Calls Tryz.prog f #[.slice A l.length c, .int .i64 d] W fun e w' => ∃ A' c', e = .returned (.slice A' (knw l d).length c') ∧ (knw l d).length ≤ c' ∧ EntsLie w' w'.heap.size A' (knw l d) ∧ Below W.heap.size W w'
theorem known_at (w : World) (A : Option Addr) (c : Nat) (l : List Ent) (d : Int) (hL : EntsLie w w.heap.size A l) (hl : l.length ≤ maxLen) (hb : l.length * 88 ≤ 140737488355328) (hc : l.length ≤ c) : KnownAt w A c l d 13 := fun W hW =>
  (Known_any A c l d W (hL.up hW hW.size) hl hb hc).mono fun _ _ ⟨v, he, hO, hB⟩ => by
    obtain ⟨A', c', rfl, h1, h2, _⟩ := hO.shape
    exact ⟨A', c', he, h1, h2, hB⟩
theorem refKnown_at (w : World) (A : Option Addr) (c : Nat) (l : List Ent) (d : Int) (hL : EntsLie w w.heap.size A l) (hl : l.length ≤ maxLen) (hb : l.length * 88 ≤ 140737488355328) : KnownAt w A c l d 14 := fun W hW =>
  (refKnown_any A c l d W (hL.up hW hW.size) hl hb).mono fun _ _ ⟨v, he, hO, hB⟩ => by
    obtain ⟨A', c', rfl, h1, h2, _⟩ := hO.shape
    exact ⟨A', c', he, h1, h2, hB⟩
theorem same_at (A A2 : Option Addr) (c c2 : Nat) (l : List Ent) (w W : World) (hL : EntsLie w w.heap.size A l) (hM : EntsLie W W.heap.size A2 l) (hl : l.length ≤ maxLen) (hW : Below w.heap.size w W) :
    Calls Tryz.prog 12 #[.slice A l.length c, .slice A2 l.length c2] W fun e w' => e = .returned (.bool true) ∧ Below W.heap.size W w' :=
  (refSame_any A A2 c c2 l l W.heap.size W (hL.up hW hW.size) hM hl hl).mono fun _ _ ⟨he, n, hn⟩ => by
    rw [decide_eq_true rfl] at he
    subst hn
    exact ⟨he, below_dr (Below.refl _ _) n⟩

set_option maxRecDepth 100000 in
set_option maxHeartbeats 2000000 in
theorem knowns_walk (A : Option Addr) (c : Nat) (l : List Ent) (d o : Int) (_ : isInt d) (_ : isInt o) (w : World) (hL : EntsLie w w.heap.size A l) (hl : l.length ≤ maxLen) (hb : l.length * 88 ≤ 140737488355328) (hc : l.length ≤ c) (hm : MaxAt w) :
    Calls Tryz.prog 6 #[.slice A l.length c, .int .i64 d, .int .i64 o] w fun e w' => e = .returned (.bool true) ∧ Below w.heap.size w w' := by
  have hk1 : (knw l d).length ≤ maxLen := Nat.le_trans (knw_len l d) hl
  have hk2 : (knw l (min d o)).length ≤ maxLen := Nat.le_trans (knw_len l _) hl
  have hkb : (knw l d).length * 88 ≤ 140737488355328 := by have := knw_len l d; omega
  have H1 := Lib.hid (known_at w A c l d hL hl hb hc w (Below.refl _ _))
  have H2 := Lib.hid (refKnown_at w A c l d hL hl hb)
  have H3 : Hid (∀ W, Below w.heap.size w W → _) := Lib.hid fun W (hW : Below w.heap.size w W) => alive_any W (hm.below hm.lt hW)
  have H4 := Lib.hid (known_at w A c l (min d o) hL hl hb hc)
  have HK := Lib.hid fun W A' c' (h : EntsLie W W.heap.size A' (knw l d)) (h1 : (knw l d).length ≤ c') => known_at W A' c' (knw l d) o h hk1 hkb h1
  simp only [KnownAt, knw_twice] at HK
  have HS1 := Lib.hid hk1
  have HS2 := Lib.hid hk2
  clear hk1 hk2 hkb hL hl hb hc hm
  unfold KnownAt at H2 H4
  go_enter Tryz.func6, Tryz.ntmps6
  go_wp2_with fail
  refine H1.out.mono ?_
  rintro e w1 ⟨A1, c1, rfl, hc1, hL1, hb1⟩
  go_wp2_with fail
  refine (H2.out w1 hb1).mono ?_
  rintro e w2 ⟨A2, c2, rfl, hc2, hL2, hb2⟩
  go_wp2_with fail
  refine (same_at A1 A2 c1 c2 (knw l d) w1 w2 hL1 hL2 HS1.out hb2).mono ?_
  rintro e w3 ⟨rfl, hb3⟩
  have hL3 := hL1.up (hb2.trans (hb3.mono hb2.size)) (hb2.trans (hb3.mono hb2.size)).size
  have hB3 := (hb1.trans (hb2.mono hb1.size)).trans (hb3.mono (hb1.trans (hb2.mono hb1.size)).size)
  clear hL1 hL2 hb1 hb2 hb3 hc2
  go_wp2_with fail
  refine (H3.out w3 hB3).mono ?_
  rintro e w4 ⟨rfl, hb4⟩
  have hL4 := hL3.up hb4 hb4.size
  have hB4 := hB3.trans (hb4.mono hB3.size)
  clear hL3 hB3 hb4
  go_wp2_with fail
  refine (HK.out w4 A1 c1 hL4 hc1 w4 (Below.refl _ _)).mono ?_
  rintro e w5 ⟨A5, c5, rfl, hc5, hL5, hb5⟩
  have hB5 := hB4.trans (hb5.mono hB4.size)
  clear hL4 hB4 hb5 hc1
  go_wp2_with fail
  refine (H4.out w5 hB5).mono ?_
  rintro e w6 ⟨A6, c6, rfl, _, hL6, hb6⟩
  have hB6 := hB5.trans (hb6.mono hB5.size)
  clear hB5
  go_wp2_with fail
  refine (same_at A5 A6 c5 c6 (knw l (min d o)) w5 w6 hL5 hL6 HS2.out hb6).mono ?_
  rintro e w7 ⟨rfl, hb7⟩
  have hB7 := hB6.trans (hb7.mono hB6.size)
  go_wp2_with fail
  go_ret
  exact ⟨rfl, hB7⟩

set_option maxRecDepth 100000 in
theorem knowns_contract (H : Type) (enc : TypeId × Value → H) (W : World) (base : Nat) (args : Array Value) (ds gs : List (DataW H)) (before : List MemPlace)
    (hval : ∀ (j : Nat) t v, Tryz.f6.params[j]? = some t → args[j]? = some v → Value.okWide Tryz.prog W .any base t v)
    (hW : DataW.Whole enc Tryz.prog Tryz.f6.params.toList Rows.peopleKnownSpec.vars false W args.toList ds gs before)
    (hz : ∀ xs ys, ds[0]? = some (.slice xs ys) → (xs.length + ys.length) * 88 ≤ reachBytes) (hsh : W.ShapedOpen Tryz.prog) :
    Calls Tryz.prog 6 args W fun e W' => ∃ v, e = .returned v ∧ Rows.peopleKnownSpec.post enc Tryz.prog Tryz.f6 false true false false W args v W' := by
  have hW' := hW
  have hlt : ∀ p ∈ before, p.block < W.heap.size := fun p hp => hW.lt p hp
  obtain ⟨p, q, hA, hV, rfl, hfz, hnd⟩ := hW
  have hA0 : DataW.TrodAll enc Tryz.prog W 0 (fun _ => true) true [22, 3, 3] args.toList ds p := hA
  obtain ⟨v0, vs0, d0, ds0, p0, q0, hargs, rfl, rfl, h0, r0⟩ := trodAll_cons hA0
  obtain ⟨v1, vs1, d1, ds1, p1, q1, rfl, rfl, rfl, h1, r1⟩ := trodAll_cons r0
  obtain ⟨v2, vs2, d2, ds2, p2, q2, rfl, rfl, rfl, h2, r2⟩ := trodAll_cons r1
  obtain ⟨rfl, rfl, rfl⟩ := trodAll_nil r2
  obtain rfl : args = #[v0, v1, v2] := by cases args; simp_all
  obtain ⟨rfl, rfl⟩ := trodVars_none hV
  have hsl := slice_of_ok (hval 0 22 v0 rfl rfl)
  obtain ⟨A, c, l, rfl, hlc, hcm, hL, hgo, hd⟩ := open_ents (fun x hx => hlt x (by simp [hx])) h0 hsl
  obtain ⟨d, rfl, rfl, rfl, hwd⟩ := open_int Tryz.underlying3 (hval 1 3 v1 rfl rfl) h1
  obtain ⟨o, rfl, rfl, rfl, hwo⟩ := open_int Tryz.underlying3 (hval 2 3 v2 rfl rfl) h2
  have hb : l.length * 88 ≤ 140737488355328 := by
    rcases hd with ⟨_, rfl⟩ | ⟨xs, ys, rfl, hx⟩
    · decide
    · have := hz xs ys rfl
      have h1 : reachBytes ≤ 140737488355328 := by decide
      rw [← hx]
      omega
  refine (knowns_walk A c l d o (isInt_wf hwd) (isInt_wf hwo) W hL (Nat.le_trans hlc hcm) hb hlc (laysCut.s1_3 W hsh)).mono fun e W' ⟨he, hb⟩ => ?_
  subst he
  exact law_post rfl (fun t ht => by
    have ht' : t ∈ [(22 : TypeId), 3, 3] := ht
    simp at ht'
    rcases ht' with rfl | rfl
    · exact ents_readable
    · exact int_readable) rfl hW' rfl hb
end Go.Proofs.YtddhgengahlnkaaGreatDoor
namespace Go.Proofs.YtddhgengahlnkaaGreatDoor
open Go.ChangeShapes Go.WideShapes Go.ChangeAt Go.RowKit

theorem knowns_laid_met (os : Os) : laidMetH Tryz.prog Rows.peopleKnownRow.laid ((doorW os).forCall (fun _ _ => 0) ⟨#[], #[.slice none 0 0, .int .i64 0, .int .i64 0], []⟩).memory :=
  laidMetH_of_parts3 (fuel := 8) (laidMet_of_run' 8 (by kernel_rfl) (by kernel_rfl)) (by kernel_rfl) (by kernel_rfl)
theorem knowns_reads (os : Os) {H : Type} (enc : TypeId × Value → H) : ∃ places, DataW.whole enc Tryz.prog ((doorW os).forCall (fun _ _ => 0) ⟨#[], #[.slice none 0 0, .int .i64 0, .int .i64 0], []⟩).memory Tryz.f6.params.toList Rows.peopleKnownSpec.vars false #[Value.slice none 0 0, Value.int .i64 0, Value.int .i64 0].toList 8 = some ([.nil, .lit (.int .i64 0), .lit (.int .i64 0)], [], places) :=
  ⟨[], by kernel_rfl⟩

set_option maxRecDepth 100000 in
theorem knowns_lifted (os : Os) (started : os.Started) (H : Type) (enc : TypeId × Value → H) (F : Stop.Interp) :
    ReturnsInHanded {} Tryz.checked os 6 .any ((OpenSpec.ofChange Rows.peopleKnownSpec).preRow enc Tryz.prog Tryz.f6 Rows.peopleKnownRow.domain false Rows.peopleKnownRow.laid) (((OpenSpec.ofChange Rows.peopleKnownSpec).at F).post enc Tryz.prog Tryz.f6 false true false false) := by
  obtain ⟨places, hx⟩ := knowns_reads os enc
  refine returnsInHanded_of_row (C := Tryz.checked) (s := OpenSpec.ofChange Rows.peopleKnownSpec) ownKnobA started (by kernel_rfl) Tryz.func6
    (witness_row_at (enc := enc) (C := Tryz.checked) false (doorW os) #[.slice none 0 0, .int .i64 0, .int .i64 0] rfl (by kernel_rfl) (by kernel_rfl) (by kernel_rfl)
      (OpenSpec.preRow_of_cond 8 hx (by kernel_rfl) (fun k hk => by cases hk) (by kernel_rfl) (knowns_laid_met os))) ?_
  intro W base args ds gs before hval hW _ _ hz _ hsh _
  refine knowns_contract H enc W base args ds gs before hval hW (fun xs ys h => ?_) hsh
  have := sized_slice (j := 0) (t := 22) (e := 29) (elems := xs) (spare := ys) hz rfl (List.getElem?_append_left (List.getElem?_eq_some_iff.1 h).1 |>.trans h) entsRow
  have hb : Tryz.checked.prog.bytesOf 29 = 88 := bytesEnt
  rw [hb] at this
  exact this

theorem knowns_said : Rows.PeopleKnownSaid :=
  OpenClaim.holds_of_cond 6 Tryz.f6 rfl rfl rfl rfl rfl rfl rfl ⟨rfl, rfl, rfl, rfl, rfl⟩ rfl rfl rfl rfl rfl (by kernel_rfl) Tryz.func6 (by kernel_rfl)
    (of_decide_eq_true (by kernel_rfl)) (by unfold Func.isWrapper; first | (rw [if_pos (by decide +kernel)]; kernel_rfl) | (rw [if_neg (by decide +kernel)]; exact ⟨rfl, rfl⟩))
    (fun os started H enc _ F => by rw [OpenClaim.pre_eq_preRow]; exact knowns_lifted os started H enc F)

theorem knowns_plain (f : FuncId) (fn : Func) (hf : Tryz.pinned.checked.prog.funcNamed "restante/restantelaw03.PeopleKnown" = some f) (hfn : Tryz.pinned.checked.prog.funcs[f]? = some fn) :
    true = Tryz.pinned.checked.prog.looks [] ∧ ∀ (j : Nat) t, fn.params[j]? = some t → Tryz.pinned.checked.prog.wantsStandIn t = false := by
  obtain rfl : f = 6 := Option.some.inj ((show Tryz.prog.funcNamed "restante/restantelaw03.PeopleKnown" = some 6 by kernel_rfl).symm.trans hf) |>.symm
  obtain rfl : fn = Tryz.f6 := (Option.some.inj (Tryz.func6.symm.trans hfn)).symm
  refine ⟨by kernel_rfl, fun j t ht => ?_⟩
  rw [Tryz.params6] at ht
  have ht' := Array.mem_of_getElem? ht
  simp at ht'
  rcases ht' with rfl | rfl
  · exact (show Tryz.prog.wantsStandIn 22 = false by kernel_rfl)
  · exact (show Tryz.prog.wantsStandIn 3 = false by kernel_rfl)

theorem peopleKnown_card : Rows.PeopleKnownCardSaid :=
  Claim7.holds_tied_plain_at .later [] _ _ _ _ knowns_said (fun _ h => by cases h) (by kernel_rfl) (fun _ h => by cases h) peopleKnown_row_tie rfl ⟨rfl, rfl⟩ (by kernel_rfl) rfl knowns_plain (by kernel_rfl)
#print axioms peopleKnown_card
end Go.Proofs.YtddhgengahlnkaaGreatDoor
