/- Contracts of the reference's named, has and ordered: whether a list has an entry of a kind. Conditions: the list lies in memory. The contract of the reference's next: the error of an entry behind a list. Conditions: the list lies in memory, all its entries are well-formed by themselves, the name's length is a Go length. The contract of the reference's Check. Conditions: the list lies in memory; the names' lengths are Go lengths. Rows of entries that a call made: what an append of entries leaves; the contracts of slices.Clone and slices.Grow at entries. Conditions: the list lies in memory; Go's own limits on its size. -/
import Derived.Test.YtddhgengahlnkaaGreatDoorCheckA
import Derived.IntWalk
import Derived.Lib.AppendZeros
namespace Go.Proofs.YtddhgengahlnkaaGreatDoor
open Go.RowKit

def hasB (l : List Ent) (k p o : Int) : Bool := l.any fun x => x.kind == k && x.person == p && x.order == o
def ordB (l : List Ent) (k o : Int) : Bool := l.any fun x => x.kind == k && x.order == o

theorem any_take_succ {f : Ent → Bool} {l : List Ent} {k : Nat} {x : Ent} (hx : l[k]? = some x) (h : (l.take k).any f = false) : (l.take (k + 1)).any f = f x := by
  rw [List.take_add_one, hx, List.any_append, h]; simp
theorem any_of_at {f : Ent → Bool} {l : List Ent} {k : Nat} {x : Ent} (hx : l[k]? = some x) (h : f x = true) : l.any f = true :=
  List.any_eq_true.2 ⟨x, List.mem_of_getElem? hx, h⟩

set_option maxHeartbeats 1000000 in
theorem refNamed_any (A : Option Addr) (c : Nat) (l : List Ent) (p : Int) (B : Nat) (w : World) (hL : EntsLie w B A l) (hl : l.length ≤ maxLen) :
    Calls Tryz.prog 27 #[.slice A l.length c, .int .i64 p] w fun e w' => e = .returned (.bool (namedB l p)) ∧ w = w' := by
  unfold maxLen at hl
  go_enter Tryz.func27, Tryz.ntmps27
  go_wp2
  go_loop [5] (fun i => ∃ k : Nat, k ≤ l.length ∧ i = .int .i64 k ∧ Hid ((l.take k).any (fun x => x.kind == 1 && x.person == p) = false)) (fun i => l.length - (intOf i).toNat)
  case atStart => exact ⟨0, Nat.zero_le _, rfl, Lib.hid rfl⟩
  case round =>
    obtain ⟨k, hk, rfl, H⟩ := hrel
    by_cases hlt : k < l.length
    · obtain ⟨x, hx⟩ : ∃ x, l[k]? = some x := ⟨_, List.getElem?_eq_getElem hlt⟩
      have hS := Lib.hid (any_take_succ hx H.out)
      have hT : Hid ((x.kind == 1 && x.person == p) = true → namedB l p = true) := Lib.hid (any_of_at (f := fun x => x.kind == 1 && x.person == p) hx)
      obtain ⟨b, off, rfl, hb, c0, c1, c2, c3, c4, c5, c6, c7, c8, c9⟩ := hL.at hx
      clear hx
      cases hv : (x.kind == 1 && x.person == p)
      · have hk1 : x.kind ≠ 1 ∨ x.kind = 1 ∧ x.person ≠ p := by
          simp at hv
          by_cases h : x.kind = 1
          · exact .inr ⟨h, hv h⟩
          · exact .inl h
        have HV := Lib.hid hv
        clear hv
        rcases hk1 with hk1 | ⟨hk1, hk2⟩
        · go_wp2
          go_round
          case rel => exact ⟨k + 1, by omega, by go_num, Lib.hid (by rw [hS.out, HV.out])⟩
          case measure => simp [intOf]; omega
        · rw [hk1] at c1
          have HK := Lib.hid hk1
          clear hk1
          go_wp2
          go_round
          case rel => exact ⟨k + 1, by omega, by go_num, Lib.hid (by rw [hS.out, HV.out])⟩
          case measure => simp [intOf]; omega
      · have hv2 := hv
        simp at hv2
        have HT := Lib.hid (hT.out hv)
        clear hv
        obtain ⟨e1, e2⟩ := hv2
        rw [e1] at c1
        rw [e2] at c4
        clear e1 e2
        go_wp2
        go_ret
        exact ⟨ret_bool HT.out.symm, rfl⟩
    · have HN : Hid (namedB l p = false) := Lib.hid (by have h := H.out; rw [List.take_of_length_le (by omega)] at h; exact h)
      go_wp2
      go_ret
      exact ⟨ret_bool HN.out.symm, rfl⟩

set_option maxHeartbeats 1000000 in
theorem refOrdered_any (A : Option Addr) (c : Nat) (l : List Ent) (kd o : Int) (B : Nat) (w : World) (hL : EntsLie w B A l) (hl : l.length ≤ maxLen) :
    Calls Tryz.prog 29 #[.slice A l.length c, .int .u8 kd, .int .i64 o] w fun e w' => e = .returned (.bool (ordB l kd o)) ∧ w = w' := by
  unfold maxLen at hl
  go_enter Tryz.func29, Tryz.ntmps29
  go_wp2
  go_loop [7] (fun i => ∃ k : Nat, k ≤ l.length ∧ i = .int .i64 k ∧ Hid ((l.take k).any (fun x => x.kind == kd && x.order == o) = false)) (fun i => l.length - (intOf i).toNat)
  case atStart => exact ⟨0, Nat.zero_le _, rfl, Lib.hid rfl⟩
  case round =>
    obtain ⟨k, hk, rfl, H⟩ := hrel
    by_cases hlt : k < l.length
    · obtain ⟨x, hx⟩ : ∃ x, l[k]? = some x := ⟨_, List.getElem?_eq_getElem hlt⟩
      have hS := Lib.hid (any_take_succ hx H.out)
      have hT : Hid ((x.kind == kd && x.order == o) = true → ordB l kd o = true) := Lib.hid (any_of_at (f := fun x => x.kind == kd && x.order == o) hx)
      obtain ⟨b, off, rfl, hb, c0, c1, c2, c3, c4, c5, c6, c7, c8, c9⟩ := hL.at hx
      clear hx
      cases hv : (x.kind == kd && x.order == o)
      · have HV := Lib.hid hv
        by_cases hk1 : x.kind = kd
        · have hk2 : ¬ x.order = o := by simpa [hk1] using hv
          rw [hk1] at c1
          clear hv hk1
          go_wp2
          go_round
          case rel => exact ⟨k + 1, by omega, by go_num, Lib.hid (by rw [hS.out, HV.out])⟩
          case measure => simp [intOf]; omega
        · clear hv
          go_wp2
          go_round
          case rel => exact ⟨k + 1, by omega, by go_num, Lib.hid (by rw [hS.out, HV.out])⟩
          case measure => simp [intOf]; omega
      · have hv2 := hv
        simp at hv2
        have HT := Lib.hid (hT.out hv)
        clear hv
        obtain ⟨e1, e2⟩ := hv2
        rw [e1] at c1
        rw [e2] at c8
        clear e1 e2
        go_wp2
        go_ret
        exact ⟨ret_bool HT.out.symm, rfl⟩
    · have HN : Hid (ordB l kd o = false) := Lib.hid (by have h := H.out; rw [List.take_of_length_le (by omega)] at h; exact h)
      go_wp2
      go_ret
      exact ⟨ret_bool HN.out.symm, rfl⟩

set_option maxHeartbeats 1000000 in
theorem refHas_any (A : Option Addr) (c : Nat) (l : List Ent) (kd p o : Int) (B : Nat) (w : World) (hL : EntsLie w B A l) (hl : l.length ≤ maxLen) :
    Calls Tryz.prog 28 #[.slice A l.length c, .int .u8 kd, .int .i64 p, .int .i64 o] w fun e w' => e = .returned (.bool (hasB l kd p o)) ∧ w = w' := by
  unfold maxLen at hl
  go_enter Tryz.func28, Tryz.ntmps28
  go_wp2
  go_loop [9] (fun i => ∃ k : Nat, k ≤ l.length ∧ i = .int .i64 k ∧ Hid ((l.take k).any (fun x => x.kind == kd && x.person == p && x.order == o) = false)) (fun i => l.length - (intOf i).toNat)
  case atStart => exact ⟨0, Nat.zero_le _, rfl, Lib.hid rfl⟩
  case round =>
    obtain ⟨k, hk, rfl, H⟩ := hrel
    by_cases hlt : k < l.length
    · obtain ⟨x, hx⟩ : ∃ x, l[k]? = some x := ⟨_, List.getElem?_eq_getElem hlt⟩
      have hS := Lib.hid (any_take_succ hx H.out)
      have hT : Hid ((x.kind == kd && x.person == p && x.order == o) = true → hasB l kd p o = true) := Lib.hid (any_of_at (f := fun x => x.kind == kd && x.person == p && x.order == o) hx)
      obtain ⟨b, off, rfl, hb, c0, c1, c2, c3, c4, c5, c6, c7, c8, c9⟩ := hL.at hx
      clear hx
      cases hv : (x.kind == kd && x.person == p && x.order == o)
      · have HV := Lib.hid hv
        by_cases hk1 : x.kind = kd
        · rw [hk1] at c1
          by_cases hk2 : x.person = p
          · have hk3 : ¬ x.order = o := by simpa [hk1, hk2] using hv
            rw [hk2] at c4
            clear hv hk1 hk2
            go_wp2
            go_round
            case rel => exact ⟨k + 1, by omega, by go_num, Lib.hid (by rw [hS.out, HV.out])⟩
            case measure => simp [intOf]; omega
          · clear hv hk1
            go_wp2
            go_round
            case rel => exact ⟨k + 1, by omega, by go_num, Lib.hid (by rw [hS.out, HV.out])⟩
            case measure => simp [intOf]; omega
        · clear hv
          go_wp2
          go_round
          case rel => exact ⟨k + 1, by omega, by go_num, Lib.hid (by rw [hS.out, HV.out])⟩
          case measure => simp [intOf]; omega
      · have hv2 := hv
        simp at hv2
        have HT := Lib.hid (hT.out hv)
        clear hv
        obtain ⟨⟨e1, e2⟩, e3⟩ := hv2
        rw [e1] at c1
        rw [e2] at c4
        rw [e3] at c8
        clear e1 e2 e3
        go_wp2
        go_ret
        exact ⟨ret_bool HT.out.symm, rfl⟩
    · have HN : Hid (hasB l kd p o = false) := Lib.hid (by have h := H.out; rw [List.take_of_length_le (by omega)] at h; exact h)
      go_wp2
      go_ret
      exact ⟨ret_bool HN.out.symm, rfl⟩
end Go.Proofs.YtddhgengahlnkaaGreatDoor
namespace Go.Proofs.YtddhgengahlnkaaGreatDoor
open Go.RowKit

theorem has_died (l : List Ent) (h : ∀ y ∈ l, ckE y = 0) (p : Int) : hasB l 3 p 0 = diedB l p := by
  unfold hasB diedB
  induction l with
  | nil => rfl
  | cons y l ih =>
    rw [List.any_cons, List.any_cons, ih (fun z hz => h z (List.mem_cons_of_mem _ hz))]
    congr 1
    by_cases hk : y.kind = 3
    · have ho : y.order = 0 := by
        have h1 := ok_of_ck y (h y (List.mem_cons_self ..))
        unfold okE at h1
        simp only [Bool.and_eq_true, decide_eq_true_eq] at h1
        have h2 := congrArg Ent.order h1.2
        simp [onlyW, onlyOr, hk] at h2
        exact h2.symm
      simp [ho]
    · simp [hk]

def tms (l : List Ent) (x : Ent) : Bool := decide (x.day < lastD l)
def msn (l : List Ent) (x : Ent) : Bool := x.kind != 1 && (x.person != 0 && !namedB l x.person || x.other != 0 && !namedB l x.other)
theorem nextE_eq (l : List Ent) (x : Ent) (hc : ckE x = 0) (h : ∀ y ∈ l, ckE y = 0) :
    nextE l x = if 400 ≤ l.length then 2 else if tms l x = true then 7 else if msn l x = true then 5
      else if (x.kind == 3 && hasB l 3 x.person 0 || x.kind == 5 && ordB l 5 x.order) = true then 6 else if (x.kind == 6 && !ordB l 5 x.order) = true then 5
      else if (x.kind == 6 && ordB l 6 x.order) = true then 6 else 0 := by
  have e1 : ordB l 5 x.order = orderedB l x.order := rfl
  have e2 : ordB l 6 x.order = cancelledB l x.order := rfl
  have hm : (x.kind ≠ 1 ∧ (x.person ≠ 0 ∧ namedB l x.person = false ∨ x.other ≠ 0 ∧ namedB l x.other = false)) ↔ msn l x = true := by unfold msn; simp
  have ht : x.day < lastD l ↔ tms l x = true := by unfold tms; simp
  have hr : contrE l x = if (x.kind == 3 && diedB l x.person || x.kind == 5 && orderedB l x.order) = true then 6 else if (x.kind == 6 && !orderedB l x.order) = true then 5 else if (x.kind == 6 && cancelledB l x.order) = true then 6 else 0 := by
    unfold contrE
    by_cases h3 : x.kind = 3
    · simp [h3]
    · by_cases h5 : x.kind = 5
      · simp [h5]
      · simp [h3, h5]
  unfold nextE
  rw [if_neg (by simp [hc]), has_died l h, e1, e2, hr]
  simp only [hm, ht]

theorem last_at {l : List Ent} {m : Nat} (h : l.length = m + 1) : ∃ y, l[m]? = some y ∧ lastD l = y.day := by
  refine ⟨l[m]'(by omega), List.getElem?_eq_getElem _, ?_⟩
  have h1 : l.getLast? = l[m]? := by rw [List.getLast?_eq_getElem?]; congr 1; omega
  unfold lastD
  rw [h1, List.getElem?_eq_getElem (by omega)]
  rfl

set_option maxRecDepth 100000 in
set_option maxHeartbeats 4000000 in
theorem refNext_any (A : Option Addr) (c : Nat) (l : List Ent) (x : Ent) (w : World) (hL : EntsLie w w.heap.size A l) (hl : l.length ≤ maxLen) (hs : x.name.size ≤ maxLen) (hall : ∀ y ∈ l, ckE y = 0) :
    Calls Tryz.prog 18 #[.slice A l.length c, entVal x] w fun e w' => e = .returned (.int .i64 (nextE l x)) ∧ Below w.heap.size w w' := by
  have hx0 := EntAt.new w x
  have hB0 : Below w.heap.size w (w.alloc (.cells (entCells x).toArray 29)) := (Below.refl _ _).alloc (Nat.le_refl _) _
  unfold entVal
  simp only [entCells] at hx0 hB0
  have hlm := hl
  unfold maxLen at hl
  go_enter Tryz.func18, Tryz.ntmps18
  go_upto_region 1 with fail
  generalize w.alloc (.cells _ 29) = W0 at hx0 hB0 ⊢
  obtain ⟨k0, k1, k2, k3, k4, k5, k6, k7, k8, k9, hz⟩ := hx0.cells
  by_cases hc : ckE x = 0
  · have V := Lib.hid (nextE_eq l x hc hall)
    have hd0 : 0 ≤ x.day := (ok_bounds x (ok_of_ck x hc)).2.2.2.1
    have HD0 := Lib.hid hd0
    have HC := Lib.hid hc
    clear hc hall hd0
    go_wp2_with fail
    refine (refFormed_any x _ hs).mono ?_
    rintro e w1 ⟨he, hb1⟩
    rw [HC.out] at he
    subst he
    have hB1 := hB0.trans (hb1.mono hB0.size)
    have hX1 := EntAt.below hx0 hb1 hz
    have hL1 := hL.below hB1
    clear k0 k1 k2 k3 k4 k5 k6 k7 k8 k9 hx0 hB0 hL hb1 hz
    obtain ⟨k0, k1, k2, k3, k4, k5, k6, k7, k8, k9, hz⟩ := hX1.cells
    by_cases h4 : 400 ≤ l.length
    · have h4i : (400 : Int) ≤ (l.length : Int) := by omega
      go_wp2_with fail
      go_ret
      exact ⟨ret_int (by rw [V.out, if_pos h4]), hB1⟩
    have h4i : (l.length : Int) < 400 := by omega
    go_wp2_with fail
    go_cut [33] (fun s wx => s = .bool (tms l x) ∧ ∃ n, wx = w1.drewN n)
    case first =>
      clear V
      by_cases h0 : l.length = 0
      · have HT : Hid (tms l x = false) := Lib.hid (by have h1 := HD0.out; have h2 : lastD l = 0 := (by rw [List.eq_nil_of_length_eq_zero h0]; rfl); unfold tms; rw [h2]; exact decide_eq_false (by omega))
        have h0i : (l.length : Int) ≤ 0 := by omega
        have h0d : decide (0 < l.length) = false := decide_eq_false (by omega)
        clear h0 h4 h4i hl
        go_quiet (fail)
        go_wp2_with fail
        go_meet
        exact ⟨by rw [HT.out], by first | exact ⟨_, rfl⟩ | exact ⟨_, drewN_two _ _ _⟩⟩
      · obtain ⟨m, hm⟩ : ∃ m, l.length = m + 1 := ⟨l.length - 1, by omega⟩
        obtain ⟨y, hy, hly⟩ := last_at hm
        obtain ⟨b, off, rfl, hb, c0, -⟩ := hL1.at hy
        have HT : Hid (tms l x = decide (x.day < y.day)) := Lib.hid (by unfold tms; rw [hly])
        have hw1 : IntKind.i64.wrap ((l.length : Int) - 1) = (m : Int) := by rw [hm]; rw [show ((m + 1 : Nat) : Int) - 1 = (m : Int) by omega]; exact IntWalk.i64_in _ (by omega)
        have hw2 : ((m : Int)).toNat = m := by omega
        have hp : (0 : Int) < (l.length : Int) := by omega
        have hpd : decide (0 < l.length) = true := decide_eq_true (by omega)
        have hpn : 0 < l.length := by omega
        have hm0 : (0 : Int) ≤ (m : Int) := by omega
        have hm1 : (m : Int) < (l.length : Int) := by omega
        clear hm hy hly h0 h4 h4i
        go_quiet (fail)
        go_wp2_with fail
        go_meet
        exact ⟨by rw [HT.out], by first | exact ⟨_, rfl⟩ | exact ⟨_, drewN_two _ _ _⟩⟩
    obtain ⟨rfl, n, rfl⟩ := hcut
    have hL2 : EntsLie (w1.drewN n) w.heap.size A l := hL1
    have hB2 : Below w.heap.size w (w1.drewN n) := below_draws hB1 rfl rfl rfl rfl
    have hV2 : Hid (nextE l x = if tms l x = true then 7 else if msn l x = true then 5
      else if (x.kind == 3 && hasB l 3 x.person 0 || x.kind == 5 && ordB l 5 x.order) = true then 6 else if (x.kind == 6 && !ordB l 5 x.order) = true then 5
      else if (x.kind == 6 && ordB l 6 x.order) = true then 6 else 0) := Lib.hid (by rw [V.out, if_neg h4])
    clear V hL1 hB1 h4i
    cases ht : tms l x
    case true =>
      have HT := Lib.hid ht
      clear ht
      go_wp2_with fail
      go_ret
      exact ⟨ret_int (by rw [hV2.out, if_pos HT.out]), hB2⟩
    have HT := Lib.hid ht
    clear ht
    go_wp2_with fail
    refine (refNamed_any A c l x.person _ _ hL2 hlm).mono ?_
    rintro e w' ⟨rfl, rfl⟩
    go_wp2_with fail
    refine (refNamed_any A c l x.other _ _ hL2 hlm).mono ?_
    rintro e w' ⟨rfl, rfl⟩
    go_upto_region 10 with fail
    go_cut [1, 6, 7, 11, 36, 37, 40, 41, 62] (fun _ _ _ _ _ _ _ _ s wx => s = .bool (msn l x) ∧ wx = w1.drewN n)
    case first =>
      clear hV2
      go_wp2_with fail
      all_goals
        go_meet
        exact ⟨by congr 1; rw [Bool.eq_iff_iff]; simp_all [msn], rfl⟩
    obtain ⟨rfl, rfl⟩ := hcut
    cases hm : msn l x
    case true =>
      have HM := Lib.hid hm
      clear hm
      go_wp2_with fail
      go_ret
      exact ⟨ret_int (by rw [hV2.out, if_neg (by rw [HT.out]; exact Bool.false_ne_true), if_pos HM.out]), hB2⟩
    have HM := Lib.hid hm
    clear hm
    go_wp2_with fail
    refine (refHas_any A c l 3 x.person 0 _ _ hL2 hlm).mono ?_
    rintro e w' ⟨rfl, rfl⟩
    go_wp2_with fail
    refine (refOrdered_any A c l 5 x.order _ _ hL2 hlm).mono ?_
    rintro e w' ⟨rfl, rfl⟩
    go_wp2_with fail
    refine (refOrdered_any A c l 6 x.order _ _ hL2 hlm).mono ?_
    rintro e w' ⟨rfl, rfl⟩
    have V3 : Hid (nextE l x = if (x.kind == 3 && hasB l 3 x.person 0 || x.kind == 5 && ordB l 5 x.order) = true then 6 else if (x.kind == 6 && !ordB l 5 x.order) = true then 5
      else if (x.kind == 6 && ordB l 6 x.order) = true then 6 else 0) := Lib.hid (by rw [hV2.out, if_neg (by rw [HT.out]; exact Bool.false_ne_true), if_neg (by rw [HM.out]; exact Bool.false_ne_true)])
    clear hV2
    generalize hasB l 3 x.person 0 = d1 at *
    generalize ordB l 5 x.order = d2 at *
    generalize ordB l 6 x.order = d3 at *
    go_wp2_with fail
    all_goals
      go_ret
      exact ⟨ret_int (by rw [V3.out]; simp_all), hB2⟩
  · go_wp2_with (go_at_call 26; refine (refFormed_any x _ hs).mono ?_; rintro e w1 ⟨rfl, hb1⟩)
    go_ret
    exact ⟨ret_int (by unfold nextE; rw [if_pos hc]), hB0.trans (hb1.mono hB0.size)⟩
end Go.Proofs.YtddhgengahlnkaaGreatDoor
namespace Go.Proofs.YtddhgengahlnkaaGreatDoor
open Go.RowKit

theorem EntsLie.take {w : World} {B : Nat} {A : Option Addr} {l : List Ent} (h : EntsLie w B A l) (k : Nat) : EntsLie w B A (l.take k) := by
  rcases h with h | ⟨b, off, rfl, hlt, hc⟩
  · subst h; exact .inl (by simp)
  · refine .inr ⟨b, off, rfl, hlt, fun i x hi => hc i x ?_⟩
    rw [List.getElem?_take] at hi
    split at hi
    · exact hi
    · cases hi

set_option maxRecDepth 100000 in
set_option maxHeartbeats 4000000 in
theorem refCheck_any (A : Option Addr) (c : Nat) (l : List Ent) (w : World) (hL : EntsLie w w.heap.size A l) (hl : l.length ≤ maxLen) (hs : ∀ x ∈ l, x.name.size ≤ maxLen) (hc : l.length ≤ c) :
    Calls Tryz.prog 8 #[.slice A l.length c] w fun e w' => e = .returned (.tuple #[.int .i64 (chk [] l).1, .int .i64 (chk [] l).2]) ∧ Below w.heap.size w w' := by
  have hl' := hl
  unfold maxLen at hl
  go_enter Tryz.func8, Tryz.ntmps8
  go_wp2_with fail
  go_loopw [4] (fun i wr => ∃ k : Nat, k ≤ l.length ∧ i = .int .i64 k ∧ Below w.heap.size w wr ∧ Hid (∀ y ∈ l.take k, ckE y = 0) ∧ Hid (chk [] l = chk (l.take k) (l.drop k))) (fun i _ => l.length - (intOf i).toNat)
  case atStart => exact ⟨0, Nat.zero_le _, rfl, Below.refl _ _, Lib.hid (by simp), Lib.hid rfl⟩
  case round =>
    obtain ⟨k, hk, rfl, hB, HA, H⟩ := hrel
    by_cases hlt : k < l.length
    · obtain ⟨x, hx⟩ : ∃ x, l[k]? = some x := ⟨_, List.getElem?_eq_getElem hlt⟩
      have hT : Hid (l.take (k + 1) = l.take k ++ [x]) := Lib.hid (by rw [List.take_add_one, hx]; rfl)
      have hD : Hid (l.drop k = x :: l.drop (k + 1)) := Lib.hid (by rw [List.drop_eq_getElem_cons hlt]; congr 1; rw [List.getElem?_eq_getElem hlt] at hx; exact Option.some.inj hx)
      have hTL : Hid ((l.take k).length = k) := Lib.hid (by rw [List.length_take]; omega)
      have hxs := hs x (List.mem_of_getElem? hx)
      have hL1 := (hL.up hB hB.size).take k
      obtain ⟨b, off, rfl, hb, c0, c1, c2, c3, c4, c5, c6, c7, c8, c9⟩ := (hL.below hB).at hx
      clear hx
      have hkc : (k : Int) ≤ (c : Int) := by omega
      have hN := refNext_any (some ⟨b, off, none⟩) c (l.take k) x wr.drew (hL1) (by have := hTL.out; omega) hxs HA.out
      rw [hTL.out] at hN
      by_cases hn : nextE (l.take k) x = 0
      · obtain ⟨hn1, hn2⟩ := next_len _ _ hn
        have HN : Hid (chk [] l = chk (l.take (k + 1)) (l.drop (k + 1))) := Lib.hid (by rw [H.out, hD.out, hT.out]; conv => lhs; unfold chk; rw [if_pos hn])
        have HA2 : Hid (∀ y ∈ l.take (k + 1), ckE y = 0) := Lib.hid (by
          intro y hy
          rw [hT.out] at hy
          rcases List.mem_append.1 hy with hy | hy
          · exact HA.out y hy
          · rw [List.mem_singleton.1 hy]; exact hn2)
        have HZ := Lib.hid hn
        clear hn hn2 hn1
        go_wp2_with fail
        go_region_with (first | (go_at_call 18; refine hN.mono ?_; rintro e w2 ⟨he, hb2⟩; rw [HZ.out] at he; subst he))
        all_goals go_wp2_with fail
        all_goals go_roundw
        case rel => exact ⟨k + 1, by omega, by go_num, (hB.drew).trans (hb2.mono hB.size), HA2, HN⟩
        case measure => simp [intOf]; omega
      · have HN : Hid (chk [] l = ((k : Int), nextE (l.take k) x)) := Lib.hid (by rw [H.out, hD.out]; unfold chk; rw [if_neg hn, hTL.out])
        have hn' : (nextE (l.take k) x != 0) = true := by simpa using hn
        clear hn
        go_wp2_with fail
        go_region_with (first | (go_at_call 18; refine hN.mono ?_; rintro e w2 ⟨rfl, hb2⟩))
        all_goals go_wp2_with fail
        all_goals go_ret2
        all_goals exact ⟨by rw [HN.out]; rfl, (hB.drew).trans (hb2.mono hB.size)⟩
    · have HN : Hid (chk [] l = (0, 0)) := Lib.hid (by rw [H.out, List.drop_of_length_le (by omega)]; rfl)
      go_wp2_with fail
      go_ret2
      exact ⟨by rw [HN.out]; rfl, hB⟩
end Go.Proofs.YtddhgengahlnkaaGreatDoor
namespace Go.Proofs.YtddhgengahlnkaaGreatDoor
open Go.RowKit

/-- v is a slice of the entries l in memory of the call's own, from block base on. -/
def OwnE (w : World) (base : Nat) (v : Value) (l : List Ent) : Prop := w.ownsRow base 29 10 v l.length (l.flatMap entCells)

theorem entCells_len (x : Ent) : (entCells x).length = 10 := rfl
theorem flat_len (l : List Ent) : (l.flatMap entCells).length = l.length * 10 := by
  induction l with
  | nil => rfl
  | cons x l ih => rw [List.flatMap_cons, List.length_append, ih, entCells_len, List.length_cons]; omega
theorem flat_at (l : List Ent) (k : Nat) (x : Ent) (hk : l[k]? = some x) (j : Nat) (hj : j < 10) : (l.flatMap entCells)[k * 10 + j]? = (entCells x)[j]? := by
  induction l generalizing k with
  | nil => simp at hk
  | cons y l ih =>
    rw [List.flatMap_cons]
    cases k with
    | zero =>
      simp at hk; subst hk
      rw [Nat.zero_mul, Nat.zero_add, List.getElem?_append_left (by rw [entCells_len]; exact hj)]
    | succ k =>
      rw [List.getElem?_append_right (by rw [entCells_len]; omega), entCells_len, show (k + 1) * 10 + j - 10 = k * 10 + j by omega]
      exact ih k (by simpa using hk)
theorem entCells_lt (x : Ent) (j : Nat) (v : Value) (h : (entCells x)[j]? = some v) : j < 10 := by
  have := (List.getElem?_eq_some_iff.1 h).1
  rwa [entCells_len] at this
theorem oneCell_ents (l : List Ent) : ∀ u ∈ l.flatMap entCells, u.oneCell' = true := by
  intro u hu
  obtain ⟨x, _, hx⟩ := List.mem_flatMap.1 hu
  simp [entCells] at hx
  rcases hx with h | h | h | h | h | h | h | h | h | h <;> subst h <;> rfl

/-- Cell by cell. -/
theorem EntsLie.flat {w : World} {B b off : Nat} {l : List Ent} (h : EntsLie w B (some ⟨b, off, none⟩) l) : ∀ j u, (l.flatMap entCells)[j]? = some u → w.cell? ((⟨b, off, none⟩ : Addr).add j) = some u := by
  intro j u hu
  have hj := (List.getElem?_eq_some_iff.1 hu).1
  rw [flat_len] at hj
  have hk : j / 10 < l.length := by omega
  obtain ⟨x, hx⟩ : ∃ x, l[j / 10]? = some x := ⟨_, List.getElem?_eq_getElem hk⟩
  have h1 := flat_at l (j / 10) x hx (j % 10) (Nat.mod_lt _ (by omega))
  rw [show j / 10 * 10 + j % 10 = j by omega, hu] at h1
  rcases h with h | ⟨b', off', hA, hlt, hc⟩
  · subst h; simp at hx
  · simp only [Option.some.injEq, Addr.mk.injEq, and_true] at hA
    obtain ⟨rfl, rfl⟩ := hA
    have h2 := hc (j / 10) x hx (j % 10) u h1.symm
    rw [show off + j / 10 * 10 + j % 10 = off + j by omega] at h2
    simp only [Addr.add]
    split
    · rename_i h0; subst h0; exact h2
    · exact h2
theorem EntsLie.of_flat {w : World} {B b off : Nat} {l : List Ent} (hb : b < B) (h : ∀ j u, (l.flatMap entCells)[j]? = some u → w.cell? ⟨b, off + j, none⟩ = some u) : EntsLie w B (some ⟨b, off, none⟩) l :=
  .inr ⟨b, off, rfl, hb, fun k x hk j v hv => by
    have h1 := flat_at l k x hk j (entCells_lt x j v hv)
    rw [Nat.add_assoc]
    exact h _ _ (h1.trans hv)⟩
theorem OwnE.shape {w : World} {base : Nat} {v : Value} {l : List Ent} (h : OwnE w base v l) : ∃ A c, v = .slice A l.length c ∧ l.length ≤ c ∧ EntsLie w w.heap.size A l ∧ (∀ g, v.ownBlock = some g → base ≤ g ∧ g < w.heap.size) := by
  have h' := h
  unfold OwnE at h
  rcases h.2 with ⟨rfl, h0⟩ | ⟨g, cap, cur, rfl, hg, hh, hn, _⟩
  · have hl : l = [] := List.eq_nil_of_length_eq_zero h0
    subst hl
    exact ⟨none, 0, rfl, Nat.le_refl _, .inl rfl, fun g hg => by simp [Value.ownBlock] at hg⟩
  · refine ⟨some ⟨g, 0, none⟩, cap, rfl, hn, EntsLie.of_flat (h.lt g rfl).2 (fun j u hu => ?_), h.lt⟩
    have hj : j < l.length * 10 := by rw [← flat_len]; exact (List.getElem?_eq_some_iff.1 hu).1
    rw [Nat.zero_add, h.cellAt j hj, hu]
theorem OwnE.keeps {S : Nat → Prop} {w w' : World} {base : Nat} {v : Value} {l : List Ent} (h : OwnE w base v l) (hk : Keeps S w w') (hs : ∀ g, v.ownBlock = some g → ¬ S g) : OwnE w' base v l := by
  unfold OwnE at h ⊢
  refine ⟨h.1, ?_⟩
  rcases h.2 with h0 | ⟨g, cap, cur, rfl, hb, hg, rest⟩
  · exact .inl h0
  · exact .inr ⟨g, cap, cur, rfl, hb, (hk.block g (h.lt g rfl).2 (hs g rfl)).trans hg, rest⟩

theorem infoEnt : (Tryz.prog.info? 29).map (fun i => (i.zero, i.size, i.bytes)) = some (some (entVal ⟨0, 0, 0, 0, 0, 0, 0, 0, 0, ⟨#[]⟩⟩), 10, 88) := by kernel_rfl
theorem entsRow : Tryz.prog.underlying 22 = some (.slice 29) := by kernel_rfl

theorem append_ents {w : World} {base : Nat} {v : Value} {l : List Ent} (h : OwnE w base v l) {B : Nat} {A : Option Addr} {m : List Ent} (hm : EntsLie w B A m) (c : Nat) (h63 : l.length + m.length ≤ maxLen) (hb : (l.length + m.length) * 88 ≤ 140737488355328) (hbase : base ≤ w.heap.size) (ty : TypeId) :
    ∃ v' w', (Builtin.append_ #[22, 22] ty #[v, .slice A m.length c]).run Tryz.prog w = .ok v' w' ∧ OwnE w' base v' (l ++ m) ∧ w.grownBy w' v.ownBlock ∧ (v'.ownBlock = v.ownBlock ∨ v'.ownBlock = some w.heap.size) := by
  obtain ⟨i0, hi, hz0, hz1, hz2⟩ := info_parts infoEnt
  unfold OwnE at h ⊢
  rw [List.length_append, List.flatMap_append]
  by_cases hA : m = []
  · subst hA
    cases A with
    | none =>
      refine ⟨v, w, ?_, by simpa using h, World.grownBy.refl w _, .inl rfl⟩
      rcases h.2 with ⟨rfl, h0⟩ | ⟨g, cap, cur, rfl, _, _, hnc, _⟩
      · simp [Builtin.append_, run_underlying entsRow, sizeOf, typeInfo, hi, Builtin.lenOf, Builtin.firstCells]
      · simp [Builtin.append_, run_underlying entsRow, sizeOf, typeInfo, hi, Builtin.lenOf, Builtin.firstCells, hnc, storeCells]
    | some ad =>
      obtain ⟨v', w', hrun, h2, h3, _, h5⟩ := run_append_own_at (P := Tryz.prog) w base 22 ty 29 i0 _ 10 88 entsRow hi hz0 hz1 hz2 rfl (by decide) v l.length _ h ad 0 c [] rfl (by simp) (by simp) (by simpa using h63) (by simpa using hb) hbase
      exact ⟨v', w', hrun, by simpa using h2, h3, h5⟩
  · rcases id hm with h0 | ⟨b, off, rfl, hlt, hc⟩
    · exact absurd h0 hA
    · obtain ⟨v', w', hrun, h2, h3, _, h5⟩ := run_append_own_at (P := Tryz.prog) w base 22 ty 29 i0 _ 10 88 entsRow hi hz0 hz1 hz2 rfl (by decide) v l.length _ h ⟨b, off, none⟩ m.length c (m.flatMap entCells) (flat_len m) hm.flat (oneCell_ents m) h63 hb hbase
      exact ⟨v', w', hrun, h2, h3, h5⟩
end Go.Proofs.YtddhgengahlnkaaGreatDoor
