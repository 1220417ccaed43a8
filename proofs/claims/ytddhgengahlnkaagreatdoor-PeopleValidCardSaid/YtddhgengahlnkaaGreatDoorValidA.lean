/- PeopleValid returns true for every list of entries, and leaves the list as it was; the package variables that it names start as the program's text lays them (the card ties them). -/
import Derived.Test.YtddhgengahlnkaaGreatDoorAliveA
import Derived.Test.YtddhgengahlnkaaGreatDoorKnownsA
namespace Go.Proofs.YtddhgengahlnkaaGreatDoor
open Go.ChangeShapes Go.WideShapes Go.ChangeAt Go.RowKit

theorem chk_fst (pre l : List Ent) (h : (chk pre l).2 = 0) : chk pre l = (0, 0) := by
  induction l generalizing pre with
  | nil => rfl
  | cons y l ih =>
    unfold chk at h ⊢
    by_cases hn : nextE pre y = 0
    · rw [if_pos hn] at h ⊢; exact ih _ h
    · rw [if_neg hn] at h; exact absurd h hn
theorem chk_stop (pre l r : List Ent) (x : Ent) (h : (chk pre l).2 = 0) (hx : nextE (pre ++ l) x ≠ 0) : chk pre (l ++ x :: r) = (((pre ++ l).length : Int), nextE (pre ++ l) x) := by
  induction l generalizing pre with
  | nil =>
    rw [List.nil_append, List.append_nil] at *
    unfold chk
    rw [if_neg hx]
  | cons y l ih =>
    unfold chk at h
    rw [List.cons_append]
    unfold chk
    by_cases hn : nextE pre y = 0
    · rw [if_pos hn] at h
      rw [if_pos hn, ih (pre ++ [y]) h (by rwa [List.append_assoc]), List.append_assoc]
      rfl
    · rw [if_neg hn] at h; exact absurd h hn
theorem appE_next (l : List Ent) (x : Ent) (h : (chk [] l).2 = 0) : appE l x = nextE l x := by
  unfold appE
  rw [nextE_chk, if_neg (by simp [h])]
  rfl

set_option maxRecDepth 100000 in
set_option maxHeartbeats 2000000 in
theorem valid_walk (A : Option Addr) (c : Nat) (l : List Ent) (w : World) (hL : EntsLie w w.heap.size A l) (hl : l.length ≤ maxLen) (hs : ∀ x ∈ l, x.name.size ≤ maxLen) (hb : l.length * 88 ≤ 140737488355328) (hc : l.length ≤ c) (hm : MaxAt w) :
    Calls Tryz.prog 5 #[.slice A l.length c] w fun e w' => e = .returned (.bool true) ∧ Below w.heap.size w w' := by
  have H1 := Lib.hid (Check_any A c l w hL hl hs hc)
  have H3 : Hid (∀ W, Below w.heap.size w W → _) := Lib.hid fun W (hW : Below w.heap.size w W) => alive_any W (hm.below hm.lt hW)
  have HC : Hid (∀ (W : World) (A' : Option Addr) (c' k : Nat), _) := Lib.hid fun (W : World) (A' : Option Addr) (c' k : Nat) (h : EntsLie W W.heap.size A' (l.take k)) (h2 : k ≤ l.length) (h1 : k ≤ c') =>
    Check_any A' c' (l.take k) W h (by rw [List.length_take]; omega) (fun y hy => hs y (List.mem_of_mem_take hy)) (by rw [List.length_take]; omega)
  have HL := Lib.hid hL
  have HS := Lib.hid hs
  have HM := Lib.hid hl
  clear hm
  have hl63 : (l.length : Int) ≤ 1599289640401 := by omega
  have HB := Lib.hid hb
  clear hb hs hl hL
  go_enter Tryz.func5, Tryz.ntmps5
  obtain ⟨r, hr⟩ : ∃ r, r = chk [] l := ⟨_, rfl⟩
  rw [← hr] at H1
  have HR := Lib.hid hr
  clear hr
  obtain ⟨ri, re⟩ := r
  dsimp only at H1
  go_wp2_with fail
  refine H1.out.mono ?_
  rintro _ w1 ⟨rfl, hb1⟩
  go_wp2_with fail
  go_loopw [5, 19] (fun m i wr => ∃ (k : Nat) (A' : Option Addr) (c' : Nat), k ≤ l.length ∧ i = .int .i64 k ∧ m = .slice A' k c' ∧ k ≤ c' ∧ (chk [] (l.take k)).2 = 0 ∧ EntsLie wr wr.heap.size A' (l.take k) ∧ Below w.heap.size w wr) (fun _ i _ => l.length - (intOf i).toNat)
  case atStart => exact ⟨0, none, 0, Nat.zero_le _, rfl, rfl, Nat.le_refl _, rfl, .inl rfl, hb1⟩
  case round =>
    clear hb1
    obtain ⟨k, A', c', hk, rfl, rfl, hkc, hok, hLk, hB⟩ := hrel
    by_cases hlt : k < l.length
    · obtain ⟨x, hx⟩ : ∃ x, l[k]? = some x := ⟨_, List.getElem?_eq_getElem hlt⟩
      have hLw := HL.out.up hB hB.size
      obtain ⟨b, off, rfl, hbl, c0, c1, c2, c3, c4, c5, c6, c7, c8, c9⟩ := hLw.at hx
      have hT : l.take (k + 1) = l.take k ++ [x] := by rw [List.take_add_one, hx]; rfl
      have hD : l = l.take k ++ x :: l.drop (k + 1) := by
        have h := List.drop_eq_getElem_cons hlt
        rw [(List.getElem?_eq_some_iff.1 hx).2] at h
        rw [← h, List.take_append_drop]
      have hlk : (l.take k).length = k := by rw [List.length_take]; omega
      have hxs := HS.out x (List.mem_of_getElem? hx)
      have HT := Lib.hid hT
      have HLK := Lib.hid hlk
      have hf := appE_next (l.take k) x hok
      have HSTOP : Hid (nextE (l.take k) x ≠ 0 → chk [] l = ((k : Int), nextE (l.take k) x)) := Lib.hid fun h => by
        have h1 := chk_stop [] (l.take k) (l.drop (k + 1)) x hok (by rw [List.nil_append]; exact h)
        rw [← hD, List.nil_append, hlk] at h1
        exact h1
      have HOK : Hid (nextE (l.take k) x = 0 → (chk [] (l.take (k + 1))).2 = 0) := Lib.hid fun h => by
        rw [hT]; show appE (l.take k) x = 0; rw [hf, h]
      have HF := Lib.hid hf
      have hnew : Below wr.heap.size wr (wr.alloc (.cells (entCells x).toArray 29)) := (Below.refl _ _).alloc (Nat.le_refl _) _
      have hbx := Blk.new wr 29 (entCells x).toArray
      simp only [entCells] at hnew hbx
      clear hT hD hlk hf hx hLw
      go_upto_region 6 with fail
      generalize wr.alloc (.cells _ 29) = w2 at hnew hbx ⊢
      have hB2 := hB.trans (hnew.mono hB.size)
      have hL2 := hLk.up hnew hnew.size
      clear hB hLk hnew c0 c1 c2 c3 c4 c5 c6 c7 c8 c9 hbl
      have x0 := hbx.cell 0
      have x1 := hbx.cell 1
      have x2 := hbx.cell 2
      have x3 := hbx.cell 3
      have x4 := hbx.cell 4
      have x5 := hbx.cell 5
      have x6 := hbx.cell 6
      have x7 := hbx.cell 7
      have x8 := hbx.cell 8
      have x9 := hbx.cell 9
      have xz := hbx.lt
      simp at x0 x1 x2 x3 x4 x5 x6 x7 x8 x9
      have hAp := Append_any A' c' (l.take k) x w2 hL2 (fun y hy => HS.out y (List.mem_of_mem_take hy)) hxs (by rw [HLK.out]; have := HB.out; omega)
      rw [HLK.out] at hAp
      unfold entVal at hAp
      have HAP := Lib.hid hAp
      clear hAp hxs hbx
      go_wp2_with fail
      refine HAP.out.mono ?_
      rintro _ w3 ⟨hb3, hA0, hA1⟩
      rw [HF.out] at hA0 hA1
      have hB3 := hB2.trans (hb3.mono hB2.size)
      clear x0 x1 x2 x3 x4 x5 x6 x7 x8 x9 xz hL2 HAP hB2 hb3
      by_cases hn : nextE (l.take k) x = 0
      · obtain ⟨v, rfl, hO⟩ := hA0 hn
        have hok2 := HOK.out hn
        obtain ⟨A3, c3, rfl, hc3, hL3, _⟩ := hO.shape
        have hl1 : (l.take k ++ [x]).length = k + 1 := by rw [List.length_append, HLK.out]; rfl
        rw [hl1] at hc3 ⊢
        rw [← HT.out] at hL3
        have hCk := HC.out w3 A3 c3 (k + 1) hL3 (by omega) hc3
        rw [chk_fst [] _ hok2, show (l.take (k + 1)).length = k + 1 by rw [HT.out]; exact hl1] at hCk
        have HCK := Lib.hid hCk
        have HOK2 := Lib.hid hok2
        clear hA0 hA1 hO hl1 hok hn hok2 hCk
        go_wp2_with fail
        refine HCK.out.mono ?_
        rintro _ w4 ⟨rfl, hb4⟩
        have hL4 := hL3.up hb4 hb4.size
        have hB4 := hB3.trans (hb4.mono hB3.size)
        clear hL3 hB3 hb4
        go_wp2_with fail
        go_roundw
        case rel => exact ⟨k + 1, A3, c3, by omega, by go_num, rfl, hc3, HOK2.out, hL4, hB4⟩
        case measure => simp [intOf]; omega
      · have he := hA1 hn
        subst he
        have hs := HSTOP.out hn
        rw [← HR.out] at hs
        simp only [Prod.mk.injEq] at hs
        obtain ⟨rfl, rfl⟩ := hs
        have hnb : (nextE (l.take k) x == 0) = false := by simpa using hn
        have hnb2 : (nextE (l.take k) x != 0) = true := by simpa using hn
        clear hA0 hA1
        generalize nextE (l.take k) x = f at *
        go_wp2_with fail
        refine (H3.out w3 hB3).mono ?_
        rintro _ w4 ⟨rfl, hb4⟩
        go_wp2_with fail
        go_ret
        exact ⟨rfl, hB3.trans (hb4.mono hB3.size)⟩
    · obtain rfl : k = l.length := by omega
      rw [List.take_length] at hok hLk
      have hs := chk_fst [] l hok
      rw [← HR.out] at hs
      simp only [Prod.mk.injEq] at hs
      obtain ⟨rfl, rfl⟩ := hs
      have HLk := Lib.hid hLk
      clear hok hLk
      go_wp2_with fail
      refine (H3.out wr hB).mono ?_
      rintro _ w4 ⟨rfl, hb4⟩
      have hB4 := hB.trans (hb4.mono hB.size)
      have hsm := refSame_any A' A c' c l l w4.heap.size w4 (HLk.out.up hb4 hb4.size) (HL.out.up hB4 hB4.size) HM.out HM.out
      rw [decide_eq_true rfl] at hsm
      have HSA := Lib.hid hsm
      clear hsm
      go_wp2_with fail
      refine HSA.out.mono ?_
      rintro _ w5 ⟨rfl, n, rfl⟩
      go_wp2_with fail
      go_ret
      exact ⟨rfl, below_dr hB4 n⟩

set_option maxRecDepth 100000 in
theorem valid_contract (H : Type) (enc : TypeId × Value → H) (W : World) (base : Nat) (args : Array Value) (ds gs : List (DataW H)) (before : List MemPlace)
    (hval : ∀ (j : Nat) t v, Tryz.f5.params[j]? = some t → args[j]? = some v → Value.okWide Tryz.prog W .any base t v)
    (hW : DataW.Whole enc Tryz.prog Tryz.f5.params.toList Rows.peopleValidSpec.vars false W args.toList ds gs before)
    (hz : ∀ xs ys, ds[0]? = some (.slice xs ys) → (xs.length + ys.length) * 88 ≤ reachBytes) (hsh : W.ShapedOpen Tryz.prog) :
    Calls Tryz.prog 5 args W fun e W' => ∃ v, e = .returned v ∧ Rows.peopleValidSpec.post enc Tryz.prog Tryz.f5 false true false false W args v W' := by
  have hW' := hW
  have hlt : ∀ p ∈ before, p.block < W.heap.size := fun p hp => hW.lt p hp
  obtain ⟨p, q, hA, hV, rfl, hfz, hnd⟩ := hW
  have hA0 : DataW.TrodAll enc Tryz.prog W 0 (fun _ => true) true [22] args.toList ds p := hA
  obtain ⟨v0, vs0, d0, ds0, p0, q0, hargs, rfl, rfl, h0, r0⟩ := trodAll_cons hA0
  obtain ⟨rfl, rfl, rfl⟩ := trodAll_nil r0
  obtain rfl : args = #[v0] := by cases args; simp_all
  obtain ⟨rfl, rfl⟩ := trodVars_none hV
  have hsl := slice_of_ok (hval 0 22 v0 rfl rfl)
  obtain ⟨A, c, l, rfl, hlc, hcm, hL, hgo, hd⟩ := open_ents (fun x hx => hlt x (by simp [hx])) h0 hsl
  have hb : l.length * 88 ≤ 140737488355328 := by
    rcases hd with ⟨_, rfl⟩ | ⟨xs, ys, rfl, hx⟩
    · decide
    · have := hz xs ys rfl
      have h1 : reachBytes ≤ 140737488355328 := by decide
      rw [← hx]
      omega
  refine (valid_walk A c l W hL (Nat.le_trans hlc hcm) (fun x hx => (hgo x hx).1) hb hlc (laysCut.s1_3 W hsh)).mono fun e W' ⟨he, hb⟩ => ?_
  subst he
  exact law_post rfl (fun t ht => by obtain rfl : t = 22 := List.mem_singleton.1 ht; exact ents_readable) rfl hW' rfl hb
end Go.Proofs.YtddhgengahlnkaaGreatDoor
namespace Go.Proofs.YtddhgengahlnkaaGreatDoor
open Go.ChangeShapes Go.WideShapes Go.ChangeAt Go.RowKit

theorem valid_laid_met (os : Os) : laidMetH Tryz.prog Rows.peopleValidRow.laid ((doorW os).forCall (fun _ _ => 0) ⟨#[], #[.slice none 0 0], []⟩).memory :=
  laidMetH_of_parts3 (fuel := 8) (laidMet_of_run' 8 (by kernel_rfl) (by kernel_rfl)) (by kernel_rfl) (by kernel_rfl)
theorem valid_reads (os : Os) {H : Type} (enc : TypeId × Value → H) : ∃ places, DataW.whole enc Tryz.prog ((doorW os).forCall (fun _ _ => 0) ⟨#[], #[.slice none 0 0], []⟩).memory Tryz.f5.params.toList Rows.peopleValidSpec.vars false #[Value.slice none 0 0].toList 8 = some ([.nil], [], places) :=
  ⟨[], by kernel_rfl⟩

set_option maxRecDepth 100000 in
theorem valid_lifted (os : Os) (started : os.Started) (H : Type) (enc : TypeId × Value → H) (F : Stop.Interp) :
    ReturnsInHanded {} Tryz.checked os 5 .any ((OpenSpec.ofChange Rows.peopleValidSpec).preRow enc Tryz.prog Tryz.f5 Rows.peopleValidRow.domain false Rows.peopleValidRow.laid) (((OpenSpec.ofChange Rows.peopleValidSpec).at F).post enc Tryz.prog Tryz.f5 false true false false) := by
  obtain ⟨places, hx⟩ := valid_reads os enc
  refine returnsInHanded_of_row (C := Tryz.checked) (s := OpenSpec.ofChange Rows.peopleValidSpec) ownKnobA started (by kernel_rfl) Tryz.func5
    (witness_row_at (enc := enc) (C := Tryz.checked) false (doorW os) #[.slice none 0 0] rfl (by kernel_rfl) (by kernel_rfl) (by kernel_rfl)
      (OpenSpec.preRow_of_cond 8 hx (by kernel_rfl) (fun k hk => by cases hk) (by kernel_rfl) (valid_laid_met os))) ?_
  intro W base args ds gs before hval hW _ _ hz _ hsh _
  refine valid_contract H enc W base args ds gs before hval hW (fun xs ys h => ?_) hsh
  have := sized_slice (j := 0) (t := 22) (e := 29) (elems := xs) (spare := ys) hz rfl (List.getElem?_append_left (List.getElem?_eq_some_iff.1 h).1 |>.trans h) entsRow
  have hb : Tryz.checked.prog.bytesOf 29 = 88 := bytesEnt
  rw [hb] at this
  exact this

theorem valid_said : Rows.PeopleValidSaid :=
  OpenClaim.holds_of_cond 5 Tryz.f5 rfl rfl rfl rfl rfl rfl rfl ⟨rfl, rfl, rfl, rfl, rfl⟩ rfl rfl rfl rfl rfl (by kernel_rfl) Tryz.func5 (by kernel_rfl)
    (of_decide_eq_true (by kernel_rfl)) (by unfold Func.isWrapper; first | (rw [if_pos (by decide +kernel)]; kernel_rfl) | (rw [if_neg (by decide +kernel)]; exact ⟨rfl, rfl⟩))
    (fun os started H enc _ F => by rw [OpenClaim.pre_eq_preRow]; exact valid_lifted os started H enc F)

theorem valid_plain (f : FuncId) (fn : Func) (hf : Tryz.pinned.checked.prog.funcNamed "restante/restantelaw03.PeopleValid" = some f) (hfn : Tryz.pinned.checked.prog.funcs[f]? = some fn) :
    true = Tryz.pinned.checked.prog.looks [] ∧ ∀ (j : Nat) t, fn.params[j]? = some t → Tryz.pinned.checked.prog.wantsStandIn t = false := by
  obtain rfl : f = 5 := Option.some.inj ((show Tryz.prog.funcNamed "restante/restantelaw03.PeopleValid" = some 5 by kernel_rfl).symm.trans hf) |>.symm
  obtain rfl : fn = Tryz.f5 := (Option.some.inj (Tryz.func5.symm.trans hfn)).symm
  refine ⟨by kernel_rfl, fun j t ht => ?_⟩
  rw [Tryz.params5] at ht
  obtain rfl : t = 22 := by simpa using Array.mem_of_getElem? ht
  exact (show Tryz.prog.wantsStandIn 22 = false by kernel_rfl)

theorem peopleValid_card : Rows.PeopleValidCardSaid :=
  Claim7.holds_tied_plain_at .later [] _ _ _ _ valid_said (fun _ h => by cases h) (by kernel_rfl) (fun _ h => by cases h) peopleValid_row_tie rfl ⟨rfl, rfl⟩ (by kernel_rfl) rfl valid_plain (by kernel_rfl)
#print axioms peopleValid_card
end Go.Proofs.YtddhgengahlnkaaGreatDoor
