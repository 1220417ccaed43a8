/- PeopleAppends returns true for every list of entries and every entry, and leaves its arguments as they were; the package variables that it names start as the program's text lays them (the card ties them). -/
import Derived.Test.YtddhgengahlnkaaGreatDoorAliveA
import Derived.Test.YtddhgengahlnkaaGreatDoorKnownsA
namespace Go.Proofs.YtddhgengahlnkaaGreatDoor
open Go.ChangeShapes Go.WideShapes Go.ChangeAt Go.RowKit

/-- A block of at least so many cells of entries. -/
def RowAt (w : World) (g n : Nat) : Prop := ∃ cs : Array Value, Blk w g 29 cs ∧ n * 10 ≤ cs.size

theorem RowAt.set {w : World} {g n : Nat} (h : RowAt w g n) (i : Nat) (v : Value) : RowAt (w.setCell ⟨g, i, none⟩ v) g n := by
  obtain ⟨cs, h1, h2⟩ := h
  exact ⟨_, Blk.set h1 i v, by simpa using h2⟩
theorem fill_row {wr : World} {g n : Nat} (h : RowAt wr g n) (k : Nat) (v0 v1 v2 v3 v4 v5 v6 v7 v8 v9 : Value) : RowAt ((((((((((wr.setCell ⟨g, k * 10, none⟩ v0).setCell ⟨g, k * 10 + 1, none⟩ v1).setCell ⟨g, k * 10 + 2, none⟩ v2).setCell ⟨g, k * 10 + 3, none⟩ v3).setCell ⟨g, k * 10 + 4, none⟩ v4).setCell ⟨g, k * 10 + 5, none⟩ v5).setCell ⟨g, k * 10 + 6, none⟩ v6).setCell ⟨g, k * 10 + 7, none⟩ v7).setCell ⟨g, k * 10 + 8, none⟩ v8).setCell ⟨g, k * 10 + 9, none⟩ v9) g n :=
  (((((((((h.set (k * 10) v0).set (k * 10 + 1) v1).set (k * 10 + 2) v2).set (k * 10 + 3) v3).set (k * 10 + 4) v4).set (k * 10 + 5) v5).set (k * 10 + 6) v6).set (k * 10 + 7) v7).set (k * 10 + 8) v8).set (k * 10 + 9) v9
theorem fill_keeps {S : Nat → Prop} {w5 wr : World} {g : Nat} (h : Keeps S w5 wr) (hg : S g) (k : Nat) (v0 v1 v2 v3 v4 v5 v6 v7 v8 v9 : Value) : Keeps S w5 ((((((((((wr.setCell ⟨g, k * 10, none⟩ v0).setCell ⟨g, k * 10 + 1, none⟩ v1).setCell ⟨g, k * 10 + 2, none⟩ v2).setCell ⟨g, k * 10 + 3, none⟩ v3).setCell ⟨g, k * 10 + 4, none⟩ v4).setCell ⟨g, k * 10 + 5, none⟩ v5).setCell ⟨g, k * 10 + 6, none⟩ v6).setCell ⟨g, k * 10 + 7, none⟩ v7).setCell ⟨g, k * 10 + 8, none⟩ v8).setCell ⟨g, k * 10 + 9, none⟩ v9) :=
  (((((((((h.setCell (p := ⟨g, k * 10, none⟩) (fun _ => hg) v0).setCell (p := ⟨g, k * 10 + 1, none⟩) (fun _ => hg) v1).setCell (p := ⟨g, k * 10 + 2, none⟩) (fun _ => hg) v2).setCell (p := ⟨g, k * 10 + 3, none⟩) (fun _ => hg) v3).setCell (p := ⟨g, k * 10 + 4, none⟩) (fun _ => hg) v4).setCell (p := ⟨g, k * 10 + 5, none⟩) (fun _ => hg) v5).setCell (p := ⟨g, k * 10 + 6, none⟩) (fun _ => hg) v6).setCell (p := ⟨g, k * 10 + 7, none⟩) (fun _ => hg) v7).setCell (p := ⟨g, k * 10 + 8, none⟩) (fun _ => hg) v8).setCell (p := ⟨g, k * 10 + 9, none⟩) (fun _ => hg) v9
/-- The list that Append returns. -/
def appL (l : List Ent) (x : Ent) : List Ent := if appE l x = 0 then l ++ [x] else []
theorem app_uni {w w' : World} {l : List Ent} {x : Ent} {e : Ending} (h : AppPost w l x e w') : ∃ v, e = .returned (.tuple #[v, .int .i64 (appE l x)]) ∧ OwnE w' w.heap.size v (appL l x) ∧ Below w.heap.size w w' := by
  obtain ⟨hB, h0, h1⟩ := h
  unfold appL
  by_cases he : appE l x = 0
  · rw [if_pos he, he]
    obtain ⟨v, h2, h3⟩ := h0 he
    exact ⟨v, h2, h3, hB⟩
  · rw [if_neg he]
    exact ⟨_, h1 he, World.ownsRow_nil _ _ _ _, hB⟩
theorem own_row {w : World} {base : Nat} {v : Value} {l : List Ent} (h : OwnE w base v l) : ∃ A c, v = .slice A l.length c ∧ l.length ≤ c ∧ EntsLie w w.heap.size A l ∧ (0 < l.length → ∃ g, A = some ⟨g, 0, none⟩ ∧ base ≤ g ∧ RowAt w g l.length) ∧ (∀ g, A = some ⟨g, 0, none⟩ → base ≤ g) := by
  obtain ⟨A, c, rfl, h1, h2, h3⟩ := h.shape
  refine ⟨A, c, rfl, h1, h2, fun hp => ?_, fun g hg => ?_⟩
  · rcases h.2 with ⟨h0, h4⟩ | ⟨g, cap, cur, h4, h5, h6, h7, h8, h9, _⟩
    · omega
    · simp only [Value.slice.injEq] at h4
      exact ⟨g, h4.1, h5, cur, h6, by rw [h9]; exact Nat.mul_le_mul_right _ h7⟩
  · subst hg
    exact (h3 g rfl).1
theorem appL_len (l : List Ent) (x : Ent) : (appL l x).length ≤ l.length + 1 := by
  unfold appL
  split <;> simp

set_option maxRecDepth 100000 in
set_option maxHeartbeats 2000000 in
theorem apps_walk (A : Option Addr) (c : Nat) (l : List Ent) (x : Ent) (w : World) (hL : EntsLie w w.heap.size A l) (hl : l.length ≤ maxLen) (hs : ∀ y ∈ l, y.name.size ≤ maxLen) (hx : x.name.size ≤ maxLen) (hb : (l.length + 1) * 88 ≤ 140737488355328) (hc : l.length ≤ c) (hm : MaxAt w) :
    Calls Tryz.prog 4 #[.slice A l.length c, entVal x] w fun e w' => e = .returned (.bool true) ∧ Below w.heap.size w w' := by
  have hw0 : Below w.heap.size w ((w.alloc (.cells (entCells x).toArray 29)).alloc (.cells #[] 29)) := ((Below.refl _ _).alloc (Nat.le_refl _) _).alloc (by simp) _
  obtain ⟨v', w1, hrun, hO, hG, hloc⟩ := append_ents (OwnE.empty (w.alloc (.cells (entCells x).toArray 29)) (w.heap.size + 1) (by simp)) (hL.below hw0) c (by simpa using hl) (by simp; omega) (by simp) 22
  have hbx : Blk w1 w.heap.size 29 (entCells x).toArray := Blk.grownS ((Blk.new w _ _).alloc _) hG (fun k h => by simp [Value.ownBlock] at h; omega)
  have hB1 : Below w.heap.size w w1 := Below.grown hw0 hG (by simp; omega) (fun k h => by simp [Value.ownBlock] at h; omega)
  rw [List.nil_append] at hO
  obtain ⟨Aw, cw, rfl, hcw, hLw, how⟩ := hO.shape
  have H1 := Lib.hid (Append_any A c l x w1 (hL.up hB1 hB1.size) hs hx hb)
  have H2 : Hid (∀ W, Below w.heap.size w W → _) := Lib.hid fun W (hW : Below w.heap.size w W) => refAppend_any A c l x W (hL.up hW hW.size) hs hx hb hc
  have H3 : Hid (∀ W, Below w.heap.size w W → _) := Lib.hid fun W (hW : Below w.heap.size w W) => alive_any W (hm.below hm.lt hW)
  have HL := Lib.hid hL
  have HM := Lib.hid hl
  have HLW := Lib.hid hLw
  have HOW := Lib.hid how
  have hl63 : (l.length : Int) ≤ 1599289640401 := by omega
  clear hL hl hs hx hb hc hm hO hG hloc hw0 hLw how
  have x0 := hbx.cell 0
  have x1 := hbx.cell 1
  have x2 := hbx.cell 2
  have x3 := hbx.cell 3
  have x4 := hbx.cell 4
  have x5 := hbx.cell 5
  have x6 := hbx.cell 6
  have x7 := hbx.cell 7
  have x8 := hbx.cell 8
  have x9 := hbx.cell 9
  have xz := hbx.lt
  simp [entCells] at x0 x1 x2 x3 x4 x5 x6 x7 x8 x9
  simp only [entCells, World.size_alloc] at hrun
  unfold entVal at H1 H2 ⊢
  go_enter Tryz.func4, Tryz.ntmps4
  go_wp2_with (at_builtin; refine Lib.wpList_append_run _ rfl _ _ _ _ rfl _ _ rfl rfl _ _ hrun ?_)
  refine H1.out.mono ?_
  rintro _ w2 hAp
  obtain ⟨v2, rfl, hO2, hb2⟩ := app_uni hAp
  obtain ⟨Am, cm, rfl, hcm, hLm, hrow, hbm⟩ := own_row hO2
  have hB2 := hB1.trans (hb2.mono hB1.size)
  have hbx2 := hbx.below hb2 hbx.lt
  have hml := appL_len l x
  have hLw2 := HLW.out.up hb2 hb2.size
  clear x0 x1 x2 x3 x4 x5 x6 x7 x8 x9 xz hrun hbx hAp hO2
  have x0 := hbx2.cell 0
  have x1 := hbx2.cell 1
  have x2 := hbx2.cell 2
  have x3 := hbx2.cell 3
  have x4 := hbx2.cell 4
  have x5 := hbx2.cell 5
  have x6 := hbx2.cell 6
  have x7 := hbx2.cell 7
  have x8 := hbx2.cell 8
  have x9 := hbx2.cell 9
  have xz := hbx2.lt
  simp [entCells] at x0 x1 x2 x3 x4 x5 x6 x7 x8 x9
  have HRow := Lib.hid hrow
  have HBm := Lib.hid hbm
  clear hrow hbm
  go_wp2_with fail
  refine (H2.out w2 hB2).mono ?_
  rintro _ w3 hAp
  obtain ⟨v3, rfl, hO3, hb3⟩ := app_uni hAp
  obtain ⟨An, cn, rfl, hcn, hLn, _⟩ := own_row hO3
  have hB3 := hB2.trans (hb3.mono hB2.size)
  have hSm := refSame_any Am An cm cn (appL l x) (appL l x) w3.heap.size w3 (hLm.up hb3 hb3.size) hLn (by unfold maxLen; omega) (by unfold maxLen; omega)
  rw [decide_eq_true rfl] at hSm
  have HSm := Lib.hid hSm
  clear x0 x1 x2 x3 x4 x5 x6 x7 x8 x9 xz hAp hO3 hSm hbx2
  go_wp2_with fail
  refine HSm.out.mono ?_
  rintro _ w4 ⟨rfl, n, rfl⟩
  have hb13 := hb2.trans (hb3.mono hb2.size)
  have hb14 := below_dr hb13 n
  have hB4 := below_dr hB3 n
  have hr3 : 0 < (appL l x).length → ∃ g, Am = some ⟨g, 0, none⟩ ∧ w1.heap.size ≤ g ∧ RowAt (w3.drewN n) g (appL l x).length := fun h => by
    obtain ⟨g, h1, h2, cs, h3, h4⟩ := HRow.out h
    exact ⟨g, h1, h2, cs, (h3.below hb3 h3.lt).drewN n, h4⟩
  have HR3 := Lib.hid hr3
  clear hr3 hB2 hb2 hb3 hb13 hLm hLn hLw2 hcn HSm H1 H2
  generalize w3.drewN n = w5 at HR3 hb14 hB4 ⊢
  go_wp2_with fail
  go_loopw [37] (fun i wr => ∃ k : Nat, k ≤ (appL l x).length ∧ i = .int .i64 k ∧ Keeps (fun i => w1.heap.size ≤ i) w5 wr ∧ (0 < (appL l x).length → ∃ g, Am = some ⟨g, 0, none⟩ ∧ w1.heap.size ≤ g ∧ RowAt wr g (appL l x).length)) (fun i _ => (appL l x).length - (intOf i).toNat)
  case atStart => exact ⟨0, Nat.zero_le _, rfl, Keeps.refl _ _, HR3.out⟩
  case round =>
    obtain ⟨k, hk, rfl, hK, hR⟩ := hrel
    by_cases hlt : k < (appL l x).length
    · obtain ⟨g, rfl, hg1, cs, hBl, hcs⟩ := hR (by omega)
      have hc : ∀ j, j < 10 → ∃ u, wr.cell? ⟨g, k * 10 + j, none⟩ = some u := fun j hj => ⟨_, (hBl.cell (k * 10 + j)).trans (Array.getElem?_eq_getElem (by omega))⟩
      obtain ⟨u0, c0⟩ := hc 0 (by omega)
      obtain ⟨u1, c1⟩ := hc 1 (by omega)
      obtain ⟨u2, c2⟩ := hc 2 (by omega)
      obtain ⟨u3, c3⟩ := hc 3 (by omega)
      obtain ⟨u4, c4⟩ := hc 4 (by omega)
      obtain ⟨u5, c5⟩ := hc 5 (by omega)
      obtain ⟨u6, c6⟩ := hc 6 (by omega)
      obtain ⟨u7, c7⟩ := hc 7 (by omega)
      obtain ⟨u8, c8⟩ := hc 8 (by omega)
      obtain ⟨u9, c9⟩ := hc 9 (by omega)
      rw [Nat.add_zero] at c0
      have f0 := hBl.frozen (k * 10)
      have f1 := hBl.frozen (k * 10 + 1)
      have f2 := hBl.frozen (k * 10 + 2)
      have f3 := hBl.frozen (k * 10 + 3)
      have f4 := hBl.frozen (k * 10 + 4)
      have f5 := hBl.frozen (k * 10 + 5)
      have f6 := hBl.frozen (k * 10 + 6)
      have f7 := hBl.frozen (k * 10 + 7)
      have f8 := hBl.frozen (k * 10 + 8)
      have f9 := hBl.frozen (k * 10 + 9)
      have zg := hBl.lt
      have HCM := Lib.hid hcm
      clear hc hR
      go_wp2_with fail
      have hr1 := fill_row ⟨cs, hBl, hcs⟩ k (.int .i64 (k : Int)) (.int .u8 99) (.int .i64 0) (.int .i64 0) (.int .i64 0) (.int .i64 0) (.int .i64 0) (.int .i64 0) (.int .i64 0) (.string ⟨#[]⟩)
      have hk1 := fill_keeps hK hg1 k (.int .i64 (k : Int)) (.int .u8 99) (.int .i64 0) (.int .i64 0) (.int .i64 0) (.int .i64 0) (.int .i64 0) (.int .i64 0) (.int .i64 0) (.string ⟨#[]⟩)
      generalize ((((((((((wr.setCell ⟨g, k * 10, none⟩ (.int .i64 (k : Int))).setCell ⟨g, k * 10 + 1, none⟩ (.int .u8 99)).setCell ⟨g, k * 10 + 2, none⟩ (.int .i64 0)).setCell ⟨g, k * 10 + 3, none⟩ (.int .i64 0)).setCell ⟨g, k * 10 + 4, none⟩ (.int .i64 0)).setCell ⟨g, k * 10 + 5, none⟩ (.int .i64 0)).setCell ⟨g, k * 10 + 6, none⟩ (.int .i64 0)).setCell ⟨g, k * 10 + 7, none⟩ (.int .i64 0)).setCell ⟨g, k * 10 + 8, none⟩ (.int .i64 0)).setCell ⟨g, k * 10 + 9, none⟩ (.string ⟨#[]⟩)) = wz at hr1 hk1 ⊢
      go_roundw
      case rel => exact ⟨k + 1, by omega, by go_num, hk1, fun _ => ⟨g, rfl, hg1, hr1⟩⟩
      case measure => simp [intOf]; omega
    · have hBw : Below w1.heap.size w5 wr := hK.below (B := w1.heap.size) (fun i h1 h2 => by omega) hb14.size
      have hB1w := hb14.trans hBw
      have hBww := hB1.trans (hB1w.mono hB1.size)
      obtain rfl : k = (appL l x).length := by omega
      clear hR hK
      go_wp2_with fail
      refine (H3.out wr hBww).mono ?_
      rintro _ w6 ⟨rfl, hb6⟩
      have hB6 := hBww.trans (hb6.mono hBww.size)
      have hb16 := hB1w.trans (hb6.mono hB1w.size)
      have hSm := refSame_any A Aw c cw l l w6.heap.size w6 (HL.out.up hB6 hB6.size) (HLW.out.up hb16 hb16.size) HM.out HM.out
      rw [decide_eq_true rfl] at hSm
      have HSw := Lib.hid hSm
      clear hSm hb6
      go_wp2_with fail
      refine HSw.out.mono ?_
      rintro _ w7 ⟨rfl, n2, rfl⟩
      go_wp2_with fail
      go_ret
      exact ⟨rfl, below_dr hB6 n2⟩

set_option maxRecDepth 100000 in
theorem ent_of_ok {H : Type} {enc : TypeId × Value → H} {W : World} {base : Nat} {v : Value} {d : DataW H} {ps : List MemPlace} (hv : Value.okWide Tryz.prog W .any base 29 v) (h : DataW.Trod enc Tryz.prog W 0 (fun _ => true) true 29 v d ps) : ∃ e : Ent, v = entVal e ∧ goEnt e := by
  obtain ⟨cs, rfl, hsz⟩ := okWide_struct entStruct hv
  obtain ⟨fuel, hf⟩ := h
  obtain ⟨e, he, hg⟩ := open_ent hf
  refine ⟨e, ?_, hg⟩
  have h2 : cs.toList = entCells e := by simpa [Value.cells] using he
  obtain ⟨l⟩ := cs
  subst h2
  rfl
set_option maxRecDepth 100000 in
theorem ent_readable : Tryz.prog.readableRec 29 = true ∧ (29 : TypeId) < Tryz.prog.types.size := ⟨by kernel_rfl, of_decide_eq_true (by kernel_rfl)⟩

set_option maxRecDepth 100000 in
theorem apps_contract (H : Type) (enc : TypeId × Value → H) (W : World) (base : Nat) (args : Array Value) (ds gs : List (DataW H)) (before : List MemPlace)
    (hval : ∀ (j : Nat) t v, Tryz.f4.params[j]? = some t → args[j]? = some v → Value.okWide Tryz.prog W .any base t v)
    (hW : DataW.Whole enc Tryz.prog Tryz.f4.params.toList Rows.peopleAppendsSpec.vars false W args.toList ds gs before)
    (hz : ∀ xs ys, ds[0]? = some (.slice xs ys) → (xs.length + ys.length) * 88 ≤ reachBytes) (hsh : W.ShapedOpen Tryz.prog) :
    Calls Tryz.prog 4 args W fun e W' => ∃ v, e = .returned v ∧ Rows.peopleAppendsSpec.post enc Tryz.prog Tryz.f4 false true false false W args v W' := by
  have hW' := hW
  have hlt : ∀ p ∈ before, p.block < W.heap.size := fun p hp => hW.lt p hp
  obtain ⟨p, q, hA, hV, rfl, hfz, hnd⟩ := hW
  have hA0 : DataW.TrodAll enc Tryz.prog W 0 (fun _ => true) true [22, 29] args.toList ds p := hA
  obtain ⟨v0, vs0, d0, ds0, p0, q0, hargs, rfl, rfl, h0, r0⟩ := trodAll_cons hA0
  obtain ⟨v1, vs1, d1, ds1, p1, q1, rfl, rfl, rfl, h1, r1⟩ := trodAll_cons r0
  obtain ⟨rfl, rfl, rfl⟩ := trodAll_nil r1
  obtain rfl : args = #[v0, v1] := by cases args; simp_all
  obtain ⟨rfl, rfl⟩ := trodVars_none hV
  have hsl := slice_of_ok (hval 0 22 v0 rfl rfl)
  obtain ⟨A, c, l, rfl, hlc, hcm, hL, hgo, hd⟩ := open_ents (fun x hx => hlt x (by simp [hx])) h0 hsl
  obtain ⟨x, rfl, hgx⟩ := ent_of_ok (hval 1 29 v1 rfl rfl) h1
  have hb : (l.length + 1) * 88 ≤ 140737488355328 := by
    rcases hd with ⟨_, rfl⟩ | ⟨xs, ys, rfl, hx⟩
    · decide
    · have := hz xs ys rfl
      have h1 : reachBytes + 88 ≤ 140737488355328 := by decide
      rw [← hx]
      omega
  refine (apps_walk A c l x W hL (Nat.le_trans hlc hcm) (fun x hx => (hgo x hx).1) hgx.1 hb hlc (laysCut.s1_3 W hsh)).mono fun e W' ⟨he, hb⟩ => ?_
  subst he
  exact law_post rfl (fun t ht => by
    have ht' : t ∈ [(22 : TypeId), 29] := ht
    simp at ht'
    rcases ht' with rfl | rfl
    · exact ents_readable
    · exact ent_readable) rfl hW' rfl hb
end Go.Proofs.YtddhgengahlnkaaGreatDoor
namespace Go.Proofs.YtddhgengahlnkaaGreatDoor
open Go.ChangeShapes Go.WideShapes Go.ChangeAt Go.RowKit

theorem apps_laid_met (os : Os) : laidMetH Tryz.prog Rows.peopleAppendsRow.laid ((doorW os).forCall (fun _ _ => 0) ⟨#[], #[.slice none 0 0, .agg #[.int .i64 0, .int .u8 0, .int .i64 0, .int .i64 0, .int .i64 0, .int .i64 0, .int .i64 0, .int .i64 0, .int .i64 0, .string ⟨#[]⟩]], []⟩).memory :=
  laidMetH_of_parts3 (fuel := 8) (laidMet_of_run' 8 (by kernel_rfl) (by kernel_rfl)) (by kernel_rfl) (by kernel_rfl)
theorem apps_reads (os : Os) {H : Type} (enc : TypeId × Value → H) : ∃ places, DataW.whole enc Tryz.prog ((doorW os).forCall (fun _ _ => 0) ⟨#[], #[.slice none 0 0, .agg #[.int .i64 0, .int .u8 0, .int .i64 0, .int .i64 0, .int .i64 0, .int .i64 0, .int .i64 0, .int .i64 0, .int .i64 0, .string ⟨#[]⟩]], []⟩).memory Tryz.f4.params.toList Rows.peopleAppendsSpec.vars false #[Value.slice none 0 0, Value.agg #[.int .i64 0, .int .u8 0, .int .i64 0, .int .i64 0, .int .i64 0, .int .i64 0, .int .i64 0, .int .i64 0, .int .i64 0, .string ⟨#[]⟩]].toList 8 = some ([.nil, .agg [.lit (.int .i64 0), .lit (.int .u8 0), .lit (.int .i64 0), .lit (.int .i64 0), .lit (.int .i64 0), .lit (.int .i64 0), .lit (.int .i64 0), .lit (.int .i64 0), .lit (.int .i64 0), .lit (.string [])]], [], places) :=
  ⟨[], by kernel_rfl⟩

set_option maxRecDepth 100000 in
theorem apps_lifted (os : Os) (started : os.Started) (H : Type) (enc : TypeId × Value → H) (F : Stop.Interp) :
    ReturnsInHanded {} Tryz.checked os 4 .any ((OpenSpec.ofChange Rows.peopleAppendsSpec).preRow enc Tryz.prog Tryz.f4 Rows.peopleAppendsRow.domain false Rows.peopleAppendsRow.laid) (((OpenSpec.ofChange Rows.peopleAppendsSpec).at F).post enc Tryz.prog Tryz.f4 false true false false) := by
  obtain ⟨places, hx⟩ := apps_reads os enc
  refine returnsInHanded_of_row (C := Tryz.checked) (s := OpenSpec.ofChange Rows.peopleAppendsSpec) ownKnobA started (by kernel_rfl) Tryz.func4
    (witness_row_at (enc := enc) (C := Tryz.checked) false (doorW os) #[.slice none 0 0, .agg #[.int .i64 0, .int .u8 0, .int .i64 0, .int .i64 0, .int .i64 0, .int .i64 0, .int .i64 0, .int .i64 0, .int .i64 0, .string ⟨#[]⟩]] rfl (by kernel_rfl) (by kernel_rfl) (by kernel_rfl)
      (OpenSpec.preRow_of_cond 8 hx (by kernel_rfl) (fun k hk => by cases hk) (by kernel_rfl) (apps_laid_met os))) ?_
  intro W base args ds gs before hval hW _ _ hz _ hsh _
  refine apps_contract H enc W base args ds gs before hval hW (fun xs ys h => ?_) hsh
  have := sized_slice (j := 0) (t := 22) (e := 29) (elems := xs) (spare := ys) hz rfl (List.getElem?_append_left (List.getElem?_eq_some_iff.1 h).1 |>.trans h) entsRow
  have hb : Tryz.checked.prog.bytesOf 29 = 88 := bytesEnt
  rw [hb] at this
  exact this

theorem apps_said : Rows.PeopleAppendsSaid :=
  OpenClaim.holds_of_cond 4 Tryz.f4 rfl rfl rfl rfl rfl rfl rfl ⟨rfl, rfl, rfl, rfl, rfl⟩ rfl rfl rfl rfl rfl (by kernel_rfl) Tryz.func4 (by kernel_rfl)
    (of_decide_eq_true (by kernel_rfl)) (by unfold Func.isWrapper; first | (rw [if_pos (by decide +kernel)]; kernel_rfl) | (rw [if_neg (by decide +kernel)]; exact ⟨rfl, rfl⟩))
    (fun os started H enc _ F => by rw [OpenClaim.pre_eq_preRow]; exact apps_lifted os started H enc F)

theorem apps_plain (f : FuncId) (fn : Func) (hf : Tryz.pinned.checked.prog.funcNamed "restante/restantelaw03.PeopleAppends" = some f) (hfn : Tryz.pinned.checked.prog.funcs[f]? = some fn) :
    true = Tryz.pinned.checked.prog.looks [] ∧ ∀ (j : Nat) t, fn.params[j]? = some t → Tryz.pinned.checked.prog.wantsStandIn t = false := by
  obtain rfl : f = 4 := Option.some.inj ((show Tryz.prog.funcNamed "restante/restantelaw03.PeopleAppends" = some 4 by kernel_rfl).symm.trans hf) |>.symm
  obtain rfl : fn = Tryz.f4 := (Option.some.inj (Tryz.func4.symm.trans hfn)).symm
  refine ⟨by kernel_rfl, fun j t ht => ?_⟩
  rw [Tryz.params4] at ht
  have ht' := Array.mem_of_getElem? ht
  simp at ht'
  rcases ht' with rfl | rfl
  · exact (show Tryz.prog.wantsStandIn 22 = false by kernel_rfl)
  · exact (show Tryz.prog.wantsStandIn 29 = false by kernel_rfl)

theorem peopleAppends_card : Rows.PeopleAppendsCardSaid :=
  Claim7.holds_tied_plain_at .later [] _ _ _ _ apps_said (fun _ h => by cases h) (by kernel_rfl) (fun _ h => by cases h) peopleAppends_row_tie rfl ⟨rfl, rfl⟩ (by kernel_rfl) rfl apps_plain (by kernel_rfl)
#print axioms peopleAppends_card
end Go.Proofs.YtddhgengahlnkaaGreatDoor
