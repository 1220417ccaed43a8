/- A pair that comes in: its cells; entries whose numbers are ints. No conditions. The contracts of Order and Refuses of package people, and of the reference's Few. Conditions: the list lies in memory; the pair's person is an int. -/
import Derived.Test.YtgbnbolhmghhlaaGreatDoorAliveA
import Derived.Test.YtgbnbolhmghhlaaGreatDoorOnA
import Derived.Test.YtgbnbolhmghhlaaGreatDoorHopA
namespace Go.Proofs.YtgbnbolhmghhlaaGreatDoor
open Go.ChangeShapes Go.WideShapes Go.ChangeAt Go.RowKit Go.Deep

theorem to_oents : ∀ l : List Ent, (∀ e ∈ l, goEnt e) → ∃ m : List OEnt, m.map (·.1) = l
  | [], _ => ⟨[], rfl⟩
  | e :: l, h => by
    obtain ⟨m, hm⟩ := to_oents l (fun x hx => h x (List.mem_cons_of_mem _ hx))
    have he := h e (List.mem_cons_self ..)
    exact ⟨⟨e, he.2.1, he.2.2.1, he.2.2.2.1⟩ :: m, by rw [List.map_cons, hm]⟩

section
variable {H : Type} {enc : TypeId × Value → H} {w : World} {base : Nat} {sp : Nat → Bool} {held : Bool}
set_option maxRecDepth 100000 in
theorem open_cand {n : Nat} {cs : List Value} {x : DataW H × List MemPlace} (h : DataW.trod enc Tryz.prog w base sp held n 24 cs = some x) : ∃ c : Int × Int, cs = [.int .i64 c.1, .int .i64 c.2] ∧ isInt c.1 ∧ isInt c.2 := by
  obtain ⟨xs, m, rfl, _, hlen, hxl, hf⟩ := DataW.trod_struct candStruct h
  rw [cellsCand] at hlen
  have hsz : (Tryz.prog.fieldsOf 24).size = 2 := by rw [← Array.length_toList, ← List.length_map (f := fun f : Field => (f.type, f.offset)), candFields]; rfl
  have hat : ∀ (i : Nat) (t : TypeId) (o : Nat), [((3 : TypeId), 0), (3, 1)][i]? = some (t, o) →
      ∃ y, DataW.trod enc Tryz.prog w base sp held m t ((cs.drop o).take (Tryz.prog.cellsOf t)) = some y := by
    intro i t o hi
    have hi' := hi
    rw [← candFields, List.getElem?_map] at hi
    obtain ⟨f, hf1, hf2⟩ := Option.map_eq_some_iff.1 hi
    simp only [Prod.mk.injEq] at hf2
    obtain ⟨rfl, rfl⟩ := hf2
    rw [hf i f (by rw [← Array.getElem?_toList]; exact hf1)]
    have hil : i < xs.length := by rw [hxl, hsz]; exact (List.getElem?_eq_some_iff.1 hi').1
    exact ⟨_, List.getElem?_eq_getElem hil⟩
  match cs, hlen with
  | [c0, c1], _ =>
    obtain ⟨_, h0⟩ := hat 0 _ _ rfl
    obtain ⟨_, h1⟩ := hat 1 _ _ rfl
    rw [cellsInt] at h0 h1
    obtain ⟨n0, e0, _, w0⟩ := DataW.trod_int intRow h0
    obtain ⟨n1, e1, _, w1⟩ := DataW.trod_int intRow h1
    simp at e0 e1
    subst e0 e1
    exact ⟨⟨n0, n1⟩, rfl, isInt_wf w0, isInt_wf w1⟩
end
set_option maxRecDepth 100000 in
theorem cand_of_ok {H : Type} {enc : TypeId × Value → H} {W : World} {base : Nat} {v : Value} {d : DataW H} {ps : List MemPlace} (hv : Value.okWide Tryz.prog W .any base 24 v) (h : DataW.Trod enc Tryz.prog W 0 (fun _ => true) true 24 v d ps) : ∃ c : Int × Int, v = candVal c ∧ isInt c.1 ∧ isInt c.2 := by
  obtain ⟨cs, rfl, hsz⟩ := okWide_struct candStruct hv
  obtain ⟨fuel, hf⟩ := h
  obtain ⟨e, he, hg⟩ := open_cand hf
  refine ⟨e, ?_, hg⟩
  have h2 : cs.toList = [.int .i64 e.1, .int .i64 e.2] := by simpa [Value.cells] using he
  obtain ⟨l⟩ := cs
  subst h2
  rfl
set_option maxRecDepth 100000 in
theorem cand_readable : Tryz.prog.readableRec 24 = true ∧ (24 : TypeId) < Tryz.prog.types.size := ⟨by kernel_rfl, of_decide_eq_true (by kernel_rfl)⟩
end Go.Proofs.YtgbnbolhmghhlaaGreatDoor
namespace Go.Proofs.YtgbnbolhmghhlaaGreatDoor
open Go.RowKit

theorem refFew_any (A : Option Addr) (n c : Nat) (w : World) :
    Calls Tryz.prog 9 #[.slice A n c] w fun e w' => e = .returned (.bool (decide ((n : Int) ≤ 60))) ∧ w = w' := by
  go_enter Tryz.func9, Tryz.ntmps9
  go_wp2
  all_goals
    go_ret
    exact ⟨ret_bool (by simp), rfl⟩

set_option maxRecDepth 100000 in
set_option maxHeartbeats 4000000 in
theorem pRefuses_any (A : Option Addr) (c : Nat) (l : List OEnt) (cp : Int × Int) (s d : Int) (hp : -9223372036854775808 ≤ cp.1 ∧ cp.1 ≤ 9223372036854775807) (w : World) (hL : EntsLie w w.heap.size A (l.map (·.1))) (hl : l.length ≤ maxLen) :
    Calls Tryz.prog 13 #[.slice A l.length c, candVal cp, .int .i64 s, .int .i64 d] w fun e w' => e = .returned (.bool (refusesOf (deadOf l d) l d cp s)) ∧ Below w.heap.size w w' := by
  have H1 : ∀ W, Below w.heap.size w W → _ := fun W (hW : Below w.heap.size w W) => on_any A c l d W (hL.up hW hW.size) hl
  have H2 := fun W b1 b2 (hD : DirIn W A l b1 b2 (deadOf l d) (cancOf l d)) => refusesP_any A c l d cp s b1 b2 (deadOf l d) (cancOf l d) hp W hD
  generalize refusesOf (deadOf l d) l d cp s = r at *
  obtain ⟨p, q⟩ := cp
  unfold candVal dirVal at *
  dsimp only at H2 ⊢
  go_enter Tryz.func13, Tryz.ntmps13
  go_upto_region 1 with fail
  have hB0 : Below w.heap.size w (w.alloc (.cells #[.int .i64 p, .int .i64 q] 24)) := below_al (Below.refl _ _) _
  have kC := Blk.new w 24 #[.int .i64 p, .int .i64 q]
  generalize w.alloc (.cells _ 24) = W0 at hB0 kC ⊢
  have h1 := H1 W0.drew hB0.drew
  have e0 := kC.cell 0
  have e1 := kC.cell 1
  have zC := kC.lt
  simp at e0 e1
  clear H1
  go_region_with (first
    | (go_at_call 27; refine h1.mono ?_; rintro e w1 ⟨b1, b2, rfl, hD, hb1⟩; have hB1 := hB0.drew.trans (hb1.mono hB0.size); have kC1 := Blk.below (Blk.drew kC) hb1 zC; have e10 := Blk.cell kC1 0; have e11 := Blk.cell kC1 1; have zC1 := Blk.lt kC1; simp at e10 e11; have h2 := H2 w1 b1 b2 hD)
    | (go_at_call 30; refine h2.mono ?_; rintro e w2 ⟨rfl, hb2⟩; have hB2 := hB1.trans (hb2.mono hB1.size)))
  all_goals
    go_wp2_with fail
    refine bodyPost_ret (results_tmp rfl _ _ _) rfl ?_
    exact ⟨rfl, hB2⟩

set_option maxRecDepth 100000 in
set_option maxHeartbeats 4000000 in
theorem pOrder_any (A : Option Addr) (c : Nat) (l : List OEnt) (cp : Int × Int) (d : Int) (hp : -9223372036854775808 ≤ cp.1 ∧ cp.1 ≤ 9223372036854775807) (w : World) (hL : EntsLie w w.heap.size A (l.map (·.1))) (hl : l.length ≤ maxLen) :
    Calls Tryz.prog 11 #[.slice A l.length c, candVal cp, .int .i64 d] w fun e w' => e = .returned (.tuple #[entVal (orderOf (deadOf l d) (cancOf l d) l d cp).1, .bool (orderOf (deadOf l d) (cancOf l d) l d cp).2]) ∧ Below w.heap.size w w' := by
  have H1 : ∀ W, Below w.heap.size w W → _ := fun W (hW : Below w.heap.size w W) => on_any A c l d W (hL.up hW hW.size) hl
  have H2 := fun W b1 b2 (hD : DirIn W A l b1 b2 (deadOf l d) (cancOf l d)) => order_any A c l d cp b1 b2 (deadOf l d) (cancOf l d) hp W hD
  generalize orderOf (deadOf l d) (cancOf l d) l d cp = r at *
  obtain ⟨x, r⟩ := r
  obtain ⟨p, q⟩ := cp
  unfold candVal dirVal at *
  dsimp only at H2 ⊢
  go_enter Tryz.func11, Tryz.ntmps11
  go_upto_region 1 with fail
  have hB0 : Below w.heap.size w ((w.alloc (.cells #[.int .i64 p, .int .i64 q] 24)).alloc (.cells (entCells zeroEnt).toArray 28)) := below_al (below_al (Below.refl _ _) _) _
  have kC : Blk ((w.alloc (.cells #[.int .i64 p, .int .i64 q] 24)).alloc (.cells (entCells zeroEnt).toArray 28)) w.heap.size 24 #[.int .i64 p, .int .i64 q] := (Blk.new w _ _).alloc _
  have kR : EntAt ((w.alloc (.cells #[.int .i64 p, .int .i64 q] 24)).alloc (.cells (entCells zeroEnt).toArray 28)) (w.heap.size + 1) zeroEnt := at_new (by simp)
  simp only [entCells, zeroEnt] at hB0 kC
  have kR' : EntAt ((w.alloc (.cells #[.int .i64 p, .int .i64 q] 24)).alloc (.cells #[.int .i64 0, .int .u8 0, .int .i64 0, .int .i64 0, .int .i64 0, .int .i64 0, .int .i64 0, .int .i64 0, .int .i64 0, .string ⟨#[]⟩] 28)) (w.heap.size + 1) zeroEnt := kR
  clear kR
  generalize (w.alloc (.cells _ 24)).alloc (.cells _ 28) = W0 at hB0 kC kR' ⊢
  have h1 := H1 W0.drew hB0.drew
  have e0 := kC.cell 0
  have e1 := kC.cell 1
  have zC := kC.lt
  have zR' := Blk.lt kR'
  simp at e0 e1
  clear H1
  go_region_with (first
    | (go_at_call 27; refine h1.mono ?_; rintro e w1 ⟨b1, b2, rfl, hD, hb1⟩; have hB1 := hB0.drew.trans (hb1.mono hB0.size); have kC1 := Blk.below (Blk.drew kC) hb1 zC; have kR1 : EntAt w1 (w.heap.size + 1) zeroEnt := Blk.below (Blk.drew kR') hb1 zR'; have e10 := Blk.cell kC1 0; have e11 := Blk.cell kC1 1; have zC1 := Blk.lt kC1; simp at e10 e11; have h2 := H2 w1 b1 b2 hD)
    | (go_at_call 28; refine h2.mono ?_; rintro e w2 ⟨rfl, hb2⟩; have hB2 := hB1.trans (hb2.mono hB1.size); have kR : EntAt w2 (w.heap.size + 1) zeroEnt := Blk.below kR1 hb2 (Blk.lt kR1); obtain ⟨r0, r1, r2, r3, r4, r5, r6, r7, r8, r9, _⟩ := EntAt.cells kR; have f0 := kR.frozens 0; have f1 := kR.frozens 1; have f2 := kR.frozens 2; have f3 := kR.frozens 3; have f4 := kR.frozens 4; have f5 := kR.frozens 5; have f6 := kR.frozens 6; have f7 := kR.frozens 7; have f8 := kR.frozens 8; have f9 := kR.frozens 9; have zR := Blk.lt kR; unfold entVal))
  all_goals
    go_wp2_with fail
    have hE := kR.put x
    have hB3 := hB2.trans (putEnt_below w2 (g := w.heap.size + 1) (by omega) x)
    rw [← putEnt_eq]
    generalize putEnt w2 (w.heap.size + 1) x = V at hE hB3 ⊢
    refine bodyPost_ret (results_crt rfl hE rfl rowEnt sizeEnt) rfl ?_
    exact ⟨rfl, hB3⟩
end Go.Proofs.YtgbnbolhmghhlaaGreatDoor
