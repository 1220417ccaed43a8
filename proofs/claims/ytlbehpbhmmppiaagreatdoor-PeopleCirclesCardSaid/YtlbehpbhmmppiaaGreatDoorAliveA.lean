/- The check of life that the statements of layer 3 run. Condition: internal/bytealg.MaxLen is an int. A list of entries that comes in: its cells; what a law's call leaves of its arguments. No conditions. What the rows of layer 3 share: what is left behind a law's call; the world of the witness. No conditions. -/
import Derived.Test.YtlbehpbhmmppiaaGreatDoorFollowB
import Derived.Test.YtlbehpbhmmppiaaGreatDoorSampleA
import Derived.Test.YtlbehpbhmmppiaaGreatDoorCards
import Derived.Test.YtlbehpbhmmppiaaGreatDoorTie
import Derived.ProofKit
import Derived.OpenShut
import Derived.Carry
import Derived.ChangeSame
import Derived.SizedLaws
import Derived.Deep.Slices
import Derived.Deep.DeepHandedRow
import Derived.SevenTiedAt
import Derived.LaidMore
import Derived.ChangeAgain
namespace Go.Proofs.YtlbehpbhmmppiaaGreatDoor
open Go.RowKit Go.Shelf

theorem key28 : ∃ k, keyOf Tryz.prog 33 (candVal (2, 8)) = some k := Option.isSome_iff_exists.1 (by kernel_rfl)
theorem key19 : ∃ k, keyOf Tryz.prog 33 (candVal (1, 9)) = some k := Option.isSome_iff_exists.1 (by kernel_rfl)
theorem key17 : ∃ k, keyOf Tryz.prog 33 (candVal (1, 7)) = some k := Option.isSome_iff_exists.1 (by kernel_rfl)

set_option maxRecDepth 100000 in
set_option maxHeartbeats 4000000 in
theorem alive_any (w : World) (hm : MaxAt w) :
    Calls Tryz.prog 6 #[] w fun e w' => e = .returned (.bool true) ∧ Below w.heap.size w w' := by
  obtain ⟨k28, h28⟩ := key28
  obtain ⟨k19, h19⟩ := key19
  obtain ⟨k17, h17⟩ := key17
  have hne : k19 ≠ k28 := fun e => by
    subst e
    have := lawCand.inj h19 h28
    simp [candVal] at this
  have hl9 : sOs.length ≤ maxLen := by rw [sOs_len]; decide
  have F1 : Hid (∀ A c W, EntsLie W W.heap.size A sEnts → _) := Lib.hid fun A c W (hL : EntsLie W W.heap.size A sEnts) => follow_hop A c sOs 65 0 2 8 1 9 (by decide) (by decide) (by decide) (by decide) (by decide) (by decide) W (by rw [sOs_ents]; exact hL) hl9 k28 k19 h28 h19 hne s_dead1 s_hop1 s_ref1 s_dead2 s_hop2 s_ref2 s_live2
  have F2 : Hid (∀ A c W, EntsLie W W.heap.size A sEnts → _) := Lib.hid fun A c W (hL : EntsLie W W.heap.size A sEnts) => follow_ref A c sOs 72 2 1 9 (by decide) (by decide) (by decide) (by decide) W (by rw [sOs_ents]; exact hL) hl9 k19 h19 s_dead3 s_hop3 s_ref3
  have F3 : Hid (∀ A c W, EntsLie W W.heap.size A sEnts → _) := Lib.hid fun A c W (hL : EntsLie W W.heap.size A sEnts) => follow_gone A c sOs 80 0 1 7 (by decide) (by decide) (by decide) (by decide) W (by rw [sOs_ents]; exact hL) hl9 k17 h17 s_dead4 s_hop4 s_ref4 s_live4
  have heq := fun W => eqCand (1, 9) (1, 9) W
  have hng := fun a b W => noGuardCand .eql a b (1, 9) (1, 9) W
  have HS := Lib.hid (sample_any w hm)
  clear h28 h19 h17 hne hl9 hm
  rw [sOs_len] at F1 F2 F3
  unfold candVal at F1 F2 F3 heq hng
  unfold routeVal at F1 F2 F3
  dsimp only at F1 F2 F3 heq hng
  go_enter Tryz.func6, Tryz.ntmps6
  go_wp2_with fail
  refine HS.out.mono ?_
  rintro e w1 ⟨A, c, rfl, h9, hL, hb1⟩
  go_wp2_with fail
  refine (F1.out A c w1 hL).mono ?_
  rintro e w2 ⟨g, cap, rfl, hg, hgl, hb2⟩
  have hL2 := hL.up hb2 hb2.size
  replace hb1 := hb1.trans (hb2.mono hb1.size)
  clear hL hb2
  go_wp2_with fail
  have n2 : Below w2.heap.size w2 (w2.alloc (.cells #[.int .u8 1, .int .i64 1, .int .i64 9, .slice (some ⟨g, 0, none⟩) 1 cap, .int .i64 0] 36)) := (Below.refl _ _).alloc (Nat.le_refl _) _
  have b2 := Blk.new w2 36 #[.int .u8 1, .int .i64 1, .int .i64 9, .slice (some ⟨g, 0, none⟩) 1 cap, .int .i64 0]
  have hg2 := (n2.cell (p := ⟨g, 0, none⟩) hgl).trans hg
  have hgl2 := Nat.lt_of_lt_of_le hgl n2.size
  have hL3 := hL2.up n2 n2.size
  replace hb1 := hb1.trans (n2.mono hb1.size)
  generalize w2.alloc (.cells _ 36) = w3 at n2 b2 hg2 hgl2 hL3 hb1 ⊢
  clear n2 hL2 hg hgl
  refine (F2.out A c w3 hL3).mono ?_
  rintro e w4 ⟨rfl, hb4⟩
  have b24 := b2.below hb4 b2.lt
  have hg4 := (hb4.cell (p := ⟨g, 0, none⟩) hgl2).trans hg2
  have hgl4 := Nat.lt_of_lt_of_le hgl2 hb4.size
  have hL4 := hL3.up hb4 hb4.size
  replace hb1 := hb1.trans (hb4.mono hb1.size)
  clear b2 hg2 hgl2 hL3 hb4
  go_wp2_with fail
  have n4 : Below w4.heap.size w4 (w4.alloc (.cells #[.int .u8 2, .int .i64 1, .int .i64 9, .slice none 0 0, .int .i64 0] 36)) := (Below.refl _ _).alloc (Nat.le_refl _) _
  have b4 := Blk.new w4 36 #[.int .u8 2, .int .i64 1, .int .i64 9, .slice none 0 0, .int .i64 0]
  have b25 := b24.below n4 b24.lt
  have hg5 := (n4.cell (p := ⟨g, 0, none⟩) hgl4).trans hg4
  have hgl5 := Nat.lt_of_lt_of_le hgl4 n4.size
  have hL5 := hL4.up n4 n4.size
  replace hb1 := hb1.trans (n4.mono hb1.size)
  generalize w4.alloc (.cells _ 36) = w5 at n4 b4 b25 hg5 hgl5 hL5 hb1 ⊢
  clear n4 hL4 hg4 hgl4 b24
  refine (F3.out A c w5 hL5).mono ?_
  rintro e w6 ⟨rfl, hb6⟩
  have b26 := b25.below hb6 b25.lt
  have b46 := b4.below hb6 b4.lt
  have hg6 := (hb6.cell (p := ⟨g, 0, none⟩) hgl5).trans hg5
  have hgl6 := Nat.lt_of_lt_of_le hgl5 hb6.size
  replace hb1 := hb1.trans (hb6.mono hb1.size)
  clear b25 b4 hg5 hgl5 hL5 hb6
  go_upto_region 8 with fail
  have n6 : Below w6.heap.size w6 ((w6.alloc (.cells #[.int .u8 4, .int .i64 1, .int .i64 7, .slice none 0 0, .int .i64 0] 36)).alloc (.cells #[.int .i64 1, .int .i64 9] 33)) := ((Below.refl _ _).alloc (Nat.le_refl _) _).alloc (by simp) _
  have b6 : Blk ((w6.alloc (.cells #[.int .u8 4, .int .i64 1, .int .i64 7, .slice none 0 0, .int .i64 0] 36)).alloc (.cells #[.int .i64 1, .int .i64 9] 33)) w6.heap.size 36 #[.int .u8 4, .int .i64 1, .int .i64 7, .slice none 0 0, .int .i64 0] := (Blk.new w6 _ _).alloc _
  have b8 : Blk ((w6.alloc (.cells #[.int .u8 4, .int .i64 1, .int .i64 7, .slice none 0 0, .int .i64 0] 36)).alloc (.cells #[.int .i64 1, .int .i64 9] 33)) (w6.heap.size + 1) 33 #[.int .i64 1, .int .i64 9] := at_new (by simp)
  generalize (w6.alloc (.cells _ 36)).alloc (.cells _ 33) = w8 at n6 b6 b8 ⊢
  have b28 := b26.below n6 b26.lt
  have b48 := b46.below n6 b46.lt
  have hg8 := (n6.cell (p := ⟨g, 0, none⟩) hgl6).trans hg6
  have hgl8 := Nat.lt_of_lt_of_le hgl6 n6.size
  replace hb1 := hb1.trans (n6.mono hb1.size)
  clear n6 b26 b46 hg6 hgl6
  have x0 := b28.cell 0
  have x1 := b28.cell 1
  have x2 := b28.cell 2
  have x3 := b28.cell 3
  have y0 := b48.cell 0
  have z0 := b6.cell 0
  have v0 := b8.cell 0
  have v1 := b8.cell 1
  have zx := b28.lt
  have zy := b48.lt
  have zz := b6.lt
  have zv := b8.lt
  simp at x0 x1 x2 x3 y0 z0 v0 v1
  have heq8 := heq w8
  have hng8 := fun a b => hng a b w8
  rw [decide_true] at heq8
  clear heq hng F1 F2 F3 HS
  go_wp2_with fail
  go_ret
  exact ⟨rfl, hb1⟩
end Go.Proofs.YtlbehpbhmmppiaaGreatDoor
namespace Go.Proofs.YtlbehpbhmmppiaaGreatDoor
open Go.ChangeShapes Go.WideShapes Go.Deep Go.RowKit

theorem uint8Row : Tryz.prog.underlying 5 = some (.int .u8) := by kernel_rfl
theorem entStruct : Tryz.prog.underlying 41 = some (.struct (Tryz.prog.fieldsOf 41)) := by kernel_rfl
theorem entFields : (Tryz.prog.fieldsOf 41).toList.map (fun f => (f.type, f.offset)) = [(3, 0), (5, 1), (3, 2), (3, 3), (3, 4), (3, 5), (3, 6), (3, 7), (3, 8), (9, 9)] := by kernel_rfl
theorem cellsEnt : Tryz.prog.cellsOf 41 = 10 := by kernel_rfl
theorem cellsInt : Tryz.prog.cellsOf 3 = 1 := by kernel_rfl
theorem cellsU8 : Tryz.prog.cellsOf 5 = 1 := by kernel_rfl
theorem cellsStr : Tryz.prog.cellsOf 9 = 1 := by kernel_rfl
theorem bytesEnt : Tryz.prog.bytesOf 41 = 88 := by kernel_rfl
theorem laidOutA : laidOutB Tryz.prog = true := by kernel_rfl

/-- Go's ints. -/
def isInt (n : Int) : Prop := -9223372036854775808 ≤ n ∧ n ≤ 9223372036854775807
theorem isInt_wf {n : Int} (h : (Lit.int .i64 n).wf = true) : isInt n := by
  have h1 : IntKind.i64.min = -9223372036854775808 := rfl
  have h2 : IntKind.i64.max = 9223372036854775807 := rfl
  simp [Lit.wf, h1, h2] at h
  unfold isInt
  omega
/-- An entry whose fields are Go's. -/
def goEnt (e : Ent) : Prop := e.name.size ≤ maxLen ∧ isInt e.person ∧ isInt e.order ∧ isInt e.other ∧ isInt e.place ∧ isInt e.at'

theorem list_of {α : Type} {P : Nat → α → Prop} : ∀ {n : Nat}, (∀ i, i < n → ∃ e, P i e) → ∃ l : List α, l.length = n ∧ ∀ i e, l[i]? = some e → P i e
  | 0, _ => ⟨[], rfl, fun i e h => by simp at h⟩
  | n + 1, h => by
    obtain ⟨l, h1, h2⟩ := list_of (n := n) (fun i hi => h i (by omega))
    obtain ⟨e, he⟩ := h n (by omega)
    refine ⟨l ++ [e], by simp [h1], fun i x hx => ?_⟩
    by_cases hi : i < l.length
    · rw [List.getElem?_append_left hi] at hx; exact h2 i x hx
    · rw [List.getElem?_append_right (by omega)] at hx
      have : i - l.length = 0 := by
        have := (List.getElem?_eq_some_iff.1 hx).1
        simp at this; omega
      rw [this] at hx
      simp at hx
      subst hx
      rw [show i = n by omega]; exact he
theorem cell_lt {w : World} {a : Addr} {v : Value} (h : w.cell? a = some v) : a.block < w.heap.size := by
  unfold World.cell? at h
  cases hh : w.heap[a.block]? with
  | none => simp [hh] at h
  | some o => exact (Array.getElem?_eq_some_iff.1 hh).1

section
variable {H : Type} {enc : TypeId × Value → H} {w : World} {base : Nat} {sp : Nat → Bool} {held : Bool}
set_option maxRecDepth 100000 in
theorem open_ent {n : Nat} {cs : List Value} {x : DataW H × List MemPlace} (h : DataW.trod enc Tryz.prog w base sp held n 41 cs = some x) : ∃ e : Ent, cs = entCells e ∧ goEnt e := by
  obtain ⟨xs, m, rfl, _, hlen, hxl, hf⟩ := DataW.trod_struct entStruct h
  rw [cellsEnt] at hlen
  have hsz : (Tryz.prog.fieldsOf 41).size = 10 := by rw [← Array.length_toList, ← List.length_map (f := fun f : Field => (f.type, f.offset)), entFields]; rfl
  have hat : ∀ (i : Nat) (t : TypeId) (o : Nat), [((3 : TypeId), 0), (5, 1), (3, 2), (3, 3), (3, 4), (3, 5), (3, 6), (3, 7), (3, 8), (9, 9)][i]? = some (t, o) →
      ∃ y, DataW.trod enc Tryz.prog w base sp held m t ((cs.drop o).take (Tryz.prog.cellsOf t)) = some y := by
    intro i t o hi
    have hi' := hi
    rw [← entFields, List.getElem?_map] at hi
    obtain ⟨f, hf1, hf2⟩ := Option.map_eq_some_iff.1 hi
    simp only [Prod.mk.injEq] at hf2
    obtain ⟨rfl, rfl⟩ := hf2
    rw [hf i f (by rw [← Array.getElem?_toList]; exact hf1)]
    have hil : i < xs.length := by rw [hxl, hsz]; exact (List.getElem?_eq_some_iff.1 hi').1
    exact ⟨_, List.getElem?_eq_getElem hil⟩
  match cs, hlen with
  | [c0, c1, c2, c3, c4, c5, c6, c7, c8, c9], _ =>
    obtain ⟨_, h0⟩ := hat 0 _ _ rfl
    obtain ⟨_, h1⟩ := hat 1 _ _ rfl
    obtain ⟨_, h2⟩ := hat 2 _ _ rfl
    obtain ⟨_, h3⟩ := hat 3 _ _ rfl
    obtain ⟨_, h4⟩ := hat 4 _ _ rfl
    obtain ⟨_, h5⟩ := hat 5 _ _ rfl
    obtain ⟨_, h6⟩ := hat 6 _ _ rfl
    obtain ⟨_, h7⟩ := hat 7 _ _ rfl
    obtain ⟨_, h8⟩ := hat 8 _ _ rfl
    obtain ⟨_, h9⟩ := hat 9 _ _ rfl
    rw [cellsInt] at h0 h2 h3 h4 h5 h6 h7 h8
    rw [cellsU8] at h1
    rw [cellsStr] at h9
    obtain ⟨n0, e0, _, w0⟩ := DataW.trod_int intRow h0
    obtain ⟨n1, e1, _, w1⟩ := DataW.trod_int uint8Row h1
    obtain ⟨n2, e2, _, w2⟩ := DataW.trod_int intRow h2
    obtain ⟨n3, e3, _, w3⟩ := DataW.trod_int intRow h3
    obtain ⟨n4, e4, _, w4⟩ := DataW.trod_int intRow h4
    obtain ⟨n5, e5, _, w5⟩ := DataW.trod_int intRow h5
    obtain ⟨n6, e6, _, w6⟩ := DataW.trod_int intRow h6
    obtain ⟨n7, e7, _, w7⟩ := DataW.trod_int intRow h7
    obtain ⟨n8, e8, _, w8⟩ := DataW.trod_int intRow h8
    obtain ⟨s9, e9, _, w9⟩ := DataW.trod_string stringRowK h9
    simp at e0 e1 e2 e3 e4 e5 e6 e7 e8 e9
    subst e0 e1 e2 e3 e4 e5 e6 e7 e8 e9
    exact ⟨⟨n0, n1, n2, n3, n4, n5, n6, n7, n8, s9⟩, rfl, w9, isInt_wf w4, isInt_wf w8, isInt_wf w6, isInt_wf w5, isInt_wf w7⟩

set_option maxRecDepth 100000 in
/-- A list of entries that comes in. -/
theorem open_ents {W : World} {v : Value} {d : DataW H} {ps : List MemPlace} (hlt : ∀ p ∈ ps, p.block < W.heap.size) (h : DataW.Trod enc Tryz.prog W 0 (fun _ => true) true 22 v d ps) (hv : ∃ A n c, v = .slice A n c) :
    ∃ A c l, v = .slice A l.length c ∧ l.length ≤ c ∧ c ≤ maxLen ∧ EntsLie W W.heap.size A l ∧ (∀ e ∈ l, goEnt e) ∧ (d = .nil ∧ l = [] ∨ ∃ xs ys, d = .slice xs ys ∧ xs.length = l.length) := by
  obtain ⟨A0, n0, c0, rfl⟩ := hv
  obtain ⟨fuel, hf⟩ := h
  rcases open_slice entsRow hf with ⟨hcs, hx⟩ | ⟨a, len, cap, m, n, D, Pl, hcs, _, hl, hm, hmm, hx, hi⟩
  · simp [Value.cells] at hcs
    obtain ⟨rfl, rfl, rfl⟩ := hcs
    simp only [Prod.mk.injEq] at hx
    exact ⟨none, 0, [], rfl, Nat.le_refl _, Nat.zero_le _, .inl rfl, by simp, .inl ⟨hx.1, rfl⟩⟩
  · simp [Value.cells] at hcs
    obtain ⟨rfl, rfl, rfl⟩ := hcs
    simp only [Prod.mk.injEq] at hx
    obtain ⟨rfl, rfl⟩ := hx
    simp only [if_true] at hmm
    subst hmm
    rw [cellsEnt] at hi
    have hE : ∀ i, i < n0 → ∃ e : Ent, goEnt e ∧ ∀ j u, (entCells e)[j]? = some u → W.cell? (a.add (i * 10 + j)) = some u := by
      intro i hi'
      obtain ⟨cs', hc, ht⟩ := hi i (by omega)
      obtain ⟨e, rfl, he⟩ := open_ent ht
      obtain ⟨_, _, hat⟩ := World.cells?_some hc
      refine ⟨e, he, fun j u hu => ?_⟩
      have hj : j < 10 := entCells_lt e j u hu
      rw [← Go.Deep.add_add, hat j hj, hu]
    obtain ⟨l, hll, hP⟩ := list_of hE
    refine ⟨some a, m, l, by rw [hll], by omega, hm, ?_, ?_, .inr ⟨_, _, rfl, by simp [hll]⟩⟩
    · cases hl0 : l with
      | nil => exact .inl rfl
      | cons e0 l' =>
        rw [← hl0]
        have h0 := hP 0 e0 (by rw [hl0]; rfl)
        have hc0 := h0.2 0 _ rfl
        have hsp0 : (a.add (0 * 10 + 0)).spot = none := World.cell?_spot hc0
        obtain ⟨b, off, spot⟩ := a
        obtain rfl : spot = none := by simpa [Addr.add] using hsp0
        refine .inr ⟨b, off, rfl, cell_lt (a := (⟨b, off, none⟩ : Addr).add (0 * 10 + 0)) hc0, fun k x hk j v hj => ?_⟩
        have := (hP k x hk).2 j v hj
        simp only [Addr.add] at this
        split at this
        · rename_i hz
          rw [show off + k * 10 + j = off by omega]
          exact this
        · rw [Nat.add_assoc]
          exact this
    · intro e he
      obtain ⟨i, hi2⟩ := List.getElem?_of_mem he
      exact (hP i e hi2).1
end
end Go.Proofs.YtlbehpbhmmppiaaGreatDoor
namespace Go.Proofs.YtlbehpbhmmppiaaGreatDoor
open Go.ChangeShapes Go.WideShapes Go.ChangeAt Go.RowKit

theorem ownKnobA : ownKnob Tryz.prog.godebug = none := by kernel_rfl
theorem boolRowA : Tryz.prog.underlying 4 = some .bool := by kernel_rfl

section
variable {H : Type} {enc : TypeId × Value → H}
/-- Arguments read as they read. -/
theorem trodAll_again {W W' : World} (hb : Below W.heap.size W W') : ∀ {ts : List TypeId} {vs : List Value} {ds : List (DataW H)} {ps : List MemPlace}, (∀ t ∈ ts, Tryz.prog.readableRec t = true ∧ t < Tryz.prog.types.size) → (∀ p ∈ ps, p.block < W.heap.size) →
    DataW.TrodAll enc Tryz.prog W 0 (fun _ => true) true ts vs ds ps → DataW.TrodAll enc Tryz.prog W' 0 (fun b => decide (b < W.heap.size)) true ts vs ds ps
  | [], [], [], _, _, _, h => h
  | [], [], _ :: _, _, _, _, h => h.elim
  | [], _ :: _, _, _, _, _, h => h.elim
  | _ :: _, [], _, _, _, _, h => h.elim
  | _ :: _, _ :: _, [], _, _, _, h => h.elim
  | t :: ts, v :: vs, d :: ds, ps, hts, hlt, h => by
    obtain ⟨p, q, h1, h2, rfl⟩ := h
    exact ⟨p, q, Below.trod laidOutA (hts t (List.mem_cons_self ..)).1 (hts t (List.mem_cons_self ..)).2 h1 hb (fun x hx => hlt x (List.mem_append_left _ hx)),
      trodAll_again hb (fun t ht => hts t (List.mem_cons_of_mem _ ht)) (fun x hx => hlt x (List.mem_append_right _ hx)) h2, rfl⟩

/-- A law that returned true, and left all that was there as it was. -/
theorem law_post {f : Func} {s : ChangeSpec} (hr : f.resultTypes = #[4]) (hts : ∀ t ∈ f.params.toList, Tryz.prog.readableRec t = true ∧ t < Tryz.prog.types.size) (hv : s.vars = []) {W W' : World} {args : Array Value} {ds gs : List (DataW H)} {before : List MemPlace}
    (hW : DataW.Whole enc Tryz.prog f.params.toList s.vars false W args.toList ds gs before) (hs : s.fn H (ds ++ gs) = { results := [.lit (.bool true)], args := ds }) (hb : Below W.heap.size W W') :
    ∃ v, Ending.returned (.bool true) = Ending.returned v ∧ s.post enc Tryz.prog f false true false false W args v W' := by
  have hlt : ∀ p ∈ before, p.block < W.heap.size := fun p hp => hW.lt p hp
  have hW' := hW
  obtain ⟨p, q, h1, h2, rfl, h4, h5⟩ := hW
  rw [hv] at h2
  obtain ⟨rfl, rfl⟩ := trodVars_none h2
  refine ⟨_, rfl, ds, [], p ++ [], [], p, [], hW', ?_, ?_, ?_, ?_, fun h => by cases h⟩
  · rw [hs, hr]
    exact trodAll_mk1 (shut_bool boolRowA true)
  · rw [hs]
    exact trodAll_again hb hts (fun x hx => hlt x (by simpa using hx)) h1
  · rw [hs, hv]
    rfl
  · exact World.keptBut_mono (fun _ h => h.elim) (hb.frame (fun _ => False))
end

set_option maxRecDepth 100000 in
theorem slice_of_ok {W : World} {base : Nat} {v : Value} (h : Value.okWide Tryz.prog W .any base 22 v) : ∃ A n c, v = .slice A n c := by
  unfold Value.okWide at h
  rw [entsRow] at h
  cases v with
  | slice A n c => exact ⟨A, n, c, rfl⟩
  | _ => simp [Cell.okWide, Cell.ok] at h
set_option maxRecDepth 100000 in
theorem ents_readable : Tryz.prog.readableRec 22 = true ∧ (22 : TypeId) < Tryz.prog.types.size := ⟨by kernel_rfl, of_decide_eq_true (by kernel_rfl)⟩
theorem int_readable : Tryz.prog.readableRec 3 = true ∧ (3 : TypeId) < Tryz.prog.types.size := ⟨by kernel_rfl, of_decide_eq_true (by kernel_rfl)⟩
/-- The world of the witness: what the program's own start leaves. -/
noncomputable def doorW (os : Os) : World := World.doorLaid Tryz.prog 62 os
end Go.Proofs.YtlbehpbhmmppiaaGreatDoor
