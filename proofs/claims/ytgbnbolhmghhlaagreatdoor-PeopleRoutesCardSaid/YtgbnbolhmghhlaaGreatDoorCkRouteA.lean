/- The contracts of CheckRoute and of the reference's CheckRoute: whether following gives the route. Conditions: the list lies in memory, has at most 60 entries, and its places are ints; the route's hops lie in memory. How a route that comes in reads: its numbers, and its hops in memory. No conditions. -/
import Derived.Test.YtgbnbolhmghhlaaGreatDoorFolC
import Derived.Test.YtgbnbolhmghhlaaGreatDoorRefFA
import Derived.Test.YtgbnbolhmghhlaaGreatDoorSameA
import Derived.Test.YtgbnbolhmghhlaaGreatDoorLawFolW
import Derived.Test.YtgbnbolhmghhlaaGreatDoorOpenA
namespace Go.Proofs.YtgbnbolhmghhlaaGreatDoor
open Go.RowKit Go.Shelf

/-- What Follow returns. -/
def FolRes (l : List OEnt) (d s : Int) (cp : Int × Int) (q : Rt) (x : Int) : Prop := ((x = 0 ∧ Fol l d s [] cp q) ∨ (x = 1 ∧ q = ⟨0, (0, 0), [], 0⟩)) ∧ (x = 0 ↔ (isIdB cp.1 && isIdB cp.2 && isIdZB s && isDayB d) = true)
theorem FolRes.same {l : List OEnt} {d s : Int} {cp : Int × Int} {q q' : Rt} {x x' : Int} (h : FolRes l d s cp q x) (h' : FolRes l d s cp q' x') : x = x' ∧ q = q' := fol_same h.1 h'.1 h.2 h'.2
/-- What CheckRoute returns. -/
def ckR (q : Rt) (x : Int) (r : Rt) : Bool := decide (x = 0) && sameB q r
theorem ckR_self (q : Rt) (x : Int) : ckR q x q = decide (x = 0) := by simp [ckR, sameB]

set_option maxRecDepth 100000 in
set_option maxHeartbeats 8000000 in
theorem checkRoute_any (A : Option Addr) (c : Nat) (l : List OEnt) (d s : Int) (cp : Int × Int) (hI : ∀ x ∈ l, intB x.1.place ∧ intB x.1.at') (h60 : l.length ≤ 60) (r : Rt) (Ar : Option Addr) (cr : Nat) (hlr : r.hops.length ≤ maxLen) (w : World) (hL : EntsLie w w.heap.size A (l.map (·.1))) (hr : HopsAt w w.heap.size Ar r.hops) :
    Calls Tryz.prog 22 #[.slice A l.length c, candVal cp, .int .i64 s, .int .i64 d, rtVal r.kind r.fin (.slice Ar r.hops.length cr) r.back] w fun e w' => (∃ q x, e = .returned (.bool (ckR q x r)) ∧ Hid (FolRes l d s cp q x)) ∧ Below w.heap.size w w' := by
  have H1 : Hid (∀ W, Below w.heap.size w W → _) := Lib.hid fun W (hW : Below w.heap.size w W) => follows_any A c l d s cp hI h60 W (hL.up hW hW.size)
  have H60 := Lib.hid h60
  have HLR := Lib.hid hlr
  obtain ⟨p, q⟩ := cp
  obtain ⟨k', ⟨g1, g2⟩, hs', b'⟩ := r
  unfold candVal rtVal at *
  dsimp only at H1 HLR hr ⊢
  have HR0 := Lib.hid hr
  clear hL hI h60 hlr hr
  have kC : Blk ((w.alloc (.cells #[.int .i64 p, .int .i64 q] 24)).alloc (.cells #[.int .u8 k', .int .i64 g1, .int .i64 g2, .slice Ar hs'.length cr, .int .i64 b'] 42)) w.heap.size 24 #[.int .i64 p, .int .i64 q] := (Blk.new w _ _).alloc _
  have kR : Blk ((w.alloc (.cells #[.int .i64 p, .int .i64 q] 24)).alloc (.cells #[.int .u8 k', .int .i64 g1, .int .i64 g2, .slice Ar hs'.length cr, .int .i64 b'] 42)) (w.heap.size + 1) 42 #[.int .u8 k', .int .i64 g1, .int .i64 g2, .slice Ar hs'.length cr, .int .i64 b'] := at_new (by simp)
  have hB0 : Below w.heap.size w ((w.alloc (.cells #[.int .i64 p, .int .i64 q] 24)).alloc (.cells #[.int .u8 k', .int .i64 g1, .int .i64 g2, .slice Ar hs'.length cr, .int .i64 b'] 42)) := below_al (below_al (Below.refl _ _) _) _
  go_enter Tryz.func22, Tryz.ntmps22
  go_upto_region 1 with fail
  generalize (w.alloc (.cells _ 24)).alloc (.cells _ 42) = w0 at kC kR hB0 ⊢
  have e0 := kC.cell 0
  have e1 := kC.cell 1
  have zC := kC.lt
  simp at e0 e1
  go_wp2_with fail
  refine (H1.out _ hB0).mono ?_
  rintro e w1 ⟨hb1, ⟨k, ⟨f1, f2⟩, hops, back⟩, hv, x, rfl, hO, hF, hx⟩
  dsimp only at hO ⊢
  obtain ⟨A2, c2, rfl⟩ := hO.shape
  have hQ := hO.rows.at
  have HLQ : Hid (hops.length ≤ maxLen) := Lib.hid (by have := fol_len hF H60.out; dsimp only at this; unfold maxLen; omega)
  have HRS : Hid (FolRes l d s (p, q) ⟨k, (f1, f2), hops, back⟩ x) := Lib.hid ⟨hF, hx⟩
  have hB1 := hB0.trans (hb1.mono hB0.size)
  replace kR := Blk.below kR hb1 (Blk.lt kR)
  clear hb1 e0 e1 zC H1 hO hF hx hB0 kC
  have hBx := below_al hB1 (.cells #[.int .u8 k, .int .i64 f1, .int .i64 f2, .slice A2 hops.length c2, .int .i64 back] 42)
  have kQ := Blk.new w1 42 #[.int .u8 k, .int .i64 f1, .int .i64 f2, .slice A2 hops.length c2, .int .i64 back]
  have kR2 := kR.alloc (.cells #[.int .u8 k, .int .i64 f1, .int .i64 f2, .slice A2 hops.length c2, .int .i64 back] 42)
  have HQ2 := hQ.up ((Below.refl w1.heap.size w1).alloc (Nat.le_refl _) (.cells #[.int .u8 k, .int .i64 f1, .int .i64 f2, .slice A2 hops.length c2, .int .i64 back] 42)) (by simp : w1.heap.size ≤ (w1.alloc (.cells #[.int .u8 k, .int .i64 f1, .int .i64 f2, .slice A2 hops.length c2, .int .i64 back] 42)).heap.size)
  go_upto_region 2 with fail
  generalize hgq : w1.heap.size = gq at *
  generalize w1.alloc (.cells _ 42) = w2 at hBx kQ kR2 HQ2 ⊢
  have hRt := HR0.out.up hBx hBx.size
  have HQA := Lib.hid HQ2
  have HRA := Lib.hid hRt
  clear hQ HQ2 hRt HR0 kR hB1 hgq
  have q0 := kQ.cell 0
  have q1 := kQ.cell 1
  have q2 := kQ.cell 2
  have q3 := kQ.cell 3
  have q4 := kQ.cell 4
  have r0 := kR2.cell 0
  have r1 := kR2.cell 1
  have r2 := kR2.cell 2
  have r3 := kR2.cell 3
  have r4 := kR2.cell 4
  have zQ := kQ.lt
  have zR := kR2.lt
  simp at q0 q1 q2 q3 q4 r0 r1 r2 r3 r4
  have HF : Hid ((x ≠ 0 ∨ k ≠ k' ∨ (f1, f2) ≠ (g1, g2) ∨ back ≠ b') → ckR ⟨k, (f1, f2), hops, back⟩ x ⟨k', (g1, g2), hs', b'⟩ = false) := Lib.hid (fun h => by
    unfold ckR sameB
    rcases h with h | h | h | h <;> simp [h])
  have HT : Hid (x = 0 → k = k' → (f1, f2) = (g1, g2) → back = b' → ckR ⟨k, (f1, f2), hops, back⟩ x ⟨k', (g1, g2), hs', b'⟩ = decide (hops = hs')) := Lib.hid (fun e1 e2 e3 e4 => by
    unfold ckR sameB
    simp [e1, e2, e3, e4])
  have HE : Hid (∀ R, ckR ⟨k, (f1, f2), hops, back⟩ x ⟨k', (g1, g2), hs', b'⟩ = R → ∀ w', Below w.heap.size w w' → ((∃ q' x', (Ending.returned (.bool R)) = .returned (.bool (ckR q' x' ⟨k', (g1, g2), hs', b'⟩)) ∧ Hid (FolRes l d s (p, q) q' x')) ∧ Below w.heap.size w w')) := Lib.hid (fun R h w' hb => ⟨⟨_, _, by rw [h], HRS⟩, hb⟩)
  generalize ckR ⟨k, (f1, f2), hops, back⟩ x ⟨k', (g1, g2), hs', b'⟩ = R at HF HT HE
  have heq := eqCand (f1, f2) (g1, g2)
  have hng := fun a b => noGuardCand .eql a b (f1, f2) (g1, g2)
  unfold candVal at heq hng
  dsimp only at heq hng
  by_cases hx0 : x = 0
  rotate_left
  · have hx' : (x == 0) = false := by simpa using hx0
    have hR := HF.out (.inl hx0)
    have HZ := Lib.hid (HE.out false hR w2 hBx)
    clear hx0 hR HE HF HT heq hng
    go_wp2_with fail
    go_ret
    exact HZ.out
  by_cases hk : k = k'
  rotate_left
  · have hk' : (k == k') = false := by simpa using hk
    have hR := HF.out (.inr (.inl hk))
    have HZ := Lib.hid (HE.out false hR w2 hBx)
    subst hx0
    clear hk hR HE HF HT heq hng
    go_wp2_with fail
    go_ret
    exact HZ.out
  by_cases hf : (f1, f2) = (g1, g2)
  rotate_left
  · rw [decide_eq_false hf] at heq
    have hR := HF.out (.inr (.inr (.inl hf)))
    have HZ := Lib.hid (HE.out false hR w2 hBx)
    subst hx0
    subst hk
    clear hf hR HE HF HT
    go_wp2_with fail
    go_ret
    exact HZ.out
  rw [decide_eq_true hf] at heq
  by_cases hb : back = b'
  rotate_left
  · have hb' : (back == b') = false := by simpa using hb
    have hR := HF.out (.inr (.inr (.inr hb)))
    have HZ := Lib.hid (HE.out false hR w2 hBx)
    subst hx0
    subst hk
    clear hf hb hR HE HF HT
    go_wp2_with fail
    go_ret
    exact HZ.out
  have HRR := Lib.hid (HT.out hx0 hk hf hb)
  subst hx0
  subst hk
  subst hb
  clear hf HF HT
  have HS := Lib.hid (hopsEqual_any A2 Ar c2 cr hops hs' w2.heap.size w2 HQA.out HRA.out (Nat.le_refl _) HLQ.out HLR.out)
  go_wp2_with fail
  refine HS.out.mono ?_
  rintro e w3 ⟨rfl, n, rfl⟩
  have HZ := Lib.hid (HE.out _ HRR.out (w2.drewN n) (below_dr hBx n))
  clear HS HE HRR heq hng
  go_wp2_with fail
  go_ret
  exact HZ.out

set_option maxRecDepth 100000 in
set_option maxHeartbeats 8000000 in
theorem refCheckRoute_any (A : Option Addr) (c : Nat) (l : List OEnt) (d s : Int) (cp : Int × Int) (h60 : l.length ≤ 60) (r : Rt) (Ar : Option Addr) (cr : Nat) (hlr : r.hops.length ≤ maxLen) (w : World) (hL : EntsLie w w.heap.size A (l.map (·.1))) (hr : HopsAt w w.heap.size Ar r.hops) :
    Calls Tryz.prog 23 #[.slice A l.length c, candVal cp, .int .i64 s, .int .i64 d, rtVal r.kind r.fin (.slice Ar r.hops.length cr) r.back] w fun e w' => (∃ q x, e = .returned (.bool (ckR q x r)) ∧ Hid (FolRes l d s cp q x)) ∧ Below w.heap.size w w' := by
  have H1 : Hid (∀ W, Below w.heap.size w W → _) := Lib.hid fun W (hW : Below w.heap.size w W) => refFollow_any A c l d s cp h60 W (hL.up hW hW.size)
  have H60 := Lib.hid h60
  have HLR := Lib.hid hlr
  obtain ⟨p, q⟩ := cp
  obtain ⟨k', ⟨g1, g2⟩, hs', b'⟩ := r
  unfold candVal rtVal at *
  dsimp only at H1 HLR hr ⊢
  have HR0 := Lib.hid hr
  clear hL h60 hlr hr
  have kC : Blk ((w.alloc (.cells #[.int .i64 p, .int .i64 q] 24)).alloc (.cells #[.int .u8 k', .int .i64 g1, .int .i64 g2, .slice Ar hs'.length cr, .int .i64 b'] 42)) w.heap.size 24 #[.int .i64 p, .int .i64 q] := (Blk.new w _ _).alloc _
  have kR : Blk ((w.alloc (.cells #[.int .i64 p, .int .i64 q] 24)).alloc (.cells #[.int .u8 k', .int .i64 g1, .int .i64 g2, .slice Ar hs'.length cr, .int .i64 b'] 42)) (w.heap.size + 1) 42 #[.int .u8 k', .int .i64 g1, .int .i64 g2, .slice Ar hs'.length cr, .int .i64 b'] := at_new (by simp)
  have hB0 : Below w.heap.size w ((w.alloc (.cells #[.int .i64 p, .int .i64 q] 24)).alloc (.cells #[.int .u8 k', .int .i64 g1, .int .i64 g2, .slice Ar hs'.length cr, .int .i64 b'] 42)) := below_al (below_al (Below.refl _ _) _) _
  go_enter Tryz.func23, Tryz.ntmps23
  go_upto_region 1 with fail
  generalize (w.alloc (.cells _ 24)).alloc (.cells _ 42) = w0 at kC kR hB0 ⊢
  have e0 := kC.cell 0
  have e1 := kC.cell 1
  have zC := kC.lt
  simp at e0 e1
  go_wp2_with fail
  refine (H1.out _ hB0).mono ?_
  rintro e w1 ⟨hb1, ⟨k, ⟨f1, f2⟩, hops, back⟩, hv, x, rfl, hO, hF, hx⟩
  dsimp only at hO ⊢
  obtain ⟨A2, c2, rfl⟩ := hO.shape
  have hQ := hO.rows.at
  have HLQ : Hid (hops.length ≤ maxLen) := Lib.hid (by have := fol_len hF H60.out; dsimp only at this; unfold maxLen; omega)
  have HRS : Hid (FolRes l d s (p, q) ⟨k, (f1, f2), hops, back⟩ x) := Lib.hid ⟨hF, hx⟩
  have hB1 := hB0.trans (hb1.mono hB0.size)
  replace kR := Blk.below kR hb1 (Blk.lt kR)
  clear hb1 e0 e1 zC H1 hO hF hx hB0 kC
  have hBx := below_al hB1 (.cells #[.int .u8 k, .int .i64 f1, .int .i64 f2, .slice A2 hops.length c2, .int .i64 back] 42)
  have kQ := Blk.new w1 42 #[.int .u8 k, .int .i64 f1, .int .i64 f2, .slice A2 hops.length c2, .int .i64 back]
  have kR2 := kR.alloc (.cells #[.int .u8 k, .int .i64 f1, .int .i64 f2, .slice A2 hops.length c2, .int .i64 back] 42)
  have HQ2 := hQ.up ((Below.refl w1.heap.size w1).alloc (Nat.le_refl _) (.cells #[.int .u8 k, .int .i64 f1, .int .i64 f2, .slice A2 hops.length c2, .int .i64 back] 42)) (by simp : w1.heap.size ≤ (w1.alloc (.cells #[.int .u8 k, .int .i64 f1, .int .i64 f2, .slice A2 hops.length c2, .int .i64 back] 42)).heap.size)
  go_upto_region 2 with fail
  generalize hgq : w1.heap.size = gq at *
  generalize w1.alloc (.cells _ 42) = w2 at hBx kQ kR2 HQ2 ⊢
  have hRt := HR0.out.up hBx hBx.size
  have HQA := Lib.hid HQ2
  have HRA := Lib.hid hRt
  clear hQ HQ2 hRt HR0 kR hB1 hgq
  have q0 := kQ.cell 0
  have q1 := kQ.cell 1
  have q2 := kQ.cell 2
  have q3 := kQ.cell 3
  have q4 := kQ.cell 4
  have r0 := kR2.cell 0
  have r1 := kR2.cell 1
  have r2 := kR2.cell 2
  have r3 := kR2.cell 3
  have r4 := kR2.cell 4
  have zQ := kQ.lt
  have zR := kR2.lt
  simp at q0 q1 q2 q3 q4 r0 r1 r2 r3 r4
  have hS := sameRoute_any k back k' b' (f1, f2) (g1, g2) hops hs' A2 Ar c2 cr HLQ.out HLR.out w2 HQA.out HRA.out
  obtain ⟨R, hR⟩ : ∃ R, sameB ⟨k, (f1, f2), hops, back⟩ ⟨k', (g1, g2), hs', b'⟩ = R := ⟨_, rfl⟩
  rw [hR] at hS
  unfold rtVal at hS
  dsimp only at hS
  have HS := Lib.hid hS
  have HE : Hid (∀ V, (decide (x = 0) && R) = V → ∀ w', Below w.heap.size w w' → ((∃ q' x', (Ending.returned (.bool V)) = .returned (.bool (ckR q' x' ⟨k', (g1, g2), hs', b'⟩)) ∧ Hid (FolRes l d s (p, q) q' x')) ∧ Below w.heap.size w w')) := Lib.hid (fun V h w' hb => ⟨⟨⟨k, (f1, f2), hops, back⟩, x, by unfold ckR; rw [hR, h], HRS⟩, hb⟩)
  clear hS hR HRS HQA HRA kQ kR2
  go_wp2_with fail
  refine HS.out.mono ?_
  rintro e w3 ⟨rfl, hb3⟩
  have hB3 := hBx.trans (hb3.mono hBx.size)
  clear HS q0 q1 q2 q3 q4 r0 r1 r2 r3 r4 zQ zR hb3 hBx
  by_cases hx0 : x = 0
  · have HZ := Lib.hid (HE.out R (by rw [decide_eq_true hx0]; rfl) w3 hB3)
    subst hx0
    clear HE
    go_wp2_with fail
    go_ret
    exact HZ.out
  · have hx' : (x == 0) = false := by simpa using hx0
    have HZ := Lib.hid (HE.out false (by rw [decide_eq_false hx0]; rfl) w3 hB3)
    clear HE hx0
    go_wp2_with fail
    go_ret
    exact HZ.out
end Go.Proofs.YtgbnbolhmghhlaaGreatDoor
namespace Go.Proofs.YtgbnbolhmghhlaaGreatDoor
open Go.ChangeShapes Go.WideShapes Go.Deep Go.RowKit

theorem hopStruct : Tryz.prog.underlying 48 = some (.struct (Tryz.prog.fieldsOf 48)) := by kernel_rfl
theorem hopFieldsO : (Tryz.prog.fieldsOf 48).toList.map (fun f => (f.type, f.offset)) = [(5, 0), (24, 1), (24, 3), (3, 5)] := by kernel_rfl
theorem cellsHop : Tryz.prog.cellsOf 48 = 6 := by kernel_rfl
theorem routeStruct : Tryz.prog.underlying 42 = some (.struct (Tryz.prog.fieldsOf 42)) := by kernel_rfl
theorem routeFieldsO : (Tryz.prog.fieldsOf 42).toList.map (fun f => (f.type, f.offset)) = [(5, 0), (24, 1), (40, 3), (3, 4)] := by kernel_rfl
theorem cellsRoute : Tryz.prog.cellsOf 42 = 5 := by kernel_rfl
theorem cellsHops : Tryz.prog.cellsOf 40 = 1 := by kernel_rfl

section
variable {H : Type} {enc : TypeId × Value → H} {w : World} {base : Nat} {sp : Nat → Bool} {held : Bool}
set_option maxRecDepth 100000 in
theorem open_hop {n : Nat} {cs : List Value} {x : DataW H × List MemPlace} (h : DataW.trod enc Tryz.prog w base sp held n 48 cs = some x) : ∃ e : HopV, cs = hopCells e := by
  obtain ⟨xs, m, rfl, _, hlen, hxl, hf⟩ := DataW.trod_struct hopStruct h
  rw [cellsHop] at hlen
  have hsz : (Tryz.prog.fieldsOf 48).size = 4 := by rw [← Array.length_toList, ← List.length_map (f := fun f : Field => (f.type, f.offset)), hopFieldsO]; rfl
  have hat : ∀ (i : Nat) (t : TypeId) (o : Nat), [((5 : TypeId), 0), (24, 1), (24, 3), (3, 5)][i]? = some (t, o) →
      ∃ y, DataW.trod enc Tryz.prog w base sp held m t ((cs.drop o).take (Tryz.prog.cellsOf t)) = some y := by
    intro i t o hi
    have hi' := hi
    rw [← hopFieldsO, List.getElem?_map] at hi
    obtain ⟨f, hf1, hf2⟩ := Option.map_eq_some_iff.1 hi
    simp only [Prod.mk.injEq] at hf2
    obtain ⟨rfl, rfl⟩ := hf2
    rw [hf i f (by rw [← Array.getElem?_toList]; exact hf1)]
    have hil : i < xs.length := by rw [hxl, hsz]; exact (List.getElem?_eq_some_iff.1 hi').1
    exact ⟨_, List.getElem?_eq_getElem hil⟩
  match cs, hlen with
  | [c0, c1, c2, c3, c4, c5], _ =>
    obtain ⟨_, h0⟩ := hat 0 _ _ rfl
    obtain ⟨_, h1⟩ := hat 1 _ _ rfl
    obtain ⟨_, h2⟩ := hat 2 _ _ rfl
    obtain ⟨_, h3⟩ := hat 3 _ _ rfl
    rw [cellsU8] at h0
    rw [cellsCand] at h1 h2
    rw [cellsInt] at h3
    obtain ⟨n0, e0, _, w0⟩ := DataW.trod_int uint8Row h0
    obtain ⟨a1, e1, _⟩ := open_cand h1
    obtain ⟨a2, e2, _⟩ := open_cand h2
    obtain ⟨n3, e3, _, w3⟩ := DataW.trod_int intRow h3
    simp at e0 e1 e2 e3
    obtain ⟨rfl, rfl⟩ := e1
    obtain ⟨rfl, rfl⟩ := e2
    subst e0 e3
    exact ⟨(n0, a1, a2, n3), rfl⟩
end

set_option maxRecDepth 100000 in
theorem open_route {H : Type} {enc : TypeId × Value → H} {W : World} {n : Nat} {cs : List Value} {x : DataW H × List MemPlace} (h : DataW.trod enc Tryz.prog W 0 (fun _ => true) true n 42 cs = some x) :
    ∃ (r : Rt) (A : Option Addr) (c : Nat), cs = [.int .u8 r.kind, .int .i64 r.fin.1, .int .i64 r.fin.2, .slice A r.hops.length c, .int .i64 r.back] ∧ r.hops.length ≤ maxLen ∧ HopsAt W W.heap.size A r.hops := by
  obtain ⟨xs, m, rfl, _, hlen, hxl, hf⟩ := DataW.trod_struct routeStruct h
  rw [cellsRoute] at hlen
  have hsz : (Tryz.prog.fieldsOf 42).size = 4 := by rw [← Array.length_toList, ← List.length_map (f := fun f : Field => (f.type, f.offset)), routeFieldsO]; rfl
  have hat : ∀ (i : Nat) (t : TypeId) (o : Nat), [((5 : TypeId), 0), (24, 1), (40, 3), (3, 4)][i]? = some (t, o) →
      ∃ y, DataW.trod enc Tryz.prog W 0 (fun _ => true) true m t ((cs.drop o).take (Tryz.prog.cellsOf t)) = some y := by
    intro i t o hi
    have hi' := hi
    rw [← routeFieldsO, List.getElem?_map] at hi
    obtain ⟨f, hf1, hf2⟩ := Option.map_eq_some_iff.1 hi
    simp only [Prod.mk.injEq] at hf2
    obtain ⟨rfl, rfl⟩ := hf2
    rw [hf i f (by rw [← Array.getElem?_toList]; exact hf1)]
    have hil : i < xs.length := by rw [hxl, hsz]; exact (List.getElem?_eq_some_iff.1 hi').1
    exact ⟨_, List.getElem?_eq_getElem hil⟩
  match cs, hlen with
  | [c0, c1, c2, c3, c4], _ =>
    obtain ⟨_, h0⟩ := hat 0 _ _ rfl
    obtain ⟨_, h1⟩ := hat 1 _ _ rfl
    obtain ⟨y, h2⟩ := hat 2 _ _ rfl
    obtain ⟨_, h3⟩ := hat 3 _ _ rfl
    rw [cellsU8] at h0
    rw [cellsCand] at h1
    rw [cellsHops] at h2
    rw [cellsInt] at h3
    obtain ⟨n0, e0, _, w0⟩ := DataW.trod_int uint8Row h0
    obtain ⟨a1, e1, _⟩ := open_cand h1
    obtain ⟨n3, e3, _, w3⟩ := DataW.trod_int intRow h3
    simp at e0 e1 e3
    obtain ⟨rfl, rfl⟩ := e1
    subst e0 e3
    rcases open_slice hopsRow h2 with ⟨hcs, hx⟩ | ⟨a, len, cap, m2, n2, D, Pl, hcs, _, hl, hm, hmm, hx, hi⟩
    · simp at hcs
      subst hcs
      exact ⟨⟨n0, a1, [], n3⟩, none, 0, rfl, Nat.zero_le _, fun k x hk => by simp at hk⟩
    · simp at hcs
      subst hcs
      simp only [if_true] at hmm
      subst hmm
      rw [cellsHop] at hi
      have hE : ∀ i, i < len → ∃ e : HopV, ∀ j u, (hopCells e)[j]? = some u → W.cell? (a.add (i * 6 + j)) = some u := by
        intro i hi'
        obtain ⟨cs', hc, ht⟩ := hi i (by omega)
        obtain ⟨e, rfl⟩ := open_hop ht
        obtain ⟨_, _, hat2⟩ := World.cells?_some hc
        refine ⟨e, fun j u hu => ?_⟩
        have hj : j < 6 := by have := (List.getElem?_eq_some_iff.1 hu).1; simpa [hopCells] using this
        rw [← Go.Deep.add_add, hat2 j hj, hu]
      obtain ⟨l, hll, hP⟩ := list_of hE
      refine ⟨⟨n0, a1, l, n3⟩, some a, m2, by dsimp only; rw [hll], by dsimp only; omega, fun k x hk => ?_⟩
      dsimp only at hk
      have hx0 := hP k x hk
      have hc0 : W.cell? (a.add (k * 6 + 0)) = some (.int .u8 x.1) := hx0 0 _ rfl
      have hb := cell_lt hc0
      obtain ⟨x0, hx00⟩ : ∃ x0, l[0]? = some x0 := ⟨_, List.getElem?_eq_getElem (by have := (List.getElem?_eq_some_iff.1 hk).1; omega)⟩
      have hsp0 : (a.add (0 * 6 + 0)).spot = none := World.cell?_spot (hP 0 x0 hx00 0 _ rfl)
      obtain ⟨b, off, spot⟩ := a
      obtain rfl : spot = none := by simpa [Addr.add] using hsp0
      refine ⟨b, off, rfl, ?_, fun j hj => ?_⟩
      · simp only [Addr.add] at hb
        split at hb <;> exact hb
      · obtain ⟨u, hu⟩ : ∃ u, (hopCells x)[j]? = some u := ⟨_, List.getElem?_eq_getElem (by simpa [hopCells] using hj)⟩
        rw [hu]
        have h2 := hx0 j u hu
        simp only [Addr.add] at h2
        split at h2
        · rename_i hz
          rw [show off + k * 6 + j = off by omega]
          exact h2
        · rw [Nat.add_assoc]
          exact h2
end Go.Proofs.YtgbnbolhmghhlaaGreatDoor
