/- The contract of Follow where the first pair is the end: it is refused, or no order applies and nobody lives there. Conditions: the list lies in memory; nobody is dead there; no hop. The contract of Follow where the first pair is the end and nobody lives there. Conditions: the list lies in memory; nobody is dead there; no hop; no refusal. -/
import Derived.Test.YtlbehpbhmmppiaaGreatDoorHopA
import Derived.Test.YtlbehpbhmmppiaaGreatDoorSortA
import Derived.Test.YtlbehpbhmmppiaaGreatDoorReaderA
import Derived.ScopeJumps
import Derived.WalkMore
import Derived.Maps.OwnSet
namespace Go.Proofs.YtlbehpbhmmppiaaGreatDoor
open Go.RowKit Go.Shelf

theorem wp_scope_once {P : Program} {a : Act} {w : World} {Q : Exit → Act → World → Prop} {c rest : Code} (l : Nat) (hf : findLabel c l = some rest)
    (first : c.wp P (Exit.jump l (fun a w => rest.wp P (Exit.jump l (fun _ _ => False) Q) a w) Q) a w) : (Code.scope c).wp P Q a w :=
  wp_scope_jumps l (fun a w => rest.wp P (Exit.jump l (fun _ _ => False) Q) a w) (fun _ _ => 0) hf first
    (fun _ _ h => Code.wp_mono (fun e _ _ hq => by cases e <;> first | exact hq | exact ⟨hq.1, hq.2.elim⟩) h)

theorem mapMetRow : Tryz.prog.underlying 64 = some (.map 33 3) := by kernel_rfl
theorem rowRoute : (Tryz.prog.underlying 36).map isAgg = some true := by kernel_rfl
theorem sizeRoute : (Tryz.prog.info? 36).map (·.size) = some 5 := by kernel_rfl
/-- A map of pairs to numbers. -/
def MetIs (w : World) (b n : Nat) (D : DataW Unit) : Prop := w.ownsMap Tryz.prog 33 (plainElem Tryz.prog 3) b n D ∧ Maps.IsMap D
theorem MetIs.new_of {W : World} {b : Nat} (hb : W.heap[b]? = some (.map #[] 0)) : MetIs W b 0 (.map []) := by
  refine ⟨?_, Maps.isMap_empty⟩
  obtain ⟨es, ck, h1, h2⟩ := World.ownsMap_made (H := Unit) W Tryz.prog 33 (plainElem Tryz.prog 3)
  rw [World.alloc_heap_new] at h1
  exact ⟨es, ck, hb.trans h1, h2⟩
theorem MetIs.lt {w : World} {b n : Nat} {D : DataW Unit} (h : MetIs w b n D) : b < w.heap.size := h.1.lt
theorem MetIs.of_block {w w' : World} {b n : Nat} {D : DataW Unit} (h : MetIs w b n D) (hb : w'.heap[b]? = w.heap[b]?) : MetIs w' b n D := by
  obtain ⟨⟨es, ck, h1, h2⟩, h3⟩ := h
  exact ⟨⟨es, ck, hb.trans h1, h2⟩, h3⟩
theorem MetIs.below {w w' : World} {b n B : Nat} {D : DataW Unit} (h : MetIs w b n D) (hb : Below B w w') (hB : b < B) : MetIs w' b n D := h.of_block (hb.block b hB)
theorem MetIs.alloc {w : World} {b n : Nat} {D : DataW Unit} (h : MetIs w b n D) (o : Obj) : MetIs (w.alloc o) b n D := h.of_block (Below.heap_alloc w o b h.lt)
theorem MetIs.set {w : World} {b n : Nat} {D : DataW Unit} (h : MetIs w b n D) {a : Addr} (ha : b ≠ a.block) (v : Value) : MetIs (w.setCell a v) b n D := h.of_block (Below.heap_setCell w a v b ha)
theorem MetIs.store {w : World} {b n : Nat} {D : DataW Unit} (h : MetIs w b n D) (hn : n < maxLen) {key : Value} {kl : Lit} (hkey : keyOf Tryz.prog 33 key = some kl) (x : Int) (hx : (Lit.int .i64 x).wf = true) :
    ∃ w', (Instr.mapUpdate 64 (.map (some b)) key (.int .i64 x)).run Tryz.prog w = .ok () w' ∧ MetIs w' b (n + 1) (D.put kl (.lit (.int .i64 x))) ∧ Keeps (fun i => i = b) w w' := by
  obtain ⟨w', hrun, h1, h2⟩ := h.1.update lawCand mapMetRow hn hkey (plainElem_int intRowS hx)
  exact ⟨w', hrun, ⟨h1, h.2.put _ _⟩, Keeps.of_grown h2 (fun k e _ => by cases e; rfl)⟩
theorem MetIs.miss {w : World} {b n : Nat} {D : DataW Unit} (h : MetIs w b n D) (hz : (zeroValue 3).run Tryz.prog w = .ok (.int .i64 0) w) {key : Value} {kl : Lit} (hkey : keyOf Tryz.prog 33 key = some kl) (hat : ∀ zd, D.atKey kl zd = zd) :
    (Instr.lookup 64 (.map (some b)) key true).run Tryz.prog w = .ok (.tuple #[.int .i64 0, .bool false]) w := by
  obtain ⟨v, ps, hrun, hv⟩ := h.1.look_ok lawCand mapMetRow hz (plainElem_int intRowS (by decide)) hkey
  rw [Maps.has_false_of_atKey hat] at hrun
  rw [hat] at hv
  obtain ⟨c, rfl, hc, _⟩ := plainElem_int_inv intRowS hv
  simp at hc
  obtain ⟨rfl, _⟩ := hc
  exact hrun
theorem zeroInt (w : World) : (zeroValue 3).run Tryz.prog w = .ok (.int .i64 0) w := by kernel_rfl
def routeVal (k p q : Int) (A : Option Addr) (n c : Nat) : Value := .agg #[.int .u8 k, .int .i64 p, .int .i64 q, .slice A n c, .int .i64 0]

set_option maxRecDepth 100000 in
set_option maxHeartbeats 4000000 in
theorem follow_ref (A : Option Addr) (c : Nat) (l : List OEnt) (d s : Int) (p q : Int) (hp : 1 ≤ p ∧ p ≤ 1000000) (hq : 1 ≤ q ∧ q ≤ 1000000) (hs : 0 ≤ s ∧ s ≤ 1000000) (hd : 0 ≤ d ∧ d ≤ 100000) (w : World) (hL : EntsLie w w.heap.size A (l.map (·.1))) (hlen : l.length ≤ maxLen)
    (kl : Lit) (hk : keyOf Tryz.prog 33 (candVal (p, q)) = some kl)
    (hdead : deadOf l d p = false) (hhop : hopOf (deadOf l d) (cancOf l d) l d (p, q) = ((0, (0, 0), 0), false)) (href : refusesOf (deadOf l d) l d (p, q) s = true) :
    Calls Tryz.prog 10 #[.slice A l.length c, candVal (p, q), .int .i64 s, .int .i64 d] w fun e w' =>
      e = .returned (.tuple #[routeVal 2 p q none 0 0, .int .i64 0]) ∧ Below w.heap.size w w' := by
  have i1 := fun W => isId_any p W
  have i2 := fun W => isId_any q W
  have i3 := fun W => isIdOrZero_any s W
  have i4 := fun W => isDay_any d W
  have e1 : isIdB p = true := by simp [isIdB]; omega
  have e2 : isIdB q = true := by simp [isIdB]; omega
  have e3 : isIdZB s = true := by simp [isIdZB, isIdB]; omega
  have e4 : isDayB d = true := by simp [isDayB]; omega
  rw [e1] at i1
  rw [e2] at i2
  rw [e3] at i3
  rw [e4] at i4
  clear e1 e2 e3 e4
  have hmm := @run_makeMap Tryz.prog
  have I1 := Lib.hid i1
  have I2 := Lib.hid i2
  have I3 := Lib.hid i3
  have I4 := Lib.hid i4
  have HO := Lib.hid (on_any A c l d)
  clear i1 i2 i3 i4
  unfold candVal at *
  go_enter Tryz.func10, Tryz.ntmps10
  go_wp2_with fail
  refine wp_scope_once 0 rfl ?_
  go_wp2_with fail
  refine (I1.out _).mono ?_
  rintro e w' ⟨rfl, rfl⟩
  go_wp2_with fail
  refine (I2.out _).mono ?_
  rintro e w' ⟨rfl, rfl⟩
  go_wp2_with fail
  refine (I3.out _).mono ?_
  rintro e w' ⟨rfl, rfl⟩
  go_wp2_with fail
  refine (I4.out _).mono ?_
  rintro e w' ⟨rfl, rfl⟩
  go_wp2_with fail
  have b5 : Blk ((w.alloc (.cells #[.int .i64 p, .int .i64 q] 33)).alloc (.cells #[.int .u8 0, .int .i64 0, .int .i64 0, .slice none 0 0, .int .i64 0] 36)) w.heap.size 33 #[.int .i64 p, .int .i64 q] := (Blk.new w _ _).alloc _
  have b8 : Blk ((w.alloc (.cells #[.int .i64 p, .int .i64 q] 33)).alloc (.cells #[.int .u8 0, .int .i64 0, .int .i64 0, .slice none 0 0, .int .i64 0] 36)) (w.heap.size + 1) 36 #[.int .u8 0, .int .i64 0, .int .i64 0, .slice none 0 0, .int .i64 0] := by
    have := Blk.new (w.alloc (.cells #[.int .i64 p, .int .i64 q] 33)) 36 #[.int .u8 0, .int .i64 0, .int .i64 0, .slice none 0 0, .int .i64 0]
    simpa using this
  have hB0 : Below w.heap.size w ((w.alloc (.cells #[.int .i64 p, .int .i64 q] 33)).alloc (.cells #[.int .u8 0, .int .i64 0, .int .i64 0, .slice none 0 0, .int .i64 0] 36)) := ((Below.refl _ _).alloc (Nat.le_refl _) _).alloc (by simp) _
  generalize (w.alloc (.cells _ 33)).alloc (.cells _ 36) = W0 at b5 b8 hB0 ⊢
  refine (HO.out W0 (hL.up hB0 hB0.size) hlen).mono ?_
  rintro e w1 ⟨m1, m2, rfl, hD, hb1⟩
  replace b5 := b5.below hb1 b5.lt
  replace b8 := b8.below hb1 b8.lt
  replace hB0 := hB0.trans (hb1.mono hB0.size)
  have p0 := b5.cell 0
  have p1 := b5.cell 1
  have z5 := b5.lt
  simp at p0 p1
  unfold dirVal
  clear hb1 hL HO I1 I2 I3 I4
  go_upto_region 6 with fail
  have hBn : Below w1.heap.size w1 (((w1.alloc (.cells #[.slice A l.length c, .int .i64 d, .map (some m1), .map (some m2)] 49)).alloc (.cells #[.int .u8 0, .int .i64 p, .int .i64 q, .slice none 0 0, .int .i64 0] 36)).alloc (.map #[] 0)) := (((Below.refl _ _).alloc (Nat.le_refl _) _).alloc (by simp) _).alloc (by simp; omega) _
  have bD : Blk (((w1.alloc (.cells #[.slice A l.length c, .int .i64 d, .map (some m1), .map (some m2)] 49)).alloc (.cells #[.int .u8 0, .int .i64 p, .int .i64 q, .slice none 0 0, .int .i64 0] 36)).alloc (.map #[] 0)) w1.heap.size 49 #[.slice A l.length c, .int .i64 d, .map (some m1), .map (some m2)] := ((Blk.new w1 _ _).alloc _).alloc _
  have bR : Blk (((w1.alloc (.cells #[.slice A l.length c, .int .i64 d, .map (some m1), .map (some m2)] 49)).alloc (.cells #[.int .u8 0, .int .i64 p, .int .i64 q, .slice none 0 0, .int .i64 0] 36)).alloc (.map #[] 0)) (w1.heap.size + 1) 36 #[.int .u8 0, .int .i64 p, .int .i64 q, .slice none 0 0, .int .i64 0] := at_al (at_new (by simp))
  have hM : MetIs (((w1.alloc (.cells #[.slice A l.length c, .int .i64 d, .map (some m1), .map (some m2)] 49)).alloc (.cells #[.int .u8 0, .int .i64 p, .int .i64 q, .slice none 0 0, .int .i64 0] 36)).alloc (.map #[] 0)) (w1.heap.size + 1 + 1) 0 (.map []) := MetIs.new_of (at_new (by simp))
  generalize ((w1.alloc (.cells _ 49)).alloc (.cells _ 36)).alloc (.map #[] 0) = W2 at hBn bD bR hM ⊢
  have hz : w.heap.size + 1 < w1.heap.size := b8.lt
  replace b8 := b8.below hBn b8.lt
  have hB1 := hB0
  clear b5 hB0 p0 p1 z5
  obtain ⟨w2, hrun, hM2, hk2⟩ := hM.store (by unfold maxLen; omega) hk 0 (by decide)
  have hb12 : Below w1.heap.size w1 w2 := hBn.trans (hk2.below (fun i hi e => by omega) hBn.size)
  have bD2 := bD.keep hk2 (by omega)
  have bR2 := bR.keep hk2 (by omega)
  have b82 := b8.keep hk2 (by omega)
  have r1 := bR.cell 1
  have r2 := bR.cell 2
  have r3 := bR.cell 3
  have zR := bR.lt
  have d20 := bD2.cell 0
  have d21 := bD2.cell 1
  have d22 := bD2.cell 2
  have d23 := bD2.cell 3
  have r21 := bR2.cell 1
  have r22 := bR2.cell 2
  have zD2 := bD2.lt
  have zR2 := bR2.lt
  simp at r1 r2 r3 d20 d21 d22 d23 r21 r22
  have HH := Lib.hid (hop_any A c l d (p, q) m1 m2 (deadOf l d) (cancOf l d) (by constructor <;> dsimp only <;> omega) w2 (hD.below hb12))
  have HR := Lib.hid (fun W hW => refusesP_any A c l d (p, q) s m1 m2 (deadOf l d) (cancOf l d) (by constructor <;> dsimp only <;> omega) W (hD.below hW))
  have HHp := Lib.hid hhop
  have HRf := Lib.hid href
  have HDd := Lib.hid hdead
  have hq : ∀ W, Below w1.heap.size w1 W → (Instr.lookup 47 (.map (some m1)) (.int .i64 p) false).run Tryz.prog W = .ok (.bool false) W := fun W hW => by
    have := (hD.below hW).dead.look lawInt mapIntRow (keyInt (n := p) (by omega))
    rw [onInt_at, hdead] at this
    exact this
  have HQ := Lib.hid hq
  clear hD hM hk2 hhop href hdead hBn bD bR b8 hq
  unfold dirVal candVal at HH HR
  dsimp only at HH HR
  go_step3
  go_wp2_with (at_mapUpdate; refine wpList_put _ rfl _ _ _ _ rfl hrun ?_)
  refine HH.out.mono ?_
  rintro e w3 ⟨rfl, hb3⟩
  rw [HHp.out]
  have hb13 := hb12.trans (hb3.mono hb12.size)
  have bD3 := bD2.below hb3 bD2.lt
  have bR3 := bR2.below hb3 bR2.lt
  have b83 := b82.below hb3 b82.lt
  clear hrun r1 r2 r3 zR d20 d21 d22 d23 r21 r22 zD2 zR2 HH bD2 bR2 b82 hb12 hb3 hM2
  have hb14 : Below w1.heap.size w1 (w3.alloc (.cells #[.int .u8 0, .int .i64 p, .int .i64 q, .int .i64 0, .int .i64 0, .int .i64 0] 45)) := hb13.alloc hb13.size _
  have bD4 := bD3.alloc (.cells #[.int .u8 0, .int .i64 p, .int .i64 q, .int .i64 0, .int .i64 0, .int .i64 0] 45)
  have bR4 := bR3.alloc (.cells #[.int .u8 0, .int .i64 p, .int .i64 q, .int .i64 0, .int .i64 0, .int .i64 0] 45)
  have b84 := b83.alloc (.cells #[.int .u8 0, .int .i64 p, .int .i64 q, .int .i64 0, .int .i64 0, .int .i64 0] 45)
  have bH4 := Blk.new w3 45 #[.int .u8 0, .int .i64 p, .int .i64 q, .int .i64 0, .int .i64 0, .int .i64 0]
  unfold hopVal
  dsimp only
  go_upto_region 9 with fail
  generalize w3.alloc (.cells _ 45) = w4 at hb14 bD4 bR4 b84 bH4 ⊢
  clear bD3 bR3 b83 hb13
  have d40 := bD4.cell 0
  have d41 := bD4.cell 1
  have d42 := bD4.cell 2
  have d43 := bD4.cell 3
  have r41 := bR4.cell 1
  have r42 := bR4.cell 2
  have zD4 := bD4.lt
  have zR4 := bR4.lt
  have h40 := bH4.cell 0
  have zH4 := bH4.lt
  simp at d40 d41 d42 d43 r41 r42 h40
  have hq4 := HQ.out w4 hb14
  have HR4 := Lib.hid (HR.out w4 hb14)
  go_wp2_with (at_lookup; refine wpList_look _ rfl _ _ _ _ rfl hq4 ?_)
  refine HR4.out.mono ?_
  rintro e w5 ⟨rfl, hb5⟩
  rw [HRf.out]
  have hzz := hb14.size
  have hB5 : Below w.heap.size w w5 := (hB1.trans (hb14.mono hB1.size)).trans (hb5.mono (Nat.le_trans hB1.size hzz))
  have bR5 := bR4.below hb5 bR4.lt
  have b85 := b84.below hb5 b84.lt
  clear hb5 hb14 bD4 bR4 b84 bH4 d40 d41 d42 d43 r41 r42 zD4 zR4 h40 zH4 hq4
  have r0 := bR5.cell 0
  have r1 := bR5.cell 1
  have r2 := bR5.cell 2
  have r3 := bR5.cell 3
  have r4 := bR5.cell 4
  have g0 := bR5.frozen 0
  have s0 := b85.cell 0
  have s1 := b85.cell 1
  have s2 := b85.cell 2
  have s3 := b85.cell 3
  have s4 := b85.cell 4
  have f0 := b85.frozen 0
  have f1 := b85.frozen 1
  have f2 := b85.frozen 2
  have f3 := b85.frozen 3
  have f4 := b85.frozen 4
  have zR := bR5.lt
  have z8 := b85.lt
  simp at r0 r1 r2 r3 r4 s0 s1 s2 s3 s4
  go_wp2
  simp only [Exit.jump]
  refine bodyPost_ret (v := .tuple #[routeVal 2 p q none 0 0, .int .i64 0]) ?_ rfl ⟨rfl, ?_⟩
  · simp [results, Tryz.results10, go_sem, routeVal, *]
  · repeat (refine Below.setCell ?_ (by simp; try omega) _)
    exact hB5
end Go.Proofs.YtlbehpbhmmppiaaGreatDoor
namespace Go.Proofs.YtlbehpbhmmppiaaGreatDoor
open Go.RowKit Go.Shelf

set_option maxRecDepth 100000 in
set_option maxHeartbeats 4000000 in
theorem follow_gone (A : Option Addr) (c : Nat) (l : List OEnt) (d s : Int) (p q : Int) (hp : 1 ≤ p ∧ p ≤ 1000000) (hq : 1 ≤ q ∧ q ≤ 1000000) (hs : 0 ≤ s ∧ s ≤ 1000000) (hd : 0 ≤ d ∧ d ≤ 100000) (w : World) (hL : EntsLie w w.heap.size A (l.map (·.1))) (hlen : l.length ≤ maxLen)
    (kl : Lit) (hk : keyOf Tryz.prog 33 (candVal (p, q)) = some kl)
    (hdead : deadOf l d p = false) (hhop : hopOf (deadOf l d) (cancOf l d) l d (p, q) = ((0, (0, 0), 0), false)) (href : refusesOf (deadOf l d) l d (p, q) s = false) (hlive : livesOf (deadOf l d) l d (p, q) = false) :
    Calls Tryz.prog 10 #[.slice A l.length c, candVal (p, q), .int .i64 s, .int .i64 d] w fun e w' =>
      e = .returned (.tuple #[routeVal 4 p q none 0 0, .int .i64 0]) ∧ Below w.heap.size w w' := by
  have i1 := fun W => isId_any p W
  have i2 := fun W => isId_any q W
  have i3 := fun W => isIdOrZero_any s W
  have i4 := fun W => isDay_any d W
  have e1 : isIdB p = true := by simp [isIdB]; omega
  have e2 : isIdB q = true := by simp [isIdB]; omega
  have e3 : isIdZB s = true := by simp [isIdZB, isIdB]; omega
  have e4 : isDayB d = true := by simp [isDayB]; omega
  rw [e1] at i1
  rw [e2] at i2
  rw [e3] at i3
  rw [e4] at i4
  clear e1 e2 e3 e4
  have hmm := @run_makeMap Tryz.prog
  have I1 := Lib.hid i1
  have I2 := Lib.hid i2
  have I3 := Lib.hid i3
  have I4 := Lib.hid i4
  have HO := Lib.hid (on_any A c l d)
  clear i1 i2 i3 i4
  have hk' := hk
  unfold candVal at hk ⊢
  go_enter Tryz.func10, Tryz.ntmps10
  go_wp2_with fail
  refine wp_scope_once 0 rfl ?_
  go_wp2_with fail
  refine (I1.out _).mono ?_
  rintro e w' ⟨rfl, rfl⟩
  go_wp2_with fail
  refine (I2.out _).mono ?_
  rintro e w' ⟨rfl, rfl⟩
  go_wp2_with fail
  refine (I3.out _).mono ?_
  rintro e w' ⟨rfl, rfl⟩
  go_wp2_with fail
  refine (I4.out _).mono ?_
  rintro e w' ⟨rfl, rfl⟩
  go_wp2_with fail
  have b5 : Blk ((w.alloc (.cells #[.int .i64 p, .int .i64 q] 33)).alloc (.cells #[.int .u8 0, .int .i64 0, .int .i64 0, .slice none 0 0, .int .i64 0] 36)) w.heap.size 33 #[.int .i64 p, .int .i64 q] := (Blk.new w _ _).alloc _
  have b8 : Blk ((w.alloc (.cells #[.int .i64 p, .int .i64 q] 33)).alloc (.cells #[.int .u8 0, .int .i64 0, .int .i64 0, .slice none 0 0, .int .i64 0] 36)) (w.heap.size + 1) 36 #[.int .u8 0, .int .i64 0, .int .i64 0, .slice none 0 0, .int .i64 0] := by
    have := Blk.new (w.alloc (.cells #[.int .i64 p, .int .i64 q] 33)) 36 #[.int .u8 0, .int .i64 0, .int .i64 0, .slice none 0 0, .int .i64 0]
    simpa using this
  have hB0 : Below w.heap.size w ((w.alloc (.cells #[.int .i64 p, .int .i64 q] 33)).alloc (.cells #[.int .u8 0, .int .i64 0, .int .i64 0, .slice none 0 0, .int .i64 0] 36)) := ((Below.refl _ _).alloc (Nat.le_refl _) _).alloc (by simp) _
  generalize (w.alloc (.cells _ 33)).alloc (.cells _ 36) = W0 at b5 b8 hB0 ⊢
  refine (HO.out W0 (hL.up hB0 hB0.size) hlen).mono ?_
  rintro e w1 ⟨m1, m2, rfl, hD, hb1⟩
  replace b5 := b5.below hb1 b5.lt
  replace b8 := b8.below hb1 b8.lt
  replace hB0 := hB0.trans (hb1.mono hB0.size)
  have p0 := b5.cell 0
  have p1 := b5.cell 1
  have z5 := b5.lt
  simp at p0 p1
  unfold dirVal
  clear hb1 hL HO I1 I2 I3 I4
  go_upto_region 6 with fail
  have hBn : Below w1.heap.size w1 (((w1.alloc (.cells #[.slice A l.length c, .int .i64 d, .map (some m1), .map (some m2)] 49)).alloc (.cells #[.int .u8 0, .int .i64 p, .int .i64 q, .slice none 0 0, .int .i64 0] 36)).alloc (.map #[] 0)) := (((Below.refl _ _).alloc (Nat.le_refl _) _).alloc (by simp) _).alloc (by simp; omega) _
  have bD : Blk (((w1.alloc (.cells #[.slice A l.length c, .int .i64 d, .map (some m1), .map (some m2)] 49)).alloc (.cells #[.int .u8 0, .int .i64 p, .int .i64 q, .slice none 0 0, .int .i64 0] 36)).alloc (.map #[] 0)) w1.heap.size 49 #[.slice A l.length c, .int .i64 d, .map (some m1), .map (some m2)] := ((Blk.new w1 _ _).alloc _).alloc _
  have bR : Blk (((w1.alloc (.cells #[.slice A l.length c, .int .i64 d, .map (some m1), .map (some m2)] 49)).alloc (.cells #[.int .u8 0, .int .i64 p, .int .i64 q, .slice none 0 0, .int .i64 0] 36)).alloc (.map #[] 0)) (w1.heap.size + 1) 36 #[.int .u8 0, .int .i64 p, .int .i64 q, .slice none 0 0, .int .i64 0] := at_al (at_new (by simp))
  have hM : MetIs (((w1.alloc (.cells #[.slice A l.length c, .int .i64 d, .map (some m1), .map (some m2)] 49)).alloc (.cells #[.int .u8 0, .int .i64 p, .int .i64 q, .slice none 0 0, .int .i64 0] 36)).alloc (.map #[] 0)) (w1.heap.size + 1 + 1) 0 (.map []) := MetIs.new_of (at_new (by simp))
  generalize ((w1.alloc (.cells _ 49)).alloc (.cells _ 36)).alloc (.map #[] 0) = W2 at hBn bD bR hM ⊢
  have hz : w.heap.size + 1 < w1.heap.size := b8.lt
  replace b8 := b8.below hBn b8.lt
  have hB1 := hB0
  clear b5 hB0 p0 p1 z5
  obtain ⟨w2, hrun, hM2, hk2⟩ := hM.store (by unfold maxLen; omega) hk 0 (by decide)
  have hb12 : Below w1.heap.size w1 w2 := hBn.trans (hk2.below (fun i hi e => by omega) hBn.size)
  have bD2 := bD.keep hk2 (by omega)
  have bR2 := bR.keep hk2 (by omega)
  have b82 := b8.keep hk2 (by omega)
  have r1 := bR.cell 1
  have r2 := bR.cell 2
  have r3 := bR.cell 3
  have zR := bR.lt
  have d20 := bD2.cell 0
  have d21 := bD2.cell 1
  have d22 := bD2.cell 2
  have d23 := bD2.cell 3
  have r21 := bR2.cell 1
  have r22 := bR2.cell 2
  have zD2 := bD2.lt
  have zR2 := bR2.lt
  simp at r1 r2 r3 d20 d21 d22 d23 r21 r22
  have HH := Lib.hid (hop_any A c l d (p, q) m1 m2 (deadOf l d) (cancOf l d) (by constructor <;> dsimp only <;> omega) w2 (hD.below hb12))
  have HR := Lib.hid (fun W hW => refusesP_any A c l d (p, q) s m1 m2 (deadOf l d) (cancOf l d) (by constructor <;> dsimp only <;> omega) W (hD.below hW))
  have HHp := Lib.hid hhop
  have HRf := Lib.hid href
  have HLf := Lib.hid hlive
  have HLv := Lib.hid (fun W hW => livesA A c l d (p, q) kl hk' m1 m2 (deadOf l d) (cancOf l d) W (hD.below hW))
  have HDd := Lib.hid hdead
  have hq : ∀ W, Below w1.heap.size w1 W → (Instr.lookup 47 (.map (some m1)) (.int .i64 p) false).run Tryz.prog W = .ok (.bool false) W := fun W hW => by
    have := (hD.below hW).dead.look lawInt mapIntRow (keyInt (n := p) (by omega))
    rw [onInt_at, hdead] at this
    exact this
  have HQ := Lib.hid hq
  clear hlive hk' hD hM hk2 hhop href hdead hBn bD bR b8 hq
  unfold dirVal candVal at HH HR HLv
  dsimp only at HH HR HLv
  go_step3
  go_wp2_with (at_mapUpdate; refine wpList_put _ rfl _ _ _ _ rfl hrun ?_)
  refine HH.out.mono ?_
  rintro e w3 ⟨rfl, hb3⟩
  rw [HHp.out]
  have hb13 := hb12.trans (hb3.mono hb12.size)
  have bD3 := bD2.below hb3 bD2.lt
  have bR3 := bR2.below hb3 bR2.lt
  have b83 := b82.below hb3 b82.lt
  clear hrun r1 r2 r3 zR d20 d21 d22 d23 r21 r22 zD2 zR2 HH bD2 bR2 b82 hb12 hb3 hM2
  have hb14 : Below w1.heap.size w1 (w3.alloc (.cells #[.int .u8 0, .int .i64 p, .int .i64 q, .int .i64 0, .int .i64 0, .int .i64 0] 45)) := hb13.alloc hb13.size _
  have bD4 := bD3.alloc (.cells #[.int .u8 0, .int .i64 p, .int .i64 q, .int .i64 0, .int .i64 0, .int .i64 0] 45)
  have bR4 := bR3.alloc (.cells #[.int .u8 0, .int .i64 p, .int .i64 q, .int .i64 0, .int .i64 0, .int .i64 0] 45)
  have b84 := b83.alloc (.cells #[.int .u8 0, .int .i64 p, .int .i64 q, .int .i64 0, .int .i64 0, .int .i64 0] 45)
  have bH4 := Blk.new w3 45 #[.int .u8 0, .int .i64 p, .int .i64 q, .int .i64 0, .int .i64 0, .int .i64 0]
  unfold hopVal
  dsimp only
  go_upto_region 9 with fail
  generalize w3.alloc (.cells _ 45) = w4 at hb14 bD4 bR4 b84 bH4 ⊢
  clear bD3 bR3 b83 hb13
  have d40 := bD4.cell 0
  have d41 := bD4.cell 1
  have d42 := bD4.cell 2
  have d43 := bD4.cell 3
  have r41 := bR4.cell 1
  have r42 := bR4.cell 2
  have zD4 := bD4.lt
  have zR4 := bR4.lt
  have h40 := bH4.cell 0
  have zH4 := bH4.lt
  simp at d40 d41 d42 d43 r41 r42 h40
  have hq4 := HQ.out w4 hb14
  have HR4 := Lib.hid (HR.out w4 hb14)
  go_wp2_with (at_lookup; refine wpList_look _ rfl _ _ _ _ rfl hq4 ?_)
  refine HR4.out.mono ?_
  rintro e w5 ⟨rfl, hb5⟩
  rw [HRf.out]
  have hzz := hb14.size
  have hB5 : Below w.heap.size w w5 := (hB1.trans (hb14.mono hB1.size)).trans (hb5.mono (Nat.le_trans hB1.size hzz))
  have bD5 := bD4.below hb5 bD4.lt
  have bR5 := bR4.below hb5 bR4.lt
  have b85 := b84.below hb5 b84.lt
  have bH5 := bH4.below hb5 bH4.lt
  have hb15 := hb14.trans (hb5.mono hb14.size)
  have HL5 := Lib.hid (HLv.out w5 hb15)
  clear hb5 hb14 bD4 bR4 b84 bH4 d40 d41 d42 d43 r41 r42 zD4 zR4 h40 zH4 hq4
  have d40 := bD5.cell 0
  have d41 := bD5.cell 1
  have d42 := bD5.cell 2
  have d43 := bD5.cell 3
  have r41 := bR5.cell 1
  have r42 := bR5.cell 2
  have zD4 := bD5.lt
  have zR4 := bR5.lt
  have h40 := bH5.cell 0
  have zH4 := bH5.lt
  simp at d40 d41 d42 d43 r41 r42 h40
  go_wp2_with fail
  refine HL5.out.mono ?_
  rintro e w6 ⟨rfl, hb6⟩
  rw [HLf.out]
  replace hB5 := hB5.trans (hb6.mono hB5.size)
  replace bR5 := bR5.below hb6 bR5.lt
  replace b85 := b85.below hb6 b85.lt
  clear hb6 hb15 bD5 bH5 d40 d41 d42 d43 r41 r42 zD4 zR4 h40 zH4
  have r0 := bR5.cell 0
  have r1 := bR5.cell 1
  have r2 := bR5.cell 2
  have r3 := bR5.cell 3
  have r4 := bR5.cell 4
  have g0 := bR5.frozen 0
  have s0 := b85.cell 0
  have s1 := b85.cell 1
  have s2 := b85.cell 2
  have s3 := b85.cell 3
  have s4 := b85.cell 4
  have f0 := b85.frozen 0
  have f1 := b85.frozen 1
  have f2 := b85.frozen 2
  have f3 := b85.frozen 3
  have f4 := b85.frozen 4
  have zR := bR5.lt
  have z8 := b85.lt
  simp at r0 r1 r2 r3 r4 s0 s1 s2 s3 s4
  go_wp2
  simp only [Exit.jump]
  refine bodyPost_ret (v := .tuple #[routeVal 4 p q none 0 0, .int .i64 0]) ?_ rfl ⟨rfl, ?_⟩
  · simp [results, Tryz.results10, go_sem, routeVal, *]
  · repeat (refine Below.setCell ?_ (by simp; try omega) _)
    exact hB5
end Go.Proofs.YtlbehpbhmmppiaaGreatDoor
