/- The contract of each as a sequence: what a range over it may use; and a directory in memory. Conditions: the list lies in memory. The comparison of two pairs, and the contract of the closure that lives hands to pairs. No conditions. The law of a loop 'for x := range d.each(kind)'; lookups and stores of sets in a fenced walk. Conditions: as in EachOf. -/
import Derived.Test.YtlbehpbhmmppiaaGreatDoorEachA
import Derived.Test.YtlbehpbhmmppiaaGreatDoorCheckA
import Derived.Test.YtlbehpbhmmppiaaGreatDoorFieldsA
import Derived.Laws.ResultCell
namespace Go.Proofs.YtlbehpbhmmppiaaGreatDoor
open Go.RowKit Go.Shelf

/-- A directory that lies in memory: its list, and its two sets. -/
structure DirIn (w : World) (A : Option Addr) (l : List OEnt) (b1 b2 : Nat) (dead canc : Int → Bool) : Prop where
  list : EntsLie w w.heap.size A (l.map (·.1))
  len : l.length ≤ maxLen
  dead : SetAt 3 w b1 l.length (onInt dead)
  canc : SetAt 3 w b2 l.length (onInt canc)
theorem DirIn.below {w w' : World} {A : Option Addr} {l : List OEnt} {b1 b2 : Nat} {dead canc : Int → Bool} (h : DirIn w A l b1 b2 dead canc) (hb : Below w.heap.size w w') : DirIn w' A l b1 b2 dead canc :=
  ⟨h.list.up hb hb.size, h.len, h.dead.below hb h.dead.lt, h.canc.below hb h.canc.lt⟩

/-- The blocks that a loop over each leaves alone: the two boxes and what is older than n₀. -/
def mineS (n₀ Bd Bk : Nat) (i : Nat) : Prop := n₀ ≤ i ∧ i ≠ Bd ∧ i ≠ Bk
theorem mineS_t {n₀ Bd Bk : Nat} {A B C : World} (h : Keeps (mineS n₀ Bd Bk) A B) (k : Keeps (mineS n₀ Bd Bk) B C) : Keeps (mineS n₀ Bd Bk) A C := h.trans k (fun _ _ h => h)
theorem mineS_b {n₀ Bd Bk : Nat} {w : World} (h1 : n₀ ≤ w.heap.size) (h2 : Bd < w.heap.size) (h3 : Bk < w.heap.size) (W : World) (l : Nat) (o o' : Obj) (hl : w.heap.size ≤ l) (_ : W.heap[l]? = some o) (_ : o.isCells = false) (_ : o.isWalk = false) : Keeps (mineS n₀ Bd Bk) W (W.putObj l o') :=
  Keeps.of_grown (grownBy_putObj' W l o') (fun k e _ => by cases e; exact ⟨by omega, by omega, by omega⟩)

theorem blk_own {β : Type} (b : Nat) (t : TypeId) (f : β → Array Value) : Own (fun s W => Blk W b t (f s)) := fun s X Y row hs hg hrow =>
  (hg.block b (Blk.lt hs) (fun e' => by obtain ⟨o, ho, hc⟩ := hrow b e'.symm; rw [show X.heap[b]? = _ from hs] at ho; cases ho; cases hc)).trans hs
theorem set_own {β : Type} {B b : Nat} (hb : b < B) (K : TypeId) (n : β → Nat) (p : β → Lit → Bool) : OwnFrom B (fun s W => SetAt K W b (n s) (p s)) := fun s X Y row hs hg hrow =>
  hs.of_block (hg.block b hs.lt (fun e' => by have := (hrow b e'.symm).1; omega))

set_option maxHeartbeats 1000000 in
theorem each_any (n : Nat) (A : Option Addr) (k c : Nat) (d kd : Int) (m1 m2 : Option Nat) (w : World) :
    CallsIn Fence.wide n Tryz.prog 32 #[dirVal A k c d m1 m2, .int .u8 kd] w fun e w' =>
      e = .returned (.func (.func 56) #[] #[.pointer (some ⟨w.heap.size, 0, none⟩), .pointer (some ⟨w.heap.size + 1, 0, none⟩)]) ∧
        w' = (w.alloc (.cells (dirCells A k c d m1 m2) 49)).alloc (.cells #[.int .u8 kd] 5) := by
  unfold dirVal dirCells
  refine callsIn_of_wp Tryz.func32 rfl trivial ?_ rfl
  simp only [Tryz.ntmps32, List.size_toArray, List.length_cons, List.length_nil, Nat.reduceAdd, Nat.reduceSub, Array.replicate_succ, Array.replicate_zero, List.push_toArray, List.append_toArray, List.nil_append, List.cons_append]
  gi_wp2
  go_ret
  exact ⟨rfl, rfl⟩

theorem each_stops (n : Nat) (n₀ Bd Bk : Nat) (A : Option Addr) (c : Nat) (l : List OEnt) (kd d : Int) (m1 m2 : Option Nat) (w : World) (hn₀ : n₀ ≤ w.heap.size) (hl : l.length ≤ maxLen)
    (hBd : Blk w Bd 49 (dirCells A l.length c d m1 m2)) (hBk : Blk w Bk 5 #[.int .u8 kd]) (hL : EntsLie w n₀ A (l.map (·.1))) :
    SeqStopsK Fence.wide n Tryz.prog 56 #[.pointer (some ⟨Bd, 0, none⟩), .pointer (some ⟨Bk, 0, none⟩)] (fun x : OEnt => #[entVal x.1]) (Keeps (mineS n₀ Bd Bk))
      (fun ys => ys = flt l kd d) (fun pre => pre <+: flt l kd d) (flt l kd d).length w := fun lp J Jx W hW hJ _ hY h0 =>
  each1_in (mineS n₀ Bd Bk) n lp Bd Bk n₀ A c l kd d m1 m2 J Jx hY W hJ (fun i hi h => by have := h.1; omega) (fun h => h.2.1 rfl) (fun h => h.2.2 rfl) (by have := hW.size; omega) hl
    (hBd.below hW hBd.lt) (hBk.below hW hBk.lt) (hL.below (hW.mono hn₀)) h0
end Go.Proofs.YtlbehpbhmmppiaaGreatDoor
namespace Go.Proofs.YtlbehpbhmmppiaaGreatDoor
open Go.RowKit

/-- A pair as a value. -/
def candVal (c : Int × Int) : Value := .agg #[.int .i64 c.1, .int .i64 c.2]
theorem fieldsCand : (Tryz.prog.fieldsOf 33).toList.map (fun f => (f.name, f.type, f.offset)) = [("Person", 3, 0), ("Place", 3, 1)] := by kernel_rfl
theorem candEq_run (x y : Int × Int) (w : World) : (Op.equalIn 10000 33 (candVal x) (candVal y)).run Tryz.prog w = .ok (decide (x = y)) w := by
  unfold candVal
  rw [run_equalIn_agg (P := Tryz.prog) w 9999 33 _ _ (by kernel_rfl) (by kernel_rfl), eqFields_trip, fieldsCand]
  simp only [eqTrip]
  simp [go_sem, run_equalIn_int (P := Tryz.prog) _ _ _ _ _ _ _ intRow]
  by_cases h : x = y
  · subst h; simp
  · rw [decide_eq_false h]
    repeat' split
    all_goals first
      | rfl
      | (exfalso; apply h; exact Prod.ext (by assumption) (by assumption))
theorem neCand (x y : Int × Int) (w : World) : (binOp .neq 33 (candVal x) (candVal y)).run Tryz.prog w = .ok (.bool (!decide (x = y))) w := by
  have h := candEq_run x y w
  unfold candVal at h ⊢
  rw [run_neq_struct, h]; rfl
theorem eqCand (x y : Int × Int) (w : World) : (binOp .eql 33 (candVal x) (candVal y)).run Tryz.prog w = .ok (.bool (decide (x = y))) w := by
  have h := candEq_run x y w
  unfold candVal at h ⊢
  rw [run_eql_struct, h]; rfl
theorem noGuardCand (op : BinOp) (a b : Operand) (x y : Int × Int) (w : World) : (eqGuard op 33 a b (candVal x) (candVal y)).run Tryz.prog w = .ok () w :=
  run_eqGuard_agg w op _ a b _ _ (by kernel_rfl)

set_option maxRecDepth 100000 in
set_option maxHeartbeats 1000000 in
theorem lives1_any (c at' : Int × Int) (g : Nat) (w : World) (hg : Blk w g 33 #[.int .i64 at'.1, .int .i64 at'.2]) :
    Calls Tryz.prog 49 #[candVal c, .pointer (some ⟨g, 0, none⟩)] w fun e w' => e = .returned (.bool (decide (c = at'))) ∧ Below w.heap.size w w' := by
  have hne := eqCand c at'
  have hng := fun a b => noGuardCand .eql a b c at'
  unfold candVal at hne hng ⊢
  have c0 := hg.cell 0
  have c1 := hg.cell 1
  simp at c0 c1
  have hz := hg.lt
  generalize decide (c = at') = bb at hne ⊢
  go_enter Tryz.func49, Tryz.ntmps49
  go_wp2
  go_ret
  exact ⟨rfl, (Below.refl _ _).alloc (Nat.le_refl _) _⟩
end Go.Proofs.YtlbehpbhmmppiaaGreatDoor
namespace Go.Proofs.YtlbehpbhmmppiaaGreatDoor
open Go.RowKit Go.Shelf

section
variable {F : Fence} {nF : Nat} {P : Program} (w : World) {ops : Array Oper} {rest : List Oper} {o : Oper} {a : Act} {Q : Exit → Act → World → Prop}
theorem wpListIn_look (hg : o.guard = none) (m x : Operand) (t : TypeId) (ok : Bool) (hop : o.op = Op.lookup t m x ok) {v : Value} (hrun : (Instr.lookup t (a.eval m) (a.eval x) ok).run P w = .ok v w)
    (hK : wpListIn F nF P ops Q rest (a.put o.dst v) w) : wpListIn F nF P ops Q (o :: rest) a w := by
  refine wpListIn_plain hg fun K' hK' => ?_
  unfold Oper.wpIn
  refine ⟨by simp [Oper.about, hop], ?_⟩
  rw [Oper.semAt_plain F _ _ (by rw [hop]; intro c hc'; cases hc')]
  simp [execOp, hop, hrun, Result.andThen]
  exact hK' _ _ hK
theorem wpListIn_put (hg : o.guard = none) (m x v : Operand) (t : TypeId) (hop : o.op = Op.mapUpdate t m x v) {w' : World} (hrun : (Instr.mapUpdate t (a.eval m) (a.eval x) (a.eval v)).run P w = .ok () w')
    (hK : wpListIn F nF P ops Q rest (a.put o.dst undef) w') : wpListIn F nF P ops Q (o :: rest) a w := by
  refine wpListIn_plain hg fun K' hK' => ?_
  unfold Oper.wpIn
  refine ⟨by simp [Oper.about, hop], ?_⟩
  rw [Oper.semAt_plain F _ _ (by rw [hop]; intro c hc'; cases hc')]
  simp [execOp, hop, hrun, Result.andThen]
  exact hK' _ _ hK
end

theorem below_al {w W : World} (h : Below w.heap.size w W) (o : Obj) : Below w.heap.size w (W.alloc o) := h.alloc h.size o
theorem below_se {w W : World} (h : Below w.heap.size w W) {p : Addr} (hp : w.heap.size ≤ p.block) (v : Value) : Below w.heap.size w (W.setCell p v) := h.setCell hp v
theorem below_dr {n : Nat} {A B : World} (h : Below n A B) (k : Nat) : Below n A (B.drewN k) := ⟨h.os, h.tape, h.output, h.size, h.block⟩
theorem below_d1 {n : Nat} {A B : World} (h : Below n A B) : Below n A B.drew := ⟨h.os, h.tape, h.output, h.size, h.block⟩
theorem below_se' {w W : World} {p : Addr} (hp : w.heap.size ≤ p.block) (h : Below w.heap.size w W) (v : Value) : Below w.heap.size w (W.setCell p v) := h.setCell hp v

theorem at_al {W : World} {o o' : Obj} {k : Nat} (h : W.heap[k]? = some o) : (W.alloc o').heap[k]? = some o := (Below.heap_alloc W o' k (Array.getElem?_eq_some_iff.1 h).1).trans h
theorem at_new {W : World} {o : Obj} {k : Nat} (hk : k = W.heap.size) : (W.alloc o).heap[k]? = some o := by subst hk; exact World.alloc_heap_new W o

/-- A walk that goes on in a world of so many new blocks. -/
theorem wpIn_gen4 {F : Fence} {n : Nat} {P : Program} {C : Code} {Q : Exit → Act → World → Prop} {a : Act} {w : World} {o0 o1 o2 o3 : Obj}
    (h : ∀ W, Below w.heap.size w W → W.heap.size = w.heap.size + 4 → W.heap[w.heap.size]? = some o0 → W.heap[w.heap.size + 1]? = some o1 → W.heap[w.heap.size + 2]? = some o2 → W.heap[w.heap.size + 3]? = some o3 → C.wpIn F n P Q a W) :
    C.wpIn F n P Q a ((((w.alloc o0).alloc o1).alloc o2).alloc o3) := by
  refine h _ (by (repeat (first | (with_reducible exact Below.refl _ _) | (with_reducible assumption) | (with_reducible refine below_al ?_ _) | (with_reducible refine below_se' ?_ ?_ _; · (first | omega | (simp <;> omega))) | (with_reducible refine below_dr ?_ _) | (with_reducible refine below_d1 ?_) | (exact Below.refl _ _) | assumption))) (by simp) ?_ ?_ ?_ ?_ <;> (repeat (first | exact at_new (by simp) | refine at_al ?_))
theorem wpIn_gen5 {F : Fence} {n : Nat} {P : Program} {C : Code} {Q : Exit → Act → World → Prop} {a : Act} {w : World} {o0 o1 o2 o3 o4 : Obj}
    (h : ∀ W, Below w.heap.size w W → W.heap.size = w.heap.size + 5 → W.heap[w.heap.size]? = some o0 → W.heap[w.heap.size + 1]? = some o1 → W.heap[w.heap.size + 2]? = some o2 → W.heap[w.heap.size + 3]? = some o3 → W.heap[w.heap.size + 4]? = some o4 → C.wpIn F n P Q a W) :
    C.wpIn F n P Q a (((((w.alloc o0).alloc o1).alloc o2).alloc o3).alloc o4) := by
  refine h _ (by (repeat (first | (with_reducible exact Below.refl _ _) | (with_reducible assumption) | (with_reducible refine below_al ?_ _) | (with_reducible refine below_se' ?_ ?_ _; · (first | omega | (simp <;> omega))) | (with_reducible refine below_dr ?_ _) | (with_reducible refine below_d1 ?_) | (exact Below.refl _ _) | assumption))) (by simp) ?_ ?_ ?_ ?_ ?_ <;> (repeat (first | exact at_new (by simp) | refine at_al ?_))
theorem wpIn_gen6 {F : Fence} {n : Nat} {P : Program} {C : Code} {Q : Exit → Act → World → Prop} {a : Act} {w : World} {o0 o1 o2 o3 o4 o5 : Obj}
    (h : ∀ W, Below w.heap.size w W → W.heap.size = w.heap.size + 6 → W.heap[w.heap.size]? = some o0 → W.heap[w.heap.size + 1]? = some o1 → W.heap[w.heap.size + 2]? = some o2 → W.heap[w.heap.size + 3]? = some o3 → W.heap[w.heap.size + 4]? = some o4 → W.heap[w.heap.size + 5]? = some o5 → C.wpIn F n P Q a W) :
    C.wpIn F n P Q a ((((((w.alloc o0).alloc o1).alloc o2).alloc o3).alloc o4).alloc o5) := by
  refine h _ (by (repeat (first | (with_reducible exact Below.refl _ _) | (with_reducible assumption) | (with_reducible refine below_al ?_ _) | (with_reducible refine below_se' ?_ ?_ _; · (first | omega | (simp <;> omega))) | (with_reducible refine below_dr ?_ _) | (with_reducible refine below_d1 ?_) | (exact Below.refl _ _) | assumption))) (by simp) ?_ ?_ ?_ ?_ ?_ ?_ <;> (repeat (first | exact at_new (by simp) | refine at_al ?_))

theorem wpIn_gen7 {F : Fence} {n : Nat} {P : Program} {C : Code} {Q : Exit → Act → World → Prop} {a : Act} {w : World} {o0 o1 o2 o3 o4 o5 o6 : Obj}
    (h : ∀ W, Below w.heap.size w W → W.heap.size = w.heap.size + 7 → W.heap[w.heap.size]? = some o0 → W.heap[w.heap.size + 1]? = some o1 → W.heap[w.heap.size + 2]? = some o2 → W.heap[w.heap.size + 3]? = some o3 → W.heap[w.heap.size + 4]? = some o4 → W.heap[w.heap.size + 5]? = some o5 → W.heap[w.heap.size + 6]? = some o6 → C.wpIn F n P Q a W) :
    C.wpIn F n P Q a (((((((w.alloc o0).alloc o1).alloc o2).alloc o3).alloc o4).alloc o5).alloc o6) := by
  refine h _ (by (repeat (first | (with_reducible exact Below.refl _ _) | (with_reducible assumption) | (with_reducible refine below_al ?_ _) | (with_reducible refine below_se' ?_ ?_ _; · (first | omega | (simp <;> omega))) | (with_reducible refine below_dr ?_ _) | (with_reducible refine below_d1 ?_) | (exact Below.refl _ _) | assumption))) (by simp) ?_ ?_ ?_ ?_ ?_ ?_ ?_ <;> (repeat (first | exact at_new (by simp) | refine at_al ?_))
theorem keepsO_new {W w1 : World} (hb : Below W.heap.size W w1) : KeepsOthers W w1 := ⟨hb.size, fun k _ hk _ => (hb.block k (Array.getElem?_eq_some_iff.1 hk).1).trans hk⟩
/-- A store of a whole entry. -/
def putEnt (W : World) (g : Nat) (x : Ent) : World :=
  (((((((((W.setCell ⟨g, 0, none⟩ (.int .i64 x.day)).setCell ⟨g, 1, none⟩ (.int .u8 x.kind)).setCell ⟨g, 2, none⟩ (.int .i64 x.since)).setCell ⟨g, 3, none⟩ (.int .i64 x.untl)).setCell ⟨g, 4, none⟩ (.int .i64 x.person)).setCell ⟨g, 5, none⟩ (.int .i64 x.place)).setCell ⟨g, 6, none⟩ (.int .i64 x.other)).setCell ⟨g, 7, none⟩ (.int .i64 x.at')).setCell ⟨g, 8, none⟩ (.int .i64 x.order)).setCell ⟨g, 9, none⟩ (.string x.name)
theorem EntAt.put {W : World} {g : Nat} {y : Ent} (h : EntAt W g y) (x : Ent) : EntAt (putEnt W g x) g x := by
  have h1 := (((((((((Blk.set h 0 (.int .i64 x.day)).set 1 (.int .u8 x.kind)).set 2 (.int .i64 x.since)).set 3 (.int .i64 x.untl)).set 4 (.int .i64 x.person)).set 5 (.int .i64 x.place)).set 6 (.int .i64 x.other)).set 7 (.int .i64 x.at')).set 8 (.int .i64 x.order)).set 9 (.string x.name)
  simp only [entCells, List.setIfInBounds_toArray, List.set_cons_zero, List.set_cons_succ] at h1
  unfold EntAt putEnt entCells
  exact h1
theorem Blk.putFar {W : World} {g g' : Nat} {t : TypeId} {cs : Array Value} (h : Blk W g t cs) (hne : g ≠ g') (x : Ent) : Blk (putEnt W g' x) g t cs :=
  ((((((((((h.far (p := ⟨g', _, none⟩) hne _).far (p := ⟨g', _, none⟩) hne _).far (p := ⟨g', _, none⟩) hne _).far (p := ⟨g', _, none⟩) hne _).far (p := ⟨g', _, none⟩) hne _).far (p := ⟨g', _, none⟩) hne _).far (p := ⟨g', _, none⟩) hne _).far (p := ⟨g', _, none⟩) hne _).far (p := ⟨g', _, none⟩) hne _).far (p := ⟨g', _, none⟩) hne _)
theorem putEnt_others (W : World) (g : Nat) (x : Ent) : KeepsOthers W (putEnt W g x) :=
  (((((((((((KeepsOthers.refl W).trans (KeepsOthers.setCell _ _ _)).trans (KeepsOthers.setCell _ _ _)).trans (KeepsOthers.setCell _ _ _)).trans (KeepsOthers.setCell _ _ _)).trans (KeepsOthers.setCell _ _ _)).trans (KeepsOthers.setCell _ _ _)).trans (KeepsOthers.setCell _ _ _)).trans (KeepsOthers.setCell _ _ _)).trans (KeepsOthers.setCell _ _ _)).trans (KeepsOthers.setCell _ _ _))
theorem putEnt_keeps {S : Nat → Prop} (W : World) {g : Nat} (hg : S g) (x : Ent) : Keeps S W (putEnt W g x) :=
  (((((((((((Keeps.refl S W).setCell (p := ⟨g, _, none⟩) (fun _ => hg) _).setCell (p := ⟨g, _, none⟩) (fun _ => hg) _).setCell (p := ⟨g, _, none⟩) (fun _ => hg) _).setCell (p := ⟨g, _, none⟩) (fun _ => hg) _).setCell (p := ⟨g, _, none⟩) (fun _ => hg) _).setCell (p := ⟨g, _, none⟩) (fun _ => hg) _).setCell (p := ⟨g, _, none⟩) (fun _ => hg) _).setCell (p := ⟨g, _, none⟩) (fun _ => hg) _).setCell (p := ⟨g, _, none⟩) (fun _ => hg) _).setCell (p := ⟨g, _, none⟩) (fun _ => hg) _)
theorem putEnt_below {n : Nat} (W : World) {g : Nat} (hg : n ≤ g) (x : Ent) : Below n W (putEnt W g x) :=
  (((((((((((Below.refl n W).setCell (p := ⟨g, _, none⟩) hg _).setCell (p := ⟨g, _, none⟩) hg _).setCell (p := ⟨g, _, none⟩) hg _).setCell (p := ⟨g, _, none⟩) hg _).setCell (p := ⟨g, _, none⟩) hg _).setCell (p := ⟨g, _, none⟩) hg _).setCell (p := ⟨g, _, none⟩) hg _).setCell (p := ⟨g, _, none⟩) hg _).setCell (p := ⟨g, _, none⟩) hg _).setCell (p := ⟨g, _, none⟩) hg _)
theorem EntAt.frozens {w : World} {g : Nat} {x : Ent} (h : EntAt w g x) : ∀ i, w.frozen? ⟨g, i, none⟩ = false := fun i => Blk.frozen h i

theorem size_own {β : Type} (B m : Nat) : OwnFrom B (fun (_ : β) W => m ≤ W.heap.size) := fun _ _ _ _ hs hg _ => Nat.le_trans hs hg.size

theorem below_end {w W : World} {D : Nat} {o o' : Obj} (hB : Below w.heap.size w W) (hK : W.heap[D]? = some o) (hD : w.heap.size ≤ D) : Below w.heap.size w (W.putObj D o') :=
  hB.trans ((Below.refl _ W).grown (grownBy_putObj' W D o') (by have := (Array.getElem?_eq_some_iff.1 hK).1; omega) (fun k e => by cases e; omega))

def isAgg : TypeDesc → Bool
  | .struct _ => true
  | .array _ _ => true
  | _ => false
/-- The results of a function whose first result is an aggregate in a cell. -/
theorem results_crt {P : Program} {fn : Func} {p u : Tmp} {ty : TypeId} (h : fn.results = #[.cell p ty, .tmp u]) {tmps : Array Value} {w : World} {g : Nat} {t : TypeId} {cs : Array Value}
    (hg : Blk w g t cs) (hp : tmps.getD p undef = .pointer (some ⟨g, 0, none⟩)) (hu : (P.underlying ty).map isAgg = some true) (hi : (P.info? ty).map (·.size) = some cs.size) :
    (results fn tmps).run P w = .ok (.tuple #[.agg cs, tmps.getD u undef]) w := by
  rw [results_cell_tmp h, hp]
  cases hu' : P.underlying ty with
  | none => rw [hu'] at hu; cases hu
  | some d =>
    rw [hu'] at hu
    have hd : isAgg d = true := by simpa using hu
    simp [asAddr, run_loadVar_row w g t ty cs (0, 0) d hg hu' (by cases d <;> first | rfl | cases hd) hi, Result.andThen]
theorem rowCand : (Tryz.prog.underlying 33).map isAgg = some true := by kernel_rfl
theorem rowEnt : (Tryz.prog.underlying 41).map isAgg = some true := by kernel_rfl
theorem rowHop : (Tryz.prog.underlying 45).map isAgg = some true := by kernel_rfl
theorem sizeCand : (Tryz.prog.info? 33).map (·.size) = some 2 := by kernel_rfl
theorem sizeEnt : (Tryz.prog.info? 41).map (·.size) = some 10 := by kernel_rfl
theorem sizeHop : (Tryz.prog.info? 45).map (·.size) = some 6 := by kernel_rfl

/-- 'for x := range d.each(kind)', where x is boxed in the slot sl. -/
theorem wpIn_each {n : Nat} {g : Operand} {p : Nat} {assign body : Code} {Q : Exit → Act → World → Prop} {a : Act} {w : World} (h2 : 2 ≤ n) (sl n₀ Bd Bk : Nat) (A : Option Addr) (c : Nat) (l : List OEnt) (kd d : Int) (m1 m2 : Option Nat)
    (hg : a.eval g = .func (.func 56) #[] #[.pointer (some ⟨Bd, 0, none⟩), .pointer (some ⟨Bk, 0, none⟩)])
    (hn₀ : n₀ ≤ w.heap.size) (hl : l.length ≤ maxLen) (hBd : Blk w Bd 49 (dirCells A l.length c d m1 m2)) (hBk : Blk w Bk 5 #[.int .u8 kd]) (hL : EntsLie w n₀ A (l.map (·.1)))
    (I : List OEnt → World → Prop) (Ix : Code → List OEnt → World → Prop) (hI : OwnFrom w.heap.size I) (hIx : ∀ c, OwnFrom w.heap.size (Ix c)) (h0 : I [] w) (hIs : ∀ pre W, I pre W → w.heap.size ≤ W.heap.size)
    (hassign : ∀ (lp : Nat) (x : OEnt) (W : World) (K : Act → World → Prop), K { tmps := (a.tmps.setIfInBounds p (entVal x.1)).setIfInBounds sl (.pointer (some ⟨W.heap.size, 0, none⟩)), defers := [] } (W.alloc (.cells (entCells x.1).toArray 41)) →
      assign.wpIn (Fence.wide.inRound lp) (n - 1 - 1) Tryz.prog (Exit.then K (fun _ _ _ => False)) { tmps := a.tmps.setIfInBounds p (entVal x.1), defers := [] } W)
    (hbody : ∀ (lp : Nat) (pre : List OEnt) (x : OEnt) (Bx : Nat) (W : World), w.heap.size ≤ Bx → EntAt W Bx x.1 → I pre W →
      body.wpIn (Fence.wide.inRound lp) (n - 1 - 1) Tryz.prog (ownPostG w.heap.size (Keeps (mineS n₀ Bd Bk)) I Ix (pre ++ [x]) W) { tmps := (a.tmps.setIfInBounds p (entVal x.1)).setIfInBounds sl (.pointer (some ⟨Bx, 0, none⟩)), defers := [] } W)
    (hdone : ∀ (D : Nat) (W : World), w.heap.size ≤ D → I (flt l kd d) W → W.heap[D]? = some (.deferred (some [])) → Q .normal { a with defers := { target := .collected D, args := #[] } :: a.defers } W)
    (hstop : ∀ (D : Nat) (co : Code) (pre : List OEnt) (W : World), w.heap.size ≤ D → pre <+: flt l kd d → Ix co pre W → W.heap[D]? = some (.deferred (some [])) → co.wpIn Fence.wide n Tryz.prog Q { a with defers := { target := .collected D, args := #[] } :: a.defers } W) :
    (Code.rangeFunc g #[p] assign body).wpIn Fence.wide n Tryz.prog Q a w := by
  have h1 : 1 ≤ n := by omega
  refine wpIn_rangeFunc_ownH (F := Fence.wide) rfl h1 hg trivial (enters_of Tryz.func56 (by kernel_rfl) rfl)
    (each_stops (n - 1) n₀ Bd Bk A c l kd d m1 m2 w hn₀ hl hBd hBk hL) mineS_t (mineS_b hn₀ hBd.lt hBk.lt) (Below.refl _ _) (fun _ => rfl)
    I Ix hI hIx h0
    (fun x a' W => ∃ Bx, w.heap.size ≤ Bx ∧ EntAt W Bx x.1 ∧ a' = { tmps := (a.tmps.setIfInBounds p (entVal x.1)).setIfInBounds sl (.pointer (some ⟨Bx, 0, none⟩)), defers := [] })
    (fun x a' _ X Y row hs hgr hr => by obtain ⟨Bx, k1, k2, k3⟩ := hs; exact ⟨Bx, k1, blk_own Bx _ (fun (_ : Unit) => (entCells x.1).toArray) () X Y row k2 hgr (fun r e => (hr r e).2), k3⟩)
    ?_ ?_ ?_ hstop
  · intro lp pre x W K hi hK
    have hz : ((#[p] : Array Tmp).zip #[entVal x.1]).foldl (fun t (p, v) => t.setIfInBounds p v) a.tmps = a.tmps.setIfInBounds p (entVal x.1) := by simp
    rw [hz]
    exact hassign lp x W K (hK _ _ ((KeepsOthers.alloc _ _).from _) ((Keeps.refl _ _).alloc _) (hI.alloc _ hi) ⟨W.heap.size, hIs pre W hi, EntAt.new W _, rfl⟩)
  · rintro lp pre x a' W _ _ hi ⟨Bx, k1, k2, rfl⟩ _
    exact hbody lp pre x Bx W k1 k2 hi
  · rintro D ys W hD rfl hi hK
    exact hdone D W hD hi hK
end Go.Proofs.YtlbehpbhmmppiaaGreatDoor
