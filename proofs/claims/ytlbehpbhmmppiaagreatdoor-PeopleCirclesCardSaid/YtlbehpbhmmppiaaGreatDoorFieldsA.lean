/- The contract of the reference's fields: an entry without the fields that the table does not name for its kind. No conditions. The comparison of two entries, as the model carries it out: it compares all ten fields. No conditions. The contract of the reference's formed: the error of an entry that depends on no other. Condition: the name's length is a Go length. -/
import Derived.Test.YtlbehpbhmmppiaaGreatDoorWordsA
import Derived.Laws.StructEq
namespace Go.Proofs.YtlbehpbhmmppiaaGreatDoor
open Go.RowKit

/-- An entry without the fields that its line does not have; of another kind, the rest as r. -/
def onlyOr (r x : Ent) : Ent :=
  if x.kind = 1 then { x with place := 0, other := 0, at' := 0, order := 0 }
  else if x.kind = 2 then { x with other := 0, at' := 0, order := 0, name := ⟨#[]⟩ }
  else if x.kind = 3 then { x with untl := 0, place := 0, other := 0, at' := 0, order := 0, name := ⟨#[]⟩ }
  else if x.kind = 4 then { x with place := 0, at' := 0, order := 0, name := ⟨#[]⟩ }
  else if x.kind = 5 then { x with name := ⟨#[]⟩ }
  else if x.kind = 6 then { x with untl := 0, person := 0, place := 0, other := 0, at' := 0, name := ⟨#[]⟩ }
  else if x.kind = 7 then { x with at' := 0, order := 0, name := ⟨#[]⟩ }
  else r
def refW (x : Ent) : Ent := onlyOr { x with person := 0, place := 0, other := 0, at' := 0, order := 0, name := ⟨#[]⟩ } x
def onlyW (x : Ent) : Ent := onlyOr { x with since := 0, untl := 0, person := 0, place := 0, other := 0, at' := 0, order := 0, name := ⟨#[]⟩ } x

/-- An entry is returned; new blocks may have come. -/
def RetsEnt (w : World) (y : Ent) (e : Ending) (w' : World) : Prop := e = .returned (entVal y) ∧ Below w.heap.size w w'

end Go.Proofs.YtlbehpbhmmppiaaGreatDoor
namespace Go.Proofs.YtlbehpbhmmppiaaGreatDoor
open Go.RowKit

theorem fieldsEnt : (Tryz.prog.fieldsOf 41).toList.map (fun f => (f.name, f.type, f.offset)) =
    [("Day", 3, 0), ("Kind", 5, 1), ("Since", 3, 2), ("Until", 3, 3), ("Person", 3, 4), ("Place", 3, 5), ("Other", 3, 6), ("At", 3, 7), ("Order", 3, 8), ("Name", 9, 9)] := by kernel_rfl

/-- The comparison of a struct's fields, by their names, types and offsets. -/
def eqTrip (d : Nat) (xs ys : Array Value) : List (String × TypeId × Nat) → Sem Bool
  | [] => pure true
  | f :: fs =>
    if f.1 ≠ "_" then do
      let a ← part f.2.1 xs f.2.2
      let b ← part f.2.1 ys f.2.2
      let r ← Op.equalIn d f.2.1 a b
      if (!r) = true then pure false else eqTrip d xs ys fs
    else eqTrip d xs ys fs

theorem eqFields_trip (d : Nat) (xs ys : Array Value) : ∀ fs : List Field, Op.eqFields d xs ys fs = eqTrip d xs ys (fs.map fun f => (f.name, f.type, f.offset))
  | [] => rfl
  | f :: fs => by
    simp only [Op.eqFields, eqTrip, List.map_cons, eqFields_trip d xs ys fs]

theorem intRow : Tryz.prog.underlying 3 = some (.int .i64) := by kernel_rfl
theorem u8Row : Tryz.prog.underlying 5 = some (.int .u8) := by kernel_rfl
theorem strRow : Tryz.prog.underlying 9 = some .string := by kernel_rfl

theorem entEq_run (x y : Ent) (w : World) : (Op.equalIn 10000 41 (entVal x) (entVal y)).run Tryz.prog w = .ok (decide (x = y)) w := by
  unfold entVal
  rw [run_equalIn_agg (P := Tryz.prog) w 9999 41 _ _ (by kernel_rfl) (by kernel_rfl), eqFields_trip, fieldsEnt]
  simp only [eqTrip]
  simp [go_sem, run_equalIn_int (P := Tryz.prog) _ _ _ _ _ _ _ intRow, run_equalIn_int (P := Tryz.prog) _ _ _ _ _ _ _ u8Row, run_equalIn_string (P := Tryz.prog) _ _ _ _ _ strRow]
  by_cases h : x = y
  · subst h; simp
  · rw [decide_eq_false h]
    repeat' split
    all_goals first
      | rfl
      | (exfalso; apply h; clear h; obtain ⟨_, _, _, _, _, _, _, _, _, n⟩ := x; obtain ⟨_, _, _, _, _, _, _, _, _, m⟩ := y; simp_all [ByteArray.toList_eq]; obtain ⟨⟨n⟩⟩ := n; obtain ⟨⟨m⟩⟩ := m; simp_all)

theorem neEnt (x y : Ent) (w : World) : (binOp .neq 41 (entVal x) (entVal y)).run Tryz.prog w = .ok (.bool (!decide (x = y))) w := by
  have h := entEq_run x y w
  unfold entVal at h ⊢
  rw [run_neq_struct, h]; rfl
theorem eqEnt (x y : Ent) (w : World) : (binOp .eql 41 (entVal x) (entVal y)).run Tryz.prog w = .ok (.bool (decide (x = y))) w := by
  have h := entEq_run x y w
  unfold entVal at h ⊢
  rw [run_eql_struct, h]; rfl

theorem noGuardEnt (op : BinOp) (a b : Operand) (x y : Ent) (w : World) : (eqGuard op 41 a b (entVal x) (entVal y)).run Tryz.prog w = .ok () w :=
  run_eqGuard_agg w op _ a b _ _ (by kernel_rfl)
end Go.Proofs.YtlbehpbhmmppiaaGreatDoor
namespace Go.Proofs.YtlbehpbhmmppiaaGreatDoor
open Go.RowKit

/-- An entry is well-formed, whatever its name is. -/
def okE (x : Ent) : Bool := vDays x && vIds x && decide (onlyW x = x)
/-- The error of an entry that depends on no other. -/
def ckE (x : Ent) : Int := if okE x = false then 1 else if x.kind = 1 ∧ isN x.name.data.toList = false then 4 else 0

/-- An entry in a block of its own. -/
def EntAt (w : World) (g : Nat) (x : Ent) : Prop := Blk w g 41 (entCells x).toArray
theorem EntAt.cells {w : World} {g : Nat} {x : Ent} (h : EntAt w g x) :
    w.cell? ⟨g, 0, none⟩ = some (.int .i64 x.day) ∧ w.cell? ⟨g, 1, none⟩ = some (.int .u8 x.kind) ∧ w.cell? ⟨g, 2, none⟩ = some (.int .i64 x.since) ∧ w.cell? ⟨g, 3, none⟩ = some (.int .i64 x.untl) ∧ w.cell? ⟨g, 4, none⟩ = some (.int .i64 x.person) ∧ w.cell? ⟨g, 5, none⟩ = some (.int .i64 x.place) ∧ w.cell? ⟨g, 6, none⟩ = some (.int .i64 x.other) ∧ w.cell? ⟨g, 7, none⟩ = some (.int .i64 x.at') ∧ w.cell? ⟨g, 8, none⟩ = some (.int .i64 x.order) ∧ w.cell? ⟨g, 9, none⟩ = some (.string x.name) ∧ g < w.heap.size := by
  refine ⟨?_, ?_, ?_, ?_, ?_, ?_, ?_, ?_, ?_, ?_, Blk.lt h⟩ <;> rw [Blk.cell h] <;> rfl
theorem EntAt.below {w w' : World} {g B : Nat} {x : Ent} (h : EntAt w g x) (hb : Below B w w') (hg : g < B) : EntAt w' g x := Blk.below h hb hg
theorem EntAt.new (w : World) (x : Ent) : EntAt (w.alloc (.cells (entCells x).toArray 41)) w.heap.size x := Blk.new w _ _

theorem kind_of_vIds (x : Ent) (h : vIds x = true) : x.kind = 1 ∨ x.kind = 2 ∨ x.kind = 3 ∨ x.kind = 4 ∨ x.kind = 5 ∨ x.kind = 6 ∨ x.kind = 7 := by
  unfold vIds at h
  repeat' split at h
  all_goals first
    | omega
    | simp at h

theorem okE_ref (x : Ent) : okE x = (vDays x && vIds x && decide (x = refW x)) := by
  unfold okE
  cases h : vIds x with
  | false => simp
  | true =>
    have : onlyW x = refW x := by
      rcases kind_of_vIds x h with h | h | h | h | h | h | h <;> simp [onlyW, refW, onlyOr, h]
    rw [this]
    congr 1
    rw [Bool.eq_iff_iff]; simp [eq_comm]

end Go.Proofs.YtlbehpbhmmppiaaGreatDoor
