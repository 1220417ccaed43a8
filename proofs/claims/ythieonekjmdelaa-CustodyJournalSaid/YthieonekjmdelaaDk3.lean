/- What Write does in memory. Conditions: the disk lies in memory. -/
import Derived.Test.YthieonekjmdelaaDk2
import Derived.Deep.WholeRow
import Derived.StillTailTactics
namespace Go.Proofs.Ythieonekjmdelaa
open Go.RowKit

theorem descBlock : Try.prog.underlying 70 = some (.array 64 5) := by kernel_rfl
theorem sizeBlock : (Try.prog.info? 70).map (·.size) = some 64 := by kernel_rfl
theorem infoPW : (Try.prog.info? 72).map (fun i => (i.zero, i.size, i.bytes)) = some (some (.agg (Value.int .i64 0 :: List.replicate 128 (Value.int .u8 0)).toArray), 129, 136) := by kernel_rfl
theorem sizePW : (Try.prog.info? 72).map (·.size) = some 129 := by kernel_rfl
theorem descPW : ∃ d, Try.prog.underlying 72 = some d ∧ d.isRow = true := by
  have h : (Try.prog.underlying 72).map TypeDesc.isRow = some true := by kernel_rfl
  obtain ⟨d, h1, h2⟩ := Option.map_eq_some_iff.1 h
  exact ⟨d, h1, h2⟩
theorem rowPW : Try.prog.underlying 55 = some (.slice 72) := by kernel_rfl
theorem list64 (X : List Value) (h : X.length = 64) : ∃ f : Nat → Value, X = (List.range 64).map f :=
  ⟨fun i => X.getD i undef, by
    apply List.ext_getElem
    · simp [h]
    · intro i h1 h2
      simp [h1]⟩
theorem fold_pw (k : Int) (X : List Value) (hX : X.length = 64) : List.foldl (fun cs x => cs.setIfInBounds (1 + x.2) x.1) ((Value.int .i64 0 :: List.replicate 128 (Value.int .u8 0)).toArray.setIfInBounds 0 (.int .i64 k)) X.zipIdx = (Value.int .i64 k :: (X ++ List.replicate 64 (Value.int .u8 0))).toArray := by
  obtain ⟨f, rfl⟩ := list64 X hX
  kernel_rfl
theorem wpStill_load_mid {P : Program} {ops : Array Oper} {w : World} {Q : Act → Prop} {a : Act} {op : Oper} {rest : List Oper} (hgd : op.guard = none) (ty : TypeId) (x : Operand) (ho : op.op = .load ty x)
    (b o : Nat) (hx : a.eval x = .pointer (some ⟨b, o, none⟩)) (cs : List Value) (d : TypeDesc) (hc : w.rangeAt b o cs)
    (hu : P.underlying ty = some d) (hd : d.isRow = true) (hi : (P.info? ty).map (·.size) = some cs.length)
    (h : wpStill P ops w Q rest (a.put op.dst (.agg cs.toArray))) : wpStill P ops w Q (op :: rest) a := by
  refine wpStill_step (fun K hK => ?_)
  have hw : Region.wanted op (yielded ops a.tmps) = true := by simp [Region.wanted, hgd]
  rw [if_pos hw]
  unfold Oper.still execOp
  simp only [ho, hx, Instr.loadAt, Instr.sureAddr, Sem.run_bind, Sem.run_pure, Result.andThen_ok, run_loadVar_mid w b o ty cs d hc hu hd hi]
  exact ⟨rfl, hK _ h⟩
/-- The cells of a pending write behind its making, and with its bytes. -/
theorem splice_pw (k : Int) (s b : List Int) (hs : s.length = 64) (hb : b.length ≤ 64) : splice (Value.int .i64 k :: (cellsB s ++ List.replicate 64 (Value.int .u8 0))) 65 (cellsB b) = Value.int .i64 k :: (cellsB s ++ cellsB (padB b)) := by
  have h1 : (Value.int .i64 k :: cellsB s).length = 65 := by simp [cellsB_len, hs]
  have h2 : (Value.int .i64 k :: (cellsB s ++ List.replicate 64 (Value.int .u8 0))) = (Value.int .i64 k :: cellsB s) ++ List.replicate 64 (Value.int .u8 0) := rfl
  unfold splice
  rw [h2, List.take_append_of_le_length (by omega), List.take_of_length_le (by omega), List.drop_append, List.drop_eq_nil_of_le (by omega), List.nil_append, h1, cellsB_len, show 65 + b.length - 65 = b.length by omega, List.drop_replicate]
  unfold padB cellsB
  rw [List.map_append, List.map_replicate]
  rfl

/-- Cells that are stored one behind the other. -/
theorem splice_cons (cs : List Value) (o : Nat) (v : Value) (r : List Value) (h : o + (v :: r).length ≤ cs.length) : splice (cs.set o v) (o + 1) r = splice cs o (v :: r) := by
  simp only [List.length_cons] at h
  unfold splice
  rw [List.take_add_one, List.take_set_of_le (Nat.le_refl o), List.getElem?_set_self (by omega), List.drop_set_of_lt (by omega), List.length_cons, show o + 1 + r.length = o + (r.length + 1) by omega]
  simp
theorem Blk.setCells {g : Nat} {t : TypeId} : ∀ (vs : List Value) (o : Nat) (w : World) (cs : List Value), o + vs.length ≤ cs.length → Blk w g t cs.toArray → Blk (w.setCells g o vs) g t (splice cs o vs).toArray
  | [], o, w, cs, _, h => by
    have e : splice cs o [] = cs := by unfold splice; simp
    rw [e]
    exact h
  | v :: r, o, w, cs, hl, h => by
    rw [World.setCells, ← splice_cons cs o v r hl]
    refine Blk.setCells r (o + 1) _ _ (by simp only [List.length_cons, List.length_set] at hl ⊢; omega) ?_
    have := h.set o v
    rwa [List.setIfInBounds_toArray] at this
theorem Keeps.setCells {S : Nat → Prop} {w : World} {g : Nat} (hS : S g) : ∀ (vs : List Value) (o : Nat) (w1 : World), Keeps S w w1 → Keeps S w (w1.setCells g o vs)
  | [], _, _, h => h
  | v :: r, o, w1, h => by
    rw [World.setCells]
    exact Keeps.setCells hS r (o + 1) _ (h.setCell (p := ⟨g, o, none⟩) (fun _ => hS) v)
theorem flat_set {S : List (List Int)} (h : ∀ s ∈ S, s.length = 64) {b : List Int} (hb : b.length = 64) {k : Nat} (hk : k < S.length) : (S.set k b).flatMap cellsB = splice (S.flatMap cellsB) (k * 64) (cellsB b) := by
  induction S generalizing k with
  | nil => simp at hk
  | cons x S ih =>
    have hx := h x (List.mem_cons_self ..)
    have hxl : (cellsB x).length = 64 := by rw [cellsB_len, hx]
    have hbl : (cellsB b).length = 64 := by rw [cellsB_len, hb]
    cases k with
    | zero =>
      rw [List.set_cons_zero, List.flatMap_cons, List.flatMap_cons]
      unfold splice
      rw [hbl, Nat.zero_mul, List.take_zero, List.nil_append, Nat.zero_add, List.drop_append_of_le_length (by omega), List.drop_eq_nil_of_le (by omega), List.nil_append]
    | succ k =>
      rw [List.set_cons_succ, List.flatMap_cons, List.flatMap_cons, ih (fun y hy => h y (List.mem_cons_of_mem _ hy)) (by simpa using hk)]
      unfold splice
      rw [hbl, show (k + 1) * 64 = (cellsB x).length + k * 64 by rw [hxl]; omega, List.take_length_add_append, Nat.add_assoc (cellsB x).length]
      simp only [List.append_assoc]
      rw [show List.drop ((cellsB x).length + (k * 64 + 64)) (cellsB x ++ List.flatMap cellsB S) = List.drop (k * 64 + 64) (List.flatMap cellsB S) from List.drop_length_add_append ..]
/-- A sector gets other bytes. -/
theorem DiskAt.fill {w : World} {p gs : Nat} {vp : Value} {S : List (List Int)} {P : List PW} {dn st : Bool} {ca : Int} (h : DiskAt w p gs vp S P dn st ca) {k : Nat} (hk : k < S.length) {b : List Int} (hb : b.length = 64) : DiskAt (w.setCells gs (k * 64) (cellsB b)) p gs vp (S.set k b) P dn st ca := by
  have hK : Keeps (fun i => i = gs) w (w.setCells gs (k * 64) (cellsB b)) := Keeps.setCells (S := fun i => i = gs) (g := gs) rfl _ _ _ (Keeps.refl _ _)
  have hl := World.ownsRow.lt h.pend
  refine ⟨?_, ?_, ?_, fun s hs => ?_, fun x hx => ?_, h.ne1, h.ne2, h.ne3⟩
  · rw [List.length_set]
    exact h.blk.keep hK (fun e => h.ne1 e.symm)
  · rw [flat_set h.all hb hk]
    refine Blk.setCells _ _ _ _ ?_ h.sec
    rw [cellsB_len, hb, flat_len h.all]
    omega
  · refine ⟨h.pend.1, ?_⟩
    rcases h.pend.2 with h0 | ⟨g, cap, cur, rfl, hbb, hg, rest⟩
    · exact .inl h0
    · exact .inr ⟨g, cap, cur, rfl, hbb, (hK.block g (hl g rfl).2 (fun e => h.ne3 (by rw [← e]; rfl))).trans hg, rest⟩
  · rcases List.mem_or_eq_of_mem_set hs with hs | rfl
    · exact h.all s hs
    · exact hb
  · rw [List.length_set]
    exact h.size x hx
/-- A further write is pending. -/
theorem append_pw {w : World} {p gs : Nat} {vp : Value} {S : List (List Int)} {P : List PW} {dn st : Bool} {ca : Int} (h : DiskAt w p gs vp S P dn st ca) (hP : P.length ≤ 100000) (x : PW) (hx : x.1 < S.length ∧ x.2.1.length = 64 ∧ x.2.2.length = 64) (ty : TypeId) (L : List Value) (hL : L = cellsP x) :
    ∃ v' w', (Builtin.append_ #[55, 55] ty #[vp, .slice (some ⟨w.heap.size, 0, none⟩) 1 1]).run Try.prog (w.alloc (.cells L.toArray 72)) = .ok v' w' ∧ w'.cell? ⟨p, 1, none⟩ = some vp ∧ w'.frozen? ⟨p, 1, none⟩ = false ∧
      DiskAt (w'.setCell ⟨p, 1, none⟩ v') p gs v' S (P ++ [x]) dn st ca ∧ Keeps (ownD p gs vp) w (w'.setCell ⟨p, 1, none⟩ v') ∧ (v'.ownBlock = vp.ownBlock ∨ v'.ownBlock = some (w.heap.size + 1)) := by
  subst hL
  have hLl : (cellsP x).length = 129 := by unfold cellsP; simp only [List.length_cons, List.length_append, cellsB_len, hx.2.1, hx.2.2]
  obtain ⟨i0, hi, hz0, hz1, hz2⟩ := info_parts infoPW
  have hA : DiskAt (w.alloc (.cells (cellsP x).toArray 72)) p gs vp S P dn st ca := h.below (below_al (Below.refl _ _) _)
  have kN := Blk.new w 72 (cellsP x).toArray
  obtain ⟨v', w', hrun, hO, hg, _, hv⟩ := run_append_own_at (P := Try.prog) (w.alloc (.cells (cellsP x).toArray 72)) 0 55 ty 72 i0 _ 129 136 rowPW hi hz0 hz1 hz2 rfl (by decide) vp P.length _ hA.pend ⟨w.heap.size, 0, none⟩ 1 1 (cellsP x) hLl (fun j u hj => by
      rw [Addr.add_mid, Nat.zero_add, kN.cell j, List.getElem?_toArray]
      exact hj) (fun u hu => by
      unfold cellsP at hu
      rcases List.mem_cons.1 hu with rfl | hu
      · rfl
      · rcases List.mem_append.1 hu with hu | hu
        · exact cellsB_one _ u hu
        · exact cellsB_one _ u hu) (by unfold maxLen; omega) (by omega) (Nat.zero_le _)
  have hk : Keeps (fun i => vp.ownBlock = some i) (w.alloc (.cells (cellsP x).toArray 72)) w' := Keeps.of_grown hg (fun k hk _ => hk)
  have hB := hA.blk.keep hk h.ne2
  have hvp : v'.ownBlock ≠ some p := by
    have := h.blk.lt
    rcases hv with e | e
    · rw [e]; exact h.ne2
    · rw [e]; simp; omega
  have hvs : v'.ownBlock ≠ some gs := by
    have := h.sec.lt
    rcases hv with e | e
    · rw [e]; exact h.ne3
    · rw [e]; simp; omega
  have hl := World.ownsRow.lt hO
  refine ⟨v', w', hrun, by rw [hB.cell 1]; rfl, hB.frozen 1, ⟨hB.set 1 v', (hA.sec.keep hk h.ne3).far (p := ⟨p, 1, none⟩) h.ne1 _, ?_, h.all, fun y hy => ?_, h.ne1, hvp, hvs⟩, ?_, by simpa using hv⟩
  · rw [List.length_append, List.flatMap_append, List.flatMap_singleton]
    refine ⟨hO.1, ?_⟩
    rcases hO.2 with h0 | ⟨g, cap, cur, rfl, hbb, hgg, rest⟩
    · exact .inl h0
    · refine .inr ⟨g, cap, cur, rfl, hbb, ?_, rest⟩
      rw [← hgg]
      exact ((Keeps.refl (fun k => k = p) w').setCell (p := ⟨p, 1, none⟩) (fun _ => rfl) _).block g (hl g rfl).2 (fun e => hvp (by rw [← e]; rfl))
  · rcases List.mem_append.1 hy with hy | hy
    · exact h.size y hy
    · rw [List.mem_singleton.1 hy]; exact hx
  · exact ((((Keeps.refl _ _).alloc _).trans hk (fun i _ e => .inr (.inr e))).setCell (p := ⟨p, 1, none⟩) (fun _ => .inl rfl) v')
def fieldsOf : Option TypeDesc → Array Field
  | some (.struct f) => f
  | _ => #[]
theorem descPW' : Try.prog.underlying 72 = some (.struct (fieldsOf (Try.prog.underlying 72))) := by kernel_rfl

end Go.Proofs.Ythieonekjmdelaa
