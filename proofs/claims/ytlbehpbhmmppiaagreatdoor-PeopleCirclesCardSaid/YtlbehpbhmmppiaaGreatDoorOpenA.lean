/- A pair that comes in: its cells; entries whose numbers are ints. No conditions. The contracts of Order and Refuses of package people, and of the reference's Few. Conditions: the list lies in memory; the pair's person is an int. -/
import Derived.Test.YtlbehpbhmmppiaaGreatDoorAliveA
import Derived.Test.YtlbehpbhmmppiaaGreatDoorOnA
import Derived.Test.YtlbehpbhmmppiaaGreatDoorHopA
namespace Go.Proofs.YtlbehpbhmmppiaaGreatDoor
open Go.ChangeShapes Go.WideShapes Go.ChangeAt Go.RowKit Go.Deep

theorem to_oents : ∀ l : List Ent, (∀ e ∈ l, goEnt e) → ∃ m : List OEnt, m.map (·.1) = l
  | [], _ => ⟨[], rfl⟩
  | e :: l, h => by
    obtain ⟨m, hm⟩ := to_oents l (fun x hx => h x (List.mem_cons_of_mem _ hx))
    have he := h e (List.mem_cons_self ..)
    exact ⟨⟨e, he.2.1, he.2.2.1, he.2.2.2.1, he.2.2.2.2.1⟩ :: m, by rw [List.map_cons, hm]⟩

section
variable {H : Type} {enc : TypeId × Value → H} {w : World} {base : Nat} {sp : Nat → Bool} {held : Bool}
set_option maxRecDepth 100000 in
theorem open_cand {n : Nat} {cs : List Value} {x : DataW H × List MemPlace} (h : DataW.trod enc Tryz.prog w base sp held n 33 cs = some x) : ∃ c : Int × Int, cs = [.int .i64 c.1, .int .i64 c.2] ∧ isInt c.1 ∧ isInt c.2 := by
  obtain ⟨xs, m, rfl, _, hlen, hxl, hf⟩ := DataW.trod_struct candStruct h
  rw [cellsCand] at hlen
  have hsz : (Tryz.prog.fieldsOf 33).size = 2 := by rw [← Array.length_toList, ← List.length_map (f := fun f : Field => (f.type, f.offset)), candFields]; rfl
  have hat : ∀ (i : Nat) (t : TypeId) (o : Nat), [((3 : TypeId), 0), (3, 1)][i]? = some (t, o) →
      ∃ y, DataW.trod enc Tryz.prog w base sp held m t ((cs.drop o).take (Tryz.prog.cellsOf t)) = some y := by
    intro i t o hi
    have hi' := hi
    rw [← candFields, List.getElem?_map] at hi
    obtain ⟨f, hf1, hf2⟩ := Option.map_eq_some_iff.1 hi
    simp only [Prod.mk.injEq] at hf2
    obtain ⟨rfl, rfl⟩ := hf2
    rw [hf i f (by rw [← Array.getElem?_toList]; exact hf1)]
    have hil : i < xs.length := by rw [hxl, hsz]; exact (List.getElem?_eq_some_iff.1 hi').1
    exact ⟨_, List.getElem?_eq_getElem hil⟩
  match cs, hlen with
  | [c0, c1], _ =>
    obtain ⟨_, h0⟩ := hat 0 _ _ rfl
    obtain ⟨_, h1⟩ := hat 1 _ _ rfl
    rw [cellsInt] at h0 h1
    obtain ⟨n0, e0, _, w0⟩ := DataW.trod_int intRow h0
    obtain ⟨n1, e1, _, w1⟩ := DataW.trod_int intRow h1
    simp at e0 e1
    subst e0 e1
    exact ⟨⟨n0, n1⟩, rfl, isInt_wf w0, isInt_wf w1⟩
end
set_option maxRecDepth 100000 in
theorem cand_of_ok {H : Type} {enc : TypeId × Value → H} {W : World} {base : Nat} {v : Value} {d : DataW H} {ps : List MemPlace} (hv : Value.okWide Tryz.prog W .any base 33 v) (h : DataW.Trod enc Tryz.prog W 0 (fun _ => true) true 33 v d ps) : ∃ c : Int × Int, v = candVal c ∧ isInt c.1 ∧ isInt c.2 := by
  obtain ⟨cs, rfl, hsz⟩ := okWide_struct candStruct hv
  obtain ⟨fuel, hf⟩ := h
  obtain ⟨e, he, hg⟩ := open_cand hf
  refine ⟨e, ?_, hg⟩
  have h2 : cs.toList = [.int .i64 e.1, .int .i64 e.2] := by simpa [Value.cells] using he
  obtain ⟨l⟩ := cs
  subst h2
  rfl
set_option maxRecDepth 100000 in
theorem cand_readable : Tryz.prog.readableRec 33 = true ∧ (33 : TypeId) < Tryz.prog.types.size := ⟨by kernel_rfl, of_decide_eq_true (by kernel_rfl)⟩
end Go.Proofs.YtlbehpbhmmppiaaGreatDoor
namespace Go.Proofs.YtlbehpbhmmppiaaGreatDoor
open Go.RowKit

theorem refFew_any (A : Option Addr) (n c : Nat) (w : World) :
    Calls Tryz.prog 5 #[.slice A n c] w fun e w' => e = .returned (.bool (decide ((n : Int) ≤ 60))) ∧ w = w' := by
  go_enter Tryz.func5, Tryz.ntmps5
  go_wp2
  all_goals
    go_ret
    exact ⟨ret_bool (by simp), rfl⟩

end Go.Proofs.YtlbehpbhmmppiaaGreatDoor
