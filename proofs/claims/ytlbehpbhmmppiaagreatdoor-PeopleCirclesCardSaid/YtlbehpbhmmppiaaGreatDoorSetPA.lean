/- The closures that places, Dwellers and Pairs hand to pairs; which pairs are wanted. No conditions. -/
import Derived.Test.YtlbehpbhmmppiaaGreatDoorSetKA
namespace Go.Proofs.YtlbehpbhmmppiaaGreatDoor
open Go.RowKit Go.Shelf

def wantP (n : Int) (c : Int × Int) : Bool := decide (c.1 = n)
def wantD (n : Int) (c : Int × Int) : Bool := decide (c.2 = n)
def wantA (_ : Int × Int) : Bool := true
/-- The pairs of some entries that are wanted and whose person is alive. -/
def liveM (dead : Int → Bool) (want : Int × Int → Bool) (l : List OEnt) : List (Int × Int) := (l.map fun x => (x.1.person, x.1.place)).filter fun c => want c && !dead c.1
theorem live_skip {dead : Int → Bool} {want : Int × Int → Bool} {l : List OEnt} {x : OEnt} (h : (want (x.1.person, x.1.place) && !dead x.1.person) = false) : liveM dead want (l ++ [x]) = liveM dead want l := by
  unfold liveM
  rw [List.map_append, List.filter_append]
  simp only [List.map_cons, List.map_nil, List.filter_cons, List.filter_nil, h]
  simp
theorem live_take {dead : Int → Bool} {want : Int × Int → Bool} {l : List OEnt} {x : OEnt} (h : (want (x.1.person, x.1.place) && !dead x.1.person) = true) : liveM dead want (l ++ [x]) = liveM dead want l ++ [(x.1.person, x.1.place)] := by
  unfold liveM
  rw [List.map_append, List.filter_append]
  simp only [List.map_cons, List.map_nil, List.filter_cons, List.filter_nil, h]
  simp
theorem live_len (dead : Int → Bool) (want : Int × Int → Bool) (l : List OEnt) : (liveM dead want l).length ≤ l.length := by
  have := List.length_filter_le (fun c => want c && !dead c.1) (l.map fun x => (x.1.person, x.1.place))
  rwa [List.length_map] at this
theorem live_int (dead : Int → Bool) (want : Int × Int → Bool) (l : List OEnt) : IntsC (liveM dead want l) := fun c hc => by
  obtain ⟨x, _, rfl⟩ := List.mem_map.1 (List.mem_filter.1 hc).1
  exact ⟨x.2.1, x.2.2.2.2⟩
theorem live_mem {dead : Int → Bool} {want : Int × Int → Bool} {l : List OEnt} {c : Int × Int} : c ∈ liveM dead want l ↔ (∃ x ∈ l, (x.1.person, x.1.place) = c) ∧ want c = true ∧ dead c.1 = false := by
  unfold liveM
  rw [List.mem_filter, List.mem_map]
  simp
theorem keysP_at {cs : List (Int × Int)} {c : Int × Int} {kl : Lit} (hk : keyOf Tryz.prog 33 (candVal c) = some kl) : keysP (cs ++ [c]) kl = true :=
  keysP_iff.2 ⟨c, by simp, hk⟩
theorem keysP_other {cs : List (Int × Int)} {c : Int × Int} {kl k : Lit} (hk : keyOf Tryz.prog 33 (candVal c) = some kl) (h : k ≠ kl) : keysP (cs ++ [c]) k = keysP cs k := by
  rw [Bool.eq_iff_iff, keysP_iff, keysP_iff]
  constructor
  · rintro ⟨x, hx, hx2⟩
    rcases List.mem_append.1 hx with hx | hx
    · exact ⟨x, hx, hx2⟩
    · simp at hx
      subst hx
      exact absurd (Option.some.inj (hx2.symm.trans hk)) h
  · rintro ⟨x, hx, hx2⟩
    exact ⟨x, List.mem_append_left _ hx, hx2⟩
end Go.Proofs.YtlbehpbhmmppiaaGreatDoor
