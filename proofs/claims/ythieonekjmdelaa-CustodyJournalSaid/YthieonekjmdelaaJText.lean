/- Texts of one's own: a text is added. No conditions. -/
import Derived.Test.YthieonekjmdelaaJRec
namespace Go.Proofs.Ythieonekjmdelaa
open Go.RowKit

theorem infoText : (Try.prog.info? 9).map (fun i => (i.zero, i.size, i.bytes)) = some (some (.string ⟨#[]⟩), 1, 16) := by kernel_rfl
theorem rowText : Try.prog.underlying 31 = some (.slice 9) := by kernel_rfl
def lenV : Value → Nat
  | .slice _ n _ => n
  | _ => 0
/-- v is a slice of the texts L in memory from block base on. -/
def OwnT (w : World) (base : Nat) (v : Value) (L : List Value) : Prop := w.ownsRow base 9 1 v L.length L
theorem append_text {w : World} {base : Nat} {v : Value} {L : List Value} (hO : OwnT w base v L) (hL : L.length ≤ 1000000000) (hb : base ≤ w.heap.size) (x : ByteArray) :
    ∃ A c w', (Builtin.append_ #[31, 31] 31 #[v, .slice (some ⟨w.heap.size, 0, none⟩) 1 1]).run Try.prog (w.alloc (.cells #[.string x] 9)) = .ok (.slice A (L.length + 1) c) w' ∧
      OwnT w' base (.slice A (L.length + 1) c) (L ++ [.string x]) ∧ Keeps (fun i => v.ownBlock = some i) w w' ∧ (v.ownBlock = (Value.slice A (L.length + 1) c).ownBlock ∨ ∀ i, (Value.slice A (L.length + 1) c).ownBlock = some i → w.heap.size ≤ i) := by
  obtain ⟨i0, hi, hz0, hz1, hz2⟩ := info_parts infoText
  have hO2 : (w.alloc (.cells #[.string x] 9)).ownsRow base 9 1 v L.length L := ownsRow_kept' hO ((Below.refl _ _).alloc (Nat.le_refl _) _)
  have kX := Blk.new w 9 #[.string x]
  obtain ⟨v', w', hrun, hO3, hg, _, hv⟩ := run_append_own_at (P := Try.prog) (w.alloc (.cells #[.string x] 9)) base 31 31 9 i0 _ 1 16 rowText hi hz0 hz1 hz2 rfl (by decide) v L.length L hO2 ⟨w.heap.size, 0, none⟩ 1 1 [.string x] rfl (fun j u hu => by
      rw [Addr.add_mid, Nat.zero_add, kX.cell j]
      rcases j with _ | j
      · exact hu
      · simp at hu) (fun u hu => by rw [List.mem_singleton.1 hu]; rfl) (by unfold maxLen; omega) (by omega) (by simp; omega)
  obtain ⟨A, c, rfl⟩ : ∃ A c, v' = .slice A (L.length + 1) c := by
    rcases hO3.2 with ⟨rfl, h1⟩ | ⟨g', cap, cur, rfl, _⟩
    · omega
    · exact ⟨_, cap, rfl⟩
  refine ⟨A, c, w', hrun, ?_, ((Keeps.refl _ _).alloc _).trans (Keeps.of_grown (S := fun i => v.ownBlock = some i) hg (fun k hk _ => hk)) (fun i _ e => e), ?_⟩
  · unfold OwnT
    rw [List.length_append]
    exact hO3
  · rcases hv with e | e
    · exact .inl e.symm
    · refine .inr (fun i hi => ?_)
      rw [e] at hi
      cases hi
      simp
theorem OwnT.keep {S : Nat → Prop} {w w' : World} {base : Nat} {v : Value} {L : List Value} (h : OwnT w base v L) (hk : Keeps S w w') (hS : ∀ i, v.ownBlock = some i → ¬ S i) : OwnT w' base v L := by
  have hl := World.ownsRow.lt h
  refine ⟨h.1, ?_⟩
  rcases h.2 with h0 | ⟨g, cap, cur, rfl, hbb, hg, rest⟩
  · exact .inl h0
  · exact .inr ⟨g, cap, cur, rfl, hbb, (hk.block g (hl g rfl).2 (hS g rfl)).trans hg, rest⟩
theorem OwnT.below {w w' : World} {base : Nat} {v : Value} {L : List Value} (h : OwnT w base v L) (hb : Below w.heap.size w w') : OwnT w' base v L := ownsRow_kept' h hb
theorem OwnT.cell {w : World} {base : Nat} {A : Option Addr} {n c : Nat} {L : List Value} (h : OwnT w base (.slice A n c) L) {k : Nat} {x : Value} (hx : L[k]? = some x) : ∃ g, A = some ⟨g, 0, none⟩ ∧ g < w.heap.size ∧ w.cell? ⟨g, k, none⟩ = some x := by
  have hlt := World.ownsRow.lt h
  have hk := (List.getElem?_eq_some_iff.1 hx).1
  unfold OwnT at h
  have h0 := h
  rcases h0.2 with ⟨h1, h2⟩ | ⟨g, cap, cur, h1, hb, hg, _⟩
  · omega
  · simp only [Value.slice.injEq] at h1
    obtain ⟨rfl, hn, rfl⟩ := h1
    subst hn
    exact ⟨g, rfl, (hlt g rfl).2, by rw [h.cellAt k (by omega), hx]⟩
end Go.Proofs.Ythieonekjmdelaa
