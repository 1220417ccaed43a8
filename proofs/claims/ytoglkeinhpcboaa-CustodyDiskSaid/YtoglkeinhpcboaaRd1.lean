/- The reference's disk in memory; the contracts of padded, call, Stop. Conditions: the disk lies in memory. -/
import Derived.Test.YtoglkeinhpcboaaDk3
import Derived.Laws.BytesArg
namespace Go.Proofs.Ytoglkeinhpcboaa
open Go.RowKit

def sStr (b : List Int) : Value := .string (strOfNums b)
theorem str_size (b : List Int) : (strOfNums b).size = b.length := by simp [strOfNums, ByteArray.size]
theorem str_append (a b : List Int) : strOfNums a ++ strOfNums b = strOfNums (a ++ b) := by
  apply ByteArray.ext
  simp [strOfNums]
def cellsQ (x : Nat × List Int) : List Value := [.int .i64 x.1, sStr x.2]
/-- The reference's disk behind p: its sectors behind vD, its pending writes behind vQ. -/
structure RefAt (w : World) (p : Nat) (vD vQ : Value) (D : List (List Int)) (Q : List (Nat × List Int)) (L : Int) (dn : Bool) : Prop where
  blk : Blk w p 40 #[vD, vQ, .int .i64 L, .bool dn]
  dur : w.ownsRow 0 9 1 vD D.length (D.map sStr)
  pend : w.ownsRow 0 70 2 vQ Q.length (Q.flatMap cellsQ)
  all : ∀ s ∈ D, s.length = 64
  size : ∀ x ∈ Q, x.1 < D.length ∧ x.2.length = 64
  ne1 : vD.ownBlock ≠ some p
  ne2 : vQ.ownBlock ≠ some p
  ne3 : ∀ i, vD.ownBlock = some i → vQ.ownBlock ≠ some i
def ownR (p : Nat) (vD vQ : Value) (i : Nat) : Prop := i = p ∨ vD.ownBlock = some i ∨ vQ.ownBlock = some i
theorem ownsRow_kept {S : Nat → Prop} {w w' : World} {e : TypeId} {sz n : Nat} {v : Value} {xs : List Value} (h : w.ownsRow 0 e sz v n xs) (hk : Keeps S w w') (hS : ∀ i, v.ownBlock = some i → ¬ S i) : w'.ownsRow 0 e sz v n xs := by
  have hl := World.ownsRow.lt h
  refine ⟨h.1, ?_⟩
  rcases h.2 with h0 | ⟨g, cap, cur, rfl, hb, hg, rest⟩
  · exact .inl h0
  · exact .inr ⟨g, cap, cur, rfl, hb, (hk.block g (hl g rfl).2 (hS g rfl)).trans hg, rest⟩
theorem RefAt.keep {S : Nat → Prop} {w w' : World} {p : Nat} {vD vQ : Value} {D : List (List Int)} {Q : List (Nat × List Int)} {L : Int} {dn : Bool} (h : RefAt w p vD vQ D Q L dn) (hk : Keeps S w w') (hS : ∀ i, ownR p vD vQ i → ¬ S i) : RefAt w' p vD vQ D Q L dn := by
  obtain ⟨h1, h2, h3, h4, h5, h6, h7, h8⟩ := h
  exact ⟨h1.keep hk (hS _ (.inl rfl)), ownsRow_kept h2 hk (fun i e => hS i (.inr (.inl e))), ownsRow_kept h3 hk (fun i e => hS i (.inr (.inr e))), h4, h5, h6, h7, h8⟩
theorem RefAt.below {w w' : World} {p : Nat} {vD vQ : Value} {D : List (List Int)} {Q : List (Nat × List Int)} {L : Int} {dn : Bool} (h : RefAt w p vD vQ D Q L dn) (hb : Below w.heap.size w w') : RefAt w' p vD vQ D Q L dn :=
  h.keep (S := fun _ => False) (Keeps.of_new hb) (fun _ _ h => h)
/-- One cell of the disk's own block is written. -/
theorem RefAt.put {w : World} {p : Nat} {vD vQ : Value} {D : List (List Int)} {Q : List (Nat × List Int)} {L L' : Int} {dn dn' : Bool} (h : RefAt w p vD vQ D Q L dn) (i : Nat) (u : Value)
    (hc : (#[vD, vQ, .int .i64 L, .bool dn] : Array Value).setIfInBounds i u = #[vD, vQ, .int .i64 L', .bool dn']) : RefAt (w.setCell ⟨p, i, none⟩ u) p vD vQ D Q L' dn' := by
  have hk : Keeps (fun k => k = p) w (w.setCell ⟨p, i, none⟩ u) := (Keeps.refl (fun k => k = p) w).setCell (p := ⟨p, i, none⟩) (fun _ => rfl) u
  refine ⟨?_, ownsRow_kept h.dur hk (fun j e e' => h.ne1 (by rw [e, e'])), ownsRow_kept h.pend hk (fun j e e' => h.ne2 (by rw [e, e'])), h.all, h.size, h.ne1, h.ne2, h.ne3⟩
  have := h.blk.set i u
  rwa [hc] at this
theorem RefAt.flushed {w : World} {p : Nat} {vD vQ : Value} {D : List (List Int)} {Q : List (Nat × List Int)} {L : Int} {dn : Bool} (h : RefAt w p vD vQ D Q L dn) : RefAt (w.setCell ⟨p, 1, none⟩ (.slice none 0 0)) p vD (.slice none 0 0) D [] L dn := by
  have hk : Keeps (fun k => k = p) w (w.setCell ⟨p, 1, none⟩ (.slice none 0 0)) := (Keeps.refl (fun k => k = p) w).setCell (p := ⟨p, 1, none⟩) (fun _ => rfl) _
  exact ⟨h.blk.set 1 (.slice none 0 0), ownsRow_kept h.dur hk (fun j e e' => h.ne1 (by rw [e, e'])), World.ownsRow_nil _ _ _ _, h.all, fun x hx => by simp at hx, h.ne1, by simp [Value.ownBlock], fun i _ => by simp [Value.ownBlock]⟩

set_option maxHeartbeats 1000000 in
theorem padded_any (b : List Int) (hb : b.length ≤ 64) (w : World) : Calls Try.prog 28 #[sStr b] w fun e w' => e = .returned (sStr (padB b)) ∧ w = w' := by
  unfold sStr
  go_enter Try.func28, Try.ntmps28
  go_wp2_with fail
  go_loopw [0] (fun s wr => ∃ k : Nat, b.length + k ≤ 64 ∧ s = .string (strOfNums (b ++ List.replicate k 0)) ∧ wr = w) (fun s _ => 64 - (match s with | .string x => x.size | _ => 0))
  case atStart => exact ⟨0, by omega, by simp, rfl⟩
  case round =>
    obtain ⟨k, hk, rfl, rfl⟩ := hrel
    have hsz : (strOfNums (b ++ List.replicate k 0)).size = b.length + k := by rw [str_size]; simp
    have hap : strOfNums (b ++ List.replicate k 0) ++ ⟨#[0]⟩ = strOfNums (b ++ List.replicate (k + 1) 0) := by
      rw [show (⟨#[0]⟩ : ByteArray) = strOfNums [0] from by kernel_rfl, str_append, List.append_assoc, List.replicate_succ']
    by_cases hlt : b.length + k < 64
    · have hli : (b.length : Int) + (k : Int) < 64 := by omega
      have HAP := Lib.hid hap
      generalize strOfNums (b ++ List.replicate k 0) = x at hsz HAP
      clear hap
      go_wp2_with fail
      refine ⟨⟨k + 1, by omega, by rw [HAP.out], trivial⟩, ?_⟩
      have h1 : (⟨#[0]⟩ : ByteArray).size = 1 := rfl
      simp only [ByteArray.size_append, hsz, h1]
      omega
    · have hke : k = 64 - b.length := by omega
      have hli : ¬ (b.length : Int) + (k : Int) < 64 := by omega
      have HP : Hid (strOfNums (b ++ List.replicate k 0) = strOfNums (padB b)) := Lib.hid (by rw [hke]; rfl)
      clear hap hke
      generalize strOfNums (b ++ List.replicate k 0) = x at hsz HP
      go_wp2_with fail
      go_ret
      exact ⟨by rw [HP.out]; rfl, rfl⟩

section
variable {w : World} {p : Nat} {vD vQ : Value} {D : List (List Int)} {Q : List (Nat × List Int)} {L : Int} {dn : Bool}
/-- What a call leaves of the count. -/
def leftOf (L : Int) : Int := if 0 < L then L - 1 else L
theorem call_ok (h : RefAt w p vD vQ D Q L dn) (h0 : L ≠ 0) (hL : -1 ≤ L ∧ L ≤ 9223372036854775807) :
    Calls Try.prog 29 #[.pointer (some ⟨p, 0, none⟩)] w fun e w' => e = .returned (.bool true) ∧ RefAt w' p vD vQ D Q (leftOf L) dn ∧ Keeps (fun i => i = p) w w' := by
  have c2 := h.blk.cell 2
  have f2 := h.blk.frozen 2
  have zp := h.blk.lt
  simp at c2
  have e0 : (L == 0) = false := by simpa using h0
  by_cases hp : 0 < L
  · have HD : Hid (RefAt (w.setCell ⟨p, 2, none⟩ (.int .i64 (L - 1))) p vD vQ D Q (leftOf L) dn) := Lib.hid (h.put 2 _ (by unfold leftOf; rw [if_pos hp]; rfl))
    clear h
    go_enter Try.func29, Try.ntmps29
    go_wp2_with fail
    go_ret
    exact ⟨rfl, HD.out, (Keeps.refl (fun k => k = p) _).setCell (p := ⟨p, 2, none⟩) (fun _ => rfl) _⟩
  · have HD : Hid (RefAt w p vD vQ D Q (leftOf L) dn) := Lib.hid (by unfold leftOf; rw [if_neg hp]; exact h)
    clear h
    go_enter Try.func29, Try.ntmps29
    go_wp2_with fail
    go_ret
    exact ⟨rfl, HD.out, Keeps.refl _ _⟩
theorem call_stop (h : RefAt w p vD vQ D Q 0 dn) :
    Calls Try.prog 29 #[.pointer (some ⟨p, 0, none⟩)] w fun e w' => e = .returned (.bool false) ∧ RefAt w' p vD vQ D Q 0 true ∧ Keeps (fun i => i = p) w w' := by
  have c2 := h.blk.cell 2
  have c3 := h.blk.cell 3
  have f3 := h.blk.frozen 3
  have zp := h.blk.lt
  simp at c2 c3
  have HD : Hid (RefAt (w.setCell ⟨p, 3, none⟩ (.bool true)) p vD vQ D Q 0 true) := Lib.hid (h.put 3 _ rfl)
  clear h
  go_enter Try.func29, Try.ntmps29
  go_wp2_with fail
  go_ret
  exact ⟨rfl, HD.out, (Keeps.refl (fun k => k = p) _).setCell (p := ⟨p, 3, none⟩) (fun _ => rfl) _⟩
theorem rstop_down (h : RefAt w p vD vQ D Q L true) (n : Int) :
    Calls Try.prog 21 #[.pointer (some ⟨p, 0, none⟩), .int .i64 n] w fun e w' => e = .returned (.int .i64 70) ∧ w = w' := by
  have c3 := h.blk.cell 3
  have zp := h.blk.lt
  simp at c3
  clear h
  go_enter Try.func21, Try.ntmps21
  go_wp2_with fail
  go_ret
  exact ⟨rfl, rfl⟩
theorem rstop_neg (h : RefAt w p vD vQ D Q L false) (n : Int) (hn : n < 0) :
    Calls Try.prog 21 #[.pointer (some ⟨p, 0, none⟩), .int .i64 n] w fun e w' => e = .returned (.int .i64 1) ∧ w = w' := by
  have c3 := h.blk.cell 3
  have zp := h.blk.lt
  simp at c3
  clear h
  go_enter Try.func21, Try.ntmps21
  go_wp2_with fail
  go_ret
  exact ⟨rfl, rfl⟩
theorem rstop_ok (h : RefAt w p vD vQ D Q L false) (n : Int) (hn : 0 ≤ n) :
    Calls Try.prog 21 #[.pointer (some ⟨p, 0, none⟩), .int .i64 n] w fun e w' => e = .returned (.int .i64 0) ∧ RefAt w' p vD vQ D Q n false ∧ Keeps (fun i => i = p) w w' := by
  have c2 := h.blk.cell 2
  have c3 := h.blk.cell 3
  have f2 := h.blk.frozen 2
  have zp := h.blk.lt
  have hn' : ¬ n < 0 := by omega
  simp at c2 c3
  have HD : Hid (RefAt (w.setCell ⟨p, 2, none⟩ (.int .i64 n)) p vD vQ D Q n false) := Lib.hid (h.put 2 _ rfl)
  clear h
  go_enter Try.func21, Try.ntmps21
  go_wp2_with fail
  go_ret
  exact ⟨rfl, HD.out, (Keeps.refl (fun k => k = p) _).setCell (p := ⟨p, 2, none⟩) (fun _ => rfl) _⟩
end
end Go.Proofs.Ytoglkeinhpcboaa
