/- What the law of CustodyPrefix needs. Conditions: the texts lie in memory. -/
import Derived.Test.YthieonekjmdelaaJRoom
namespace Go.Proofs.Ythieonekjmdelaa
open Go.RowKit

/-- The cost of texts, as the law counts it. -/
def totB : List ByteArray → Nat
  | [] => 0
  | s :: l => 32 + s.size + totB l
theorem totB_append (a b : List ByteArray) : totB (a ++ b) = totB a + totB b := by
  induction a with
  | nil => simp [totB]
  | cons s a ih => simp only [List.cons_append, totB, ih]; omega
theorem totB_take (l : List ByteArray) {k : Nat} {s : ByteArray} (h : l[k]? = some s) : totB (l.take (k + 1)) = totB (l.take k) + (32 + s.size) := by
  rw [List.take_add_one, h, totB_append]
  simp [totB]
theorem totB_le (l : List ByteArray) (k : Nat) : totB (l.take k) ≤ totB l := by
  conv => rhs; rw [← List.take_append_drop k l, totB_append]
  omega
theorem used_le (l : List ByteArray) : 63 * (encsOf (l.map bsOf)).length ≤ totB l + 32 * l.length := by
  induction l with
  | nil => simp [encsOf]
  | cons s l ih =>
    have h1 : encsOf ((s :: l).map bsOf) = encB (bsOf s) ++ encsOf (l.map bsOf) := List.flatMap_cons
    have h2 : 63 * nbOf s.size ≤ s.size + 64 := by unfold nbOf; omega
    rw [h1, List.length_append, encB_len, bsOf_len, totB, List.length_cons]
    omega
theorem totB_bound (l : List ByteArray) (h : ∀ s ∈ l, s.size ≤ 60000) : totB l ≤ 60032 * l.length := by
  induction l with
  | nil => simp [totB]
  | cons s l ih =>
    have := h s (List.mem_cons_self ..)
    have := ih (fun x hx => h x (List.mem_cons_of_mem _ hx))
    rw [totB, List.length_cons]
    omega
/-- The journal of the first k texts; or its disk went down when the next one was appended. -/
def PrefAt (M : Nat → Prop) (w : World) (jb p : Nat) (l : List ByteArray) (k : Nat) : Prop :=
  k ≤ l.length ∧ ((∃ st, JLive M w jb p 8000 ((l.take k).map bsOf) st) ∨ ∃ s, l[k]? = some s ∧ JDead M w jb p 8000 ((l.take k).map bsOf) (some (bsOf s)))
/-- The numbers of a slice. -/
def NumsAt (w : World) (A : Option Addr) (l : List Int) : Prop := 0 < l.length → ∃ g o, A = some ⟨g, o, none⟩ ∧ (∀ i x, l[i]? = some x → w.cell? ⟨g, o + i, none⟩ = some (.int .i64 x)) ∧ g < w.heap.size
theorem NumsAt.keepJ {w w' : World} {A : Option Addr} {l : List Int} {M : Nat → Prop} (h : NumsAt w A l) (hb : Below w.heap.size w w') (hM : ∀ i, M i → w.heap.size ≤ i) : KeepJ w' M A l := fun h0 => by
  obtain ⟨g, o, h1, h2, h3⟩ := h h0
  exact ⟨g, o, h1, fun i x hx => (hb.cell (p := ⟨g, o + i, none⟩) h3).trans (h2 i x hx), fun e => by have := hM g e; omega⟩
theorem take_snoc_map (l : List ByteArray) {k : Nat} {s : ByteArray} (h : l[k]? = some s) : (l.take (k + 1)).map bsOf = (l.take k).map bsOf ++ [bsOf s] := by
  rw [List.take_add_one, h]
  simp
theorem crash_pref {M : Nat → Prop} {w : World} {jb p k : Nat} {l : List ByteArray} (h : PrefAt M w jb p l k) (KA : Option Addr) (kc : Nat) (K : List Int) (hKl : K.length ≤ 9223372036854775807) (hKi : ∀ x ∈ K, -9223372036854775808 ≤ x ∧ x ≤ 9223372036854775807) (hK : KeepJ w M KA K) :
    Calls Try.prog 15 #[.pointer (some ⟨p, 0, none⟩), .slice KA K.length kc] w fun e w' => (∃ v, e = .returned v) ∧ (∃ m, k ≤ m ∧ m ≤ k + 1 ∧ m ≤ l.length ∧ DLive M w' p 8000 ((l.take m).map bsOf) false) ∧ Grow M w M w' := by
  obtain ⟨hk, ⟨st, hJ⟩ | ⟨s, hs, hJ⟩⟩ := h
  · refine (crash_dlive hJ.disk KA kc K hKl hKi hK).mono ?_
    rintro e w' ⟨he, hD, hG⟩
    exact ⟨he, ⟨k, Nat.le_refl _, by omega, hk, hD⟩, hG⟩
  · refine (crash_dead hJ KA kc K hKl hKi hK).mono ?_
    rintro e w' ⟨he, hD, hG⟩
    have hlt := (List.getElem?_eq_some_iff.1 hs).1
    rcases hD with hD | ⟨r, hr, hD⟩
    · exact ⟨he, ⟨k, Nat.le_refl _, by omega, hk, hD⟩, hG⟩
    · cases hr
      exact ⟨he, ⟨k + 1, by omega, by omega, hlt, by rw [take_snoc_map l hs]; exact hD⟩, hG⟩
/-- What the law has between two rounds of its second loop. -/
structure PrefSt (w0 w : World) (jb p : Nat) (l : List ByteArray) (synced : Int) (k safe : Nat) : Prop where
  live : ∃ M st, JLive M w jb p 8000 ((l.take k).map bsOf) st ∧ (∀ i, M i → w0.heap.size ≤ i) ∧ (st = true → synced < k)
  safe : safe ≤ k
  below : Below w0.heap.size w0 w
theorem strV_back (L : List ByteArray) : (L.map bsOf).map sJ = strV L := by
  unfold strV
  rw [List.map_map]
  refine List.map_congr_left (fun x _ => ?_)
  show Value.string (strOfNums (bsOf x)) = _
  rw [str_bsOf]
theorem strV_len (L : List ByteArray) : (strV L).length = L.length := by unfold strV; rw [List.length_map]
theorem strV_all (L : List ByteArray) : AllText (strV L) := fun x hx => by
  unfold strV at hx
  obtain ⟨s, _, rfl⟩ := List.mem_map.1 hx
  exact ⟨s, rfl⟩
/-- The disk's part behind the loop: two crashes, two openings; the texts of both are the first m ones. -/
structure PrefEnd (w0 w : World) (l : List ByteArray) (A2 A3 : Option Addr) (c2 c3 m : Nat) : Prop where
  one : TextsAt w A2 (strV (l.take m))
  two : TextsAt w A3 (strV (l.take m))
  below : Below w0.heap.size w0 w
end Go.Proofs.Ythieonekjmdelaa
