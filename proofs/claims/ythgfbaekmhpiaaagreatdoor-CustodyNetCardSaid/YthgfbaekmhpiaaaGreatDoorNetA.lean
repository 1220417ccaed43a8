/- Words for networks in memory; the contracts of line and Waiting. Conditions: the network lies in memory. The contracts of a network's Send and Waiting. Conditions: the network lies in memory. The contract of slices.Delete, of one text of a slice. Conditions: the slice lies in memory. -/
import Derived.Test.YthgfbaekmhpiaaaGreatDoorJouC
import Derived.Test.YthgfbaekmhpiaaaGreatDoorTokA
import Derived.Deep.RegionLaw
import Derived.Lib.SliceRun
namespace Go.Proofs.YthgfbaekmhpiaaaGreatDoor
open Go.RowKit

/-- Whether there is a line between two offices. -/
def onL (o f t : Int) : Bool := decide (f ≠ t) && decide (0 ≤ f) && decide (0 ≤ t) && decide (f < o) && decide (t < o)
theorem onL_nat {o f t : Int} (h : onL o f t = true) (ho : o ≤ 8) : ∃ a b : Nat, f = (a : Int) ∧ t = (b : Int) ∧ a < 8 ∧ b < 8 ∧ a ≠ b ∧ (a : Int) < o ∧ (b : Int) < o := by
  unfold onL at h
  simp only [Bool.and_eq_true, decide_eq_true_eq] at h
  exact ⟨f.toNat, t.toNat, by omega, by omega, by omega, by omega, by omega, by omega, by omega⟩
/-- Where a line lies. -/
def lineP (o f t : Int) (p : Nat) : Option Addr := if onL o f t = true then some ⟨p, 1 + f.toNat * 8 + t.toNat, none⟩ else none
theorem lineP_yes {o f t : Int} (h : onL o f t = true) (p : Nat) : lineP o f t p = some ⟨p, 1 + f.toNat * 8 + t.toNat, none⟩ := by unfold lineP; rw [if_pos h]
theorem lineP_no {o f t : Int} (h : onL o f t = false) (p : Nat) : lineP o f t p = none := by unfold lineP; rw [if_neg (by rw [h]; decide)]
/-- The blocks of a network. -/
def ownN (p : Nat) (vs : List Value) (i : Nat) : Prop := i = p ∨ ∃ (k : Nat) (v : Value), vs[k]? = some v ∧ v.ownBlock = some i
/-- A network in memory: its block p, of type T, its lines' slices vs, their messages ls. -/
structure NetAt (T : TypeId) (w : World) (base p : Nat) (o : Int) (vs : List Value) (ls : List (List ByteArray)) : Prop where
  blk : Blk w p T (Value.int .i64 o :: vs).toArray
  len : vs.length = 64
  lln : ls.length = 64
  row : ∀ (k : Nat) (v : Value) (l : List ByteArray), vs[k]? = some v → ls[k]? = some l → OwnT w base v (l.map Value.string) ∧ (∃ A c, v = .slice A l.length c) ∧ l.length ≤ 100
  own : ∀ (j k : Nat) (v u : Value) (i : Nat), vs[j]? = some v → vs[k]? = some u → v.ownBlock = some i → u.ownBlock = some i → j = k
  off : 1 ≤ o ∧ o ≤ 8
  ty : T ≠ 9
section
variable {T : TypeId} {w w' : World} {base p : Nat} {o : Int} {vs : List Value} {ls : List (List ByteArray)}
theorem NetAt.at (h : NetAt T w base p o vs ls) {k : Nat} (hk : k < 64) : ∃ A c l, vs[k]? = some (.slice A l.length c) ∧ ls[k]? = some l ∧ OwnT w base (.slice A l.length c) (l.map Value.string) ∧ l.length ≤ 100 := by
  obtain ⟨v, hv⟩ : ∃ v, vs[k]? = some v := ⟨_, List.getElem?_eq_getElem (by rw [h.len]; exact hk)⟩
  obtain ⟨l, hl⟩ : ∃ l, ls[k]? = some l := ⟨_, List.getElem?_eq_getElem (by rw [h.lln]; exact hk)⟩
  obtain ⟨h1, ⟨A, c, rfl⟩, h3⟩ := h.row k v l hv hl
  exact ⟨A, c, l, hv, hl, h1, h3⟩
theorem NetAt.cell (h : NetAt T w base p o vs ls) {k : Nat} {v : Value} (hv : vs[k]? = some v) : w.cell? ⟨p, k + 1, none⟩ = some v := by
  rw [h.blk.cell]
  simpa using hv
theorem NetAt.cellL (h : NetAt T w base p o vs ls) {a b : Nat} {v : Value} (hv : vs[a * 8 + b]? = some v) : w.cell? ⟨p, 1 + a * 8 + b, none⟩ = some v := by
  rw [show 1 + a * 8 + b = a * 8 + b + 1 by omega]
  exact h.cell hv
theorem NetAt.cell0 (h : NetAt T w base p o vs ls) : w.cell? ⟨p, 0, none⟩ = some (.int .i64 o) := by
  rw [h.blk.cell]
  rfl
theorem NetAt.keep {S : Nat → Prop} (h : NetAt T w base p o vs ls) (hk : Keeps S w w') (hS : ∀ i, ownN p vs i → ¬ S i) : NetAt T w' base p o vs ls :=
  ⟨h.blk.keep hk (hS p (.inl rfl)), h.len, h.lln, fun k v l hv hl => by
    obtain ⟨h1, h2, h3⟩ := h.row k v l hv hl
    exact ⟨h1.keep hk (fun i hi => hS i (.inr ⟨k, v, hv, hi⟩)), h2, h3⟩, h.own, h.off, h.ty⟩
theorem NetAt.below (h : NetAt T w base p o vs ls) (hb : Below w.heap.size w w') : NetAt T w' base p o vs ls :=
  h.keep (Keeps.of_new (S := fun _ => False) hb) (fun _ _ e => e)
theorem NetAt.lt (h : NetAt T w base p o vs ls) {i : Nat} (hi : ownN p vs i) : i < w.heap.size := by
  rcases hi with rfl | ⟨k, v, hv, hb⟩
  · exact h.blk.lt
  · obtain ⟨l, hl⟩ : ∃ l, ls[k]? = some l := ⟨_, List.getElem?_eq_getElem (by have := (List.getElem?_eq_some_iff.1 hv).1; rw [h.lln, ← h.len]; exact this)⟩
    exact (World.ownsRow.lt (h.row k v l hv hl).1 i hb).2
theorem NetAt.ne (h : NetAt T w base p o vs ls) {k i : Nat} {v : Value} (hv : vs[k]? = some v) (hb : v.ownBlock = some i) : i ≠ p := by
  obtain ⟨l, hl⟩ : ∃ l, ls[k]? = some l := ⟨_, List.getElem?_eq_getElem (by have := (List.getElem?_eq_some_iff.1 hv).1; rw [h.lln, ← h.len]; exact this)⟩
  rintro rfl
  have hr := (h.row k v l hv hl).1
  have hl2 := World.ownsRow.lt hr i hb
  rcases hr.2 with ⟨h1, _⟩ | ⟨g, cap, cur, h1, _, h3, _⟩
  · rw [h1] at hb; simp [Value.ownBlock] at hb
  · rw [h1] at hb
    simp [Value.ownBlock] at hb
    subst hb
    have h4 := h.blk
    unfold Blk at h4
    rw [h3] at h4
    simp at h4
    exact h.ty h4.2.symm
/-- A line is replaced: its slice, of new messages, is stored. -/
theorem NetAt.put (h : NetAt T w base p o vs ls) {k : Nat} {v v' : Value} {l' : List ByteArray} (hv : vs[k]? = some v) (hk : Keeps (fun i => v.ownBlock = some i) w w') (hO : OwnT w' base v' (l'.map Value.string)) (hf : ∃ A c, v' = .slice A l'.length c) (hl : l'.length ≤ 100) (hn : ∀ i, v'.ownBlock = some i → v.ownBlock = some i ∨ w.heap.size ≤ i) {q : Nat} (hq : q = k + 1) :
    NetAt T (w'.setCell ⟨p, q, none⟩ v') base p o (vs.set k v') (ls.set k l') ∧ (∀ i, ownN p (vs.set k v') i → ownN p vs i ∨ w.heap.size ≤ i) ∧ Keeps (ownN p vs) w (w'.setCell ⟨p, q, none⟩ v') := by
  subst hq
  have hkl : k < 64 := by have := (List.getElem?_eq_some_iff.1 hv).1; rw [h.len] at this; exact this
  have hne : ∀ i, v.ownBlock = some i → i ≠ p := fun i hi => h.ne hv hi
  have hB := (h.blk.keep hk (fun e => hne p e rfl)).set (k + 1) v'
  have hne' : ∀ i, v'.ownBlock = some i → i ≠ p := fun i hi => by
    rcases hn i hi with e | e
    · exact hne i e
    · have := h.blk.lt; omega
  have hks : Keeps (fun i => i = p) w' (w'.setCell ⟨p, k + 1, none⟩ v') := (Keeps.refl (fun i => i = p) w').setCell (p := ⟨p, k + 1, none⟩) (fun _ => rfl) _
  refine ⟨⟨by simpa using hB, by rw [List.length_set, h.len], by rw [List.length_set, h.lln], fun j u l hu hl2 => ?_, fun i j u x b hu hx h1 h2 => ?_, h.off, h.ty⟩, fun i hi => ?_, ?_⟩
  · by_cases hj : k = j
    · subst hj
      rw [List.getElem?_set_self (by rw [h.len]; exact hkl)] at hu
      rw [List.getElem?_set_self (by rw [h.lln]; exact hkl)] at hl2
      cases hu
      cases hl2
      exact ⟨hO.keep hks hne', hf, hl⟩
    · rw [List.getElem?_set_ne hj] at hu hl2
      obtain ⟨h1, h2, h3⟩ := h.row j u l hu hl2
      have h4 : OwnT w' base u (l.map Value.string) := h1.keep hk (fun i hi e => hj (h.own k j v u i hv hu e hi))
      exact ⟨h4.keep hks (fun i hi => h.ne hu hi), h2, h3⟩
  · have hvs : ∀ j u, j ≠ k → vs[j]? = some u → u.ownBlock = some b → v'.ownBlock = some b → False := fun j u hj hu e1 e2 => by
      rcases hn b e2 with e | e
      · exact hj (h.own j k u v b hu hv e1 e)
      · have := h.lt (.inr ⟨j, u, hu, e1⟩); omega
    by_cases hi : k = i
    · by_cases hj : k = j
      · omega
      · subst hi
        rw [List.getElem?_set_self (by rw [h.len]; exact hkl)] at hu
        rw [List.getElem?_set_ne hj] at hx
        cases hu
        exact (hvs j x (fun e => hj e.symm) hx h2 h1).elim
    · by_cases hj : k = j
      · subst hj
        rw [List.getElem?_set_ne hi] at hu
        rw [List.getElem?_set_self (by rw [h.len]; exact hkl)] at hx
        cases hx
        exact (hvs i u (fun e => hi e.symm) hu h1 h2).elim
      · rw [List.getElem?_set_ne hi] at hu
        rw [List.getElem?_set_ne hj] at hx
        exact h.own i j u x b hu hx h1 h2
  · rcases hi with rfl | ⟨j, u, hu, hb⟩
    · exact .inl (.inl rfl)
    · by_cases hj : k = j
      · subst hj
        rw [List.getElem?_set_self (by rw [h.len]; exact hkl)] at hu
        cases hu
        rcases hn i hb with e | e
        · exact .inl (.inr ⟨k, v, hv, e⟩)
        · exact .inr e
      · rw [List.getElem?_set_ne hj] at hu
        exact .inl (.inr ⟨j, u, hu, hb⟩)
  · exact (hk.mono (fun i _ e => .inr ⟨k, v, hv, e⟩)).trans hks (fun i _ e => .inl e)
end
set_option maxRecDepth 100000 in
set_option maxHeartbeats 1000000 in
theorem nline_any {w : World} {base p : Nat} {o : Int} {vs : List Value} {ls : List (List ByteArray)} (h : NetAt 92 w base p o vs ls) (f t : Int) :
    Calls Tryz.prog 50 #[.pointer (some ⟨p, 0, none⟩), .int .i64 f, .int .i64 t] w fun e w' => e = .returned (.pointer (lineP o f t p)) ∧ w = w' := by
  have c0 := h.cell0
  have zp := h.blk.lt
  have ho := h.off
  have HWf := Lib.hid (fun W => within3_any f 0 (o - 1) W)
  have HWt := Lib.hid (fun W => within3_any t 0 (o - 1) W)
  have hsub : IntKind.i64.wrap (o - 1) = o - 1 := wrap_id _ (by omega) (by omega)
  have HB := Lib.hid h.blk
  clear h
  by_cases hft : f = t
  · have HL : Hid (onL o f t = false) := Lib.hid (by unfold onL; rw [decide_eq_false (fun h => h hft)]; rfl)
    rw [lineP_no HL.out]
    go_enter Tryz.func50, Tryz.ntmps50
    go_wp2_with fail
    go_ret
    exact ⟨rfl, rfl⟩
  by_cases hf : inB f 0 (o - 1) = true
  rotate_left
  · have hf' : inB f 0 (o - 1) = false := by simpa using hf
    have HL : Hid (onL o f t = false) := Lib.hid (by
      unfold onL
      unfold inB at hf'
      rcases Bool.and_eq_false_iff.1 hf' with e | e
      · rw [e]; simp
      · have h2 : decide (f < o) = false := decide_eq_false (fun h => by have := of_decide_eq_false e; omega)
        rw [h2]; simp)
    rw [lineP_no HL.out]
    rw [hf'] at HWf
    clear hf hf'
    go_enter Tryz.func50, Tryz.ntmps50
    go_wp2_with fail
    refine (HWf.out _).mono ?_
    rintro e w1 ⟨rfl, rfl⟩
    go_wp2_with fail
    go_ret
    exact ⟨rfl, rfl⟩
  rw [hf] at HWf
  by_cases ht : inB t 0 (o - 1) = true
  rotate_left
  · have ht' : inB t 0 (o - 1) = false := by simpa using ht
    have HL : Hid (onL o f t = false) := Lib.hid (by
      unfold onL
      unfold inB at ht'
      rcases Bool.and_eq_false_iff.1 ht' with e | e
      · rw [e]; simp
      · have h2 : decide (t < o) = false := decide_eq_false (fun h => by have := of_decide_eq_false e; omega)
        rw [h2]; simp)
    rw [lineP_no HL.out]
    rw [ht'] at HWt
    clear hf ht ht'
    go_enter Tryz.func50, Tryz.ntmps50
    go_wp2_with fail
    refine (HWf.out _).mono ?_
    rintro e w1 ⟨rfl, rfl⟩
    go_wp2_with fail
    refine (HWt.out _).mono ?_
    rintro e w1 ⟨rfl, rfl⟩
    go_wp2_with fail
    go_ret
    exact ⟨rfl, rfl⟩
  rw [ht] at HWt
  unfold inB at hf ht
  simp only [Bool.and_eq_true, decide_eq_true_eq] at hf ht
  have HL : Hid (onL o f t = true) := Lib.hid (by
    unfold onL
    simp only [Bool.and_eq_true, decide_eq_true_eq]
    omega)
  rw [lineP_yes HL.out]
  obtain ⟨a, rfl⟩ : ∃ a : Nat, f = (a : Int) := ⟨f.toNat, by omega⟩
  obtain ⟨b, rfl⟩ : ∃ b : Nat, t = (b : Int) := ⟨t.toNat, by omega⟩
  have ha : (a : Int) < 8 := by omega
  have hb : (b : Int) < 8 := by omega
  have HF := Lib.hid hft
  clear hf ht
  go_enter Tryz.func50, Tryz.ntmps50
  go_wp2_with fail
  refine (HWf.out _).mono ?_
  rintro e w1 ⟨rfl, rfl⟩
  go_wp2_with fail
  refine (HWt.out _).mono ?_
  rintro e w1 ⟨rfl, rfl⟩
  go_wp2_with fail
  go_ret
  exact ⟨rfl, rfl⟩
end Go.Proofs.YthgfbaekmhpiaaaGreatDoor
namespace Go.Proofs.YthgfbaekmhpiaaaGreatDoor
open Go.RowKit

/-- The messages on a line. -/
def lineL_ (ls : List (List ByteArray)) (f t : Int) : List ByteArray := ls.getD (f.toNat * 8 + t.toNat) []
/-- What Send returns, and the lines behind it. -/
def sendR (o : Int) (ls : List (List ByteArray)) (f t : Int) (m : ByteArray) : Int :=
  if onL o f t = false then 1 else if 60000 < m.size then 2 else if 100 ≤ (lineL_ ls f t).length then 72 else 0
def sendL (o : Int) (ls : List (List ByteArray)) (f t : Int) (m : ByteArray) : List (List ByteArray) :=
  if sendR o ls f t m = 0 then ls.set (f.toNat * 8 + t.toNat) (lineL_ ls f t ++ [m]) else ls
/-- A network that an operation has left: its own blocks are old ones of it or new, all else is kept. -/
def NetTo (T : TypeId) (w : World) (base p : Nat) (o : Int) (vs : List Value) (ls' : List (List ByteArray)) (w' : World) : Prop :=
  ∃ vs', NetAt T w' base p o vs' ls' ∧ (∀ i, ownN p vs' i → ownN p vs i ∨ w.heap.size ≤ i) ∧ Keeps (ownN p vs) w w'
theorem NetTo.same {T : TypeId} {w : World} {base p : Nat} {o : Int} {vs : List Value} {ls : List (List ByteArray)} (h : NetAt T w base p o vs ls) : NetTo T w base p o vs ls w := ⟨vs, h, fun i hi => .inl hi, Keeps.refl _ _⟩
theorem NetTo.below {T : TypeId} {w w' : World} {base p : Nat} {o : Int} {vs : List Value} {ls : List (List ByteArray)} (h : NetAt T w base p o vs ls) (hb : Below w.heap.size w w') : NetTo T w base p o vs ls w' := ⟨vs, h.below hb, fun i hi => .inl hi, Keeps.of_new hb⟩
theorem lineL_of {ls : List (List ByteArray)} {a b : Nat} {l : List ByteArray} (h : ls[a * 8 + b]? = some l) : lineL_ ls (a : Int) (b : Int) = l := by
  unfold lineL_
  rw [Int.toNat_natCast, Int.toNat_natCast, List.getD_eq_getElem?_getD, h]
  rfl
set_option maxRecDepth 100000 in
set_option maxHeartbeats 2000000 in
theorem nsend_any {w : World} {base p : Nat} {o : Int} {vs : List Value} {ls : List (List ByteArray)} (h : NetAt 92 w base p o vs ls) (hb : base ≤ w.heap.size) (f t : Int) (m : ByteArray) :
    Calls Tryz.prog 10 #[.pointer (some ⟨p, 0, none⟩), .int .i64 f, .int .i64 t, .string m] w fun e w' => e = .returned (.int .i64 (sendR o ls f t m)) ∧ NetTo 92 w base p o vs (sendL o ls f t m) w' := by
  have HN := Lib.hid h
  have HB := Lib.hid hb
  have HL := Lib.hid (nline_any h f t)
  have zp := h.blk.lt
  rcases hlb : onL o f t with _ | _
  · have HR : Hid (sendR o ls f t m = 1 ∧ sendL o ls f t m = ls) := Lib.hid (by
      have h1 : sendR o ls f t m = 1 := by unfold sendR; rw [if_pos hlb]
      exact ⟨h1, by unfold sendL; rw [h1, if_neg (by decide)]⟩)
    rw [HR.out.1, HR.out.2]
    rw [lineP_no hlb] at HL
    clear h hb hlb
    go_enter Tryz.func10, Tryz.ntmps10
    go_wp2_with fail
    refine HL.out.mono ?_
    rintro e w1 ⟨rfl, rfl⟩
    go_wp2_with fail
    go_ret
    exact ⟨rfl, NetTo.same HN.out⟩
  · rw [lineP_yes hlb] at HL
    obtain ⟨a, b, rfl, rfl, ha, hb8, hne, ha2, hb2⟩ := onL_nat hlb h.off.2
    simp only [Int.toNat_natCast] at HL
    obtain ⟨A, c, l, hv, hl, hO, hl100⟩ := h.at (k := a * 8 + b) (by omega)
    have c1 := h.cellL hv
    by_cases hm : 60000 < m.size
    · have hmi : (60000 : Int) < (m.size : Int) := by omega
      have HR : Hid (sendR o ls (a : Int) (b : Int) m = 2 ∧ sendL o ls (a : Int) (b : Int) m = ls) := Lib.hid (by
        have h1 : sendR o ls (a : Int) (b : Int) m = 2 := by unfold sendR; rw [if_neg (by rw [hlb]; decide), if_pos hm]
        exact ⟨h1, by unfold sendL; rw [h1, if_neg (by decide)]⟩)
      rw [HR.out.1, HR.out.2]
      clear h hb hlb hm hO hv hl hne ha2 hb2
      go_enter Tryz.func10, Tryz.ntmps10
      go_wp2_with fail
      refine HL.out.mono ?_
      rintro e w1 ⟨rfl, rfl⟩
      go_wp2_with fail
      go_ret
      exact ⟨rfl, NetTo.same HN.out⟩
    · have hmi : ¬ (60000 : Int) < (m.size : Int) := by omega
      by_cases hf : 100 ≤ l.length
      · have hfi : (100 : Int) ≤ (l.length : Int) := by omega
        have HR : Hid (sendR o ls (a : Int) (b : Int) m = 72 ∧ sendL o ls (a : Int) (b : Int) m = ls) := Lib.hid (by
          have h1 : sendR o ls (a : Int) (b : Int) m = 72 := by unfold sendR; rw [if_neg (by rw [hlb]; decide), if_neg hm, lineL_of hl, if_pos hf]
          exact ⟨h1, by unfold sendL; rw [h1, if_neg (by decide)]⟩)
        rw [HR.out.1, HR.out.2]
        clear h hb hlb hm hO hv hl hne ha2 hb2 hf
        go_enter Tryz.func10, Tryz.ntmps10
        go_wp2_with fail
        refine HL.out.mono ?_
        rintro e w1 ⟨rfl, rfl⟩
        go_wp2_with fail
        go_ret
        exact ⟨rfl, NetTo.same HN.out⟩
      · have hfi : ¬ (100 : Int) ≤ (l.length : Int) := by omega
        have HR : Hid (sendR o ls (a : Int) (b : Int) m = 0 ∧ sendL o ls (a : Int) (b : Int) m = ls.set (a * 8 + b) (l ++ [m])) := Lib.hid (by
          have h1 : sendR o ls (a : Int) (b : Int) m = 0 := by unfold sendR; rw [if_neg (by rw [hlb]; decide), if_neg hm, lineL_of hl, if_neg hf]
          exact ⟨h1, by unfold sendL; rw [h1, if_pos rfl, lineL_of hl, Int.toNat_natCast, Int.toNat_natCast]⟩)
        rw [HR.out.1, HR.out.2]
        obtain ⟨A', c', w2, hrun, hO2, hK2, hv2⟩ := append_text hO (by rw [List.length_map]; omega) hb m
        rw [List.length_map] at hrun hO2 hv2
        have hp2 : w2.heap[p]? = w.heap[p]? := hK2.block p zp (fun e => h.ne hv e rfl)
        have hf2 : w2.frozen? ⟨p, 1 + a * 8 + b, none⟩ = false := (World.frozen?_of_block hp2).trans (h.blk.frozen _)
        have hc2 : w2.cell? ⟨p, 1 + a * 8 + b, none⟩ = some (.slice A l.length c) := (World.cell?_of_block hp2).trans c1
        have hz2 := Nat.lt_of_lt_of_le zp hK2.size
        have HP := Lib.hid (h.put (l' := l ++ [m]) hv hK2 (by rw [List.map_append]; exact hO2) ⟨A', c', by rw [List.length_append, List.length_singleton]⟩ (by rw [List.length_append, List.length_singleton]; omega) (fun i hi => by
          rcases hv2 with e | e
          · exact .inl (e.trans hi)
          · exact .inr (e i hi)) (q := 1 + a * 8 + b) (by omega))
        clear h hb hlb hm hO hv hl hne ha2 hb2 hf hO2 hK2 hv2 hp2
        go_enter Tryz.func10, Tryz.ntmps10
        go_wp2_with fail
        refine HL.out.mono ?_
        rintro e w1 ⟨rfl, rfl⟩
        go_wp2_with (at_builtin; refine Lib.wpList_append_run _ rfl _ _ _ _ rfl _ _ rfl rfl _ _ hrun ?_)
        go_ret
        exact ⟨rfl, _, HP.out⟩
set_option maxRecDepth 100000 in
set_option maxHeartbeats 1000000 in
theorem nwait_any {w : World} {base p : Nat} {o : Int} {vs : List Value} {ls : List (List ByteArray)} (h : NetAt 92 w base p o vs ls) (f t : Int) :
    Calls Tryz.prog 12 #[.pointer (some ⟨p, 0, none⟩), .int .i64 f, .int .i64 t] w fun e w' => e = .returned (.int .i64 (if onL o f t = true then ((lineL_ ls f t).length : Int) else 0)) ∧ w = w' := by
  have HL := Lib.hid (nline_any h f t)
  have zp := h.blk.lt
  rcases hlb : onL o f t with _ | _
  · rw [lineP_no hlb] at HL
    rw [if_neg (by decide)]
    clear h hlb
    go_enter Tryz.func12, Tryz.ntmps12
    go_wp2_with fail
    refine HL.out.mono ?_
    rintro e w1 ⟨rfl, rfl⟩
    go_wp2_with fail
    go_ret
    exact ⟨rfl, rfl⟩
  · rw [lineP_yes hlb] at HL
    rw [if_pos rfl]
    obtain ⟨a, b, rfl, rfl, ha, hb8, hne, ha2, hb2⟩ := onL_nat hlb h.off.2
    simp only [Int.toNat_natCast] at HL
    obtain ⟨A, c, l, hv, hl, hO, hl100⟩ := h.at (k := a * 8 + b) (by omega)
    have c1 := h.cellL hv
    rw [lineL_of hl]
    clear h hlb hO hv hl hne ha2 hb2
    go_enter Tryz.func12, Tryz.ntmps12
    go_wp2_with fail
    refine HL.out.mono ?_
    rintro e w1 ⟨rfl, rfl⟩
    go_wp2_with fail
    go_ret
    exact ⟨rfl, rfl⟩
end Go.Proofs.YthgfbaekmhpiaaaGreatDoor
namespace Go.Proofs.YthgfbaekmhpiaaaGreatDoor
open Go.RowKit

theorem blk_setCells {t : TypeId} {g : Nat} : ∀ (vs : List Value) {w : World} {cs : Array Value} (o : Nat), Blk w g t cs → o + vs.length ≤ cs.size → Blk (w.setCells g o vs) g t (cs.toList.take o ++ vs ++ cs.toList.drop (o + vs.length)).toArray
  | [], w, cs, o, h, _ => by
    simpa [World.setCells, List.take_append_drop] using h
  | v :: r, w, cs, o, h, hl => by
    rw [List.length_cons] at hl
    have h1 := blk_setCells r (o + 1) (h.set o v) (by rw [Array.size_setIfInBounds]; omega)
    have h2 : (cs.setIfInBounds o v).toList = cs.toList.set o v := by simp
    rw [h2] at h1
    have h3 : (cs.toList.set o v).take (o + 1) = cs.toList.take o ++ [v] := by
      rw [List.take_add_one, List.take_set_of_le (Nat.le_refl _), List.getElem?_set_self (by rw [Array.length_toList]; omega)]
      rfl
    have h4 : (cs.toList.set o v).drop (o + 1 + r.length) = cs.toList.drop (o + (v :: r).length) := by
      rw [List.drop_set_of_lt (by omega), List.length_cons, show o + 1 + r.length = o + (r.length + 1) by omega]
    rw [h3, h4] at h1
    rw [show cs.toList.take o ++ v :: r ++ cs.toList.drop (o + (v :: r).length) = cs.toList.take o ++ [v] ++ r ++ cs.toList.drop (o + (v :: r).length) by simp]
    exact h1
theorem zeroTextV (w : World) : (zeroValue 9).run Tryz.prog w = .ok (.string ⟨#[]⟩) w := by kernel_rfl
theorem run_clear_text (w : World) (g q c : Nat) (ty : TypeId) (hc : (w.cell? ⟨g, q, none⟩).isSome = true) (hf : w.frozen? ⟨g, q, none⟩ = false) :
    (Builtin.clear_ #[70] ty #[.slice (some ⟨g, q, none⟩) 1 c]).run Tryz.prog w = .ok (.tuple #[]) (w.setCells g q [.string ⟨#[]⟩]) := by
  have hzc : (Builtin.zeroCells (Value.string ⟨#[]⟩).cells 1).toList = [.string ⟨#[]⟩] := by kernel_rfl
  have hst := run_storeCells_cells (P := Tryz.prog) g q [.string ⟨#[]⟩] 0 w (fun j hj => by
    simp only [List.length_singleton] at hj
    obtain rfl : j = 0 := by omega
    simpa using hc) (fun j hj => by
    simp only [List.length_singleton] at hj
    obtain rfl : j = 0 := by omega
    simpa using hf) (by
    intro v hv
    rw [List.mem_singleton] at hv
    subst hv
    rfl)
  simp only [Nat.add_zero] at hst
  simp [Builtin.clear_, run_underlying rowText, zeroTextV, hzc, hst]
theorem erase_take {α : Type} : ∀ (l : List α) (k : Nat), k < l.length → l.eraseIdx k = l.take k ++ l.drop (k + 1)
  | [], k, h => by simp at h
  | a :: l, 0, _ => by simp
  | a :: l, k + 1, h => by
    have := erase_take l k (by simpa using h)
    simp [this]
set_option maxRecDepth 100000 in
set_option maxHeartbeats 1000000 in
theorem delete_text {w : World} {base g c : Nat} {l : List ByteArray} {k : Nat} (hO : OwnT w base (.slice (some ⟨g, 0, none⟩) l.length c) (l.map Value.string)) (hk : k < l.length) (hl : l.length ≤ 100) :
    Calls Tryz.prog 54 #[.slice (some ⟨g, 0, none⟩) l.length c, .int .i64 (k : Int), .int .i64 ((k : Int) + 1)] w fun e w' => e = .returned (.slice (some ⟨g, 0, none⟩) (l.length - 1) c) ∧ OwnT w' base (.slice (some ⟨g, 0, none⟩) (l.length - 1) c) ((l.eraseIdx k).map Value.string) ∧ Keeps (fun j => j = g) w w' := by
  obtain ⟨i0, hi0, hz0, hz1, hz2⟩ := info_parts infoText
  have hrow := hO.2
  clear hO
  rcases hrow with ⟨h1, _⟩ | ⟨g', cap, cur, h1, hbg, hgb, hnc, hcm, hcs, htk⟩
  · cases h1
  simp only [Value.slice.injEq, Option.some.injEq, Addr.mk.injEq, and_true, true_and] at h1
  obtain ⟨rfl, _, rfl⟩ := h1
  have hB : Blk w g 9 cur := hgb
  rw [Nat.mul_one] at hcs htk
  rw [List.length_map] at hnc htk
  obtain ⟨j, hj⟩ : ∃ j, l.length = k + j + 1 := ⟨l.length - k - 1, by omega⟩
  rw [hj, show k + j + 1 - 1 = k + j by omega]
  rw [hj] at hnc htk hl
  have hlen := cur.length_toList
  rw [hcs] at hlen
  have hnews : ((l.drop (k + 1)).map Value.string).length = j := by rw [List.length_map, List.length_drop]; omega
  have hcu : ∀ q u, (l.map Value.string)[q]? = some u → cur[q]? = some u := fun q u hu => by
    rw [← htk, List.getElem?_take] at hu
    split at hu
    · rw [← hu, Array.getElem?_toList]
    · cases hu
  have hcell : ∀ q u, ((l.drop (k + 1)).map Value.string)[q]? = some u → w.cell? ⟨g, k + 1 + q, none⟩ = some u := fun q u hu => by
    rw [hB.cell]
    refine hcu _ _ ?_
    rw [List.map_drop, List.getElem?_drop] at hu
    exact hu
  have hB1 := blk_setCells ((l.drop (k + 1)).map Value.string) k hB.drew (by rw [hnews, hcs]; omega)
  have hB2 := blk_setCells [.string ⟨#[]⟩] (k + j) hB1 (by
    simp only [List.size_toArray, List.length_append, List.length_take, List.length_drop, hnews, hlen, List.length_singleton]
    omega)
  have hcl : ∀ ty, (Builtin.clear_ #[70] ty #[.slice (some ⟨g, k + j, none⟩) 1 (c - (k + j))]).run Tryz.prog (w.drew.setCells g k ((l.drop (k + 1)).map Value.string)) = .ok (.tuple #[]) ((w.drew.setCells g k ((l.drop (k + 1)).map Value.string)).setCells g (k + j) [.string ⟨#[]⟩]) := fun ty => run_clear_text _ g (k + j) _ ty (by
    rw [hB1.cell, Array.getElem?_eq_getElem (by
      simp only [List.size_toArray, List.length_append, List.length_take, List.length_drop, hnews, hlen]
      omega)]
    rfl) (hB1.frozen _)
  have HKE : Hid (Keeps (fun j => j = g) w ((w.drew.setCells g k ((l.drop (k + 1)).map Value.string)).setCells g (k + j) [.string ⟨#[]⟩])) := Lib.hid (Keeps.setCells (S := fun j => j = g) rfl _ _ _ (Keeps.setCells (S := fun j => j = g) rfl _ _ _ (Keeps.refl _ w).drew))
  have HOE : Hid (OwnT ((w.drew.setCells g k ((l.drop (k + 1)).map Value.string)).setCells g (k + j) [.string ⟨#[]⟩]) base (.slice (some ⟨g, 0, none⟩) (k + j) c) ((l.eraseIdx k).map Value.string)) := Lib.hid (by
    have hel : ((l.eraseIdx k).map Value.string).length = k + j := by rw [List.length_map, List.length_eraseIdx, if_pos hk]; omega
    refine ⟨by rw [hel, Nat.mul_one], .inr ⟨g, c, _, by rw [hel], hbg, hB2, by rw [hel]; omega, hcm, ?_, ?_⟩⟩
    · simp only [List.size_toArray, List.length_append, List.length_take, List.length_drop, hnews, hlen, List.length_singleton]
      omega
    · rw [hel, Nat.mul_one, erase_take l k hk, List.map_append]
      have h1 : (cur.toList.take k ++ (l.drop (k + 1)).map Value.string).length = k + j := by rw [List.length_append, List.length_take, hnews, hlen]; omega
      rw [List.take_append_of_le_length (by simp only [List.length_append, List.length_take, List.length_drop, hnews, hlen, List.length_singleton]; omega), List.take_append_of_le_length (by simp only [List.length_append, List.length_take, List.length_drop, hnews, hlen, List.length_singleton]; omega), List.take_take, Nat.min_self, List.take_append_of_le_length (by rw [h1]; exact Nat.le_refl _), List.take_of_length_le (by rw [h1]; exact Nat.le_refl _)]
      congr 1
      rw [List.map_take, show cur.toList.take k = (cur.toList.take (k + j + 1)).take k by rw [List.take_take]; congr 1; omega, htk])
  have hsp : ∀ q, q < ((l.drop (k + 1)).map Value.string).length → (w.drew.cell? ⟨g, 0 + k * 1 + q, none⟩).isSome = true ∧ w.drew.frozen? ⟨g, 0 + k * 1 + q, none⟩ = false := fun q hq => by
    rw [hnews] at hq
    refine ⟨?_, hB.drew.frozen _⟩
    rw [hB.drew.cell, Array.getElem?_eq_getElem (by omega)]
    rfl
  have h1c : ∀ u ∈ (l.drop (k + 1)).map Value.string, u.oneCell' = true := fun u hu => by
    obtain ⟨x, _, rfl⟩ := List.mem_map.1 hu
    rfl
  have HCL := Lib.hid hcl
  have f1 : (k : Int) ≤ (k : Int) + 1 := by omega
  have f2 : (k : Int) + 1 ≤ (k : Int) + (j : Int) + 1 := by omega
  have f3 : (k : Int) + (j : Int) + 1 ≤ (c : Int) := by omega
  have f4 : ((k : Int) == (k : Int) + 1) = false := by simp only [beq_eq_false_iff_ne]; omega
  have f5 : (k : Int) ≤ (c : Int) := by omega
  have f6 : (0 : Int) ≤ (k : Int) := by omega
  have f7 : (0 : Int) ≤ (k : Int) + 1 := by omega
  have f8 : (k : Int) + (j : Int) ≤ (k : Int) + (j : Int) + 1 := by omega
  have hroom : k + j ≤ c := by omega
  have HHN := Lib.hid hnews
  have HC1 := Lib.hid hcell
  have HSP := Lib.hid hsp
  have H1C := Lib.hid h1c
  have HRM := Lib.hid hroom
  generalize (l.drop (k + 1)).map Value.string = news at *
  generalize (l.eraseIdx k).map Value.string = res at *
  clear htk hB hcs hcm hk hl hbg hgb hnc hj hnews hlen hcu hcell hB1 hB2 hcl hsp h1c hroom
  go_enter Tryz.func54, Tryz.ntmps54
  go_upto_region 5 with fail
  by_cases hck : c = k + 1
  · obtain rfl : j = 0 := by omega
    subst hck
    simp only [Nat.add_zero] at HHN HKE HOE HCL HRM f1 f2 f3 f8 ⊢
    go_region_law (refine step_append_room rfl (.tmp 22) (.tmp 25) 70 rfl 9 i0 1 rowText hi0 hz1 g 0 k (k + 1) (by simp [Act.eval, Act.put]) ⟨g, 0, none⟩ 0 0 news (by simp [Act.eval, Act.put]) (by rw [HHN.out]) (fun q u hu => absurd (List.getElem?_eq_some_iff.1 hu).1 (by have := HHN.out; omega)) H1C.out (by omega) HSP.out ?_; dsimp only)
    have hcl := HCL.out
    simp only [Nat.add_zero, Nat.add_sub_cancel_left] at hcl
    go_wp2_with fail
    go_ret
    exact ⟨rfl, HOE.out, HKE.out⟩
  · go_region_law (refine step_append_room rfl (.tmp 22) (.tmp 25) 70 rfl 9 i0 1 rowText hi0 hz1 g 0 k c (by simp [Act.eval, Act.put]) ⟨g, k + 1, none⟩ j (c - (k + 1)) news (by simp [Act.eval, Act.put, hck]) (by rw [HHN.out, Nat.mul_one]) (fun q u hu => by rw [Addr.add_lit]; exact HC1.out q u hu) H1C.out HRM.out HSP.out ?_; dsimp only)
    have hcl := HCL.out
    go_wp2_with fail
    go_ret
    exact ⟨rfl, HOE.out, HKE.out⟩
end Go.Proofs.YthgfbaekmhpiaaaGreatDoor
