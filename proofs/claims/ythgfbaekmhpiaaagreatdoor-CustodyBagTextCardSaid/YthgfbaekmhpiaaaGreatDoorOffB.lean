/- An office in memory as a whole, and the contract of Enter at an office that has nothing. Conditions: the office lies in memory; its journal has room. The contract of Ship, of one held token, at an office that has no bag. Conditions: the office lies in memory; its journal has room. The contract of Hear, of the next bag of one token from office 0, at office 1. Conditions: the office lies in memory; its journal has room. The contract of Hear, of the answer to the one bag that waits, at office 0. Conditions: the office lies in memory; its journal has room. The contract of Start on an empty disk, as a whole office. Conditions: the disk lies in memory. -/
import Derived.Test.YthgfbaekmhpiaaaGreatDoorEntA
namespace Go.Proofs.YthgfbaekmhpiaaaGreatDoor
open Go.RowKit Go.Shelf Go.Sort

/-- An office: its disk with the records R in S, its block ob, its maps hb (of nn entries at most) and lb (empty). -/
structure Off (w : World) (ob p gs : Nat) (vp : Value) (S R : List (List Int)) (id : Int) (hb lb nn nl : Nat) (b1 nv : Value) (s1 r0 : Int) (f : Int → Option ByteArray) : Prop where
  up : OUp 144 (stCells id hb lb b1 s1 r0 nv) w ob p gs vp S R false
  held : MapS w hb nn f
  lost : SetAt 3 w lb nl (fun _ => false)
  ne : ob ≠ hb ∧ ob ≠ lb ∧ hb ≠ lb
  dl : ∀ i, ownD p gs vp i → i < w.heap.size
  dn : ¬ ownD p gs vp hb ∧ ¬ ownD p gs vp lb
/-- The blocks of an office. -/
def ownO (ob p gs : Nat) (vp : Value) (hb lb : Nat) (i : Nat) : Prop := ownD p gs vp i ∨ i = ob ∨ i = hb ∨ i = lb
theorem OUp.keep {t : TypeId} {Xs : List Value} {M : Nat → Prop} {w w' : World} {jb p gs : Nat} {vp : Value} {S R : List (List Int)} {st : Bool} (h : OUp t Xs w jb p gs vp S R st) (hk : Keeps M w w') (h1 : ∀ i, ownD p gs vp i → ¬ M i) (h2 : ¬ M jb) : OUp t Xs w' jb p gs vp S R st := by
  obtain ⟨⟨ca, g1, g2⟩, g3, g4, g5, g6⟩ := h
  exact ⟨⟨ca, g1.keep hk h1, g2⟩, g3, g4, Blk.keep g5 hk h2, g6⟩
theorem own_new {w : World} {p gs x : Nat} {vp vp' : Value} (hn : newB w vp vp') (hx : ¬ ownD p gs vp x) (hz : x < w.heap.size) : ¬ ownD p gs vp' x := fun e => by
  rcases e with e | e | e
  · exact hx (.inl e)
  · exact hx (.inr (.inl e))
  · rcases hn with e2 | e2
    · exact hx (.inr (.inr (e2 ▸ e)))
    · have := e2 _ e; omega
theorem newB_low {w W : World} {vp vp' : Value} (h : newB W vp vp') (hs : w.heap.size ≤ W.heap.size) : newB w vp vp' := by
  rcases h with e | e
  · exact .inl e
  · exact .inr (fun i hi => Nat.le_trans hs (e i hi))
section
variable {w w' : World} {ob p gs : Nat} {vp : Value} {S R : List (List Int)} {id : Int} {hb lb nn nl : Nat} {b1 nv : Value} {s1 r0 : Int} {f : Int → Option ByteArray}
theorem Off.keep {M : Nat → Prop} (h : Off w ob p gs vp S R id hb lb nn nl b1 nv s1 r0 f) (hk : Keeps M w w') (hM : ∀ i, ownO ob p gs vp hb lb i → ¬ M i) : Off w' ob p gs vp S R id hb lb nn nl b1 nv s1 r0 f :=
  ⟨h.up.keep hk (fun i e => hM i (.inl e)) (hM _ (.inr (.inl rfl))), h.held.keep hk (hM _ (.inr (.inr (.inl rfl)))), h.lost.keep hk (hM _ (.inr (.inr (.inr rfl)))), h.ne, fun i e => Nat.lt_of_lt_of_le (h.dl i e) hk.size, h.dn⟩
theorem Off.below (h : Off w ob p gs vp S R id hb lb nn nl b1 nv s1 r0 f) (hb' : Below w.heap.size w w') : Off w' ob p gs vp S R id hb lb nn nl b1 nv s1 r0 f := h.keep (M := fun _ => False) (Keeps.of_new hb') (fun _ _ e => e)
theorem Off.blk (h : Off w ob p gs vp S R id hb lb nn nl b1 nv s1 r0 f) : OB w ob p (encsOf R).length R.length id hb lb b1 s1 r0 nv := h.up.at_
/-- The disk after an operation's record, the office's block after the operation. -/
theorem Off.next {w1 w2 : World} {vp' : Value} {S' R' : List (List Int)} {nn' : Nat} {b1' nv' : Value} {s1' r0' : Int} {f' : Int → Option ByteArray} {M : Nat → Prop}
    (h : Off w ob p gs vp S R id hb lb nn nl b1 nv s1 r0 f) (hw : w.heap.size ≤ w1.heap.size) (hk1 : Keeps (fun i => ownD p gs vp i ∨ i = ob) w w1) (hu : OUp 144 (stCells id hb lb b1 s1 r0 nv) w1 ob p gs vp' S' R' false) (hn : newB w vp vp')
    (hO : OB w2 ob p (encsOf R').length R'.length id hb lb b1' s1' r0' nv') (hM : MapS w2 hb nn' f') (hk2 : Keeps M w1 w2) (hMd : ∀ i, ownD p gs vp' i → ¬ M i) (hMl : ¬ M lb) : Off w2 ob p gs vp' S' R' id hb lb nn' nl b1' nv' s1' r0' f' := by
  obtain ⟨⟨ca, g1, g2⟩, g3, g4, g5, g6⟩ := hu
  have hob := h.blk.lt
  have hlz := h.lost.lt
  have hhz := h.held.lt
  refine ⟨⟨⟨ca, g1.keep hk2 hMd, g2⟩, g3, g4, hO, g6⟩, hM, (h.lost.keep hk1 (fun e => by rcases e with e | e; exact h.dn.2 e; exact h.ne.2.1 e.symm)).keep hk2 hMl, h.ne, fun i e => ?_, ?_, ?_⟩
  · have hl : i < w1.heap.size := by
      rcases e with e | e | e
      · exact Nat.lt_of_lt_of_le (h.dl i (.inl e)) hw
      · exact Nat.lt_of_lt_of_le (h.dl i (.inr (.inl e))) hw
      · exact (World.ownsRow.lt g1.pend i e).2
    exact Nat.lt_of_lt_of_le hl hk2.size
  · intro e
    rcases e with e | e | e
    · exact h.dn.1 (.inl e)
    · exact h.dn.1 (.inr (.inl e))
    · rcases hn with e2 | e2
      · exact h.dn.1 (.inr (.inr (e2 ▸ e)))
      · have := e2 _ e; omega
  · intro e
    rcases e with e | e | e
    · exact h.dn.2 (.inl e)
    · exact h.dn.2 (.inr (.inl e))
    · rcases hn with e2 | e2
      · exact h.dn.2 (.inr (.inr (e2 ▸ e)))
      · have := e2 _ e; omega
end
/-- What Enter's operation is with the office's number, and its text. -/
def opE (id : Int) (t : Tok) (note : ByteArray) : OpV := { opEnter t note with office := id }
set_option maxHeartbeats 1000000 in
theorem enter_new {w : World} {ob p gs : Nat} {vp : Value} {S R : List (List Int)} {id : Int} {hb lb nn nl : Nat} {s1 r0 : Int} {f : Int → Option ByteArray} (h : Off w ob p gs vp S R id hb lb nn nl (.slice none 0 0) (.slice none 0 0) s1 r0 f) (hid : 0 ≤ id ∧ id ≤ 7) (hnn : nn ≤ 1000000000) (t : Tok) (ht : isTokenB t = true) (hf : f t.id = none) (ti : 0 ≤ t.id ∧ t.id ≤ 1000000) (tb : t.body.size ≤ 6000) (note : ByteArray) (hn : note.size ≤ 8000) (hne : note.toList.isEmpty = false) (hP : PowAt w)
    (hs : (ba (opL1 (opE id t note))).size ≤ 60000) (hr : (encsOf R).length + nbOf (ba (opL1 (opE id t note))).size ≤ S.length) :
    Calls Tryz.prog 47 #[.pointer (some ⟨ob, 0, none⟩), tokVal t, .string note] w fun e w' => e = .returned (.int .i64 0) ∧ ∃ vp' A c, Off w' ob p gs vp' (splice S (encsOf R).length (encB (bsOf (ba (opL1 (opE id t note)))))) (R ++ [bsOf (ba (opL1 (opE id t note)))]) id hb lb (nn + 1) nl (.slice none 0 0) (.slice A 1 c) s1 r0 (fun j => if j = t.id then some t.body else f j) ∧ OwnT w' w.heap.size (.slice A 1 c) [.string note] ∧ newB w vp vp' ∧ (∀ j, (Value.slice A 1 c).ownBlock = some j → ¬ ownO ob p gs vp' hb lb j) ∧ Keeps (ownO ob p gs vp hb lb) w w' := by
  refine enter_of (some ⟨ob, 0, none⟩) t note 0 _ (fun W hW => ?_)
  have hW' := h.below hW
  refine perform_any hW'.up hW'.dl (opEnter t note) none 0 0 rfl none 0 0 rfl (ba (opL1 (opE id t note))) hs hr (fun W2 h2 => ?_) (fun W2 h2 => ?_) _ (fun W2 hU hK => ?_)
  · have h3 := hW'.below h2
    exact refuses_enter h3.blk h3.held h3.lost _ rfl ht hf hn none 0 0 rfl none 0 0 rfl
  · exact opText_enter (opE id t note) rfl W2 ((hP.up hW).up h2) ⟨hid.1, by show id ≤ _; omega⟩ ⟨ti.1, by show t.id ≤ _; omega⟩ (by show t.body.size ≤ _; omega) (by show note.size ≤ _; omega)
  · obtain ⟨vp', hU, hv⟩ := hU
    have hM2 := hW'.held.keep hK (fun e => by rcases e with e | e; exact hW'.dn.1 e; exact hW'.ne.1 e.symm)
    refine (apply_enter hU.at_ hW'.ne.1 hM2 hnn (opE id t note) rfl ti hne none 0 0 rfl none 0 0 rfl).mono ?_
    rintro e W3 ⟨rfl, A, c, hO3, hN3, hM3, hK3⟩
    have hdb := own_new hv hW'.dn.1 hW'.held.lt
    have hN := hW'.next hK.size hK hU hv hO3 hM3 hK3 (fun i e f => by
      rcases f with f | f
      · exact hdb (f ▸ e)
      · exact hU.apart (f ▸ e)) (fun f => by
      rcases f with f | f
      · exact hW'.ne.2.2 f.symm
      · exact hW'.ne.2.1 f.symm)
    have hbd : ∀ j, (Value.slice A 1 c).ownBlock = some j → ¬ ownO ob p gs vp' hb lb j := fun j hj e => by
      have hj2 := (World.ownsRow.lt hN3 j hj).1
      have hks := hK.size
      obtain ⟨ca, g1, _⟩ := hU.disk
      rcases e with (e | e | e) | e | e | e
      · have := hW'.dl j (.inl e); omega
      · have := hW'.dl j (.inr (.inl e)); omega
      · have := (World.ownsRow.lt g1.pend j e).2; omega
      · have := hW'.blk.lt; omega
      · have := hW'.held.lt; omega
      · have := hW'.lost.lt; omega
    exact ⟨rfl, vp', A, c, hN, Go.Joins.ownsRow_le hN3 (Nat.le_trans hW.size hK.size), newB_low hv hW.size, hbd, ((Keeps.of_new hW).trans hK (fun i _ e => by
      rcases e with e | e
      · exact .inl e
      · exact .inr (.inl e))).trans hK3 (fun i _ e => by
      rcases e with e | e
      · exact .inr (.inr (.inl e))
      · exact .inr (.inl e))⟩
end Go.Proofs.YthgfbaekmhpiaaaGreatDoor
namespace Go.Proofs.YthgfbaekmhpiaaaGreatDoor
open Go.RowKit Go.Shelf Go.Sort

theorem IntsAt.keep {M : Nat → Prop} {w w' : World} {A : Option Addr} {n c : Nat} {ns : List Int} (h : IntsAt w (.slice A n c) ns) (hk : Keeps M w w') (hM : ∀ a, A = some a → ¬ M a.block) : IntsAt w' (.slice A n c) ns := by
  obtain ⟨A', c', h1, h2, h3⟩ := h
  cases h1
  refine ⟨A, c, rfl, h2, ?_⟩
  rcases h3 with h3 | ⟨b, o, h4, h5, h6⟩
  · exact .inl h3
  · exact .inr ⟨b, o, h4, Nat.lt_of_lt_of_le h5 hk.size, fun j v hv => (hk.cell h5 (hM _ h4)).trans (h6 j v hv)⟩
/-- What Ship's operation is. -/
def opS (ids : Value) : OpV := opShip 1 ids ⟨#[]⟩
set_option maxHeartbeats 1000000 in
theorem ship_new {w : World} {ob p gs : Nat} {vp : Value} {S R : List (List Int)} {hb lb nn nl : Nat} {nv : Value} {s1 r0 : Int} {f : Int → Option ByteArray} (h : Off w ob p gs vp S R 0 hb lb nn nl (.slice none 0 0) nv s1 r0 f) (hs1 : 0 ≤ s1 ∧ s1 < 1000000) (A : Option Addr) (c : Nat) (i : Int) (hI : IntsAt w (.slice A 1 c) [i]) (hIb : ∀ a, A = some a → ¬ ownO ob p gs vp hb lb a.block) (hi : 0 ≤ i ∧ i ≤ 1000000) (sb : ByteArray) (hf : f i = some sb) (hP : PowAt w)
    (hs : (ba (opL4 (opS (.slice A 1 c)) [i])).size ≤ 60000) (hr : (encsOf R).length + nbOf (ba (opL4 (opS (.slice A 1 c)) [i])).size ≤ S.length) :
    Calls Tryz.prog 48 #[.pointer (some ⟨ob, 0, none⟩), .int .i64 1, .slice A 1 c, .string ⟨#[]⟩] w fun e w' => e = .returned (.tuple #[.int .i64 (s1 + 1), .int .i64 0]) ∧ ∃ vp' b1 tv, Off w' ob p gs vp' (splice S (encsOf R).length (encB (bsOf (ba (opL4 (opS (.slice A 1 c)) [i]))))) (R ++ [bsOf (ba (opL4 (opS (.slice A 1 c)) [i]))]) 0 hb lb nn nl b1 nv (s1 + 1) r0 (fun j => if j = i then none else f j) ∧ BagOwn w' w.heap.size b1 [⟨0, 1, s1 + 1, tv⟩] ∧ TokOwn w' w.heap.size tv [⟨i, sb⟩] ∧ newB w vp vp' ∧ (∀ j, b1.ownBlock = some j → ¬ ownO ob p gs vp' hb lb j) ∧ Keeps (ownO ob p gs vp hb lb) w w' := by
  refine ship_of ob A 1 c ⟨#[]⟩ (s1 + 1) _ ?_ (fun W hW => ?_)
  · refine perform_any h.up h.dl (opS (.slice A 1 c)) A 1 c rfl none 0 0 rfl (ba (opL4 (opS (.slice A 1 c)) [i])) hs hr (fun W2 h2 => ?_) (fun W2 h2 => ?_) _ (fun W2 hU hK => ?_)
    · have h3 := h.below h2
      exact refuses_ship h3.blk h3.held hs1 (opS (.slice A 1 c)) rfl rfl i (hI.below h2) hi (by rw [hf]; rfl) (Nat.zero_le _) none 0 0 rfl
    · exact opText_ship (opS (.slice A 1 c)) [i] rfl W2 (hP.up h2) (hI.below h2) (by show (0 : Int) ≤ 0 ∧ (0 : Int) ≤ _; decide) (by show (0 : Int) ≤ 1 ∧ (1 : Int) ≤ _; decide) (okN1 ⟨hi.1, by omega⟩) (by simp) (by simp) (Nat.zero_le _)
    · obtain ⟨vp', hU, hv⟩ := hU
      have hM2 := h.held.keep hK (fun e => by rcases e with e | e; exact h.dn.1 e; exact h.ne.1 e.symm)
      have hI2 : IntsAt W2 (.slice A 1 c) [i] := hI.keep hK (fun a ha e => by
        rcases e with e | e
        · exact hIb a ha (.inl e)
        · exact hIb a ha (.inr (.inl e)))
      refine (apply_ship hU.at_ h.ne.1 hM2 ⟨hs1.1, by omega⟩ (opS (.slice A 1 c)) rfl rfl rfl i hI2 (fun A' m' c' he a ha e => by
        cases he
        exact hIb a ha (.inr (.inl e))) hi sb hf none 0 0 rfl).mono ?_
      rintro e W3 ⟨rfl, b1, tv, hO3, hB3, hT3, hM3, hK3⟩
      have hdb := own_new hv h.dn.1 h.held.lt
      have hN := h.next hK.size hK hU hv hO3 hM3 hK3 (fun i e f => by
        rcases f with f | f
        · exact hdb (f ▸ e)
        · exact hU.apart (f ▸ e)) (fun f => by
        rcases f with f | f
        · exact h.ne.2.2 f.symm
        · exact h.ne.2.1 f.symm)
      have hbd : ∀ j, b1.ownBlock = some j → ¬ ownO ob p gs vp' hb lb j := fun j hj e => by
        have hj2 := (World.ownsRow.lt hB3 j hj).1
        have hks := hK.size
        obtain ⟨ca, g1, _⟩ := hU.disk
        rcases e with (e | e | e) | e | e | e
        · have := h.dl j (.inl e); omega
        · have := h.dl j (.inr (.inl e)); omega
        · have := (World.ownsRow.lt g1.pend j e).2; omega
        · have := h.blk.lt; omega
        · have := h.held.lt; omega
        · have := h.lost.lt; omega
      exact ⟨rfl, vp', b1, tv, hN, hB3.low hK.size, hT3.low hK.size, hv, hbd, (hK.mono (fun i _ e => by
        rcases e with e | e
        · exact .inl e
        · exact .inr (.inl e))).trans hK3 (fun i _ e => by
        rcases e with e | e
        · exact .inr (.inr (.inl e))
        · exact .inr (.inl e))⟩
  · obtain ⟨vp', b1, tv, hN, _⟩ := hW
    have := hN.blk.cell 15
    exact ⟨by simpa [stCells] using this, hN.blk.lt⟩
end Go.Proofs.YthgfbaekmhpiaaaGreatDoor
namespace Go.Proofs.YthgfbaekmhpiaaaGreatDoor
open Go.RowKit Go.Shelf Go.Sort

/-- The pending writes' block is the old one, or a new one behind Hear's two results. -/
def newB2 (w : World) (vp vp' : Value) : Prop := vp'.ownBlock = vp.ownBlock ∨ ∀ i, vp'.ownBlock = some i → w.heap.size + 2 ≤ i
theorem newB2_of {w W : World} {vp vp' : Value} (h : newB W vp vp') (hs : w.heap.size + 2 ≤ W.heap.size) : newB2 w vp vp' := by
  rcases h with e | e
  · exact .inl e
  · exact .inr (fun i hi => Nat.le_trans hs (e i hi))
/-- What Hear's operation is. -/
def opB (q : Int) (T : Value) : OpV := { opHear bagW ⟨0, 1, q, T⟩ ⟨#[]⟩ with office := 1 }
set_option maxHeartbeats 1000000 in
theorem hear_bag_new {w : World} {ob p gs : Nat} {vp : Value} {S R : List (List Int)} {hb lb nn nl : Nat} {b1 nv : Value} {s1 r0 : Int} {f : Int → Option ByteArray} (h : Off w ob p gs vp S R 1 hb lb nn nl b1 nv s1 r0 f) (hr0 : 0 ≤ r0 ∧ r0 < 1000000) (hnn : nn ≤ 1000000000) (t : Tok) (ht : 0 ≤ t.id ∧ t.id ≤ 1000000) (hV : validB bagW ⟨0, 1, r0 + 1, .slice none 0 0⟩ [t] = true) (hl : (([t] : List Tok).flatMap tokL).length ≤ 100000000000000)
    (hP : PowAt w) (hPk : ∀ W, Keeps (ownO ob p gs vp hb lb) w W → PowAt W)
    (hs : (ba (opL5 (opB (r0 + 1) (.slice none 0 0)) [t])).size ≤ 60000) (hr : (encsOf R).length + nbOf (ba (opL5 (opB (r0 + 1) (.slice none 0 0)) [t])).size ≤ S.length) :
    Calls Tryz.prog 49 #[.pointer (some ⟨ob, 0, none⟩), .string (ba (msgL [98, 97, 103] ⟨0, 1, r0 + 1, .slice none 0 0⟩ [t])), .string ⟨#[]⟩] w fun e w' => e = .returned (.tuple #[.string (ba (msgL gotW.data.toList ⟨1, 0, r0 + 1, .slice none 0 0⟩ [])), .int .i64 0]) ∧ ∃ W, (∃ vp', Off W ob p gs vp' (splice S (encsOf R).length (encB (bsOf (ba (opL5 (opB (r0 + 1) (.slice none 0 0)) [t]))))) (R ++ [bsOf (ba (opL5 (opB (r0 + 1) (.slice none 0 0)) [t]))]) 1 hb lb (nn + 1) nl b1 nv s1 (r0 + 1) (fun j => if j = t.id then some t.body else f j) ∧ newB2 w vp vp' ∧ Keeps (ownO ob p gs vp hb lb) w W) ∧ Keeps (fun j => j = w.heap.size ∨ j = w.heap.size + 1) W w' ∧ Keeps (ownO ob p gs vp hb lb) w w' := by
  have hbl := h.blk
  have o3 := hbl.cell 3
  simp [stCells] at o3
  have hown : ∀ i, ownO ob p gs vp hb lb i → i < w.heap.size := fun i e => by
    rcases e with e | e | e | e
    · exact h.dl i e
    · rw [e]; exact hbl.lt
    · rw [e]; exact h.held.lt
    · rw [e]; exact h.lost.lt
  have hmat : ∀ W A n c, Below w.heap.size w W → Calls Tryz.prog 88 #[.pointer (some ⟨ob, 3, none⟩), msgVal bagW ⟨0, 1, r0 + 1, .slice A n c⟩] W fun e w' => e = .returned (.bool true) ∧ Below W.heap.size W w' := fun W A n c hW => by
    have h3 := (h.below hW).blk
    have c22 := h3.cell 22
    simp [stCells] at c22
    have := matters_bag r0 c22 h3.lt ⟨hr0.1, by omega⟩ 0 1 (r0 + 1) rfl A n c
    simpa using this
  refine hear_of _ ⟨#[]⟩ bagW 0 1 (r0 + 1) [t] (Nat.zero_le _) o3 hbl.lt (ownO ob p gs vp hb lb) hown _ _ (fun W hW => ?_) hmat (fun W A c hW hW2 hT => ?_) (fun W A n c hQ => ?_) (fun W hQ => ?_)
  · exact readMessage_ok [98, 97, 103] 0 1 (r0 + 1) [t] W (hP.up hW) (by decide) (by decide) (by decide) ⟨by omega, by omega⟩ (fun u hu => by
      rw [List.mem_singleton] at hu
      subst hu
      exact ⟨ht.1, by omega⟩) hV (by decide) (by simp) hl
  · have hW' := h.below hW
    refine (perform_any hW'.up hW'.dl (opHear bagW ⟨0, 1, r0 + 1, .slice A 1 c⟩ ⟨#[]⟩) none 0 0 rfl A 1 c rfl (ba (opL5 (opB (r0 + 1) (.slice none 0 0)) [t])) hs hr (fun W2 h2 => ?_) (fun W2 h2 => ?_) (fun w' => (∃ vp', Off w' ob p gs vp' (splice S (encsOf R).length (encB (bsOf (ba (opL5 (opB (r0 + 1) (.slice none 0 0)) [t]))))) (R ++ [bsOf (ba (opL5 (opB (r0 + 1) (.slice none 0 0)) [t]))]) 1 hb lb (nn + 1) nl b1 nv s1 (r0 + 1) (fun j => if j = t.id then some t.body else f j) ∧ newB2 w vp vp' ∧ Keeps (ownO ob p gs vp hb lb) w w') ∧ Keeps (ownO ob p gs vp hb lb) W w') (fun W2 hU hK => ?_))
    · have h3 := (hW'.below h2).blk
      have c3 := h3.cell 3
      simp [stCells] at c3
      exact refuses_hear c3 h3.lt (opB (r0 + 1) (.slice A 1 c)) rfl rfl (Nat.zero_le _) none 0 0 rfl A 1 c rfl (fun W3 h4 => hmat W3 A 1 c (hW.trans ((h2.mono hW.size |>.trans (h4.mono (Nat.le_trans hW.size h2.size))))))
    · exact opText_hear (opB (r0 + 1) (.slice A 1 c)) [t] rfl W2 ((hP.up hW).up h2) (hT.below h2).at_ (by show (0 : Int) ≤ 1 ∧ (1 : Int) ≤ _; decide) (show OkN [0, 1, r0 + 1] from okN3 (by decide) (by decide) ⟨by omega, by omega⟩) (fun u hu => by
        rw [List.mem_singleton] at hu
        subst hu
        exact ⟨ht.1, by omega⟩) (by show (3 : Nat) ≤ _; omega) (by simp) hl (Nat.zero_le _)
    · obtain ⟨vp', hU, hv⟩ := hU
      have hTk : TokOwn W2 w.heap.size (.slice A 1 c) [t] := hT.keep hK (fun i hi e => by
        have h1 := (World.ownsRow.lt hT i hi).1
        rcases e with e | e
        · have := h.dl i e; omega
        · have := hbl.lt; omega)
      have hM2 := hW'.held.keep hK (fun e => by rcases e with e | e; exact hW'.dn.1 e; exact hW'.ne.1 e.symm)
      refine (apply_bag hU.at_ hW'.ne.1 hM2 hnn ⟨hr0.1, by omega⟩ (opB (r0 + 1) (.slice A 1 c)) rfl rfl rfl rfl A c t rfl hTk.at_ (fun a ha e => by
        subst ha
        have h1 := (World.ownsRow.lt hT a.block rfl).1
        have := hbl.lt
        omega) ht none 0 0 rfl).mono ?_
      rintro e W3 ⟨rfl, hO3, hM3, hK3⟩
      have hdb := own_new hv hW'.dn.1 hW'.held.lt
      have hN := hW'.next hK.size hK hU hv hO3 hM3 hK3 (fun i e f => by
        rcases f with f | f
        · exact hdb (f ▸ e)
        · exact hU.apart (f ▸ e)) (fun f => by
        rcases f with f | f
        · exact hW'.ne.2.2 f.symm
        · exact hW'.ne.2.1 f.symm)
      have hKK : Keeps (ownO ob p gs vp hb lb) W W3 := (hK.mono (fun i _ e => by
        rcases e with e | e
        · exact .inl e
        · exact .inr (.inl e))).trans hK3 (fun i _ e => by
        rcases e with e | e
        · exact .inr (.inr (.inl e))
        · exact .inr (.inl e))
      exact ⟨rfl, ⟨vp', hN, newB2_of hv hW2, (Keeps.of_new hW).trans hKK (fun _ _ e => e)⟩, hKK⟩
  · obtain ⟨vp', hN, _, hK⟩ := hQ
    have c3 := hN.blk.cell 3
    have c22 := hN.blk.cell 22
    simp [stCells] at c3 c22
    exact answer_bag 1 (r0 + 1) c3 c22 hN.blk.lt (hPk W hK) (by decide) 0 1 (r0 + 1) rfl ⟨by omega, by omega⟩ (Int.le_refl _) A n c
  · obtain ⟨vp', hN, hv, hK⟩ := hQ
    exact ⟨vp', hN.below (Below.refl _ _).drew, hv, hK.drew⟩
end Go.Proofs.YthgfbaekmhpiaaaGreatDoor
namespace Go.Proofs.YthgfbaekmhpiaaaGreatDoor
open Go.RowKit Go.Shelf Go.Sort

/-- What Hear's operation is. -/
def opG (q : Int) (T : Value) : OpV := { opHear gotW ⟨1, 0, q, T⟩ ⟨#[]⟩ with office := 0 }
set_option maxHeartbeats 1000000 in
theorem hear_got_new {w : World} {ob p gs base : Nat} {vp : Value} {S R : List (List Int)} {hb lb nn nl : Nat} {b1 nv : Value} {s1 r0 : Int} {f : Int → Option ByteArray} (h : Off w ob p gs vp S R 0 hb lb nn nl b1 nv s1 r0 f) {b : BagV} (hv : BagOwn w base b1 [b]) (A3 : Option Addr) (n3 c3 : Nat) (hbt : b.toks = .slice A3 n3 c3) (hbd : ∀ i, b1.ownBlock = some i → ¬ ownO ob p gs vp hb lb i) (hq : 0 ≤ b.seq ∧ b.seq ≤ 1000000) (hV : validB gotW ⟨1, 0, b.seq, .slice none 0 0⟩ [] = true)
    (hP : PowAt w)
    (hs : (ba (opL5 (opG b.seq (.slice none 0 0)) [])).size ≤ 60000) (hr : (encsOf R).length + nbOf (ba (opL5 (opG b.seq (.slice none 0 0)) [])).size ≤ S.length) :
    Calls Tryz.prog 49 #[.pointer (some ⟨ob, 0, none⟩), .string (ba (msgL [103, 111, 116] ⟨1, 0, b.seq, .slice none 0 0⟩ [])), .string ⟨#[]⟩] w fun e w' => e = .returned (.tuple #[.string ⟨#[]⟩, .int .i64 0]) ∧ ∃ W, (∃ vp' g c', Off W ob p gs vp' (splice S (encsOf R).length (encB (bsOf (ba (opL5 (opG b.seq (.slice none 0 0)) []))))) (R ++ [bsOf (ba (opL5 (opG b.seq (.slice none 0 0)) []))]) 0 hb lb nn nl (.slice (some ⟨g, 0, none⟩) 0 c') nv s1 r0 f ∧ newB2 w vp vp' ∧ Keeps (fun i => ownO ob p gs vp hb lb i ∨ b1.ownBlock = some i) w W) ∧ Keeps (fun j => j = w.heap.size ∨ j = w.heap.size + 1) W w' ∧ Keeps (fun i => ownO ob p gs vp hb lb i ∨ b1.ownBlock = some i) w w' := by
  have hbl := h.blk
  have o3 := hbl.cell 3
  simp [stCells] at o3
  have hbz : ∀ i, b1.ownBlock = some i → i < w.heap.size := fun i e => (World.ownsRow.lt hv i e).2
  have hown : ∀ i, (ownO ob p gs vp hb lb i ∨ b1.ownBlock = some i) → i < w.heap.size := fun i e => by
    rcases e with (e | e | e | e) | e
    · exact h.dl i e
    · rw [e]; exact hbl.lt
    · rw [e]; exact h.held.lt
    · rw [e]; exact h.lost.lt
    · exact hbz i e
  have hmat : ∀ W A n c, Below w.heap.size w W → Calls Tryz.prog 88 #[.pointer (some ⟨ob, 3, none⟩), msgVal gotW ⟨1, 0, b.seq, .slice A n c⟩] W fun e w' => e = .returned (.bool true) ∧ Below W.heap.size W w' := fun W A n c hW => by
    have h3 := (h.below hW).blk
    have c7 := h3.cell 7
    simp [stCells] at c7
    exact matters_got c7 h3.lt (hv.below hW) A3 n3 c3 hbt 1 0 b.seq rfl rfl A n c
  refine hear_of _ ⟨#[]⟩ gotW 1 0 b.seq [] (Nat.zero_le _) o3 hbl.lt (fun i => ownO ob p gs vp hb lb i ∨ b1.ownBlock = some i) hown _ _ (fun W hW => ?_) hmat (fun W A c hW hW2 hT => ?_) (fun W A n c hQ => ?_) (fun W hQ => ?_)
  · exact readMessage_ok [103, 111, 116] 1 0 b.seq [] W (hP.up hW) (by decide) (by decide) (by decide) ⟨by omega, by omega⟩ (fun u hu => by simp at hu) hV (by decide) (by simp) (by simp)
  · have hW' := h.below hW
    refine (perform_any hW'.up hW'.dl (opHear gotW ⟨1, 0, b.seq, .slice A 0 c⟩ ⟨#[]⟩) none 0 0 rfl A 0 c rfl (ba (opL5 (opG b.seq (.slice none 0 0)) [])) hs hr (fun W2 h2 => ?_) (fun W2 h2 => ?_) (fun w' => (∃ vp' g c', Off w' ob p gs vp' (splice S (encsOf R).length (encB (bsOf (ba (opL5 (opG b.seq (.slice none 0 0)) []))))) (R ++ [bsOf (ba (opL5 (opG b.seq (.slice none 0 0)) []))]) 0 hb lb nn nl (.slice (some ⟨g, 0, none⟩) 0 c') nv s1 r0 f ∧ newB2 w vp vp' ∧ Keeps (fun i => ownO ob p gs vp hb lb i ∨ b1.ownBlock = some i) w w') ∧ Keeps (fun i => ownO ob p gs vp hb lb i ∨ b1.ownBlock = some i) W w') (fun W2 hU hK => ?_))
    · have h3 := (hW'.below h2).blk
      have c3 := h3.cell 3
      simp [stCells] at c3
      exact refuses_hear c3 h3.lt (opG b.seq (.slice A 0 c)) rfl rfl (Nat.zero_le _) none 0 0 rfl A 0 c rfl (fun W3 h4 => hmat W3 A 0 c (hW.trans ((h2.mono hW.size |>.trans (h4.mono (Nat.le_trans hW.size h2.size))))))
    · exact opText_hear (opG b.seq (.slice A 0 c)) [] rfl W2 ((hP.up hW).up h2) (hT.below h2).at_ (by show (0 : Int) ≤ 0 ∧ (0 : Int) ≤ _; decide) (show OkN [1, 0, b.seq] from okN3 (by decide) (by decide) ⟨by omega, by omega⟩) (fun u hu => by simp at hu) (by show (3 : Nat) ≤ _; omega) (by simp) (by simp) (Nat.zero_le _)
    · obtain ⟨vp', hU, hvp⟩ := hU
      have hvW := hv.below hW
      have hv2 : BagOwn W2 base b1 [b] := hvW.keep hK (fun i hi e => by
        rcases e with e | e
        · exact hbd i hi (.inl e)
        · exact hbd i hi (.inr (.inl e)))
      refine (apply_got hU.at_ hv2 A3 n3 c3 hbt (opG b.seq (.slice A 0 c)) rfl rfl rfl rfl rfl A 0 c rfl none 0 0 rfl).mono ?_
      rintro e W3 ⟨rfl, g, c', hO3, hK3⟩
      have hdo : ∀ i, b1.ownBlock = some i → ¬ ownD p gs vp' i := fun i hi => own_new hvp (fun e => hbd i hi (.inl e)) (Nat.lt_of_lt_of_le (hbz i hi) hW.size)
      have hM2 := hW'.held.keep hK (fun e => by rcases e with e | e; exact hW'.dn.1 e; exact hW'.ne.1 e.symm)
      have hM3 := hM2.keep hK3 (fun e => by
        rcases e with e | e
        · exact hbd _ e (.inr (.inr (.inl rfl)))
        · exact hW'.ne.1 e.symm)
      have hN := hW'.next hK.size hK hU hvp hO3 hM3 hK3 (fun i e f => by
        rcases f with f | f
        · exact hdo i f e
        · exact hU.apart (f ▸ e)) (fun f => by
        rcases f with f | f
        · exact hbd _ f (.inr (.inr (.inr rfl)))
        · exact hW'.ne.2.1 f.symm)
      have hKK : Keeps (fun i => ownO ob p gs vp hb lb i ∨ b1.ownBlock = some i) W W3 := (hK.mono (fun i _ e => by
        rcases e with e | e
        · exact .inl (.inl e)
        · exact .inl (.inr (.inl e)))).trans hK3 (fun i _ e => by
        rcases e with e | e
        · exact .inr e
        · exact .inl (.inr (.inl e)))
      exact ⟨rfl, ⟨vp', g, c', hN, newB2_of hvp hW2, (Keeps.of_new hW).trans hKK (fun _ _ e => e)⟩, hKK⟩
  · exact answer_got _ 1 0 b.seq A n c W
  · obtain ⟨vp', g, c', hN, hv, hK⟩ := hQ
    exact ⟨vp', g, c', hN.below (Below.refl _ _).drew, hv, hK.drew⟩
end Go.Proofs.YthgfbaekmhpiaaaGreatDoor
namespace Go.Proofs.YthgfbaekmhpiaaaGreatDoor
open Go.RowKit Go.Shelf Go.Sort

theorem start_off {w : World} {p gs : Nat} {vp : Value} {S : List (List Int)} {ca : Int} (h : DiskAt w p gs vp S [] false false ca) (hca : 0 ≤ ca ∧ ca ≤ 9223372036854775807) (hS : S.length ≤ 65536) (hJ : Jr [] S) (hdl : ∀ i, ownD p gs vp i → i < w.heap.size) (id : Int) (hid : isOfficeB id = true) :
    Calls Tryz.prog 32 #[.pointer (some ⟨p, 0, none⟩), .int .i64 id] w fun e w' => ∃ ob hb lb, e = .returned (.tuple #[.pointer (some ⟨ob, 0, none⟩), .int .i64 0]) ∧ Off w' ob p gs vp S [] id hb lb 0 0 (.slice none 0 0) (.slice none 0 0) 0 0 (fun _ => none) ∧ w.heap.size ≤ hb ∧ w.heap.size ≤ lb ∧ w.heap.size ≤ ob ∧ Below w.heap.size w w' := by
  refine (start_ok h hS hJ id hid).mono ?_
  rintro e w' ⟨ob, hb, lb, rfl, hO, hM, hL, h1, h2, h3, hB⟩
  refine ⟨ob, hb, lb, rfl, ⟨⟨⟨ca, h.below hB, hca⟩, hS, hJ, hO, fun e => ?_⟩, hM, hL, ⟨by omega, by omega, by omega⟩, fun i e => Nat.lt_of_lt_of_le (hdl i e) hB.size, fun e => ?_, fun e => ?_⟩, h1, by omega, by omega, hB⟩
  · have := hdl _ e; omega
  · have := hdl _ e; omega
  · have := hdl _ e; omega
/-- A sorted list of one number. -/
theorem sorted_one {q : List Int} {f : Int → Option ByteArray} {i : Int} (h : q.Pairwise (· < ·) ∧ ∀ n, n ∈ q ↔ (f n).isSome = true) (hf : ∀ n, (f n).isSome = true ↔ n = i) : q = [i] := by
  obtain ⟨h1, h2⟩ := h
  have h3 : ∀ n, n ∈ q ↔ n = i := fun n => (h2 n).trans (hf n)
  match q, h1, h3 with
  | [], _, h3 => exact absurd ((h3 i).2 rfl) (by simp)
  | [a], _, h3 => rw [(h3 a).1 (by simp)]
  | a :: b :: r, h1, h3 =>
    have ha := (h3 a).1 (by simp)
    have hb := (h3 b).1 (by simp)
    have := List.rel_of_pairwise_cons h1 (a' := b) (by simp)
    omega
theorem sorted_none {q : List Int} {f : Int → Option ByteArray} (h : q.Pairwise (· < ·) ∧ ∀ n, n ∈ q ↔ (f n).isSome = true) (hf : ∀ n, f n = none) : q = [] := by
  cases q with
  | nil => rfl
  | cons a r => have := (h.2 a).1 (by simp); rw [hf] at this; cases this
end Go.Proofs.YthgfbaekmhpiaaaGreatDoor
