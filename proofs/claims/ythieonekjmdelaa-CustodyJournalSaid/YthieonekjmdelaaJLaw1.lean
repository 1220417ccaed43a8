/- What the law of CustodyJournal calls: opened, append2. Conditions: the disk, the journal and the reference's journal lie in memory. -/
import Derived.Test.YthieonekjmdelaaJRef2
namespace Go.Proofs.Ythieonekjmdelaa
open Go.RowKit

theorem JDead.keep {S : Nat → Prop} {M : Nat → Prop} {w w' : World} {jb p N : Nat} {R : List (List Int)} {X : Option (List Int)} (h : JDead M w jb p N R X) (hk : Keeps S w w') (hS : ∀ i, M i → ¬ S i) : JDead M w' jb p N R X := by
  obtain ⟨gs, vp, ⟨⟨Se, P, ca, hD, h2⟩, h3, h4, h5⟩, h6, h7, h8⟩ := h
  exact ⟨gs, vp, ⟨⟨Se, P, ca, hD.keep hk (fun i e => hS i (h6 i e)), h2⟩, h3, Blk.keep h4 hk (hS jb h7), h5⟩, h6, h7, h8.up hk.size⟩
/-- What Open may return. -/
def MayOk (R R' : List (List Int)) (safe : Nat) (fl : Bool) (ph : ByteArray) (cr : Bool) : Prop :=
  (cr = false ∧ R' = R) ∨ (cr = true ∧ safe ≤ R.length ∧ (R' = R ∨ ∃ r, R' = R ++ [r] ∧ fl = true ∧ ph = strOfNums r))
theorem may_any {w : World} {mb B : Nat} {rv : Value} {R R' : List (List Int)} {safe : Nat} {fl : Bool} {ph : ByteArray} {cr : Bool} (h : MAt w mb B rv (R.map sJ) safe fl ph) (hok : MayOk R R' safe fl ph cr) (hl : R'.length ≤ 10000) (A : Option Addr) (c : Nat) (hc : R'.length ≤ c) (hA : TextsAt w A (R'.map sJ)) :
    Calls Try.prog 21 #[.pointer (some ⟨mb, 0, none⟩), .slice A R'.length c, .bool cr] w fun e w' => e = .returned (.bool true) ∧ ∃ m, w' = w.drewN m := by
  rcases hok with ⟨rfl, rfl⟩ | ⟨rfl, hs, rfl | ⟨r, rfl, rfl, rfl⟩⟩
  · have := may_same h (allText_sJ R') (by rw [List.length_map]; omega) A c hA
    rwa [List.length_map] at this
  · have := may_crash0 h (allText_sJ R') (by rw [List.length_map]; omega) (by rw [List.length_map]; exact hs) A c (by rw [List.length_map]; exact hc) hA
    rwa [List.length_map] at this
  · rw [List.length_append] at hl hc
    simp at hl hc
    have := may_crash1 h (allText_sJ R) (by rw [List.length_map]; omega) (by rw [List.length_map]; exact hs) A c (by rw [List.length_map]; omega) (by rw [List.map_append] at hA; exact hA)
    rw [List.length_map] at this
    rw [List.length_append]
    exact this
set_option maxRecDepth 100000 in
set_option maxHeartbeats 1000000 in
theorem opened_any {w0 w : World} {M : Nat → Prop} {mb p N : Nat} {R R' : List (List Int)} {safe : Nat} {fl : Bool} {ph : ByteArray} {rv : Value} {st : Bool} (hD : DLive M w p N R' st) (hm : MAt w mb w0.heap.size rv (R.map sJ) safe fl ph) (hw : w0.heap.size ≤ w.heap.size) (hM : ∀ i, M i → w0.heap.size ≤ i) (hmb : w0.heap.size ≤ mb) (hmM : ¬ M mb) (cr : Bool) (hok : MayOk R R' safe fl ph cr) (hl : R'.length ≤ 10000) :
    Calls Try.prog 9 #[.pointer (some ⟨p, 0, none⟩), .pointer (some ⟨mb, 0, none⟩), .bool cr] w fun e w' => ∃ jb M' rv', e = .returned (.tuple #[.pointer (some ⟨jb, 0, none⟩), .bool true]) ∧ JLive M' w' jb p N R' st ∧ MAt w' mb w0.heap.size rv' (R'.map sJ) R'.length false ⟨#[]⟩ ∧ (∀ i, M' i → w0.heap.size ≤ i) ∧ ¬ M' mb ∧ (∀ i, rv'.ownBlock = some i → ¬ M' i) ∧ Below w0.heap.size w w' ∧ Keeps (fun i => i = mb) w w' := by
  have HO := Lib.hid (open_live hD)
  have HM := Lib.hid hm
  have HMB := Lib.hid hM
  have hmz := hm.blk.lt
  have HMM := Lib.hid hmM
  have HOK := Lib.hid hok
  clear hD hm hM hmM hok
  go_enter Try.func9, Try.ntmps9
  go_wp2_with fail
  refine HO.out.mono ?_
  rintro e w2 ⟨jb, A, c, M2, rfl, hJ, hT, hn, hG, hB⟩
  have hb := hG.below HMB.out hw
  have hm2 := HM.out.below hB
  have hroom := ownT_room hT (by rw [List.length_map])
  have HLN := Lib.hid (len_live hJ)
  have HMY := Lib.hid (may_any hm2 HOK.out hl A c hroom hT.texts)
  have HJ := Lib.hid hJ
  have HT := Lib.hid hT
  have HM2 := Lib.hid hm2
  have HMM2 := Lib.hid (hG.far hmz HMM.out)
  have HB := Lib.hid hb
  have HBN : Hid (Keeps (fun i => i = mb) w w2) := Lib.hid (Keeps.of_new hB)
  clear hJ hT hn hG hB hb hm2 hroom HO HM
  go_wp2_with fail
  refine HLN.out.mono ?_
  rintro e w3 ⟨rfl, rfl⟩
  go_wp2_with fail
  refine HMY.out.mono ?_
  rintro e w3 ⟨rfl, n, rfl⟩
  have hd : Below w2.heap.size w2 (w2.drewN n) := below_dr (Below.refl _ _) n
  have hlm : (R'.map sJ).length = R'.length := List.length_map _
  have HOP := mopened_any (HM2.out.below hd) A c (R'.map sJ) (allText_sJ R') (by rw [hlm]; omega) (HT.out.texts.below hd)
  rw [hlm] at HOP
  have HOP := Lib.hid HOP
  have hz2 : (w2.drewN n).heap.size = w2.heap.size := rfl
  clear HLN HMY
  go_wp2_with fail
  refine HOP.out.mono ?_
  rintro e w4 ⟨⟨v, rfl⟩, ⟨rv', hm4⟩, hK4⟩
  have HF : Hid (∃ M' rv', JLive M' w4 jb p N R' st ∧ MAt w4 mb w0.heap.size rv' (R'.map sJ) R'.length false ⟨#[]⟩ ∧ (∀ i, M' i → w0.heap.size ≤ i) ∧ ¬ M' mb ∧ (∀ i, rv'.ownBlock = some i → ¬ M' i) ∧ Below w0.heap.size w w4 ∧ Keeps (fun i => i = mb) w w4) := Lib.hid (by
    have hBw := HB.out.1
    have hb3 : Below w0.heap.size w (w2.drewN n) := hBw.trans (below_dr (Below.refl _ _) n)
    have hsz := hBw.size
    refine ⟨M2, rv', (HJ.out.below hd).keep hK4 (fun i e1 e2 => HMM2.out (by rw [← e2]; exact e1)), ⟨hm4.blk, ownT_base hm4.own (by omega), hm4.form, hm4.ne⟩, HB.out.2, HMM2.out, fun i e1 e2 => ?_, hb3.trans (hK4.below (fun i hi e => by omega) (by omega)), ((HBN.out.drewN n).trans hK4 (fun _ _ e => e))⟩
    have h1 := (World.ownsRow.lt hm4.own i e1).1
    obtain ⟨_, _, _, _, _, _, _, hok⟩ := HJ.out
    have h2 := hok i e2
    omega)
  clear hm4 hK4 HOP
  go_wp2_with fail
  go_ret2
  obtain ⟨M', rv', h1⟩ := HF.out
  exact ⟨jb, M', rv', rfl, h1⟩
/-- What the law has between two operations: the journal of the records R, and its reference. -/
structure JS (w0 w : World) (jb p mb N : Nat) (R : List (List Int)) : Prop where
  st : ∃ M rv safe fl ph, MAt w mb w0.heap.size rv (R.map sJ) safe fl ph ∧ safe ≤ R.length ∧ (∀ i, M i → w0.heap.size ≤ i) ∧ ¬ M mb ∧ (∀ i, rv.ownBlock = some i → ¬ M i) ∧
    ((∃ s, JLive M w jb p N R s ∧ fl = false) ∨ (∃ X, JDead M w jb p N R X ∧ ∀ r, X = some r → fl = true ∧ ph = strOfNums r))
  mb : w0.heap.size ≤ mb
  recs : ∀ r ∈ R, r.length ≤ 60000
  below : Below w0.heap.size w0 w
theorem JS.same {w0 w w' : World} {jb p mb N : Nat} {R : List (List Int)} (h : JS w0 w jb p mb N R) (hb : Below w.heap.size w w') : JS w0 w' jb p mb N R := by
  obtain ⟨⟨M, rv, safe, fl, ph, h1, h2, h3, h4, h5, h6⟩, h7, h8, h9⟩ := h
  refine ⟨⟨M, rv, safe, fl, ph, h1.below hb, h2, h3, h4, h5, ?_⟩, h7, h8, h9.trans (hb.mono h9.size)⟩
  rcases h6 with ⟨s, hJ, hf⟩ | ⟨X, hJ, hf⟩
  · exact .inl ⟨s, hJ.below hb, hf⟩
  · exact .inr ⟨X, hJ.below hb, hf⟩
end Go.Proofs.Ythieonekjmdelaa
