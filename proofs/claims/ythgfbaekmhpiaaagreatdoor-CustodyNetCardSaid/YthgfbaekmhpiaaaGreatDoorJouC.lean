/- The contracts of a journal's methods, in words that hide where the disk lies. Conditions: the disk and the journal lie in memory, in the blocks M. -/
import Derived.Test.YthgfbaekmhpiaaaGreatDoorJouB
namespace Go.Proofs.YthgfbaekmhpiaaaGreatDoor
open Go.RowKit

/-- From w, where the blocks M were the disk's and the journal's, to w', where M' are: others are as they were. -/
structure Grow (M : Nat → Prop) (w : World) (M' : Nat → Prop) (w' : World) : Prop where
  keep : Keeps M w w'
  new : ∀ i, M' i → M i ∨ w.heap.size ≤ i
theorem Grow.refl (M : Nat → Prop) (w : World) : Grow M w M w := ⟨Keeps.refl _ _, fun _ h => .inl h⟩
theorem Grow.trans {M M1 M2 : Nat → Prop} {w w1 w2 : World} (h : Grow M w M1 w1) (k : Grow M1 w1 M2 w2) : Grow M w M2 w2 :=
  ⟨h.keep.trans k.keep (fun i hi e => by rcases h.new i e with e | e
                                         · exact e
                                         · omega), fun i e => by
    rcases k.new i e with e | e
    · exact h.new i e
    · exact .inr (Nat.le_trans h.keep.size e)⟩
theorem Grow.of_new {M : Nat → Prop} {w w' : World} (h : Below w.heap.size w w') : Grow M w M w' := ⟨Keeps.of_new h, fun _ e => .inl e⟩
theorem Grow.below {B : Nat} {M M' : Nat → Prop} {w w' : World} (h : Grow M w M' w') (hM : ∀ i, M i → B ≤ i) (hB : B ≤ w.heap.size) : Below B w w' ∧ ∀ i, M' i → B ≤ i :=
  ⟨h.keep.below (fun i hi e => by have := hM i e; omega) hB, fun i e => by
    rcases h.new i e with e | e
    · exact hM i e
    · omega⟩
/-- A block that is not the disk's is not afterwards. -/
theorem Grow.far {M M' : Nat → Prop} {w w' : World} (h : Grow M w M' w') {i : Nat} (hi : i < w.heap.size) (hn : ¬ M i) : ¬ M' i := fun e => by
  rcases h.new i e with e | e
  · exact hn e
  · omega
def upM (M : Nat → Prop) (w w' : World) (i : Nat) : Prop := (M i ∨ w.heap.size ≤ i) ∧ i < w'.heap.size
theorem grow_up {M : Nat → Prop} {w w' : World} (h : Keeps M w w') : Grow M w (upM M w w') w' := ⟨h, fun _ e => e.1⟩
def MOk (M : Nat → Prop) (w : World) : Prop := ∀ i, M i → i < w.heap.size
/-- A disk of N sectors with the records R, nothing pending, in the blocks M. -/
def DLive (M : Nat → Prop) (w : World) (p N : Nat) (R : List (List Int)) (st : Bool) : Prop :=
  ∃ gs vp S ca, DiskAt w p gs vp S [] false st ca ∧ (0 ≤ ca ∧ ca ≤ 9223372036854775807) ∧ S.length = N ∧ N ≤ 65536 ∧ Jr R S ∧ (∀ i, ownD p gs vp i → M i) ∧ MOk M w
def JLive (M : Nat → Prop) (w : World) (jb p N : Nat) (R : List (List Int)) (st : Bool) : Prop :=
  ∃ gs vp S, JUp w jb p gs vp S R st ∧ S.length = N ∧ (∀ i, ownD p gs vp i → M i) ∧ M jb ∧ MOk M w
def JDead (M : Nat → Prop) (w : World) (jb p N : Nat) (R : List (List Int)) (X : Option (List Int)) : Prop :=
  ∃ gs vp, JDn w jb p gs vp N R X ∧ (∀ i, ownD p gs vp i → M i) ∧ M jb ∧ MOk M w
theorem JLive.disk {M : Nat → Prop} {w : World} {jb p N : Nat} {R : List (List Int)} {st : Bool} (h : JLive M w jb p N R st) : DLive M w p N R st := by
  obtain ⟨gs, vp, S, h1, h2, h3, h4, h5⟩ := h
  obtain ⟨ca, hD, hca⟩ := h1.disk
  exact ⟨gs, vp, S, ca, hD, hca, h2, by rw [← h2]; exact h1.room, h1.recs, h3, h5⟩
theorem MOk.up {M : Nat → Prop} {w w' : World} (h : MOk M w) (hb : w.heap.size ≤ w'.heap.size) : MOk M w' := fun i e => Nat.lt_of_lt_of_le (h i e) hb
theorem JLive.below {M : Nat → Prop} {w w' : World} {jb p N : Nat} {R : List (List Int)} {st : Bool} (h : JLive M w jb p N R st) (hb : Below w.heap.size w w') : JLive M w' jb p N R st := by
  obtain ⟨gs, vp, S, h1, h2, h3, h4, h5⟩ := h
  exact ⟨gs, vp, S, h1.below hb, h2, h3, h4, h5.up hb.size⟩
theorem JDead.below {M : Nat → Prop} {w w' : World} {jb p N : Nat} {R : List (List Int)} {X : Option (List Int)} (h : JDead M w jb p N R X) (hb : Below w.heap.size w w') : JDead M w' jb p N R X := by
  obtain ⟨gs, vp, ⟨⟨S, P, ca, hD, h2⟩, h3, h4, h5⟩, h6, h7, h8⟩ := h
  exact ⟨gs, vp, ⟨⟨S, P, ca, hD.below hb, h2⟩, h3, Blk.below h4 hb (Blk.lt h4), h5⟩, h6, h7, h8.up hb.size⟩
theorem DLive.below {M : Nat → Prop} {w w' : World} {p N : Nat} {R : List (List Int)} {st : Bool} (h : DLive M w p N R st) (hb : Below w.heap.size w w') : DLive M w' p N R st := by
  obtain ⟨gs, vp, S, ca, hD, h1, h2, h3, h4, h5, h6⟩ := h
  exact ⟨gs, vp, S, ca, hD.below hb, h1, h2, h3, h4, h5, h6.up hb.size⟩
theorem JLive.keep {S : Nat → Prop} {M : Nat → Prop} {w w' : World} {jb p N : Nat} {R : List (List Int)} {st : Bool} (h : JLive M w jb p N R st) (hk : Keeps S w w') (hS : ∀ i, M i → ¬ S i) : JLive M w' jb p N R st := by
  obtain ⟨gs, vp, Se, ⟨⟨ca, hD, h1⟩, h2, h3, h4, h5⟩, h6, h7, h8, h9⟩ := h
  exact ⟨gs, vp, Se, ⟨⟨ca, hD.keep hk (fun i e => hS i (h7 i e)), h1⟩, h2, h3, Blk.keep h4 hk (hS jb h8), h5⟩, h6, h7, h8, h9.up hk.size⟩
theorem up_own {M : Nat → Prop} {w w' : World} {p gs : Nat} {vp vp' : Value} {S : List (List Int)} {P : List PW} {dn st : Bool} {ca : Int} (h : ∀ i, ownD p gs vp i → M i) (hv : newB w vp vp') (hD : DiskAt w' p gs vp' S P dn st ca) : ∀ i, ownD p gs vp' i → upM M w w' i := fun i e => by
  refine ⟨?_, ownD_lt hD e⟩
  rcases e with e | e | e
  · exact .inl (h i (.inl e))
  · exact .inl (h i (.inr (.inl e)))
  · rcases hv with hv | hv
    · exact .inl (h i (.inr (.inr (by rw [← hv]; exact e))))
    · exact .inr (hv i e)
theorem own_nil {M : Nat → Prop} {p gs : Nat} {vp : Value} (h : ∀ i, ownD p gs vp i → M i) : ∀ i, ownD p gs (.slice none 0 0) i → M i := fun i e => by
  rcases e with e | e | e
  · exact h i (.inl e)
  · exact h i (.inr (.inl e))
  · simp [Value.ownBlock] at e
theorem mok_up {M : Nat → Prop} {w w' : World} : MOk (upM M w w') w' := fun _ e => e.2
theorem japp_ptr (jb : Nat) (s : ByteArray) (w : World) (Q : Ending → World → Prop) (k : Int) (h : Calls Tryz.prog 78 #[.pointer (some ⟨jb, 0, none⟩), .string s] w fun e w' => e = .returned (.int .i64 k) ∧ Q e w') (hz : jb < w.heap.size) :
    Calls Tryz.prog 36 #[.pointer (some ⟨jb, 0, none⟩), .string s] w fun e w' => e = .returned (.int .i64 k) ∧ Q e w' := by
  have H := Lib.hid h
  clear h
  go_enter Tryz.func36, Tryz.ntmps36
  go_wp2_with fail
  refine H.out.mono ?_
  rintro e w1 ⟨rfl, hq⟩
  have HQ := Lib.hid hq
  clear hq H
  go_wp2_with fail
  go_ret
  exact ⟨rfl, HQ.out⟩
theorem append_long (jb : Nat) (s : ByteArray) (hs : 60000 < s.size) (w : World) (hz : jb < w.heap.size) :
    Calls Tryz.prog 36 #[.pointer (some ⟨jb, 0, none⟩), .string s] w fun e w' => e = .returned (.int .i64 2) ∧ w = w' :=
  japp_ptr jb s w (fun _ w' => w = w') 2 (add_long jb s hs w) hz
theorem append_dead {M : Nat → Prop} {w : World} {jb p N : Nat} {R : List (List Int)} {X : Option (List Int)} (h : JDead M w jb p N R X) (s : ByteArray) (hs : s.size ≤ 60000) :
    Calls Tryz.prog 36 #[.pointer (some ⟨jb, 0, none⟩), .string s] w fun e w' => e = .returned (.int .i64 70) ∧ w = w' := by
  obtain ⟨gs, vp, h1, _⟩ := h
  exact japp_ptr jb s w (fun _ w' => w = w') 70 (add_down h1 s hs) h1.at_.lt
theorem append_full {M : Nat → Prop} {w : World} {jb p N : Nat} {R : List (List Int)} {st : Bool} (h : JLive M w jb p N R st) (s : ByteArray) (hs : s.size ≤ 60000) (hf : N < (encsOf R).length + nbOf s.size) :
    Calls Tryz.prog 36 #[.pointer (some ⟨jb, 0, none⟩), .string s] w fun e w' => e = .returned (.int .i64 72) ∧ JLive M w' jb p N R st ∧ Below w.heap.size w w' := by
  obtain ⟨gs, vp, S, h1, h2, h3, h4, h5⟩ := h
  refine (japp_ptr jb s w (fun _ w' => ∃ n, w' = w.drewN n) 72 (add_full h1 s hs (by omega)) h1.at_.lt).mono ?_
  rintro e w' ⟨rfl, n, rfl⟩
  exact ⟨rfl, ⟨gs, vp, S, h1.drewN n, h2, h3, h4, h5⟩, below_dr (Below.refl _ _) n⟩
theorem japp_any (jb : Nat) (s : ByteArray) (w : World) (Q1 Q2 : World → Prop) (h : Calls Tryz.prog 78 #[.pointer (some ⟨jb, 0, none⟩), .string s] w fun e w' => (e = .returned (.int .i64 0) ∧ Q1 w') ∨ (e = .returned (.int .i64 70) ∧ Q2 w')) (hz : jb < w.heap.size) :
    Calls Tryz.prog 36 #[.pointer (some ⟨jb, 0, none⟩), .string s] w fun e w' => (e = .returned (.int .i64 0) ∧ Q1 w') ∨ (e = .returned (.int .i64 70) ∧ Q2 w') := by
  have H := Lib.hid h
  clear h
  go_enter Tryz.func36, Tryz.ntmps36
  go_wp2_with fail
  refine H.out.mono ?_
  rintro e w1 (⟨rfl, hq⟩ | ⟨rfl, hq⟩)
  · have HQ := Lib.hid hq
    clear hq H
    go_wp2_with fail
    go_ret
    exact .inl ⟨rfl, HQ.out⟩
  · have HQ := Lib.hid hq
    clear hq H
    go_wp2_with fail
    go_ret
    exact .inr ⟨rfl, HQ.out⟩
theorem append_live {M : Nat → Prop} {w : World} {jb p N : Nat} {R : List (List Int)} {st : Bool} (h : JLive M w jb p N R st) (s : ByteArray) (hs : s.size ≤ 60000) (hf : (encsOf R).length + nbOf s.size ≤ N) :
    Calls Tryz.prog 36 #[.pointer (some ⟨jb, 0, none⟩), .string s] w fun e w' => (e = .returned (.int .i64 0) ∧ ∃ M', JLive M' w' jb p N (R ++ [bsOf s]) st ∧ Grow M w M' w') ∨ (e = .returned (.int .i64 70) ∧ st = true ∧ ∃ M', JDead M' w' jb p N R (some (bsOf s)) ∧ Grow M w M' w') := by
  obtain ⟨gs, vp, S, h1, h2, h3, h4, h5⟩ := h
  have hl : (splice S (encsOf R).length (encB (bsOf s))).length = N := by
    rw [length_splice _ _ _ (by rw [encB_len, bsOf_len]; omega), h2]
  refine japp_any jb s w _ _ ((add_any h1 s hs (by omega)).mono ?_) h1.at_.lt
  rintro e w' ⟨h6, hK⟩
  have hG := grow_up (hK.mono (S' := M) (fun i _ e => by
    rcases e with e | e
    · exact h3 i e
    · rw [e]; exact h4))
  have hj : upM M w w' jb := ⟨.inl h4, Nat.lt_of_lt_of_le (h5 jb h4) hK.size⟩
  rcases h6 with ⟨he, vp', h6, h7⟩ | ⟨hst, he, vp', h6, h7⟩
  · obtain ⟨ca, hD, _⟩ := h6.disk
    exact .inl ⟨he, _, ⟨gs, vp', _, h6, hl, up_own h3 h7 hD, hj, mok_up⟩, hG⟩
  · rw [h2] at h6
    obtain ⟨S', P', ca, hD, _⟩ := h6.disk
    exact .inr ⟨he, hst, _, ⟨gs, vp', h6, up_own h3 h7 hD, hj, mok_up⟩, hG⟩
theorem sync_live {M : Nat → Prop} {w : World} {jb p N : Nat} {R : List (List Int)} {st : Bool} (h : JLive M w jb p N R st) :
    Calls Tryz.prog 37 #[.pointer (some ⟨jb, 0, none⟩)] w fun e w' => (e = .returned (.int .i64 0) ∧ JLive M w' jb p N R st ∧ Grow M w M w') ∨ (e = .returned (.int .i64 70) ∧ st = true ∧ JDead M w' jb p N R none ∧ Grow M w M w') := by
  obtain ⟨gs, vp, S, h1, h2, h3, h4, h5⟩ := h
  obtain ⟨ca, hD, hca⟩ := h1.disk
  have j0 := h1.at_.cell 0
  have jl := h1.at_.lt
  simp at j0
  have hb : ∀ w', Keeps (fun i => i = p) w w' → Grow M w M w' := fun w' hK => ⟨hK.mono (fun i _ e => h3 i (.inl e)), fun _ e => .inl e⟩
  have hjp : jb ≠ p := fun e => h1.apart (.inl e)
  by_cases hf : st = true ∧ ca = 0
  · obtain ⟨rfl, rfl⟩ := hf
    have HF := Lib.hid ((flush_stop hD).mono (R' := fun e w' => e = .returned (.int .i64 70) ∧ JDead M w' jb p N R none ∧ Grow M w M w') (by
      rintro e w' ⟨rfl, hD2, hK⟩
      refine ⟨rfl, ⟨gs, vp, ⟨⟨S, [], 0, hD2, h2, Nat.zero_le _, hca, fun K => ⟨by rw [crashed_len, h2], .inl h1.recs⟩⟩, by rw [← h2]; exact h1.room, Blk.keep h1.at_ hK hjp, h1.apart⟩, h3, h4, h5.up hK.size⟩, hb w' hK⟩))
    clear hD h1 hb
    go_enter Tryz.func37, Tryz.ntmps37
    go_wp2_with fail
    refine HF.out.mono ?_
    rintro e w1 ⟨rfl, hq⟩
    have HQ := Lib.hid hq
    clear hq HF
    go_wp2_with fail
    go_ret
    exact .inr ⟨rfl, trivial, HQ.out⟩
  · have HF := Lib.hid ((flush_ok hD hca (fun a b => hf ⟨a, b⟩)).mono (R' := fun e w' => e = .returned (.int .i64 0) ∧ JLive M w' jb p N R st ∧ Grow M w M w') (by
      rintro e w' ⟨rfl, hD2, hK⟩
      exact ⟨rfl, ⟨gs, _, S, ⟨⟨_, hD2, cntOf_range st ca hca⟩, h1.room, h1.recs, Blk.keep h1.at_ hK hjp, fun e => by
        rcases e with e | e | e
        · exact h1.apart (.inl e)
        · exact h1.apart (.inr (.inl e))
        · simp [Value.ownBlock] at e⟩, h2, own_nil h3, h4, h5.up hK.size⟩, hb w' hK⟩))
    clear hD h1 hb
    go_enter Tryz.func37, Tryz.ntmps37
    go_wp2_with fail
    refine HF.out.mono ?_
    rintro e w1 ⟨rfl, hq⟩
    have HQ := Lib.hid hq
    clear hq HF
    go_wp2_with fail
    go_ret
    exact .inl ⟨rfl, HQ.out⟩
theorem sync_dead {M : Nat → Prop} {w : World} {jb p N : Nat} {R : List (List Int)} {X : Option (List Int)} (h : JDead M w jb p N R X) :
    Calls Tryz.prog 37 #[.pointer (some ⟨jb, 0, none⟩)] w fun e w' => e = .returned (.int .i64 70) ∧ w = w' := by
  obtain ⟨gs, vp, ⟨⟨S, P, ca, hD, _⟩, _, hj, _⟩, _⟩ := h
  have HF := Lib.hid (flush_down hD)
  have j0 := Blk.cell hj 0
  have jl := Blk.lt hj
  simp at j0
  clear hD hj
  go_enter Tryz.func37, Tryz.ntmps37
  go_wp2_with fail
  refine HF.out.mono ?_
  rintro e w1 ⟨rfl, rfl⟩
  go_wp2_with fail
  go_ret
  exact ⟨rfl, rfl⟩
theorem len_at {w : World} {jb p u n : Nat} (h : JAt w jb p u n) :
    Calls Tryz.prog 38 #[.pointer (some ⟨jb, 0, none⟩)] w fun e w' => e = .returned (.int .i64 (n : Int)) ∧ w = w' := by
  have j2 := Blk.cell h 2
  have jl := Blk.lt h
  simp at j2
  clear h
  go_enter Tryz.func38, Tryz.ntmps38
  go_wp2_with fail
  go_ret
  exact ⟨rfl, rfl⟩
theorem len_live {M : Nat → Prop} {w : World} {jb p N : Nat} {R : List (List Int)} {st : Bool} (h : JLive M w jb p N R st) :
    Calls Tryz.prog 38 #[.pointer (some ⟨jb, 0, none⟩)] w fun e w' => e = .returned (.int .i64 (R.length : Int)) ∧ w = w' := by
  obtain ⟨gs, vp, S, h1, _⟩ := h
  exact len_at h1.at_
theorem len_dead {M : Nat → Prop} {w : World} {jb p N : Nat} {R : List (List Int)} {X : Option (List Int)} (h : JDead M w jb p N R X) :
    Calls Tryz.prog 38 #[.pointer (some ⟨jb, 0, none⟩)] w fun e w' => e = .returned (.int .i64 (R.length : Int)) ∧ w = w' := by
  obtain ⟨gs, vp, h1, _⟩ := h
  exact len_at h1.at_
/-- The numbers of a slice, in blocks that are not the disk's. -/
def KeepJ (w : World) (M : Nat → Prop) (A : Option Addr) (l : List Int) : Prop := 0 < l.length → ∃ g o, A = some ⟨g, o, none⟩ ∧ (∀ i x, l[i]? = some x → w.cell? ⟨g, o + i, none⟩ = some (.int .i64 x)) ∧ ¬ M g
theorem crash_dlive {M : Nat → Prop} {w : World} {p N : Nat} {R : List (List Int)} {st : Bool} (h : DLive M w p N R st) (KA : Option Addr) (kc : Nat) (K : List Int) (hKl : K.length ≤ 9223372036854775807) (hKi : ∀ x ∈ K, -9223372036854775808 ≤ x ∧ x ≤ 9223372036854775807) (hK : KeepJ w M KA K) :
    Calls Tryz.prog 29 #[.pointer (some ⟨p, 0, none⟩), .slice KA K.length kc] w fun e w' => (∃ v, e = .returned v) ∧ DLive M w' p N R false ∧ Grow M w M w' := by
  obtain ⟨gs, vp, S, ca, hD, h1, h2, h3, h4, h5, h6⟩ := h
  refine (crash_any hD (by omega) (by simp) KA kc K hKl hKi (fun h0 => ?_)).mono ?_
  · obtain ⟨g, o, q1, q2, q3⟩ := hK h0
    exact ⟨g, o, q1, q2, fun e => q3 (h5 g e)⟩
  · rintro e w' ⟨he, hD2, hK2⟩
    exact ⟨he, ⟨gs, _, S, ca, hD2, h1, h2, h3, h4, own_nil h5, h6.up hK2.size⟩, hK2.mono (fun i _ e => by
      rcases e with e | e
      · exact h5 i (.inl e)
      · exact h5 i (.inr (.inl e))), fun _ e => .inl e⟩
theorem crash_dead {M : Nat → Prop} {w : World} {jb p N : Nat} {R : List (List Int)} {X : Option (List Int)} (h : JDead M w jb p N R X) (KA : Option Addr) (kc : Nat) (K : List Int) (hKl : K.length ≤ 9223372036854775807) (hKi : ∀ x ∈ K, -9223372036854775808 ≤ x ∧ x ≤ 9223372036854775807) (hK : KeepJ w M KA K) :
    Calls Tryz.prog 29 #[.pointer (some ⟨p, 0, none⟩), .slice KA K.length kc] w fun e w' => (∃ v, e = .returned v) ∧ (DLive M w' p N R false ∨ ∃ r, X = some r ∧ DLive M w' p N (R ++ [r]) false) ∧ Grow M w M w' := by
  obtain ⟨gs, vp, ⟨⟨S, P, ca, hD, h2, hP, hca, hcr⟩, h3, h4, h5⟩, h6, h7, h8⟩ := h
  refine (crash_any hD (by omega) hP KA kc K hKl hKi (fun h0 => ?_)).mono ?_
  · obtain ⟨g, o, q1, q2, q3⟩ := hK h0
    exact ⟨g, o, q1, q2, fun e => q3 (h6 g e)⟩
  · rintro e w' ⟨he, hD2, hK2⟩
    refine ⟨he, ?_, hK2.mono (fun i _ e => by
      rcases e with e | e
      · exact h6 i (.inl e)
      · exact h6 i (.inr (.inl e))), fun _ e => .inl e⟩
    rcases (hcr K).2 with hj | ⟨r, hx, hj⟩
    · exact .inl ⟨gs, _, _, ca, hD2, hca, (hcr K).1, h3, hj, own_nil h6, h8.up hK2.size⟩
    · exact .inr ⟨r, hx, gs, _, _, ca, hD2, hca, (hcr K).1, h3, hj, own_nil h6, h8.up hK2.size⟩
theorem ownT_base {w : World} {B B' : Nat} {v : Value} {L : List Value} (h : OwnT w B v L) (hB : B' ≤ B) : OwnT w B' v L := by
  refine ⟨h.1, ?_⟩
  rcases h.2 with h0 | ⟨g, cap, cur, rfl, hbb, hg, rest⟩
  · exact .inl h0
  · exact .inr ⟨g, cap, cur, rfl, by omega, hg, rest⟩
theorem open_live {M : Nat → Prop} {w : World} {p N : Nat} {R : List (List Int)} {st : Bool} (h : DLive M w p N R st) :
    Calls Tryz.prog 31 #[.pointer (some ⟨p, 0, none⟩)] w fun e w' => ∃ jb A c M', e = .returned (.tuple #[.pointer (some ⟨jb, 0, none⟩), .slice A R.length c, .int .i64 0]) ∧ JLive M' w' jb p N R st ∧ OwnT w' w.heap.size (.slice A R.length c) (R.map sJ) ∧ (∀ i, (Value.slice A R.length c).ownBlock = some i → ¬ M' i) ∧ Grow M w M' w' ∧ Below w.heap.size w w' := by
  obtain ⟨gs, vp, S, ca, hD, h1, h2, h3, h4, h5, h6⟩ := h
  refine (open_ok hD (by omega) R h4).mono ?_
  rintro e w' ⟨jb, A, c, he, hj, hO, hjb, hB⟩
  refine ⟨jb, A, c, fun i => M i ∨ i = jb, he, ⟨gs, vp, S, ⟨⟨ca, hD.below hB, h1⟩, by omega, h4, hj, fun e => ?_⟩, h2, fun i e => .inl (h5 i e), .inr rfl, fun i e => ?_⟩, ownT_base hO (by omega), fun i e f => ?_, ⟨Keeps.of_new hB, fun i e => ?_⟩, hB⟩
  · have := ownD_lt hD e
    omega
  · rcases e with e | e
    · exact Nat.lt_of_lt_of_le (h6 i e) hB.size
    · rw [e]; exact Blk.lt hj
  · have hlt := (World.ownsRow.lt hO i e).1
    rcases f with f | f
    · have := h6 i f; omega
    · omega
  · rcases e with e | e
    · exact .inl e
    · exact .inr (by omega)
theorem stop_live {M : Nat → Prop} {w : World} {jb p N : Nat} {R : List (List Int)} {st : Bool} (h : JLive M w jb p N R st) (n : Int) (hn : n ≤ 9223372036854775807) :
    Calls Tryz.prog 34 #[.pointer (some ⟨p, 0, none⟩), .int .i64 n] w fun e w' => (∃ v, e = .returned v) ∧ (∃ st', JLive M w' jb p N R st') ∧ Grow M w M w' := by
  obtain ⟨gs, vp, S, h1, h2, h3, h4, h5⟩ := h
  obtain ⟨ca, hD, hca⟩ := h1.disk
  by_cases hn0 : n < 0
  · refine (stop_neg hD n hn0).mono ?_
    rintro e w' ⟨rfl, rfl⟩
    exact ⟨⟨_, rfl⟩, ⟨st, gs, vp, S, h1, h2, h3, h4, h5⟩, Grow.refl _ _⟩
  · refine (stop_ok hD n (by omega)).mono ?_
    rintro e w' ⟨rfl, hD2, hK⟩
    exact ⟨⟨_, rfl⟩, ⟨true, gs, vp, S, ⟨⟨n, hD2, by omega, hn⟩, h1.room, h1.recs, Blk.keep h1.at_ hK (fun e => h1.apart (.inl e)), h1.apart⟩, h2, h3, h4, h5.up hK.size⟩, hK.mono (fun i _ e => h3 i (.inl e)), fun _ e => .inl e⟩
theorem stop_disk {M : Nat → Prop} {w : World} {p N : Nat} {R : List (List Int)} {st : Bool} (h : DLive M w p N R st) (n : Int) (hn : n ≤ 9223372036854775807) :
    Calls Tryz.prog 34 #[.pointer (some ⟨p, 0, none⟩), .int .i64 n] w fun e w' => (∃ v, e = .returned v) ∧ (∃ st', DLive M w' p N R st') ∧ Grow M w M w' := by
  obtain ⟨gs, vp, S, ca, hD, h1, h2, h3, h4, h5, h6⟩ := h
  by_cases hn0 : n < 0
  · refine (stop_neg hD n hn0).mono ?_
    rintro e w' ⟨rfl, rfl⟩
    exact ⟨⟨_, rfl⟩, ⟨st, gs, vp, S, ca, hD, h1, h2, h3, h4, h5, h6⟩, Grow.refl _ _⟩
  · refine (stop_ok hD n (by omega)).mono ?_
    rintro e w' ⟨rfl, hD2, hK⟩
    exact ⟨⟨_, rfl⟩, ⟨true, gs, vp, S, n, hD2, ⟨by omega, hn⟩, h2, h3, h4, h5, h6.up hK.size⟩, hK.mono (fun i _ e => h5 i (.inl e)), fun _ e => .inl e⟩
theorem stop_dead {M : Nat → Prop} {w : World} {jb p N : Nat} {R : List (List Int)} {X : Option (List Int)} (h : JDead M w jb p N R X) (n : Int) :
    Calls Tryz.prog 34 #[.pointer (some ⟨p, 0, none⟩), .int .i64 n] w fun e w' => (∃ v, e = .returned v) ∧ w = w' := by
  obtain ⟨gs, vp, ⟨⟨S, P, ca, hD, _⟩, _⟩, _⟩ := h
  refine (stop_down hD n).mono ?_
  rintro e w' ⟨rfl, rfl⟩
  exact ⟨⟨_, rfl⟩, rfl⟩
theorem down_live {M : Nat → Prop} {w : World} {p N : Nat} {R : List (List Int)} {st : Bool} (h : DLive M w p N R st) :
    Calls Tryz.prog 35 #[.pointer (some ⟨p, 0, none⟩)] w fun e w' => e = .returned (.bool false) ∧ w = w' := by
  obtain ⟨gs, vp, S, ca, hD, _⟩ := h
  exact down_any hD
theorem down_dead {M : Nat → Prop} {w : World} {jb p N : Nat} {R : List (List Int)} {X : Option (List Int)} (h : JDead M w jb p N R X) :
    Calls Tryz.prog 35 #[.pointer (some ⟨p, 0, none⟩)] w fun e w' => e = .returned (.bool true) ∧ w = w' := by
  obtain ⟨gs, vp, ⟨⟨S, P, ca, hD, _⟩, _⟩, _⟩ := h
  exact down_any hD
theorem newDisk_live (n : Nat) (h1 : 16 ≤ n) (h2 : n ≤ 65536) (w : World) :
    Calls Tryz.prog 46 #[.int .i64 (n : Int)] w fun e w' => ∃ p M, e = .returned (.tuple #[.pointer (some ⟨p, 0, none⟩), .int .i64 0]) ∧ DLive M w' p n [] false ∧ (∀ i, M i → w.heap.size ≤ i) ∧ Below w.heap.size w w' := by
  refine (newDisk_ok n h1 h2 w).mono ?_
  rintro e w' ⟨rfl, hD, hB⟩
  refine ⟨_, ownD (w.heap.size + 1) w.heap.size (.slice none 0 0), rfl, ⟨_, _, _, 0, hD, by decide, List.length_replicate .., h2, Jr.nil, fun i e => e, fun i e => ownD_lt hD e⟩, fun i hi => ?_, hB⟩
  rcases hi with e | e | e
  · omega
  · omega
  · simp [Value.ownBlock] at e
end Go.Proofs.YthgfbaekmhpiaaaGreatDoor
