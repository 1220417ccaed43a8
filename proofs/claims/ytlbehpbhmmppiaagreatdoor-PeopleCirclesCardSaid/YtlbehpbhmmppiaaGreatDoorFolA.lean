/- Following, as a relation: what one arrival decides, the route that follows; it is unique, its hops go on from each other, and there are at most as many as entries, and one more. No conditions. What is true of the end of a route that was followed; its numbers are ints. No conditions. A map of pairs to numbers that holds where on a way each pair was met; every pair of ints is a key. No conditions. Rows of hops: what the type is, and how a row that a literal made lies. No conditions. A route as a value, its hops in memory, and what holds at the label of Follow's loop; a scope that is left and entered by goto. No conditions. -/
import Derived.Test.YtlbehpbhmmppiaaGreatDoorHopA
import Derived.Test.YtlbehpbhmmppiaaGreatDoorOnA
import Derived.Test.YtlbehpbhmmppiaaGreatDoorFollowA
namespace Go.Proofs.YtlbehpbhmmppiaaGreatDoor

/-- A hop: its kind, where from, where to, its order. -/
abbrev HopV := Int × (Int × Int) × (Int × Int) × Int
/-- A route: its kind, its end, its hops, where it loops back to. -/
structure Rt where
  kind : Int
  fin : Int × Int
  hops : List HopV
  back : Int

/-- The hop of a pair on a day. -/
def hopAt (l : List OEnt) (d : Int) (c : Int × Int) : (Int × (Int × Int) × Int) × Bool := hopOf (deadOf l d) (cancOf l d) l d c
def hopV (l : List OEnt) (d : Int) (c : Int × Int) : HopV := ((hopAt l d c).1.1, c, (hopAt l d c).1.2.1, (hopAt l d c).1.2.2)
/-- The end of a route at a pair; none if it goes on. -/
def arrive (l : List OEnt) (d s : Int) (c : Int × Int) : Option (Int × (Int × Int)) :=
  if deadOf l d c.1 = true ∧ (hopAt l d c).1.1 = 0 then some (3, c)
  else if refusesOf (deadOf l d) l d c s = true then some (2, c)
  else if (hopAt l d c).1.1 ≠ 0 ∧ (hopAt l d c).2 = false then some (5, (hopAt l d c).1.2.1)
  else if (hopAt l d c).2 = true then none
  else if livesOf (deadOf l d) l d c = true then some (1, c) else some (4, c)
/-- The first hop that goes on from a pair. -/
def backTo (fs : List (Int × Int)) (p : Int × Int) : Option Nat := fs.findIdx? (fun f => decide (f = p))
def froms (hs : List HopV) : List (Int × Int) := hs.map (·.2.1)
def tos (hs : List HopV) : List (Int × Int) := hs.map (·.2.2.1)

inductive Fol (l : List OEnt) (d s : Int) : List HopV → (Int × Int) → Rt → Prop
  | ends {hs c k e} : arrive l d s c = some (k, e) → Fol l d s hs c ⟨k, e, hs, 0⟩
  | loop {hs c i} : arrive l d s c = none → backTo (froms hs ++ [c]) (hopAt l d c).1.2.1 = some i → Fol l d s hs c ⟨6, (hopAt l d c).1.2.1, hs ++ [hopV l d c], i⟩
  | on {hs c r} : arrive l d s c = none → backTo (froms hs ++ [c]) (hopAt l d c).1.2.1 = none → Fol l d s (hs ++ [hopV l d c]) (hopAt l d c).1.2.1 r → Fol l d s hs c r

theorem Fol.unique {l : List OEnt} {d s : Int} {hs : List HopV} {c : Int × Int} {r : Rt} (h : Fol l d s hs c r) : ∀ {r' : Rt}, Fol l d s hs c r' → r = r' := by
  induction h with
  | ends h1 =>
    intro r' h'
    cases h' with
    | ends h2 => rw [h1] at h2; cases h2; rfl
    | loop h2 _ => rw [h1] at h2; cases h2
    | on h2 _ _ => rw [h1] at h2; cases h2
  | loop h1 h3 =>
    intro r' h'
    cases h' with
    | ends h2 => rw [h1] at h2; cases h2
    | loop _ h4 => rw [h3] at h4; cases h4; rfl
    | on _ h4 _ => rw [h3] at h4; cases h4
  | on h1 h3 _ ih =>
    intro r' h'
    cases h' with
    | ends h2 => rw [h1] at h2; cases h2
    | loop _ h4 => rw [h3] at h4; cases h4
    | on _ _ h5 => exact ih h5

/-- Where an entry leads. -/
def tgOf (l : List OEnt) (d : Int) (x : OEnt) : Int × Int := if x.1.kind = 4 then (reachedOf (deadOf l d) l d x.1.other).1 else (targetOf (deadOf l d) l d x.1).1

theorem foldP {α β : Type} (P : β → Prop) (f : β → α → β) : ∀ (l : List α) (b : β), P b → (∀ b a, a ∈ l → P b → P (f b a)) → P (l.foldl f b)
  | [], _, hb, _ => hb
  | a :: l, b, hb, h => foldP P f l _ (h b a (List.mem_cons_self ..) hb) (fun b a' ha => h b a' (List.mem_cons_of_mem _ ha))
theorem lastOf_mem (f : Ent → Int) (p : Int) (l : List OEnt) (h : (lastOf f p l).2 = true) : ∃ x ∈ l, (lastOf f p l).1 = f x.1 := by
  refine foldP (fun s : Int × Bool => s.2 = true → ∃ x ∈ l, s.1 = f x.1) (fun (s : Int × Bool) (x : OEnt) => if x.1.person = p then (f x.1, true) else s) l (0, false) (fun h => by cases h) (fun s x hx hs h' => ?_) h
  split
  · exact ⟨x, hx, rfl⟩
  · rename_i hn; rw [if_neg hn] at h'; exact hs h'
theorem orderOf_mem (dead canc : Int → Bool) (l : List OEnt) (d : Int) (c : Int × Int) (h : (orderOf dead canc l d c).2 = true) : ∃ x ∈ l, x.1.kind = 5 ∧ (orderOf dead canc l d c).1 = x.1 := by
  unfold orderOf at h ⊢
  by_cases hd : dead c.1 = true
  · rw [if_pos hd] at h; cases h
  · rw [if_neg hd] at h ⊢
    obtain ⟨x, hx, he⟩ := foldP (fun s : Ent × Bool => s.2 = true → ∃ x ∈ flt l 5 d, s.1 = x.1) (stepO dead canc l d c) (flt l 5 d) (zeroEnt, false) (fun h => by cases h) (fun s x hx hs h' => by
      unfold stepO at h' ⊢
      split
      · exact ⟨x, hx, rfl⟩
      · rename_i hn; rw [if_neg hn] at h'; exact hs h') h
    have hx' := List.mem_filter.1 hx
    refine ⟨x, hx'.1, ?_, he⟩
    have := hx'.2
    simp at this
    exact this.1

theorem hop_to {l : List OEnt} {d : Int} {c : Int × Int} (h : (hopAt l d c).1.1 ≠ 0) : (hopAt l d c).1.2.1 ∈ l.map (tgOf l d) := by
  unfold hopAt hopOf at h ⊢
  split
  · rename_i hh
    have hb : (heirOf l d c.1).2 = true := by revert hh; cases (heirOf l d c.1).2 <;> simp
    obtain ⟨x, hx, he⟩ := lastOf_mem (·.other) c.1 (flt l 4 d) hb
    have hx' := List.mem_filter.1 hx
    have hk : x.1.kind = 4 := by have := hx'.2; simp at this; exact this.1
    refine List.mem_map.2 ⟨x, hx'.1, ?_⟩
    unfold tgOf
    rw [if_pos hk]
    show _ = (reachedOf (deadOf l d) l d (lastOf (·.other) c.1 (flt l 4 d)).1).1
    rw [he]
  · split
    · rename_i h1 h2
      obtain ⟨x, hx, hk, he⟩ := orderOf_mem _ _ l d c h2
      refine List.mem_map.2 ⟨x, hx, ?_⟩
      unfold tgOf
      rw [if_neg (by omega), he]
    · rename_i h1 h2
      rw [if_neg h1, if_neg h2] at h
      exact absurd rfl h
theorem hop_leads {l : List OEnt} {d : Int} {c : Int × Int} (h : (hopAt l d c).2 = true) : (hopAt l d c).1.1 ≠ 0 := by
  unfold hopAt hopOf at h ⊢
  split
  · simp
  · split
    · simp
    · rename_i h1 h2
      rw [if_neg h1, if_neg h2] at h
      cases h
theorem hop_kind (l : List OEnt) (d : Int) (c : Int × Int) : (hopAt l d c).1.1 = 0 ∨ (hopAt l d c).1.1 = 1 ∨ (hopAt l d c).1.1 = 2 ∧ (hopAt l d c).1.2.2 = 0 := by
  unfold hopAt hopOf
  split
  · exact .inr (.inr ⟨rfl, rfl⟩)
  · split
    · exact .inr (.inl rfl)
    · exact .inl rfl
theorem arrive_none {l : List OEnt} {d s : Int} {c : Int × Int} (h : arrive l d s c = none) : (hopAt l d c).2 = true := by
  unfold arrive at h
  split at h
  · cases h
  · split at h
    · cases h
    · split at h
      · cases h
      · split at h
        · assumption
        · split at h <;> cases h

/-- What holds of the hops on the way: each goes on from where the last one led, none from where one went on before. -/
structure Way (l : List OEnt) (d : Int) (c : Int × Int) (hs : List HopV) (e : Int × Int) : Prop where
  chain : froms hs ++ [e] = c :: tos hs
  alone : (froms hs ++ [e]).Nodup
  lead : ∀ t ∈ tos hs, t ∈ l.map (tgOf l d)
  kind : ∀ h ∈ hs, h.1 = 1 ∨ h.1 = 2 ∧ h.2.2.2 = 0
theorem Way.start (l : List OEnt) (d : Int) (c : Int × Int) : Way l d c [] c := ⟨rfl, by simp [froms], by simp [tos], by simp⟩
theorem backTo_none {fs : List (Int × Int)} {p : Int × Int} (h : backTo fs p = none) : p ∉ fs := by
  intro hp
  have := List.findIdx?_eq_none_iff.1 h p hp
  simp at this
theorem Way.on {l : List OEnt} {d : Int} {c e : Int × Int} {hs : List HopV} (h : Way l d c hs e) (hl : (hopAt l d e).2 = true) (hb : backTo (froms hs ++ [e]) (hopAt l d e).1.2.1 = none) : Way l d c (hs ++ [hopV l d e]) (hopAt l d e).1.2.1 := by
  have h1 : froms (hs ++ [hopV l d e]) = froms hs ++ [e] := by simp [froms, hopV]
  have h2 : tos (hs ++ [hopV l d e]) = tos hs ++ [(hopAt l d e).1.2.1] := by simp [tos, hopV]
  have hk := hop_leads hl
  refine ⟨by rw [h1, h2, h.chain, List.cons_append], ?_, ?_, ?_⟩
  · rw [h1, List.nodup_append]
    refine ⟨h.alone, by simp, ?_⟩
    intro a ha b hb'
    simp only [List.mem_singleton] at hb'
    subst hb'
    intro he
    subst he
    exact backTo_none hb ha
  · intro t ht
    rw [h2, List.mem_append] at ht
    rcases ht with ht | ht
    · exact h.lead t ht
    · simp only [List.mem_singleton] at ht
      subst ht
      exact hop_to hk
  · intro x hx
    rw [List.mem_append] at hx
    rcases hx with hx | hx
    · exact h.kind x hx
    · simp only [List.mem_singleton] at hx
      subst hx
      rcases hop_kind l d e with h0 | h0 | h0
      · exact absurd h0 hk
      · exact .inl h0
      · exact .inr h0
theorem nodup_le {α : Type} [DecidableEq α] : ∀ (a b : List α), a.Nodup → (∀ x ∈ a, x ∈ b) → a.length ≤ b.length
  | [], _, _, _ => Nat.zero_le _
  | x :: a, b, hn, hs => by
    have hx := hs x (List.mem_cons_self ..)
    have hn' := List.nodup_cons.1 hn
    have h := nodup_le a (b.erase x) hn'.2 (fun y hy => by
      have hne : y ≠ x := fun e => hn'.1 (e ▸ hy)
      exact (List.mem_erase_of_ne hne).2 (hs y (List.mem_cons_of_mem _ hy)))
    rw [List.length_erase_of_mem hx] at h
    have h0 := List.length_pos_of_mem hx
    simp only [List.length_cons]
    omega
theorem Way.len {l : List OEnt} {d : Int} {c e : Int × Int} {hs : List HopV} (h : Way l d c hs e) : hs.length ≤ l.length := by
  have h1 := h.alone
  rw [h.chain, List.nodup_cons] at h1
  have h2 := nodup_le (tos hs) (l.map (tgOf l d)) h1.2 h.lead
  simpa [tos] using h2
/-- Go's ints. -/
def intB (n : Int) : Prop := -9223372036854775808 ≤ n ∧ n ≤ 9223372036854775807
theorem lastOf_int {f : Ent → Int} {l : List OEnt} (h : ∀ x ∈ l, intB (f x.1)) (p : Int) : intB (lastOf f p l).1 := by
  refine foldP (fun s : Int × Bool => intB s.1) (fun (s : Int × Bool) (x : OEnt) => if x.1.person = p then (f x.1, true) else s) l (0, false) (by unfold intB; omega) (fun s x hx hs => ?_)
  split
  · exact h x hx
  · exact hs
theorem reached_int {dead : Int → Bool} {l : List OEnt} {d p : Int} (hI : ∀ x ∈ l, intB x.1.place ∧ intB x.1.at') (hp : intB p) : intB (reachedOf dead l d p).1.1 ∧ intB (reachedOf dead l d p).1.2 := by
  refine ⟨hp, ?_⟩
  show intB (homeOf dead l d p).1
  unfold homeOf
  split
  · unfold intB; omega
  · exact lastOf_int (fun x hx => (hI x (List.mem_filter.1 hx).1).1) p
theorem tg_int {l : List OEnt} {d : Int} (hI : ∀ x ∈ l, intB x.1.place ∧ intB x.1.at') {t : Int × Int} (ht : t ∈ l.map (tgOf l d)) : intB t.1 ∧ intB t.2 := by
  obtain ⟨x, hx, rfl⟩ := List.mem_map.1 ht
  unfold tgOf
  split
  · exact reached_int hI x.2.2.2.1
  · unfold targetOf
    split
    · exact ⟨x.2.2.2.1, (hI x hx).2⟩
    · exact reached_int hI x.2.2.2.1
theorem Way.int {l : List OEnt} {d : Int} {c e : Int × Int} {hs : List HopV} (h : Way l d c hs e) (hI : ∀ x ∈ l, intB x.1.place ∧ intB x.1.at') (hc : intB c.1 ∧ intB c.2) : ∀ t, t ∈ froms hs ++ [e] → intB t.1 ∧ intB t.2 := by
  intro t ht
  rw [h.chain, List.mem_cons] at ht
  rcases ht with rfl | ht
  · exact hc
  · exact tg_int hI (h.lead t ht)

/-- What holds of a route that was followed. -/
structure Ended (l : List OEnt) (c : Int × Int) (r : Rt) : Prop where
  chain : ∃ e, froms r.hops ++ [e] = c :: tos r.hops ∧ (r.kind ≠ 5 → r.fin = e)
  alone : (froms r.hops).Nodup
  kinds : ∀ h ∈ r.hops, h.1 = 1 ∨ h.1 = 2 ∧ h.2.2.2 = 0
  len : r.hops.length ≤ l.length + 1
  kind : 1 ≤ r.kind ∧ r.kind ≤ 6
  loop : r.kind = 6 → ∃ i : Nat, r.back = i ∧ (froms r.hops)[i]? = some r.fin
  back : r.kind ≠ 6 → r.back = 0
theorem backTo_some {fs : List (Int × Int)} {p : Int × Int} {i : Nat} (h : backTo fs p = some i) : fs[i]? = some p := by
  obtain ⟨hi, h1, _⟩ := List.findIdx?_eq_some_iff_getElem.1 h
  rw [List.getElem?_eq_getElem hi]
  simpa using h1
theorem arrive_kind {l : List OEnt} {d s : Int} {c : Int × Int} {k : Int} {e : Int × Int} (h : arrive l d s c = some (k, e)) : 1 ≤ k ∧ k ≤ 5 ∧ (k ≠ 5 → e = c) := by
  unfold arrive at h
  split at h
  · cases h; exact ⟨by omega, by omega, fun _ => rfl⟩
  · split at h
    · cases h; exact ⟨by omega, by omega, fun _ => rfl⟩
    · split at h
      · cases h; exact ⟨by omega, by omega, fun h => absurd rfl h⟩
      · split at h
        · cases h
        · split at h <;> cases h <;> exact ⟨by omega, by omega, fun _ => rfl⟩
theorem Fol.ended {l : List OEnt} {d s : Int} {hs : List HopV} {e : Int × Int} {r : Rt} (h : Fol l d s hs e r) {c : Int × Int} : Way l d c hs e → Ended l c r := by
  induction h with
  | @ends hs e k f h1 =>
    intro hw
    have hk := arrive_kind h1
    have ha := hw.alone
    rw [List.nodup_append] at ha
    exact ⟨⟨e, hw.chain, fun h => hk.2.2 h⟩, ha.1, hw.kind, by have := hw.len; dsimp only; omega, ⟨hk.1, by dsimp only; omega⟩, fun h => by dsimp only at h; omega, fun _ => rfl⟩
  | @loop hs e i h1 h2 =>
    intro hw
    have hl := arrive_none h1
    have hf : froms (hs ++ [hopV l d e]) = froms hs ++ [e] := by simp [froms, hopV]
    have ht : tos (hs ++ [hopV l d e]) = tos hs ++ [(hopAt l d e).1.2.1] := by simp [tos, hopV]
    refine ⟨⟨(hopAt l d e).1.2.1, ?_, fun _ => rfl⟩, ?_, ?_, ?_, ⟨by dsimp only; omega, by dsimp only; omega⟩, fun _ => ⟨i, rfl, ?_⟩, fun h => absurd rfl h⟩
    · dsimp only
      rw [hf, ht, hw.chain, List.cons_append]
    · dsimp only
      rw [hf]
      exact hw.alone
    · intro x hx
      dsimp only at hx
      rw [List.mem_append] at hx
      rcases hx with hx | hx
      · exact hw.kind x hx
      · simp only [List.mem_singleton] at hx
        subst hx
        rcases hop_kind l d e with h0 | h0 | h0
        · exact absurd h0 (hop_leads hl)
        · exact .inl h0
        · exact .inr h0
    · have := hw.len
      dsimp only
      rw [List.length_append]
      simp only [List.length_cons, List.length_nil]
      omega
    · dsimp only
      rw [hf]
      exact backTo_some h2
  | on h1 h2 _ ih =>
    intro hw
    exact ih (hw.on (arrive_none h1) h2)
end Go.Proofs.YtlbehpbhmmppiaaGreatDoor
namespace Go.Proofs.YtlbehpbhmmppiaaGreatDoor

theorem arrive_fin {l : List OEnt} {d s : Int} {c : Int × Int} {k : Int} {f : Int × Int} (h : arrive l d s c = some (k, f)) : f = c ∨ (f = (hopAt l d c).1.2.1 ∧ (hopAt l d c).1.1 ≠ 0) := by
  unfold arrive at h
  split at h
  · cases h; exact .inl rfl
  · split at h
    · cases h; exact .inl rfl
    · split at h
      · rename_i h3
        cases h
        exact .inr ⟨rfl, h3.1⟩
      · split at h
        · cases h
        · split at h <;> cases h <;> exact .inl rfl
theorem Fol.fin_int {l : List OEnt} {d s : Int} {hs : List HopV} {e : Int × Int} {r : Rt} (h : Fol l d s hs e r) {c : Int × Int} (hI : ∀ x ∈ l, intB x.1.place ∧ intB x.1.at') (hc : intB c.1 ∧ intB c.2) : Way l d c hs e → intB r.fin.1 ∧ intB r.fin.2 := by
  induction h with
  | @ends hs e k f h1 =>
    intro hw
    rcases arrive_fin h1 with h2 | ⟨h2, hk⟩
    · have := hw.int hI hc e (by simp)
      subst h2
      exact this
    · subst h2
      exact tg_int hI (hop_to hk)
  | loop h1 h2 =>
    intro hw
    exact tg_int hI (hop_to (hop_leads (arrive_none h1)))
  | on h1 h2 _ ih =>
    intro hw
    exact ih (hw.on (arrive_none h1) h2)
theorem lastOf_zero {f : Ent → Int} {p : Int} {l : List OEnt} (h : (lastOf f p l).2 = false) : (lastOf f p l).1 = 0 := by
  refine foldP (fun s : Int × Bool => s.2 = false → s.1 = 0) (fun (s : Int × Bool) (x : OEnt) => if x.1.person = p then (f x.1, true) else s) l (0, false) (fun _ => rfl) (fun s x _ hs => ?_) h
  split
  · intro h; cases h
  · exact hs
theorem reached_gone {dead : Int → Bool} {l : List OEnt} {d p : Int} (h : (reachedOf dead l d p).2 = false) : dead (reachedOf dead l d p).1.1 = false ∧ (homeOf dead l d (reachedOf dead l d p).1.1).2 = false ∧ (reachedOf dead l d p).1.2 = 0 := by
  unfold reachedOf at h ⊢
  simp only [Bool.or_eq_false_iff] at h ⊢
  obtain ⟨h1, h2⟩ := h
  refine ⟨h2, h1, ?_⟩
  unfold homeOf at h1 ⊢
  rw [if_neg (by simp [h2])] at h1 ⊢
  exact lastOf_zero h1
theorem hop_zero {l : List OEnt} {d : Int} {c : Int × Int} (h : (hopAt l d c).1.1 = 0) : ((heirOf l d c.1).2 && deadOf l d c.1) = false ∧ (orderOf (deadOf l d) (cancOf l d) l d c).2 = false := by
  unfold hopAt hopOf at h
  split at h
  · cases h
  · split at h
    · cases h
    · rename_i h1 h2
      exact ⟨Bool.eq_false_iff.2 h1, Bool.eq_false_iff.2 h2⟩
theorem hop_gone {l : List OEnt} {d : Int} {c : Int × Int} (hk : (hopAt l d c).1.1 ≠ 0) (h : (hopAt l d c).2 = false) :
    deadOf l d (hopAt l d c).1.2.1.1 = false ∧ (homeOf (deadOf l d) l d (hopAt l d c).1.2.1.1).2 = false ∧ (hopAt l d c).1.2.1.2 = 0 := by
  unfold hopAt hopOf at hk h ⊢
  by_cases h1 : ((heirOf l d c.1).2 && deadOf l d c.1) = true
  · rw [if_pos h1] at h ⊢
    exact reached_gone h
  · rw [if_neg h1] at hk h ⊢
    by_cases h2 : (orderOf (deadOf l d) (cancOf l d) l d c).2 = true
    · rw [if_pos h2] at h ⊢
      dsimp only at h ⊢
      unfold targetOf at h ⊢
      split at h
      · cases h
      · rename_i h3
        rw [if_neg h3]
        exact reached_gone h
    · rw [if_neg h2] at hk
      exact absurd rfl hk
theorem refuses_alive {dead : Int → Bool} {l : List OEnt} {d s : Int} {c : Int × Int} (h : refusesOf dead l d c s = true) : dead c.1 = false := by
  unfold refusesOf at h
  split at h
  · cases h
  · rename_i h1
    exact Bool.eq_false_iff.2 h1
/-- What a route's kind says of its end. -/
structure TrueEnd (l : List OEnt) (d s : Int) (r : Rt) : Prop where
  house : r.kind = 1 → livesOf (deadOf l d) l d r.fin = true ∧ deadOf l d r.fin.1 = false ∧ refusesOf (deadOf l d) l d r.fin s = false ∧ (orderOf (deadOf l d) (cancOf l d) l d r.fin).2 = false
  refused : r.kind = 2 → refusesOf (deadOf l d) l d r.fin s = true ∧ deadOf l d r.fin.1 = false
  dead : r.kind = 3 → deadOf l d r.fin.1 = true ∧ (heirOf l d r.fin.1).2 = false
  gone : r.kind = 4 → livesOf (deadOf l d) l d r.fin = false ∧ refusesOf (deadOf l d) l d r.fin s = false ∧ (orderOf (deadOf l d) (cancOf l d) l d r.fin).2 = false ∧ deadOf l d r.fin.1 = false
  homeless : r.kind = 5 → deadOf l d r.fin.1 = false ∧ (homeOf (deadOf l d) l d r.fin.1).2 = false ∧ r.fin.2 = 0
theorem arrive_true {l : List OEnt} {d s : Int} {c : Int × Int} {k : Int} {f : Int × Int} (hs : List HopV) (h : arrive l d s c = some (k, f)) : TrueEnd l d s ⟨k, f, hs, 0⟩ := by
  unfold arrive at h
  split at h
  · rename_i h1
    cases h
    have hz := hop_zero h1.2
    rw [h1.1, Bool.and_true] at hz
    exact ⟨fun h => (by cases h), fun h => (by cases h), fun _ => ⟨h1.1, hz.1⟩, fun h => (by cases h), fun h => (by cases h)⟩
  · rename_i h1
    split at h
    · rename_i h2
      cases h
      exact ⟨fun h => (by cases h), fun _ => ⟨h2, refuses_alive h2⟩, fun h => (by cases h), fun h => (by cases h), fun h => (by cases h)⟩
    · rename_i h2
      split at h
      · rename_i h3
        cases h
        exact ⟨fun h => (by cases h), fun h => (by cases h), fun h => (by cases h), fun h => (by cases h), fun _ => hop_gone h3.1 h3.2⟩
      · rename_i h3
        split at h
        · cases h
        · rename_i h4
          have hl : (hopAt l d c).2 = false := Bool.eq_false_iff.2 h4
          have hk : (hopAt l d c).1.1 = 0 := by
            by_cases hk : (hopAt l d c).1.1 = 0
            · exact hk
            · exact absurd ⟨hk, hl⟩ h3
          have hd : deadOf l d c.1 = false := Bool.eq_false_iff.2 (fun hd => h1 ⟨hd, hk⟩)
          have ho := (hop_zero hk).2
          have hr := Bool.eq_false_iff.2 h2
          split at h
          · rename_i h5
            cases h
            exact ⟨fun _ => ⟨h5, hd, hr, ho⟩, fun h => (by cases h), fun h => (by cases h), fun h => (by cases h), fun h => (by cases h)⟩
          · rename_i h5
            cases h
            exact ⟨fun h => (by cases h), fun h => (by cases h), fun h => (by cases h), fun _ => ⟨Bool.eq_false_iff.2 h5, hr, ho, hd⟩, fun h => (by cases h)⟩
theorem Fol.true_end {l : List OEnt} {d s : Int} {hs : List HopV} {e : Int × Int} {r : Rt} (h : Fol l d s hs e r) : TrueEnd l d s r := by
  induction h with
  | ends h1 => exact arrive_true _ h1
  | loop => exact ⟨fun h => (by cases h), fun h => (by cases h), fun h => (by cases h), fun h => (by cases h), fun h => (by cases h)⟩
  | on _ _ _ ih => exact ih
end Go.Proofs.YtlbehpbhmmppiaaGreatDoor
namespace Go.Proofs.YtlbehpbhmmppiaaGreatDoor
open Go.RowKit Go.Shelf

theorem lits_int (n : Nat) {x : Int} (h : intB x) : Tryz.prog.keyLits (n + 1) 3 [.int .i64 x] = some [.int .i64 x] := by
  have h1 : IntKind.i64.min = -9223372036854775808 := rfl
  have h2 : IntKind.i64.max = 9223372036854775807 := rfl
  have h3 : (Lit.int .i64 x).wf = true := by
    unfold intB at h
    simp [Lit.wf, h1, h2]
    omega
  unfold Program.keyLits
  rw [intRowS]
  simp [h3]
theorem keyCand {c : Int × Int} (h : intB c.1 ∧ intB c.2) : ∃ k, keyOf Tryz.prog 33 (candVal c) = some k := by
  obtain ⟨m, hm⟩ : ∃ m, Tryz.prog.types.size = m + 1 := ⟨Tryz.prog.types.size - 1, by have : 0 < Tryz.prog.types.size := of_decide_eq_true (by kernel_rfl); omega⟩
  obtain ⟨f0, f1, hf, h0, h1, h2, h3⟩ : ∃ f0 f1 : Field, (Tryz.prog.fieldsOf 33).toList = [f0, f1] ∧ f0.type = 3 ∧ f0.offset = 0 ∧ f1.type = 3 ∧ f1.offset = 1 := by
    have hh := candFields
    match hl : (Tryz.prog.fieldsOf 33).toList with
    | [] => rw [hl] at hh; simp at hh
    | [_] => rw [hl] at hh; simp at hh
    | [f0, f1] => rw [hl] at hh; simp at hh; exact ⟨f0, f1, rfl, hh.1.1, hh.1.2, hh.2.1, hh.2.2⟩
    | _ :: _ :: _ :: _ => rw [hl] at hh; simp at hh
  have hk : (Tryz.prog.keyType 33 && (candVal c).formed Tryz.prog 33) = true := by kernel_rfl
  have hc : Tryz.prog.cellsOf 33 = 2 := by kernel_rfl
  have hi : Tryz.prog.cellsOf 3 = 1 := by kernel_rfl
  have hn : (Tryz.prog.fieldsOf 33).all (·.name != "_") = true := by kernel_rfl
  have hl : Tryz.prog.keyLits (Tryz.prog.types.size + 1) 33 (candVal c).cells.toList = some [.int .i64 c.1, .int .i64 c.2] := by
    rw [hm]
    unfold Program.keyLits
    rw [candStruct]
    dsimp only
    rw [hf, if_pos ⟨by rw [hc]; rfl, hn⟩]
    simp only [List.mapM_cons, List.mapM_nil, h0, h1, h2, h3, hi]
    have e0 : ((candVal c).cells.toList.drop 0).take 1 = [.int .i64 c.1] := rfl
    have e1 : ((candVal c).cells.toList.drop 1).take 1 = [.int .i64 c.2] := rfl
    rw [e0, e1, lits_int m h.1, lits_int m h.2]
    rfl
  refine ⟨.string (keyBytes [.int .i64 c.1, .int .i64 c.2]), ?_⟩
  unfold keyOf
  rw [candStruct]
  dsimp only
  rw [if_pos hk, hl]
  rfl
theorem cand_inj {c c' : Int × Int} (h : candVal c = candVal c') : c = c' := by
  unfold candVal at h
  simp at h
  exact Prod.ext h.1 h.2

/-- The map holds, for each of the pairs, where it stands among them. -/
def MetOf (w : World) (b : Nat) (fs : List (Int × Int)) : Prop := ∃ D, MetIs w b fs.length D ∧ ∀ c k, keyOf Tryz.prog 33 (candVal c) = some k → ∀ z, D.atKey k z = match backTo fs c with | some i => .lit (.int .i64 i) | none => z
theorem MetOf.new_of {W : World} {b : Nat} (hb : W.heap[b]? = some (.map #[] 0)) : MetOf W b [] := ⟨.map [], MetIs.new_of hb, fun _ _ _ _ => rfl⟩
theorem MetOf.lt {w : World} {b : Nat} {fs : List (Int × Int)} (h : MetOf w b fs) : b < w.heap.size := by obtain ⟨D, h, _⟩ := h; exact h.lt
theorem MetOf.of_block {w w' : World} {b : Nat} {fs : List (Int × Int)} (h : MetOf w b fs) (hb : w'.heap[b]? = w.heap[b]?) : MetOf w' b fs := by
  obtain ⟨D, h, h2⟩ := h; exact ⟨D, h.of_block hb, h2⟩
theorem MetOf.below {w w' : World} {b B : Nat} {fs : List (Int × Int)} (h : MetOf w b fs) (hb : Below B w w') (hB : b < B) : MetOf w' b fs := h.of_block (hb.block b hB)
theorem MetOf.alloc {w : World} {b : Nat} {fs : List (Int × Int)} (h : MetOf w b fs) (o : Obj) : MetOf (w.alloc o) b fs := h.of_block (Below.heap_alloc w o b h.lt)
theorem MetOf.keep {w w' : World} {b : Nat} {fs : List (Int × Int)} {S : Nat → Prop} (h : MetOf w b fs) (hk : Keeps S w w') (hn : ¬ S b) : MetOf w' b fs := h.of_block (hk.block b h.lt hn)
theorem backTo_snoc {fs : List (Int × Int)} {p : Int × Int} (c : Int × Int) (h : p ∉ fs) : backTo (fs ++ [p]) c = if c = p then some fs.length else backTo fs c := by
  unfold backTo
  rw [List.findIdx?_append]
  by_cases hc : c = p
  · subst hc
    rw [if_pos rfl]
    have : List.findIdx? (fun f => decide (f = c)) fs = none := List.findIdx?_eq_none_iff.2 (fun x hx => by
      have : x ≠ c := fun e => h (e ▸ hx)
      simp [this])
    rw [this]
    simp
  · rw [if_neg hc]
    have : List.findIdx? (fun f => decide (f = c)) [p] = none := List.findIdx?_eq_none_iff.2 (fun x hx => by
      simp only [List.mem_singleton] at hx
      subst hx
      simp [Ne.symm hc])
    rw [this]
    cases List.findIdx? (fun f => decide (f = c)) fs <;> rfl
theorem MetOf.store {w : World} {b : Nat} {fs : List (Int × Int)} (h : MetOf w b fs) {p : Int × Int} (hp : intB p.1 ∧ intB p.2) (hn : p ∉ fs) (hl : fs.length ≤ 60) :
    ∃ w', (Instr.mapUpdate 64 (.map (some b)) (candVal p) (.int .i64 fs.length)).run Tryz.prog w = .ok () w' ∧ MetOf w' b (fs ++ [p]) ∧ Keeps (fun i => i = b) w w' := by
  obtain ⟨D, h1, h2⟩ := h
  obtain ⟨k, hk⟩ := keyCand hp
  have hw : (Lit.int .i64 (fs.length : Int)).wf = true := by
    have e1 : IntKind.i64.min = -9223372036854775808 := rfl
    have e2 : IntKind.i64.max = 9223372036854775807 := rfl
    simp [Lit.wf, e1, e2]
    omega
  obtain ⟨w', hrun, h3, h4⟩ := h1.store (by unfold maxLen; omega) hk (fs.length : Int) hw
  refine ⟨w', hrun, ⟨_, by simpa using h3, fun c k' hk' z => ?_⟩, h4⟩
  rw [backTo_snoc c hn]
  by_cases hc : c = p
  · subst hc
    obtain rfl : k' = k := Option.some.inj (hk'.symm.trans hk)
    rw [if_pos rfl, Maps.atKey_put_same h1.2 (lawCand.key hk)]
  · rw [if_neg hc, Maps.atKey_put_other (fun e => hc (cand_inj (lawCand.inj hk' (by first | (rw [hk, e]) | (rw [hk, ← e])))))]
    exact h2 c k' hk' z
theorem MetOf.look {w : World} {b : Nat} {fs : List (Int × Int)} (h : MetOf w b fs) {p : Int × Int} (hp : intB p.1 ∧ intB p.2) :
    (Instr.lookup 64 (.map (some b)) (candVal p) true).run Tryz.prog w = .ok (match backTo fs p with | some i => .tuple #[.int .i64 i, .bool true] | none => .tuple #[.int .i64 0, .bool false]) w := by
  obtain ⟨D, h1, h2⟩ := h
  obtain ⟨k, hk⟩ := keyCand hp
  have hat := h2 p k hk
  cases hb : backTo fs p with
  | none =>
    rw [hb] at hat
    exact h1.miss (zeroInt w) hk hat
  | some i =>
    rw [hb] at hat
    obtain ⟨v, ps, hrun, hv⟩ := h1.1.look_ok lawCand mapMetRow (zeroInt w) (plainElem_int intRowS (by decide)) hk
    rw [Maps.has_true_of_atKey hat] at hrun
    rw [hat] at hv
    obtain ⟨c, rfl, hc, _⟩ := plainElem_int_inv intRowS hv
    simp at hc
    obtain ⟨rfl, _⟩ := hc
    exact hrun
end Go.Proofs.YtlbehpbhmmppiaaGreatDoor
namespace Go.Proofs.YtlbehpbhmmppiaaGreatDoor
open Go.RowKit Go.Shelf

theorem infoHop : (Tryz.prog.info? 45).map (fun i => (i.zero, i.size, i.bytes)) = some (some (.agg #[.int .u8 0, .int .i64 0, .int .i64 0, .int .i64 0, .int .i64 0, .int .i64 0]), 6, 48) := by kernel_rfl
theorem hopsRow : Tryz.prog.underlying 34 = some (.slice 45) := by kernel_rfl
theorem cells_new (w : World) (t : TypeId) (l : List Value) : ∀ j u, l[j]? = some u → (w.alloc (.cells l.toArray t)).cell? ((⟨w.heap.size, 0, none⟩ : Addr).add j) = some u := by
  intro j u hj
  have h := (Blk.new w t l.toArray).cell j
  rw [List.getElem?_toArray, hj] at h
  simp only [Addr.add]
  split
  · rename_i h0; subst h0; exact h
  · rw [Nat.zero_add]; exact h
end Go.Proofs.YtlbehpbhmmppiaaGreatDoor
namespace Go.Proofs.YtlbehpbhmmppiaaGreatDoor
open Go.RowKit Go.Shelf

/-- A scope that is left and entered by goto: a number goes down at each jump. -/
theorem wp_scope_down {P : Program} {a : Act} {w : World} {Q : Exit → Act → World → Prop} {c rest : Code} (l : Nat) (J : Nat → Act → World → Prop) (hf : findLabel c l = some rest)
    (pass : ∀ n a w, J n a w → rest.wp P (Exit.jump l (fun a' w' => ∃ m, m < n ∧ J m a' w') Q) a w)
    (first : (∀ n a w, J n a w → rest.wp P (Exit.jump l (fun a w => ∃ n, J n a w) Q) a w) → c.wp P (Exit.jump l (fun a w => ∃ n, J n a w) Q) a w) : (Code.scope c).wp P Q a w := by
  have least : ∀ (p : Nat → Prop) n, p n → ∃ m, p m ∧ ∀ k, p k → m ≤ k := by
    intro p n
    induction n using Nat.strongRecOn with
    | _ n ih =>
      intro hp
      by_cases h : ∃ k, k < n ∧ p k
      · obtain ⟨k, hk, hpk⟩ := h
        exact ih k hk hpk
      · exact ⟨n, hp, fun k hk => by
          rcases Nat.lt_or_ge k n with h1 | h1
          · exact absurd ⟨k, h1, hk⟩ h
          · exact h1⟩
  obtain ⟨μ, hμ⟩ : ∃ μ : Act × World → Nat, ∀ x : Act × World, (∃ n, J n x.1 x.2) → J (μ x) x.1 x.2 ∧ ∀ k, J k x.1 x.2 → μ x ≤ k := by
    have h : ∀ x : Act × World, ∃ m : Nat, (∃ n, J n x.1 x.2) → J m x.1 x.2 ∧ ∀ k, J k x.1 x.2 → m ≤ k := by
      intro x
      by_cases h : ∃ n, J n x.1 x.2
      · obtain ⟨n, hn⟩ := h
        obtain ⟨m, hm⟩ := least (fun n => J n x.1 x.2) n hn
        exact ⟨m, fun _ => hm⟩
      · exact ⟨0, fun h' => absurd h' h⟩
    exact Classical.axiomOfChoice h
  refine wp_scope_jumps l (fun a w => ∃ n, J n a w) (fun a w => μ (a, w)) hf (first fun n a w h => Code.wp_mono (fun e _ _ hq => ?_) (pass n a w h)) (fun a w h => Code.wp_mono (fun e _ _ hq => ?_) (pass _ a w (hμ (a, w) h).1))
  · cases e <;> first | exact hq | (obtain ⟨h1, m, _, h2⟩ := hq; exact ⟨h1, m, h2⟩)
  · cases e <;> first | exact hq | (obtain ⟨h1, m, h0, h2⟩ := hq; exact ⟨h1, ⟨m, h2⟩, Nat.lt_of_le_of_lt ((hμ (_, _) ⟨m, h2⟩).2 m h2) h0⟩)

/-- The same, where an empty statement stands behind the label. -/
theorem wp_scope_skip {P : Program} {a : Act} {w : World} {Q : Exit → Act → World → Prop} {c rest : Code} (l : Nat) (J : Nat → Act → World → Prop) (hf : findLabel c l = some (Code.skip.seq rest))
    (pass : ∀ n a w, J n a w → rest.wp P (Exit.jump l (fun a' w' => ∃ m, m < n ∧ J m a' w') Q) a w)
    (first : (∀ n a w, J n a w → rest.wp P (Exit.jump l (fun a w => ∃ n, J n a w) Q) a w) → c.wp P (Exit.jump l (fun a w => ∃ n, J n a w) Q) a w) : (Code.scope c).wp P Q a w :=
  wp_scope_down l J hf (fun n a w h => wp_seq (wp_skip (pass n a w h))) (fun _ => first (fun n a w h => Code.wp_mono (fun e _ _ hq => by
    cases e <;> first | exact hq | (obtain ⟨h1, m, _, h2⟩ := hq; exact ⟨h1, m, h2⟩)) (pass n a w h)))

def hopCells (h : HopV) : List Value := [.int .u8 h.1, .int .i64 h.2.1.1, .int .i64 h.2.1.2, .int .i64 h.2.2.1.1, .int .i64 h.2.2.1.2, .int .i64 h.2.2.2]
/-- v is a slice of the hops l in memory of the call's own, from block base on. -/
def OwnH (w : World) (base : Nat) (v : Value) (l : List HopV) : Prop := w.ownsRow base 45 6 v l.length (l.flatMap hopCells)
theorem OwnH.nil (w : World) (base : Nat) : OwnH w base (.slice none 0 0) [] := World.ownsRow_nil _ _ _ _
theorem OwnH.shape {w : World} {base : Nat} {v : Value} {l : List HopV} (h : OwnH w base v l) : ∃ A c, v = .slice A l.length c := by
  rcases h.2 with ⟨rfl, h0⟩ | ⟨g, cap, cur, rfl, _⟩
  · exact ⟨none, 0, by rw [h0]⟩
  · exact ⟨_, cap, rfl⟩
theorem OwnH.keep {S : Nat → Prop} {w w' : World} {base : Nat} {v : Value} {l : List HopV} (h : OwnH w base v l) (hk : Keeps S w w') (hs : ∀ g, base ≤ g → ¬ S g) : OwnH w' base v l := by
  unfold OwnH at h ⊢
  have hlt := World.ownsRow.lt h
  refine ⟨h.1, ?_⟩
  rcases h.2 with h0 | ⟨g, cap, cur, rfl, hb, hg, rest⟩
  · exact .inl h0
  · exact .inr ⟨g, cap, cur, rfl, hb, (hk.block g (hlt g rfl).2 (hs g hb)).trans hg, rest⟩
theorem OwnH.below {w w' : World} {base : Nat} {v : Value} {l : List HopV} (h : OwnH w base v l) (hb : Below w.heap.size w w') : OwnH w' base v l :=
  h.keep (S := fun _ => False) (Keeps.of_new hb) (fun _ _ h => h)
theorem OwnH.mono {w : World} {base base' : Nat} {v : Value} {l : List HopV} (h : OwnH w base v l) (hb : base' ≤ base) : OwnH w base' v l := by
  refine ⟨h.1, ?_⟩
  rcases h.2 with h0 | ⟨g, cap, cur, rfl, hg, rest⟩
  · exact .inl h0
  · exact .inr ⟨g, cap, cur, rfl, Nat.le_trans hb hg, rest⟩
theorem append_hop {w : World} {base : Nat} {v : Value} {l : List HopV} (h : OwnH w base v l) (x : HopV) (hbase : base ≤ w.heap.size) (hlen : l.length ≤ 60) (ty : TypeId) :
    ∃ v' w', (Builtin.append_ #[34, 34] ty #[v, .slice (some ⟨w.heap.size, 0, none⟩) 1 1]).run Tryz.prog (w.alloc (.cells (hopCells x).toArray 45)) = .ok v' w' ∧ OwnH w' base v' (l ++ [x]) ∧ Keeps (fun i => v.ownBlock = some i) w w' := by
  obtain ⟨i0, hi, hz0, hz1, hz2⟩ := info_parts infoHop
  have h1 : (w.alloc (.cells (hopCells x).toArray 45)).ownsRow base 45 6 v l.length (l.flatMap hopCells) := OwnH.keep h ((Keeps.refl (fun _ => False) w).alloc _) (fun _ _ h => h)
  obtain ⟨v', w', hrun, hO, hg, _, _⟩ := run_append_own_at (P := Tryz.prog) (w.alloc (.cells (hopCells x).toArray 45)) base 34 ty 45 i0 _ 6 48 hopsRow hi hz0 hz1 hz2 rfl (by decide) v l.length _ h1 ⟨w.heap.size, 0, none⟩ 1 1 (hopCells x) rfl (cells_new _ _ _) (fun u hu => by simp [hopCells] at hu; rcases hu with rfl | rfl | rfl | rfl | rfl | rfl <;> rfl) (by unfold maxLen; omega) (by omega) (by simp; omega)
  refine ⟨v', w', hrun, ?_, ?_⟩
  · unfold OwnH
    rw [List.length_append, List.flatMap_append, List.flatMap_singleton]
    exact hO
  · exact ((Keeps.refl (fun i => v.ownBlock = some i) w).alloc _).trans (Keeps.of_grown (S := fun i => v.ownBlock = some i) hg (fun k hk _ => hk)) (fun i _ h => h)
theorem OwnH.own_lt {w : World} {base : Nat} {v : Value} {l : List HopV} (h : OwnH w base v l) : ∀ k, v.ownBlock = some k → base ≤ k ∧ k < w.heap.size := World.ownsRow.lt h

theorem set5 {w : World} {g : Nat} {t : TypeId} {a0 a1 a2 a3 a4 : Value} (h : Blk w g t #[a0, a1, a2, a3, a4]) (b0 b1 b2 b3 b4 : Value) :
    Blk (((((w.setCell ⟨g, 0, none⟩ b0).setCell ⟨g, 1, none⟩ b1).setCell ⟨g, 2, none⟩ b2).setCell ⟨g, 3, none⟩ b3).setCell ⟨g, 4, none⟩ b4) g t #[b0, b1, b2, b3, b4] := by
  have h := ((((h.set 0 b0).set 1 b1).set 2 b2).set 3 b3).set 4 b4
  simp only [List.setIfInBounds_toArray, List.set_cons_succ, List.set_cons_zero] at h
  exact h
theorem keep5 (w : World) (g : Nat) (b0 b1 b2 b3 b4 : Value) :
    Keeps (fun i => i = g) w (((((w.setCell ⟨g, 0, none⟩ b0).setCell ⟨g, 1, none⟩ b1).setCell ⟨g, 2, none⟩ b2).setCell ⟨g, 3, none⟩ b3).setCell ⟨g, 4, none⟩ b4) :=
  (((((Keeps.refl (fun i => i = g) w).setCell (p := ⟨g, 0, none⟩) (fun _ => rfl) b0).setCell (p := ⟨g, 1, none⟩) (fun _ => rfl) b1).setCell (p := ⟨g, 2, none⟩) (fun _ => rfl) b2).setCell (p := ⟨g, 3, none⟩) (fun _ => rfl) b3).setCell (p := ⟨g, 4, none⟩) (fun _ => rfl) b4

/-- A route as a value. -/
def rtVal (k : Int) (e : Int × Int) (hv : Value) (b : Int) : Value := .agg #[.int .u8 k, .int .i64 e.1, .int .i64 e.2, hv, .int .i64 b]
/-- What Follow's call leaves. -/
def FolPost (l : List OEnt) (d s : Int) (cp : Int × Int) (w : World) (e : Ending) (w' : World) : Prop :=
  Below w.heap.size w w' ∧ ∃ r hv, e = .returned (.tuple #[rtVal r.kind r.fin hv r.back, .int .i64 0]) ∧ OwnH w' w.heap.size hv r.hops ∧ Fol l d s [] cp r
/-- What holds at the label: w as the call began, w1 behind the directory's making. -/
structure FolAt (A : Option Addr) (c : Nat) (l : List OEnt) (d s : Int) (cp : Int × Int) (w w1 : World) (m1 m2 : Nat) (hs : List HopV) (e : Int × Int) (hv : Value) (W : World) : Prop where
  dir : DirIn w1 A l m1 m2 (deadOf l d) (cancOf l d)
  old : Below w.heap.size w w1
  new : Below w1.heap.size w1 W
  big : w.heap.size + 1 < w1.heap.size
  bD : Blk W w1.heap.size 49 #[.slice A l.length c, .int .i64 d, .map (some m1), .map (some m2)]
  bR : Blk W (w1.heap.size + 1) 36 #[.int .u8 0, .int .i64 e.1, .int .i64 e.2, hv, .int .i64 0]
  bT : Blk W (w.heap.size + 1) 36 #[.int .u8 0, .int .i64 0, .int .i64 0, .slice none 0 0, .int .i64 0]
  met : MetOf W (w1.heap.size + 1 + 1) (froms hs)
  hops : OwnH W (w1.heap.size + 1 + 1 + 1) hv hs
  way : Way l d cp hs e
  goes : ∀ r, Fol l d s hs e r → Fol l d s [] cp r
theorem fol_leaf {l : List OEnt} {d s : Int} {cp e f : Int × Int} {w w1 w5 WE : World} {hs hops : List HopV} {hv : Value} {k b : Int} (hB : Below w.heap.size w w5) (hz : w.heap.size + 1 < w1.heap.size) (hO : OwnH w5 (w1.heap.size + 1 + 1 + 1) hv hops) (hK : Keeps (fun i => i = w1.heap.size + 1 ∨ i = w.heap.size + 1) w5 WE)
    (goes : ∀ r, Fol l d s hs e r → Fol l d s [] cp r) (hF : Fol l d s hs e ⟨k, f, hops, b⟩) : FolPost l d s cp w (.returned (.tuple #[rtVal k f hv b, .int .i64 0])) WE :=
  ⟨hB.trans (hK.below (B := w.heap.size) (by rintro i h1 (h | h) <;> omega) hB.size), _, hv, rfl, (hO.keep hK (by rintro g hg (h | h) <;> omega)).mono (by omega), goes _ hF⟩
theorem froms_snoc (hs : List HopV) (l : List OEnt) (d : Int) (e : Int × Int) : froms (hs ++ [hopV l d e]) = froms hs ++ [e] := by simp [froms, hopV]
theorem len_snoc (hs : List HopV) (h : HopV) : (hs ++ [h]).length = hs.length + 1 := by simp
theorem arrive_eq {l : List OEnt} {d s : Int} {c : Int × Int} {k o : Int} {t : Int × Int} {ld dd rf lv : Bool} (hh : hopOf (deadOf l d) (cancOf l d) l d c = ((k, t, o), ld)) (hdd : deadOf l d c.1 = dd) (hrf : refusesOf (deadOf l d) l d c s = rf) (hlv : livesOf (deadOf l d) l d c = lv) :
    arrive l d s c = if dd = true ∧ k = 0 then some (3, c) else if rf = true then some (2, c) else if k ≠ 0 ∧ ld = false then some (5, t) else if ld = true then none else if lv = true then some (1, c) else some (4, c) := by
  subst hdd hrf hlv
  unfold arrive hopAt
  rw [hh]
end Go.Proofs.YtlbehpbhmmppiaaGreatDoor
