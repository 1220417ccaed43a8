/- What a redirection at the end of a valid list does to the orders of its pair, and what a cancellation of it does. No conditions. -/
import Derived.Test.YtgbnbolhmghhlaaGreatDoorFolA
import Derived.Test.YtgbnbolhmghhlaaGreatDoorAppendA
namespace Go.Proofs.YtgbnbolhmghhlaaGreatDoor

theorem flt_app (l m : List OEnt) (kd d : Int) : flt (l ++ m) kd d = flt l kd d ++ flt m kd d := List.filter_append ..
theorem flt_one_ne {X : OEnt} {kd d : Int} (h : X.1.kind ≠ kd) : flt [X] kd d = [] := by
  unfold flt
  simp [h]
theorem flt_one {X : OEnt} {kd d : Int} (h : X.1.kind = kd) : flt [X] kd d = if hld X.1 d = true then [X] else [] := by
  unfold flt
  rw [List.filter_cons]
  simp [h]
theorem dead_app {l : List OEnt} {X : OEnt} {d : Int} (h : X.1.kind ≠ 3) : deadOf (l ++ [X]) d = deadOf l d := by
  funext p
  unfold deadOf
  rw [flt_app, flt_one_ne h, List.append_nil]
theorem canc_app_ne {l : List OEnt} {X : OEnt} {d : Int} (h : X.1.kind ≠ 6) : cancOf (l ++ [X]) d = cancOf l d := by
  funext p
  unfold cancOf
  rw [flt_app, flt_one_ne h, List.append_nil]
theorem canc_app {l : List OEnt} {X : OEnt} {d : Int} (h : X.1.kind = 6) (hh : hld X.1 d = true) (o : Int) : cancOf (l ++ [X]) d o = (cancOf l d o || X.1.order == o) := by
  unfold cancOf
  rw [flt_app, flt_one h, if_pos hh, List.any_append]
  simp
theorem home_app {dead : Int → Bool} {l : List OEnt} {X : OEnt} {d : Int} (h : X.1.kind ≠ 2) (p : Int) : homeOf dead (l ++ [X]) d p = homeOf dead l d p := by
  unfold homeOf
  rw [flt_app, flt_one_ne h, List.append_nil]
theorem target_app {dead : Int → Bool} {l : List OEnt} {X : OEnt} {d : Int} (h : X.1.kind ≠ 2) (x : Ent) : targetOf dead (l ++ [X]) d x = targetOf dead l d x := by
  unfold targetOf reachedOf
  rw [home_app h]

theorem chk_at : ∀ (l pre : List Ent), (chk pre l).2 = 0 → ∀ a x b, l = a ++ x :: b → nextE (pre ++ a) x = 0
  | [], _, _, a, x, b, e => by simp at e
  | y :: r, pre, h, a, x, b, e => by
    unfold chk at h
    by_cases hn : nextE pre y = 0
    · rw [if_pos hn] at h
      cases a with
      | nil =>
        simp only [List.nil_append, List.cons.injEq] at e
        rw [List.append_nil, ← e.1]
        exact hn
      | cons z a =>
        simp only [List.cons_append, List.cons.injEq] at e
        have := chk_at r (pre ++ [y]) h a x b e.2
        rw [← e.1, List.append_cons]
        exact this
    · rw [if_neg hn] at h
      exact absurd h hn
theorem next_contr {l : List Ent} {x : Ent} (h : nextE l x = 0) : contrE l x = 0 := by
  unfold nextE at h
  by_cases h1 : ckE x ≠ 0
  · rw [if_pos h1] at h; exact absurd h h1
  · rw [if_neg h1] at h
    by_cases h2 : 400 ≤ l.length
    · rw [if_pos h2] at h; omega
    · rw [if_neg h2] at h
      by_cases h3 : x.day < lastD l
      · rw [if_pos h3] at h; omega
      · rw [if_neg h3] at h
        split at h
        · omega
        · exact h
theorem order_new {l : List Ent} {x : Ent} (h : nextE l x = 0) (hk : x.kind = 5) : orderedB l x.order = false := by
  have h := next_contr h
  unfold contrE at h
  rw [if_neg (by omega)] at h
  cases ho : orderedB l x.order
  · rfl
  · rw [if_pos ⟨hk, ho⟩] at h
    omega
theorem ordered_mono {a b : List Ent} {o : Int} (h : orderedB a o = true) : orderedB (a ++ b) o = true := by
  unfold orderedB at h ⊢
  rw [List.any_append, h]
  rfl
theorem canc_ordered {l : List Ent} (h : (chk [] l).2 = 0) {y : Ent} (hy : y ∈ l) (hk : y.kind = 6) : orderedB l y.order = true := by
  obtain ⟨a, b, rfl⟩ := List.append_of_mem hy
  have h1 := next_contr (chk_at _ [] h a y b rfl)
  rw [List.nil_append] at h1
  refine ordered_mono ?_
  unfold contrE at h1
  rw [if_neg (by omega), if_neg (by omega)] at h1
  cases ho : orderedB a y.order
  · rw [if_pos ⟨hk, ho⟩] at h1
    omega
  · rfl
theorem app_ok {l : List Ent} {x : Ent} (h : appE l x = 0) : (chk [] l).2 = 0 ∧ nextE l x = 0 := by
  unfold appE at h
  rw [nextE_chk] at h
  by_cases h1 : (chk [] l).2 ≠ 0
  · rw [if_pos h1] at h; exact absurd h h1
  · rw [if_neg h1] at h
    exact ⟨by simpa using h1, h⟩

section
variable {l : List OEnt} {X : OEnt} {d : Int} (hv : appE (l.map (·.1)) X.1 = 0) (hk : X.1.kind = 5)
include hv hk
theorem sup_canc : cancOf l d X.1.order = false := by
  obtain ⟨h1, h2⟩ := app_ok hv
  have h3 := order_new h2 hk
  unfold cancOf
  rw [List.any_eq_false]
  intro y hy he
  have hy' := List.mem_filter.1 hy
  have hk6 : y.1.kind = 6 := by
    have := hy'.2
    simp at this
    exact this.1
  have h4 := canc_ordered h1 (List.mem_map_of_mem (f := (·.1)) hy'.1) hk6
  rw [show y.1.order = X.1.order by simpa using he, h3] at h4
  cases h4
theorem sup_alone {y : OEnt} (hy : y ∈ flt l 5 d) : y.1.order ≠ X.1.order := by
  obtain ⟨h1, h2⟩ := app_ok hv
  have h3 := order_new h2 hk
  intro he
  have hy' := List.mem_filter.1 hy
  have hk5 : y.1.kind = 5 := by
    have := hy'.2
    simp at this
    exact this.1
  have h4 : orderedB (l.map (·.1)) X.1.order = true := by
    unfold orderedB
    rw [List.any_eq_true]
    exact ⟨y.1, List.mem_map_of_mem (f := (·.1)) hy'.1, by simp [hk5, he]⟩
  rw [h3] at h4
  cases h4
/-- Where the redirection holds, its person is alive and its target is another pair, it is the order of its pair. -/
theorem sup_last (hp : X.1.place ≠ 0) (hh : hld X.1 d = true) (hd : deadOf (l ++ [X]) d X.1.person = false) (ht : (targetOf (deadOf (l ++ [X]) d) (l ++ [X]) d X.1).1 ≠ (X.1.person, X.1.place)) :
    orderOf (deadOf (l ++ [X]) d) (cancOf (l ++ [X]) d) (l ++ [X]) d (X.1.person, X.1.place) = (X.1, true) := by
  unfold orderOf ordPre
  rw [if_neg (by simp [hd]), flt_app, flt_one hk, if_pos hh, List.foldl_append]
  simp only [List.foldl_cons, List.foldl_nil]
  unfold stepO
  rw [if_pos]
  refine ⟨.inl hp, ?_⟩
  unfold appliesOf
  have hc : cancOf (l ++ [X]) d X.1.order = false := by
    rw [canc_app_ne (by omega)]
    exact sup_canc hv hk
  rw [if_neg (by simp [hc])]
  simp [ht]
/-- The cancellation of the redirection leaves the order that there was before. -/
theorem sup_cancel {K : OEnt} (hK : K.1.kind = 6) (ho : K.1.order = X.1.order) (hh : hld K.1 d = true) (c : Int × Int) :
    orderOf (deadOf (l ++ [X] ++ [K]) d) (cancOf (l ++ [X] ++ [K]) d) (l ++ [X] ++ [K]) d c = orderOf (deadOf l d) (cancOf l d) l d c := by
  have hD : deadOf (l ++ [X] ++ [K]) d = deadOf l d := by rw [dead_app (by omega), dead_app (by omega)]
  have hC : ∀ o, cancOf (l ++ [X] ++ [K]) d o = (cancOf l d o || X.1.order == o) := fun o => by rw [canc_app hK hh, canc_app_ne (by omega), ho]
  have hT : ∀ x, targetOf (deadOf l d) (l ++ [X] ++ [K]) d x = targetOf (deadOf l d) l d x := fun x => by rw [target_app (by omega), target_app (by omega)]
  unfold orderOf ordPre
  rw [hD]
  by_cases hd : deadOf l d c.1 = true
  · rw [if_pos hd, if_pos hd]
  · rw [if_neg hd, if_neg hd, flt_app, flt_app, flt_one_ne (show K.1.kind ≠ 5 by omega), List.append_nil, List.foldl_append]
    have h1 : ∀ (m : List OEnt), (∀ y ∈ m, y.1.order ≠ X.1.order) → ∀ s, m.foldl (stepO (deadOf l d) (cancOf (l ++ [X] ++ [K]) d) (l ++ [X] ++ [K]) d c) s = m.foldl (stepO (deadOf l d) (cancOf l d) l d c) s := by
      intro m
      induction m with
      | nil => intro _ s; rfl
      | cons y m ih =>
        intro hm s
        have hy : (X.1.order == y.1.order) = false := by
          have := hm y (List.mem_cons_self ..)
          simpa using fun e => this e.symm
        have hs : stepO (deadOf l d) (cancOf (l ++ [X] ++ [K]) d) (l ++ [X] ++ [K]) d c s y = stepO (deadOf l d) (cancOf l d) l d c s y := by
          unfold stepO appliesOf
          rw [hC, hT, hy, Bool.or_false]
        rw [List.foldl_cons, List.foldl_cons, hs, ih (fun z hz => hm z (List.mem_cons_of_mem _ hz))]
    rw [h1 (flt l 5 d) (fun y hy => sup_alone hv hk hy)]
    rw [flt_one hk]
    split
    · rw [List.foldl_cons, List.foldl_nil]
      unfold stepO appliesOf
      rw [hC]
      simp
    · rfl
/-- The cancellation can be appended. -/
theorem sup_next {K : Ent} (h60 : l.length ≤ 60) (hK : K = { zeroEnt with day := X.1.day, kind := 6, order := X.1.order }) : appE ((l ++ [X]).map (·.1)) K = 0 := by
  obtain ⟨h1, h2⟩ := app_ok hv
  have h3 := order_new h2 hk
  have hm : (l ++ [X]).map (·.1) = l.map (·.1) ++ [X.1] := by simp
  have hc : (chk [] (l.map (·.1) ++ [X.1])).2 = 0 := hv
  have hck : ckE X.1 = 0 := (next_len _ _ h2).2
  have hok : okE X.1 = true := ok_of_ck _ hck
  unfold okE at hok
  simp only [Bool.and_eq_true] at hok
  obtain ⟨⟨hday, hid⟩, _⟩ := hok
  have hday' : isDayB X.1.day = true := by
    unfold vDays at hday
    simp only [Bool.and_eq_true] at hday
    exact hday.1.1
  have hid' : isIdB X.1.order = true := by
    unfold vIds at hid
    rw [if_neg (by omega), if_neg (by omega), if_neg (by omega), if_neg (by omega), if_pos hk] at hid
    simp only [Bool.and_eq_true] at hid
    exact hid.1.1.1.1
  unfold appE
  rw [nextE_chk, hm, if_neg (by rw [hc]; simp), List.nil_append]
  unfold nextE
  have hKc : ckE K = 0 := by
    unfold ckE
    have ho : okE K = true := by
      unfold okE vDays vIds onlyW onlyOr
      have h00 : isDayB 0 = true := by decide
      subst hK
      simp [zeroEnt, hday', hid', h00]
    rw [ho]
    subst hK
    simp [zeroEnt]
  rw [if_neg (by rw [hKc]; simp), if_neg (by simp; omega)]
  have hdK : K.day = X.1.day := by rw [hK]
  have hkK : K.kind = 6 := by rw [hK]
  have hpK : K.person = 0 := by rw [hK]; rfl
  have hoK : K.other = 0 := by rw [hK]; rfl
  have horK : K.order = X.1.order := by rw [hK]
  rw [if_neg (by rw [lastD_snoc, hdK]; omega), if_neg (by rw [hpK, hoK]; simp)]
  unfold contrE
  rw [if_neg (by omega), if_neg (by omega), horK, orderedB_snoc, cancelledB_snoc]
  rw [if_neg (by simp [hk])]
  rw [if_neg]
  rintro ⟨_, hc2⟩
  have h5 : (X.1.kind == 6 && X.1.order == X.1.order) = false := by simp [hk]
  rw [h5, Bool.or_false] at hc2
  unfold cancelledB at hc2
  obtain ⟨y, hy, hy2⟩ := List.any_eq_true.1 hc2
  simp only [Bool.and_eq_true, beq_iff_eq] at hy2
  have h6 := canc_ordered h1 hy hy2.1
  rw [hy2.2, h3] at h6
  cases h6
end
/-- The target in the words of the law. -/
theorem sup_to {dead : Int → Bool} {l : List OEnt} {d : Int} {x : Ent} (hp : x.place ≠ 0) (h : ((x.other, if x.at' = 0 ∧ dead x.other = false then (homeOf dead l d x.other).1 else x.at') : Int × Int) ≠ (x.person, x.place)) :
    (targetOf dead l d x).1 ≠ (x.person, x.place) := by
  unfold targetOf
  by_cases ha : x.at' = 0
  · rw [if_neg (by simp [ha])]
    unfold reachedOf
    cases hd : dead x.other
    · rw [if_pos ⟨ha, hd⟩] at h
      exact h
    · intro he
      have h2 : (homeOf dead l d x.other).1 = 0 := by unfold homeOf; rw [if_pos hd]
      simp only [Prod.mk.injEq] at he
      rw [h2] at he
      exact hp he.2.symm
  · rw [if_pos ha]
    rw [if_neg (fun h => ha h.1)] at h
    exact h
end Go.Proofs.YtgbnbolhmghhlaaGreatDoor
