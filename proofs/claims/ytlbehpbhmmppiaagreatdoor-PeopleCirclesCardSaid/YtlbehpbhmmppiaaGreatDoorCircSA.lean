/- Rows of slices of pairs that a call made: what an append of one leaves; circles that lie in memory. No conditions. slices.SortFunc at circles by their first pairs: they come in ascending order. Conditions: the circles lie in memory; at most 2 * 10^12. -/
import Derived.Test.YtlbehpbhmmppiaaGreatDoorPairSlA
import Derived.Test.YtlbehpbhmmppiaaGreatDoorCycA
import Derived.Test.YtlbehpbhmmppiaaGreatDoorSetSA
import Derived.Shelf.SlSortCmp.Whole1
import Derived.Shelf.SlSortCmp.NoneTotal
namespace Go.Proofs.YtlbehpbhmmppiaaGreatDoor
open Go.RowKit Go.Shelf

theorem infoCirc : (Tryz.prog.info? 30).map (fun i => (i.zero, i.size, i.bytes)) = some (some (.slice none 0 0), 1, 24) := by kernel_rfl
theorem circsRow : Tryz.prog.underlying 25 = some (.slice 30) := by kernel_rfl
/-- v is a slice of the slices l in memory of the call's own, from block base on. -/
def OwnQ (w : World) (base : Nat) (v : Value) (l : List Value) : Prop := w.ownsRow base 30 1 v l.length l
theorem OwnQ.nil (w : World) (base : Nat) : OwnQ w base (.slice none 0 0) [] := World.ownsRow_nil _ _ _ _
theorem OwnQ.own_lt {w : World} {base : Nat} {v : Value} {l : List Value} (h : OwnQ w base v l) : ∀ k, v.ownBlock = some k → base ≤ k ∧ k < w.heap.size := World.ownsRow.lt h
theorem OwnQ.cells {w : World} {base : Nat} {v : Value} {l : List Value} (h : OwnQ w base v l) : ∀ k, v.ownBlock = some k → ∃ cs, w.heap[k]? = some (.cells cs 30 (0, 0)) := fun k hk => by
  rcases h.2 with ⟨rfl, _⟩ | ⟨g, cap, cur, rfl, _, hg, _⟩
  · simp [Value.ownBlock] at hk
  · simp [Value.ownBlock] at hk
    subst hk
    exact ⟨cur, hg⟩
theorem OwnQ.keep {S : Nat → Prop} {w w' : World} {base : Nat} {v : Value} {l : List Value} (h : OwnQ w base v l) (hk : Keeps S w w') (hs : ∀ g, v.ownBlock = some g → ¬ S g) : OwnQ w' base v l := by
  have hlt := h.own_lt
  unfold OwnQ at h ⊢
  refine ⟨h.1, ?_⟩
  rcases h.2 with h0 | ⟨g, cap, cur, rfl, hb, hg, rest⟩
  · exact .inl h0
  · exact .inr ⟨g, cap, cur, rfl, hb, (hk.block g (hlt g rfl).2 (hs g rfl)).trans hg, rest⟩
theorem OwnQ.below {w w' : World} {base : Nat} {v : Value} {l : List Value} (h : OwnQ w base v l) (hb : Below w.heap.size w w') : OwnQ w' base v l :=
  h.keep (S := fun _ => False) (Keeps.of_new hb) (fun _ _ h => h)
theorem OwnQ.mono {w : World} {base base' : Nat} {v : Value} {l : List Value} (h : OwnQ w base v l) (hb : base' ≤ base) : OwnQ w base' v l := by
  refine ⟨h.1, ?_⟩
  rcases h.2 with h0 | ⟨g, cap, cur, rfl, hg, rest⟩
  · exact .inl h0
  · exact .inr ⟨g, cap, cur, rfl, Nat.le_trans hb hg, rest⟩
theorem OwnQ.shape {w : World} {base : Nat} {v : Value} {l : List Value} (h : OwnQ w base v l) : ∃ A c, v = .slice A l.length c := by
  rcases h.2 with ⟨rfl, h0⟩ | ⟨g, cap, cur, rfl, _⟩
  · exact ⟨none, 0, by rw [h0]⟩
  · exact ⟨_, cap, rfl⟩
theorem OwnQ.grown {w w' : World} {base : Nat} {v : Value} {l : List Value} {row : Option Nat} (h : OwnQ w base v l) (hg : w.grownBy w' row) (hr : ∀ r, row = some r → ∃ o : Obj, w.heap[r]? = some o ∧ o.isCells = false) : OwnQ w' base v l := by
  have hc := h.cells
  unfold OwnQ at h ⊢
  refine World.ownsRow.kept h hg ?_
  rcases h.2 with ⟨rfl, _⟩ | ⟨g, cap, cur, rfl, _, hgb, _⟩
  · exact .inl rfl
  · refine .inr fun e' => ?_
    obtain ⟨o, ho, hw⟩ := hr g (by simpa [Value.ownBlock] using e'.symm)
    rw [hgb] at ho
    cases ho
    cases hw
theorem append_circ {w : World} {base : Nat} {v : Value} {l : List Value} (h : OwnQ w base v l) (A : Option Addr) (n c : Nat) (hbase : base ≤ w.heap.size) (hlen : l.length ≤ 2000000000000) (ty : TypeId) :
    ∃ v' w', (Builtin.append_ #[25, 25] ty #[v, .slice (some ⟨w.heap.size, 0, none⟩) 1 1]).run Tryz.prog (w.alloc (.cells #[.slice A n c] 30)) = .ok v' w' ∧ OwnQ w' base v' (l ++ [.slice A n c]) ∧ Keeps (fun i => v.ownBlock = some i) w w' := by
  obtain ⟨i0, hi, hz0, hz1, hz2⟩ := info_parts infoCirc
  have h1 : (w.alloc (.cells #[.slice A n c] 30)).ownsRow base 30 1 v l.length l := OwnQ.keep h ((Keeps.refl (fun _ => False) w).alloc _) (fun _ _ h => h)
  have hc : ∀ j u, [Value.slice A n c][j]? = some u → (w.alloc (.cells #[.slice A n c] 30)).cell? ((⟨w.heap.size, 0, none⟩ : Addr).add j) = some u := by
    intro j u hj
    rcases j with _ | j
    · simp at hj
      subst hj
      exact (Blk.new w 30 #[.slice A n c]).cell 0
    · simp at hj
  obtain ⟨v', w', hrun, hO, hg, _, _⟩ := run_append_own_at (P := Tryz.prog) (w.alloc (.cells #[.slice A n c] 30)) base 25 ty 30 i0 _ 1 24 circsRow hi hz0 hz1 hz2 rfl (by decide) v l.length _ h1 ⟨w.heap.size, 0, none⟩ 1 1 [.slice A n c] rfl hc (fun u hu => by simp at hu; subst hu; rfl) (by unfold maxLen; omega) (by omega) (by simp; omega)
  refine ⟨v', w', hrun, ?_, ((Keeps.refl (fun i => v.ownBlock = some i) w).alloc _).trans (Keeps.of_grown (S := fun i => v.ownBlock = some i) hg (fun k hk _ => hk)) (fun i _ h => h)⟩
  unfold OwnQ
  rw [List.length_append]
  exact hO
/-- The slices vs lie behind A. -/
def HeadsAt (w : World) (A : Option Addr) (vs : List Value) : Prop := ∀ k v, vs[k]? = some v → ∃ g, A = some ⟨g, 0, none⟩ ∧ g < w.heap.size ∧ w.cell? ⟨g, k, none⟩ = some v
theorem OwnQ.at {w : World} {base : Nat} {A : Option Addr} {c : Nat} {l : List Value} (h : OwnQ w base (.slice A l.length c) l) : HeadsAt w A l ∧ ∀ g off, A = some ⟨g, off, none⟩ → base ≤ g := by
  have hl := h.own_lt
  refine ⟨fun k x hx => ?_, fun g off e => ?_⟩
  · have hk := (List.getElem?_eq_some_iff.1 hx).1
    unfold OwnQ at h
    rcases h.2 with ⟨h1, h2⟩ | ⟨g, cap, cur, h1, hb, hg, _⟩
    · omega
    · simp only [Value.slice.injEq] at h1
      obtain ⟨rfl, _, rfl⟩ := h1
      refine ⟨g, rfl, (hl g rfl).2, ?_⟩
      rw [h.cellAt k (by omega), hx]
  · subst e
    rcases h.2 with ⟨h1, h2⟩ | ⟨g', cap, cur, h1, hb, hg, _⟩
    · cases h1
    · simp only [Value.slice.injEq, Option.some.injEq, Addr.mk.injEq] at h1
      obtain ⟨⟨rfl, _⟩, _⟩ := h1
      exact hb
theorem HeadsAt.keep {S : Nat → Prop} {w w' : World} {A : Option Addr} {vs : List Value} (h : HeadsAt w A vs) (hk : Keeps S w w') (hS : ∀ g off, A = some ⟨g, off, none⟩ → ¬ S g) : HeadsAt w' A vs := fun k v hv => by
  obtain ⟨g, h1, h2, h3⟩ := h k v hv
  exact ⟨g, h1, Nat.lt_of_lt_of_le h2 hk.size, (hk.cell h2 (hS g 0 h1)).trans h3⟩
theorem OwnQ.cellOf {w : World} {base g c : Nat} {l : List Value} (h : OwnQ w base (.slice (some ⟨g, 0, none⟩) l.length c) l) (k : Nat) (hk : k < l.length) : w.cell? ⟨g, k, none⟩ = l[k]? := by
  obtain ⟨x, hx⟩ : ∃ x, l[k]? = some x := ⟨_, List.getElem?_eq_getElem hk⟩
  obtain ⟨g', e, _, h2⟩ := h.at.1 k x hx
  cases e
  rw [h2, hx]
/-- The slice v shows the pairs q, which are some. -/
def CircAt (w : World) (v : Value) (q : List (Int × Int)) : Prop := ∃ g off c, v = .slice (some ⟨g, off, none⟩) q.length c ∧ PairsF w g off q ∧ q ≠ []
theorem CircAt.keep {S : Nat → Prop} {w w' : World} {v : Value} {q : List (Int × Int)} (h : CircAt w v q) (hk : Keeps S w w') (hS : ∀ g, v.ownBlock = some g → ¬ S g) : CircAt w' v q := by
  obtain ⟨g, off, c, rfl, h1, h2⟩ := h
  exact ⟨g, off, c, rfl, h1.keep hk (hS g rfl), h2⟩
theorem CircAt.below {w w' : World} {v : Value} {q : List (Int × Int)} (h : CircAt w v q) (hb : Below w.heap.size w w') : CircAt w' v q :=
  h.keep (S := fun _ => False) (Keeps.of_new hb) (fun _ _ h => h)
theorem CircAt.lt {w : World} {v : Value} {q : List (Int × Int)} (h : CircAt w v q) : ∀ g, v.ownBlock = some g → g < w.heap.size := fun k hk => by
  obtain ⟨g, off, c, rfl, h1, _⟩ := h
  simp [Value.ownBlock] at hk
  subst hk
  exact h1.lt
/-- The circles C lie behind A. -/
def CircsAt (w : World) (A : Option Addr) (C : List (List (Int × Int))) : Prop := ∀ k q, C[k]? = some q → ∃ g v, A = some ⟨g, 0, none⟩ ∧ g < w.heap.size ∧ w.cell? ⟨g, k, none⟩ = some v ∧ CircAt w v q
theorem CircsAt.up {w w' : World} {A : Option Addr} {C : List (List (Int × Int))} (h : CircsAt w A C) (hb : Below w.heap.size w w') : CircsAt w' A C := fun k q hq => by
  obtain ⟨g, v, h1, h2, h3, h4⟩ := h k q hq
  exact ⟨g, v, h1, Nat.lt_of_lt_of_le h2 hb.size, (hb.cell (p := ⟨g, k, none⟩) h2).trans h3, h4.below hb⟩
end Go.Proofs.YtlbehpbhmmppiaaGreatDoor
namespace Go.Proofs.YtlbehpbhmmppiaaGreatDoor
open Go.RowKit Go.Shelf Go.Sort
attribute [local go_sem] Oper.semAt_some

set_option maxRecDepth 100000 in
set_option maxHeartbeats 2000000 in
theorem cmpCirc_any (g1 o1 n1 c1 g2 o2 n2 c2 : Nat) (a b : Int × Int) (w : World) (h1 : 0 < n1) (h2 : 0 < n2) (z1 : g1 < w.heap.size) (z2 : g2 < w.heap.size)
    (a0 : w.cell? ⟨g1, o1, none⟩ = some (.int .i64 a.1)) (a1 : w.cell? ⟨g1, o1 + 1, none⟩ = some (.int .i64 a.2)) (b0 : w.cell? ⟨g2, o2, none⟩ = some (.int .i64 b.1)) (b1 : w.cell? ⟨g2, o2 + 1, none⟩ = some (.int .i64 b.2)) :
    Calls Tryz.prog 19 #[.slice (some ⟨g1, o1, none⟩) n1 c1, .slice (some ⟨g2, o2, none⟩) n2 c2] w fun e w' => e = .returned (.int .i64 (cmpP a b)) ∧ ∃ q os', w' = grow (w.drewN q) os' := by
  have HC := Lib.hid (comparePairs_any a b w.drew)
  generalize cmpP a b = R at HC ⊢
  unfold candCells at HC
  have HG : Hid (∀ q os, ∃ q' os', grow (w.drewN q) os = grow (w.drewN q') os') := Lib.hid (fun q os => ⟨q, os, rfl⟩)
  go_enter Tryz.func19, Tryz.ntmps19
  go_upto_region 1 with fail
  refine wp_region_still_tail 6 (by kernel_rfl) (by kernel_rfl) ?_
  simp only [List.take_succ_cons, List.take_zero, List.drop_succ_cons, List.drop_zero]
  change wpStill _ _ w.drew _ _ _
  still_step
  still_step
  still_step
  still_step
  still_step
  still_step
  refine wpStill_nil ?_
  change wpList _ _ _ _ _ w.drew
  go_wp2_with fail
  refine HC.out.mono ?_
  rintro e w' ⟨rfl, q, os, rfl⟩
  go_wp2_with fail
  go_ret
  exact ⟨rfl, HG.out _ os⟩

theorem pmap_val {α : Type} {P : α → Prop} : ∀ (l : List α) (H : ∀ a ∈ l, P a), (l.pmap (fun p hp => (⟨p, hp⟩ : { p : α // P p })) H).map Subtype.val = l
  | [], _ => rfl
  | x :: l, H => by
    rw [List.pmap_cons, List.map_cons, pmap_val l]

/-- A circle in memory that lies in another block than blk. -/
def CEl (w : World) (blk : Nat) : Type := { p : Value × List (Int × Int) // CircAt w p.1 p.2 ∧ p.1.ownBlock ≠ some blk }
def CEl.enc {w : World} {blk : Nat} (x : CEl w blk) : Value := x.1.1
def CEl.q {w : World} {blk : Nat} (x : CEl w blk) : List (Int × Int) := x.1.2
def hdP (q : List (Int × Int)) : Int × Int := q.headD (0, 0)
def cmpQ {w : World} {blk : Nat} (x y : CEl w blk) : Int := cmpP (hdP x.q) (hdP y.q)
theorem swoQ {w : World} {blk : Nat} : SWO (ltOf (cmpQ (w := w) (blk := blk))) where
  irrefl x := swoP.irrefl (hdP x.q)
  trans x y z := swoP.trans (hdP x.q) (hdP y.q) (hdP z.q)
  ntrans x y z := swoP.ntrans (hdP x.q) (hdP y.q) (hdP z.q)
theorem keeps1 {α : Type} [Inhabited α] (enc : α → Value) {w : World} {g n : Nat} {os : Array Obj} (d : Array α) : Keeps (fun i => i = g) w (sortWorld enc w g 0 n d os) := by
  unfold sortWorld putRow
  have hz : (mapBlock (Sort.ahead w n) g (putCells enc 0 d)).heap.size = w.heap.size := by simp [mapBlock, Sort.ahead]
  refine ⟨rfl, rfl, rfl, by simp [hz], fun k hk hne => ?_⟩
  rw [heap_grow_old _ _ (by rw [hz]; exact hk)]
  have : g ≠ k := fun e => hne e.symm
  simp [mapBlock, Sort.ahead, Array.getElem?_modify, this]
theorem circ_first {w : World} {v : Value} {q : List (Int × Int)} (h : CircAt w v q) : ∃ g off c, v = .slice (some ⟨g, off, none⟩) q.length c ∧ 0 < q.length ∧ g < w.heap.size ∧ w.cell? ⟨g, off, none⟩ = some (.int .i64 (hdP q).1) ∧ w.cell? ⟨g, off + 1, none⟩ = some (.int .i64 (hdP q).2) := by
  obtain ⟨g, off, c, rfl, hP, hne⟩ := h
  obtain ⟨x, r, rfl⟩ := List.exists_cons_of_ne_nil hne
  obtain ⟨h1, h2⟩ := hP.at' 0 x rfl
  simp only [Nat.zero_mul, Nat.add_zero] at h1 h2
  exact ⟨g, off, c, rfl, by simp, hP.lt, h1, h2⟩
theorem cmpLaysQ {w : World} {blk : Nat} [Inhabited (CEl w blk)] (size : Nat) : CmpLays1 Tryz.prog 19 #[] (CEl.enc (w := w) (blk := blk)) cmpQ blk 0 size w := by
  intro m os dk _ x y
  have hk : Keeps (fun i => i = blk) w (sortWorld CEl.enc w blk 0 m dk os) := keeps1 _ dk
  have hx := x.2.1.keep hk (fun g hg e => x.2.2 (by rw [hg, e]))
  have hy := y.2.1.keep hk (fun g hg e => y.2.2 (by rw [hg, e]))
  obtain ⟨g1, o1, c1, e1, l1, z1, a0, a1⟩ := circ_first hx
  obtain ⟨g2, o2, c2, e2, l2, z2, b0, b1⟩ := circ_first hy
  have h := cmpCirc_any g1 o1 _ c1 g2 o2 _ c2 (hdP x.q) (hdP y.q) _ l1 l2 z1 z2 a0 a1 b0 b1
  rw [← e1, ← e2] at h
  exact h

set_option maxHeartbeats 1000000 in
/-- The sort of a row of circles. -/
theorem sortCircs_any (base : Nat) (A : Option Addr) (c : Nat) (vs : List Value) (C : List (List (Int × Int))) (w : World) (hO : OwnQ w base (.slice A vs.length c) vs) (hl : vs.length = C.length) (hn : vs.length ≤ 2000000000000)
    (hC : ∀ (k : Nat) v q, vs[k]? = some v → C[k]? = some q → CircAt w v q ∧ ∀ g, A = some ⟨g, 0, none⟩ → v.ownBlock ≠ some g) :
    Calls Tryz.prog 18 #[.slice A vs.length c, .func (.func 19) #[] #[]] w fun e w' =>
      e = .returned (.tuple #[]) ∧ ∃ R : List (List (Int × Int)), Hid (R.Perm C ∧ R.Pairwise (fun a b => ¬ ltC (hdP b) (hdP a))) ∧ CircsAt w' A R ∧ Keeps (fun i => ∃ g, A = some ⟨g, 0, none⟩ ∧ i = g) w w' := by
  rcases vs with _ | ⟨v0, vs0⟩
  · obtain rfl : C = [] := by cases C with | nil => rfl | cons => simp at hl
    refine (AnyF.slices_SortFunc_none { laysSortQ with } A c _ w).mono ?_
    rintro e w' ⟨rfl, rfl⟩
    exact ⟨rfl, [], Lib.hid ⟨List.Perm.refl _, .nil⟩, fun k q hq => by simp at hq, Keeps.refl _ _⟩
  · obtain ⟨g, hAg, hg, hfr⟩ : ∃ g, A = some ⟨g, 0, none⟩ ∧ g < w.heap.size ∧ ∀ k, w.frozen? ⟨g, k, none⟩ = false := by
      rcases hO.2 with ⟨h1, h2⟩ | ⟨g, cap, cur, h1, hb, hgb, _⟩
      · simp at h2
      · simp only [Value.slice.injEq] at h1
        exact ⟨g, h1.1, (Array.getElem?_eq_some_iff.1 hgb).1, fun k => by simp [World.frozen?, hgb]⟩
    subst hAg
    have hcell := fun k (hk : k < (v0 :: vs0).length) => OwnQ.cellOf hO k hk
    generalize hvs : v0 :: vs0 = vs at *
    have hpos : 0 < vs.length := by rw [← hvs]; simp
    clear hvs
    have hall : ∀ p ∈ vs.zip C, CircAt w p.1 p.2 ∧ p.1.ownBlock ≠ some g := fun p hp => by
      obtain ⟨k, hk⟩ := List.getElem?_of_mem hp
      rw [List.getElem?_zip_eq_some] at hk
      obtain ⟨h1, h2⟩ := hC k p.1 p.2 hk.1 hk.2
      exact ⟨h1, h2 g rfl⟩
    obtain ⟨D, hD⟩ : ∃ D : List (CEl w g), D.map Subtype.val = vs.zip C := ⟨(vs.zip C).pmap (fun p hp => ⟨p, hp⟩) hall, pmap_val _ _⟩
    have hDl : D.length = vs.length := by
      have h1 := congrArg List.length hD
      have h2 : (D.map Subtype.val).length = D.length := List.length_map ..
      rw [← h2, h1, List.length_zip]
      omega
    have hDv : D.map CEl.enc = vs := by
      have h1 : D.map CEl.enc = (D.map Subtype.val).map Prod.fst := (List.map_map ..).symm
      rw [h1, hD, List.map_fst_zip (by omega)]
    have hDq : D.map CEl.q = C := by
      have h1 : D.map CEl.q = (D.map Subtype.val).map Prod.snd := (List.map_map ..).symm
      rw [h1, hD, List.map_snd_zip (by omega)]
    haveI : Inhabited (CEl w g) := ⟨D[0]'(by omega)⟩
    have hH : Holds CEl.enc w g 0 D.toArray := fun j hj => by
      have hj' : j < D.length := by simpa using hj
      refine ⟨?_, hfr _⟩
      rw [Nat.zero_add, hcell j (by omega)]
      have h1 : D.toArray[j]! = D[j] := by rw [getElem!_pos D.toArray j hj]; simp
      rw [h1, ← hDv, List.getElem?_map, List.getElem?_eq_getElem hj']
      rfl
    have eg : ∀ args w, (callFunc 19 args).run Tryz.prog w = .ok (.enter 19 args) w := enters_of Tryz.func19 (by kernel_rfl) rfl
    have h1c : OneCell (CEl.enc (w := w) (blk := g)) := fun x => by
      obtain ⟨a, b, c, h, _⟩ := x.2.1
      unfold CEl.enc
      rw [h]
      rfl
    have hcon := Any.slices_SortFunc laysSortQ CEl.enc h1c cmpQ swoQ 19 #[] g 0 c D.toArray w eg (cmpLaysQ _) hH hg (by simp; omega)
    rw [List.size_toArray, hDl] at hcon
    refine Calls.mono hcon ?_
    rintro e w' ⟨he, d', n, os, hp, hs, rfl⟩
    have hsz : d'.size = D.length := by simpa using hp.1
    have hperm : d'.toList.Perm D := by
      have h3 := hp.2.2
      have e1 : d'.extract 0 vs.length = d' := by rw [← hDl, ← hsz]; simp
      have e2 : D.toArray.extract 0 vs.length = D.toArray := by rw [← hDl, ← List.size_toArray]; simp
      rw [e1, e2] at h3
      simpa using h3
    have hHs := holds_sortWorld CEl.enc w g 0 n D.toArray d' os hg hH (by simpa using hsz)
    refine ⟨he, d'.toList.map CEl.q, Lib.hid ⟨?_, ?_⟩, fun k q hq => ?_, ?_⟩
    · have := hperm.map CEl.q
      rwa [hDq] at this
    · rw [List.pairwise_map, List.pairwise_iff_getElem]
      intro i j hi hj hij
      have hi' : i < d'.size := by simpa using hi
      have hj' : j < d'.size := by simpa using hj
      have h := hs i j (Nat.zero_le _) hij (by omega)
      rw [getElem!_pos d' i hi', getElem!_pos d' j hj'] at h
      have h' := mt (ltP _ _).2 (Bool.eq_false_iff.1 h)
      simpa using h'
    · rw [List.getElem?_map] at hq
      obtain ⟨x, hx, rfl⟩ := Option.map_eq_some_iff.1 hq
      have hk : k < d'.size := by simpa using (List.getElem?_eq_some_iff.1 hx).1
      have hdx : d'[k]! = x := by
        rw [getElem!_pos d' k hk]
        rw [List.getElem?_eq_getElem (by simpa using hk)] at hx
        simpa using Option.some.inj hx
      have h1 := (hHs k hk).1
      rw [Nat.zero_add, hdx] at h1
      exact ⟨g, x.enc, rfl, Nat.lt_of_lt_of_le hg (keeps1 (n := n) (os := os) CEl.enc d').size, h1, x.2.1.keep (keeps1 _ d') (fun g' hg' e => x.2.2 (by rw [hg', e]))⟩
    · exact (keeps1 (n := n) (os := os) CEl.enc d').mono (fun i _ e => ⟨g, rfl, e⟩)
end Go.Proofs.YtlbehpbhmmppiaaGreatDoor
