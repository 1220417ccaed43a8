/- The contract of Crash. Conditions: the disk lies in memory; so does keep. The contracts of Read, Write, Flush with an error, and of Stop. Conditions: the disk lies in memory. -/
import Derived.Test.YthgfbaekmhpiaaaGreatDoorDiskB
import Derived.Test.YthgfbaekmhpiaaaGreatDoorDiskA
namespace Go.Proofs.YthgfbaekmhpiaaaGreatDoor
open Go.RowKit Go.Shelf
attribute [local go_sem] Oper.semAt_some

theorem blk_own {β : Type} (b : Nat) (t : TypeId) (f : β → Array Value) : Own (fun s W => Blk W b t (f s)) := fun s X Y row hs hg hrow =>
  (hg.block b (Blk.lt hs) (fun e' => by obtain ⟨o, ho, hc⟩ := hrow b e'.symm; rw [show X.heap[b]? = _ from hs] at ho; cases ho; cases hc)).trans hs
theorem keepsFrom_of {S : Nat → Prop} {B : Nat} {W W' : World} (h : Keeps S W W') (hS : ∀ i, B ≤ i → ¬ S i) : KeepsFrom B W W' :=
  ⟨h.size, fun k _ hk h0 _ => (h.block k (Array.getElem?_eq_some_iff.1 h0).1 (hS k hk)).trans h0⟩
/-- The sectors without the writes of the list. -/
def undo (S : List (List Int)) (l : List (Nat × PW)) : List (List Int) := l.foldl (fun S x => S.set x.2.1 x.2.2.1) S
theorem undo_len (S : List (List Int)) (l : List (Nat × PW)) : (undo S l).length = S.length := by
  unfold undo
  induction l generalizing S with
  | nil => rfl
  | cons x l ih => rw [List.foldl_cons, ih, List.length_set]
theorem undo_snoc (S : List (List Int)) (l : List (Nat × PW)) (x : Nat × PW) : undo S (l ++ [x]) = (undo S l).set x.2.1 x.2.2.1 := by unfold undo; rw [List.foldl_append]; rfl
/-- How many first bytes Crash keeps. -/
def keptOf (n : Int) : Int := min (max n 0) 64
/-- The first bytes of the new contents, then those of the old ones. -/
def mix (n : Int) (old new : List Int) : List Int := new.take (keptOf n).toNat ++ old.drop (keptOf n).toNat
def keepS (K : List Int) (S : List (List Int)) (l : List (PW × Nat)) : List (List Int) := l.foldl (fun S x => match K[x.2]? with | some n => S.set x.1.1 (mix n (S.getD x.1.1 []) x.1.2.2) | none => S) S
theorem keepS_snoc (K : List Int) (S : List (List Int)) (l : List (PW × Nat)) (x : PW × Nat) : keepS K S (l ++ [x]) = match K[x.2]? with | some n => (keepS K S l).set x.1.1 (mix n ((keepS K S l).getD x.1.1 []) x.1.2.2) | none => keepS K S l := by unfold keepS; rw [List.foldl_append]; rfl
theorem keepS_len (K : List Int) (S : List (List Int)) (l : List (PW × Nat)) : (keepS K S l).length = S.length := by
  unfold keepS
  induction l generalizing S with
  | nil => rfl
  | cons x l ih =>
    rw [List.foldl_cons, ih]
    split
    · rw [List.length_set]
    · rfl
theorem zip_snoc {P : List PW} {k : Nat} {x : PW} (hx : P[k]? = some x) : P.zipIdx.take (k + 1) = P.zipIdx.take k ++ [(x, k)] := by
  rw [List.take_add_one, List.getElem?_zipIdx, hx]
  simp
/-- The sectors behind Crash. -/
def crashed (S : List (List Int)) (P : List PW) (K : List Int) : List (List Int) := keepS K (undo S (revs P)) P.zipIdx
/-- What Crash has between two rounds of its first loop. -/
def CrAt (w0 : World) (p gs Bb : Nat) (vp : Value) (S : List (List Int)) (P : List PW) (dn st : Bool) (ca : Int) (pre : List (OPW S.length)) (W : World) : Prop :=
  DiskAt W p gs vp (undo S (pre.map Subtype.val)) P dn st ca ∧ Blk W Bb 62 #[.pointer (some ⟨p, 0, none⟩)] ∧ Keeps (fun i => i = gs) w0 W
theorem crAt_own {w0 w : World} {p gs Bb : Nat} {vp : Value} {S : List (List Int)} {P : List PW} {dn st : Bool} {ca : Int} (h0 : DiskAt w p gs vp S P dn st ca) (hb : Bb < w.heap.size) (h1 : w0.heap.size ≤ w.heap.size) : OwnFrom w.heap.size (CrAt w0 p gs Bb vp S P dn st ca) := fun pre X Y row hs hg hr => by
  obtain ⟨k1, k2, k3⟩ := hs
  have hK : Keeps (fun i => w.heap.size ≤ i) X Y := Keeps.of_grown hg (fun k e _ => (hr k e).1)
  have hl := World.ownsRow.lt h0.pend
  refine ⟨k1.keep hK (fun i hi => ?_), k2.keep hK (by omega), k3.trans hK (fun i h2 h3 => by omega)⟩
  rcases hi with e | e | e
  · have := h0.blk.lt; omega
  · have := h0.sec.lt; omega
  · have := (hl i e).2; omega

theorem wpListIn_store_row {F : Fence} {nF : Nat} {P : Program} {w : World} {ops : Array Oper} {rest : List Oper} {o : Oper} {a : Act} {Q : Exit → Act → World → Prop} (hgd : o.guard = none) (ty : TypeId) (x y : Operand) (ho : o.op = .store ty x y)
    (g : Nat) (cells : Array Value) (hx : a.eval x = .pointer (some ⟨g, 0, none⟩)) (hy : a.eval y = .agg cells)
    (t : TypeId) (old : Array Value) (hg : w.heap[g]? = some (.cells old t (0, 0))) (hi : (P.info? ty).map (·.size) = some cells.size)
    (hold : old.size = cells.size) (h1 : cells.all (·.oneCell') = true)
    (h : wpListIn F nF P ops Q rest (a.put o.dst undef) (w.setRow g cells)) : wpListIn F nF P ops Q (o :: rest) a w :=
  wpListIn_plain hgd fun _ hK => mild_wpIn (by rw [ho]; rfl) (wp_store_row ty x y ho g cells hx hy t old hg hi hold h1 (hK _ _ h))
theorem cellsP_one (x : PW) : (cellsP x).toArray.all (·.oneCell') = true := by
  refine all_oneCell_toArray (fun v hv => ?_)
  unfold cellsP at hv
  rcases List.mem_cons.1 hv with rfl | hv
  · rfl
  · rcases List.mem_append.1 hv with hv | hv
    · exact cellsB_one _ v hv
    · exact cellsB_one _ v hv
/-- A pending write's own block: what it had before lies behind the first cell, what it has now behind that. -/
theorem pw_before {w : World} {g : Nat} {x : PW} (h : Blk w g 130 (cellsP x).toArray) (hl : x.2.1.length = 64) : w.rangeAt g 1 (cellsB x.2.1) := fun j v hv => by
  have hj := (List.getElem?_eq_some_iff.1 hv).1
  rw [h.cell (1 + j), List.getElem?_toArray]
  unfold cellsP
  rw [Nat.add_comm 1 j, List.getElem?_cons_succ, List.getElem?_append_left hj, hv]
theorem pw_after {w : World} {g : Nat} {x : PW} (h : Blk w g 130 (cellsP x).toArray) (hl : x.2.1.length = 64) : w.rangeAt g 65 (cellsB x.2.2) := fun j v hv => by
  rw [h.cell (65 + j), List.getElem?_toArray]
  unfold cellsP
  rw [show 65 + j = (64 + j) + 1 by omega, List.getElem?_cons_succ, List.getElem?_append_right (by rw [cellsB_len, hl]; omega), cellsB_len, hl, show 64 + j - 64 = j by omega, hv]
theorem DiskAt.there {w : World} {p gs : Nat} {vp : Value} {S : List (List Int)} {P : List PW} {dn st : Bool} {ca : Int} (h : DiskAt w p gs vp S P dn st ca) {k : Nat} (hk : k < S.length) : w.there gs (k * 64) 64 := fun j hj => by
  refine ⟨?_, h.sec.frozen _⟩
  rw [h.sec.cell, List.getElem?_toArray]
  have : k * 64 + j < (S.flatMap cellsB).length := by rw [flat_len h.all]; omega
  rw [List.getElem?_eq_getElem this]
  rfl
/-- 'for _, w := range slices.Backward(d.pending)', where w is boxed in the slot 5. -/
theorem wpIn_back {n : Nat} {g : Operand} {assign body : Code} {Q : Exit → Act → World → Prop} {a : Act} {w : World} (h2 : 2 ≤ n) (gs Bv : Nat) (vp : Value) (N : Nat) (P : List PW) (hPn : ∀ x ∈ P, x.1 < N ∧ x.2.1.length = 64 ∧ x.2.2.length = 64)
    (hg : a.eval g = .func (.func 101) #[] #[.pointer (some ⟨Bv, 0, none⟩)])
    (hBs : Bv ≠ gs) (hvs : vp.ownBlock ≠ some gs) (hgs : gs < w.heap.size) (hP : P.length ≤ 100000) (hBv : Blk w Bv 123 #[vp]) (hO : w.ownsRow 0 130 129 vp P.length (P.flatMap cellsP))
    (I : List (OPW N) → World → Prop) (hI : OwnFrom w.heap.size I) (h0 : I [] w) (hIs : ∀ pre W, I pre W → w.heap.size ≤ W.heap.size)
    (hassign : ∀ (lp : Nat) (x : OPW N) (W : World) (K : Act → World → Prop), K { tmps := ((a.tmps.setIfInBounds 16 (.int .i64 (x.1.1 : Nat))).setIfInBounds 17 (.agg (cellsP x.1.2).toArray)).setIfInBounds 5 (.pointer (some ⟨W.heap.size, 0, none⟩)), defers := [] } (W.alloc (.cells (cellsP x.1.2).toArray 130)) →
      assign.wpIn (Fence.wide.inRound lp) (n - 1 - 1) Tryz.prog (Exit.then K (fun _ _ _ => False)) { tmps := (a.tmps.setIfInBounds 16 (.int .i64 (x.1.1 : Nat))).setIfInBounds 17 (.agg (cellsP x.1.2).toArray), defers := [] } W)
    (hbody : ∀ (lp : Nat) (pre : List (OPW N)) (x : OPW N) (Bx : Nat) (W : World), w.heap.size ≤ Bx → Blk W Bx 130 (cellsP x.1.2).toArray → I pre W → pre.length < P.length →
      body.wpIn (Fence.wide.inRound lp) (n - 1 - 1) Tryz.prog (ownPostG w.heap.size (Keeps (onlyS gs w.heap.size)) I (fun _ _ _ => False) (pre ++ [x]) W) { tmps := ((a.tmps.setIfInBounds 16 (.int .i64 (x.1.1 : Nat))).setIfInBounds 17 (.agg (cellsP x.1.2).toArray)).setIfInBounds 5 (.pointer (some ⟨Bx, 0, none⟩)), defers := [] } W)
    (hdone : ∀ (D : Nat) (W : World), w.heap.size ≤ D → I (revsO N P hPn) W → W.heap[D]? = some (.deferred (some [])) → Q .normal { a with defers := { target := .collected D, args := #[] } :: a.defers } W) :
    (Code.rangeFunc g #[16, 17] assign body).wpIn Fence.wide n Tryz.prog Q a w := by
  have h1 : 1 ≤ n := by omega
  refine wpIn_rangeFunc_ownH (F := Fence.wide) rfl h1 hg trivial (enters_of Tryz.func101 (by kernel_rfl) rfl)
    (back_stops (n - 1) gs Bv vp N P hPn w hBs hvs hP hBv hO) (fun h k => h.trans k (fun _ _ h => h)) (fun W l o o' hl _ _ _ => Keeps.of_grown (grownBy_putObj' W l o') (fun k e _ => by cases e; exact .inr hl)) (Below.refl _ _) (fun _ => rfl)
    I (fun _ _ _ => False) hI (fun _ _ _ _ _ hs _ _ => hs) h0
    (fun x a' W => ∃ Bx, w.heap.size ≤ Bx ∧ Blk W Bx 130 (cellsP x.1.2).toArray ∧ a' = { tmps := ((a.tmps.setIfInBounds 16 (.int .i64 (x.1.1 : Nat))).setIfInBounds 17 (.agg (cellsP x.1.2).toArray)).setIfInBounds 5 (.pointer (some ⟨Bx, 0, none⟩)), defers := [] })
    (fun x a' _ X Y row hs hgr hr => by obtain ⟨Bx, k1, k2, k3⟩ := hs; exact ⟨Bx, k1, blk_own Bx _ (fun (_ : Unit) => (cellsP x.1.2).toArray) () X Y row k2 hgr (fun r e => (hr r e).2), k3⟩)
    ?_ ?_ ?_ (fun _ _ _ _ _ _ h _ => h.elim)
  · intro lp pre x W K hi hK
    have hz : ((#[16, 17] : Array Tmp).zip #[(.int .i64 (x.1.1 : Nat) : Value), .agg (cellsP x.1.2).toArray]).foldl (fun t (p, v) => t.setIfInBounds p v) a.tmps = (a.tmps.setIfInBounds 16 (.int .i64 (x.1.1 : Nat))).setIfInBounds 17 (.agg (cellsP x.1.2).toArray) := by simp
    rw [hz]
    exact hassign lp x W K (hK _ _ ((KeepsOthers.alloc _ _).from _) ((Keeps.refl _ _).alloc _) (hI.alloc _ hi) ⟨W.heap.size, hIs pre W hi, Blk.new W _ _, rfl⟩)
  · rintro lp pre x a' W _ _ hi ⟨Bx, k1, k2, rfl⟩ hlt
    exact hbody lp pre x Bx W k1 k2 hi hlt
  · rintro D ys W hD rfl hi hK
    exact hdone D W hD hi hK

theorem wpList_copy_keeps {P : Program} {w : World} {ops : Array Oper} {rest : List Oper} {o : Oper} {a : Act} {Q : Exit → Act → World → Prop} (hgd : o.guard = none) (d s : Operand) (dT sT : TypeId)
    (ho : o.op = .call { callee := .builtin .copy, args := #[d, s], argTypes := #[dT, sT] }) (elem : TypeId) (hu : P.underlying dT = some (.slice elem)) (hsz : (P.info? elem).map (·.size) = some 1)
    (dp sp : Option Addr) (dLen dCap sLen sCap : Nat) (hd : a.eval d = .slice dp dLen dCap) (hs : a.eval s = .slice sp sLen sCap)
    (g off : Nat) (cur : List Value) (t : TypeId) (hg : Blk w g t cur.toArray) (cs : List Value) (hn : cs.length = Nat.min sLen dLen)
    (hpos : 0 < cs.length → dp = some ⟨g, off, none⟩ ∧ ∃ ad, sp = some ad ∧ ∀ j v, cs[j]? = some v → w.cell? (ad.add j) = some v)
    (hfit : off + cs.length ≤ cur.length) (h1 : ∀ v ∈ cs, v.oneCell' = true)
    (h : ∀ w', Hid (Blk w' g t (splice cur off cs).toArray) → Hid (Keeps (fun i => i = g) w w') → wpList P ops Q rest (a.put o.dst (goInt cs.length)) w') : wpList P ops Q (o :: rest) a w := by
  by_cases h0 : cs.length = 0
  · obtain rfl : cs = [] := List.eq_nil_of_length_eq_zero h0
    refine wpList_copy_nothing hgd d s dT sT ho elem hu hsz dp sp dLen dCap sLen sCap hd hs (by simpa using hn.symm) ?_
    exact h w (Lib.hid (by rw [show splice cur off [] = cur by unfold splice; simp]; exact hg)) (Lib.hid (Keeps.refl _ _))
  · obtain ⟨rfl, ad, rfl, hsrc⟩ := hpos (by omega)
    refine wpList_copy_own hgd d s dT sT ho elem hu hsz g off dLen dCap ad sLen sCap hd hs cur.toArray t hg cs hn hsrc (by simpa using hfit) h1 ?_
    refine h _ (Lib.hid ?_) (Lib.hid ⟨rfl, rfl, rfl, by simp [World.setRow], fun k _ hk => setRow_other w g k _ hk⟩)
    have := setRow_heap w g cur.toArray (splice cur off cs).toArray t (0, 0) hg
    simpa [splice, Blk] using this
/-- The first bytes of a sector change. -/
theorem flat_part {S : List (List Int)} (h : ∀ s ∈ S, s.length = 64) {b old : List Int} (hb : b.length ≤ 64) {k : Nat} (hk : S[k]? = some old) : splice (S.flatMap cellsB) (k * 64) (cellsB b) = (S.set k (b ++ old.drop b.length)).flatMap cellsB := by
  induction S generalizing k with
  | nil => simp at hk
  | cons x S ih =>
    have hx := h x (List.mem_cons_self ..)
    have hxl : (cellsB x).length = 64 := by rw [cellsB_len, hx]
    have hbl : (cellsB b).length = b.length := cellsB_len b
    cases k with
    | zero =>
      cases hk
      rw [List.set_cons_zero, List.flatMap_cons, List.flatMap_cons]
      unfold splice
      rw [hbl, Nat.zero_mul, List.take_zero, List.nil_append, Nat.zero_add, List.drop_append_of_le_length (by omega)]
      unfold cellsB
      rw [List.map_append, List.map_drop, List.append_assoc]
    | succ k =>
      rw [List.set_cons_succ, List.flatMap_cons, List.flatMap_cons, ← ih (fun y hy => h y (List.mem_cons_of_mem _ hy)) (by simpa using hk)]
      unfold splice
      rw [hbl, show (k + 1) * 64 = (cellsB x).length + k * 64 by rw [hxl]; omega, List.take_length_add_append, Nat.add_assoc (cellsB x).length]
      simp only [List.append_assoc]
      rw [show List.drop ((cellsB x).length + (k * 64 + b.length)) (cellsB x ++ List.flatMap cellsB S) = List.drop (k * 64 + b.length) (List.flatMap cellsB S) from List.drop_length_add_append ..]
theorem DiskAt.part {w w' : World} {p gs : Nat} {vp : Value} {S : List (List Int)} {P : List PW} {dn st : Bool} {ca : Int} (h : DiskAt w p gs vp S P dn st ca) {k : Nat} {old b : List Int} (hk : S[k]? = some old) (hb : b.length ≤ 64)
    (hB : Blk w' gs 121 (splice (S.flatMap cellsB) (k * 64) (cellsB b)).toArray) (hK : Keeps (fun i => i = gs) w w') : DiskAt w' p gs vp (S.set k (b ++ old.drop b.length)) P dn st ca := by
  have hl := World.ownsRow.lt h.pend
  have ho := h.all old (List.mem_of_getElem? hk)
  refine ⟨?_, ?_, ?_, fun s hs => ?_, fun x hx => ?_, h.ne1, h.ne2, h.ne3⟩
  · rw [List.length_set]
    exact h.blk.keep hK (fun e => h.ne1 e.symm)
  · rw [← flat_part h.all hb hk]
    exact hB
  · refine ⟨h.pend.1, ?_⟩
    rcases h.pend.2 with h0 | ⟨g, cap, cur, rfl, hbb, hg, rest⟩
    · exact .inl h0
    · exact .inr ⟨g, cap, cur, rfl, hbb, (hK.block g (hl g rfl).2 (fun e => h.ne3 (by rw [← e]; rfl))).trans hg, rest⟩
  · rcases List.mem_or_eq_of_mem_set hs with hs | rfl
    · exact h.all s hs
    · simp; omega
  · rw [List.length_set]
    exact h.size x hx
theorem kept_range (n : Int) : 0 ≤ keptOf n ∧ keptOf n ≤ 64 := by unfold keptOf; omega

set_option maxRecDepth 100000 in
set_option maxHeartbeats 4000000 in
theorem crash_any {w : World} {p gs : Nat} {vp : Value} {S : List (List Int)} {P : List PW} {dn st : Bool} {ca : Int} (h : DiskAt w p gs vp S P dn st ca) (hS : S.length ≤ 65536) (hP : P.length ≤ 100000)
    (KA : Option Addr) (kc : Nat) (K : List Int) (hKl : K.length ≤ 9223372036854775807) (hKi : ∀ x ∈ K, -9223372036854775808 ≤ x ∧ x ≤ 9223372036854775807) (hKA : 0 < K.length → ∃ g o, KA = some ⟨g, o, none⟩ ∧ (∀ i x, K[i]? = some x → w.cell? ⟨g, o + i, none⟩ = some (.int .i64 x)) ∧ ¬ ownD p gs vp g) :
    Calls Tryz.prog 29 #[.pointer (some ⟨p, 0, none⟩), .slice KA K.length kc] w fun e w' => (∃ v, e = .returned v) ∧ DiskAt w' p gs (.slice none 0 0) (crashed S P K) [] false false ca ∧ Keeps (fun i => i = p ∨ i = gs) w w' := by
  obtain ⟨A, c, rfl⟩ : ∃ A c, vp = .slice A P.length c := by
    rcases h.pend.2 with ⟨rfl, h1⟩ | ⟨g', cap, cur, rfl, _⟩
    · exact ⟨none, 0, by rw [h1]⟩
    · exact ⟨_, cap, rfl⟩
  refine (callsIn_wide (n := 9)).1 (callsIn_of_wp_marks Tryz.func29 rfl trivial ?_ rfl)
  simp only [Tryz.ntmps29, List.size_toArray, List.length_cons, List.length_nil, Nat.reduceAdd, Nat.reduceSub, Array.replicate_succ, Array.replicate_zero, List.push_toArray, List.append_toArray, List.nil_append, List.cons_append]
  have c1 := h.blk.cell 1
  have zp := h.blk.lt
  simp at c1
  gi_wp2_with (refine ⟨trivial, ?_⟩; gi_at_call 70; refine (back_any _ A P.length c _).mono ?_; rintro e w' ⟨rfl, rfl⟩)
  have hB0 : Below w.heap.size w ((w.alloc (.cells #[.pointer (some ⟨p, 0, none⟩)] 62)).alloc (.cells #[.slice A P.length c] 123)) := below_al (below_al (Below.refl _ _) _) _
  have k0 : Blk ((w.alloc (.cells #[.pointer (some ⟨p, 0, none⟩)] 62)).alloc (.cells #[.slice A P.length c] 123)) w.heap.size 62 #[.pointer (some ⟨p, 0, none⟩)] := (Blk.new _ _ _).alloc _
  have k1 : Blk ((w.alloc (.cells #[.pointer (some ⟨p, 0, none⟩)] 62)).alloc (.cells #[.slice A P.length c] 123)) (w.heap.size + 1) 123 #[.slice A P.length c] := by
    have := Blk.new (w.alloc (.cells #[.pointer (some ⟨p, 0, none⟩)] 62)) 123 #[.slice A P.length c]
    rwa [World.size_alloc] at this
  have s0 : ((w.alloc (.cells #[.pointer (some ⟨p, 0, none⟩)] 62)).alloc (.cells #[.slice A P.length c] 123)).heap.size = w.heap.size + 2 := by simp
  generalize (w.alloc (.cells #[.pointer (some ⟨p, 0, none⟩)] 62)).alloc (.cells #[.slice A P.length c] 123) = W0 at hB0 k0 k1 s0 ⊢
  have D0 := h.below hB0
  have zs := h.sec.lt
  obtain ⟨Z0, hZ0⟩ : ∃ Z0, Z0 = (Value.int .i64 0 :: List.replicate 128 (Value.int .u8 0)).toArray := ⟨_, rfl⟩
  have hZ0s : Z0.size = 129 := by rw [hZ0]; rfl
  have hzv : ∀ W, (zeroValue 130).run Tryz.prog W = .ok (.agg Z0) W := (zero_of_info (n := 129) (by rw [hZ0]; kernel_rfl)).1
  have hZ0n : ¬ Z0 = #[] := fun e => by rw [e] at hZ0s; cases hZ0s
  have hszP := sizePW
  clear hZ0
  refine wpIn_back (by omega) gs (w.heap.size + 1) _ S.length P h.size rfl (by omega) h.ne3 (by omega) hP k1 D0.pend (CrAt W0 p gs w.heap.size (.slice A P.length c) S P dn st ca) (crAt_own D0 (by omega) (Nat.le_refl _)) ⟨D0, k0, Keeps.refl _ _⟩ (fun pre W hW => hW.2.2.size) ?_ ?_ ?_
  · intro lp x W K hK
    have hxl := cellsP_len x.2.2
    have hx1 := cellsP_one x.1.2
    simp only [List.setIfInBounds_toArray, List.set_cons_succ, List.set_cons_zero] at hK ⊢
    generalize cellsP x.1.2 = L at hK hxl hx1 ⊢
    have hLs : L.toArray.size = 129 := by rw [List.size_toArray, hxl]
    gi_wp2_with (refine wpListIn_store_row rfl _ _ _ rfl W.heap.size L.toArray rfl rfl 130 Z0 (heap_alloc_new W _) (hszP.trans (congrArg some hLs.symm)) (hZ0s.trans hLs.symm) hx1 ?_)
    rw [World.setRow_alloc_new]
    exact hK
  · intro lp pre x Bx W hBx kx hI hlt
    obtain ⟨hD, kb, hK⟩ := hI
    obtain ⟨hx1, hx2, hx3⟩ := x.2
    have hlen := undo_len S (pre.map Subtype.val)
    have hkl : x.1.2.1 < (undo S (pre.map Subtype.val)).length := by rw [hlen]; exact hx1
    have hsn : undo S ((pre ++ [x]).map Subtype.val) = (undo S (pre.map Subtype.val)).set x.1.2.1 x.1.2.2.1 := by rw [List.map_append]; exact undo_snoc _ _ _
    have c0 := hD.blk.cell 0
    have cb := kb.cell 0
    have cx := kx.cell 0
    have hr := pw_before kx hx2
    have hzx := kx.lt
    have zb := kb.lt
    have zp' := hD.blk.lt
    have zs' := hD.sec.lt
    have hth := hD.there hkl
    have hfill := Lib.hid (hD.below (w' := W.drew) (Below.refl _ _).drew |>.fill hkl hx2)
    have hKS : Hid (Keeps (fun i => i = gs) W (W.drew.setCells gs (x.1.2.1 * 64) (cellsB x.1.2.2.1))) := Lib.hid (Keeps.setCells (S := fun i => i = gs) (g := gs) rfl _ _ _ (Keeps.refl _ _).drew)
    have hN : (cellsB x.1.2.2.1).length = 64 := by rw [cellsB_len, hx2]
    have h1c := all_oneCell_toArray (cellsB_one x.1.2.2.1)
    have HSN := Lib.hid hsn
    have HK := Lib.hid hK
    have KB := Lib.hid kb
    simp only [List.setIfInBounds_toArray, List.set_cons_succ, List.set_cons_zero]
    have cx' : W.cell? ⟨Bx, 0, none⟩ = some (.int .i64 (x.1.2.1 : Nat)) := cx
    rw [hlen] at c0
    simp at c0 cb
    have hkb : (x.1.2.1 : Int) < (S.length : Int) := by omega
    generalize x.1.2.1 = sk at hkl hx1 hth hfill hKS HSN cx' hkb
    obtain ⟨B, hB⟩ : ∃ B, B = cellsB x.1.2.2.1 := ⟨_, rfl⟩
    rw [← hB] at hr hfill hKS hN h1c
    generalize (cellsP x.1.2).toArray = LA
    have hr7 : W.drew.rangeAt Bx 1 B := hr
    have hsB : (Tryz.prog.info? 121).map (·.size) = some B.length := by rw [hN]; exact sizeBlock
    have hthB : W.drew.there gs (sk * 64) B.toArray.size := by rw [List.size_toArray, hN]; exact hth
    have hsB2 : (Tryz.prog.info? 121).map (·.size) = some B.toArray.size := by rw [List.size_toArray]; exact hsB
    clear hB hr hth hD hK kb kx cx hsn hlen
    gi_wp2_with fail
    refine wpIn_still_tail 9 (by kernel_rfl) (by kernel_rfl) (by rfl) (by rintro ⟨_, _, hh⟩; exact hh) ?_
    simp only [List.take_succ_cons, List.take_zero, List.drop_succ_cons, List.drop_zero]
    change wpStill _ _ W.drew _ _ _
    still_step
    still_step
    still_step
    still_step
    still_step
    still_step
    still_step
    refine wpStill_load_mid rfl _ _ rfl Bx 1 rfl B _ hr7 descBlock rfl hsB ?_
    still_step
    refine wpStill_nil ?_
    change wpList _ _ _ _ _ W.drew
    refine wpList_store_mid rfl _ _ _ rfl gs (sk * 64) B.toArray rfl rfl hthB hsB2 h1c ?_
    refine wpList_nil ?_
    exact ⟨keepsFrom_of hKS.out (fun i h1 h2 => by omega), hKS.out.mono (fun i _ e => .inl e), by rw [HSN.out]; exact hfill.out, KB.out.keep hKS.out (by omega), HK.out.trans hKS.out (fun i _ e => e)⟩
  · intro D W hD hI hKD
    obtain ⟨hDk, kb, hK⟩ := hI
    rw [revsO_val] at hDk
    have c1 := hDk.blk.cell 1
    have cb := kb.cell 0
    have zb := kb.lt
    have zp' := hDk.blk.lt
    have HDK := Lib.hid hDk
    have HKB := Lib.hid kb
    have HKK := Lib.hid hK
    have HKD := Lib.hid hKD
    simp at c1 cb
    clear hDk kb hK hKD
    gi_wp2
    gi_loopw [32] (fun i wr => ∃ k : Nat, k ≤ P.length ∧ i = .int .i64 k ∧ DiskAt wr p gs (.slice A P.length c) (keepS K (undo S (revs P)) (P.zipIdx.take k)) P dn st ca ∧ Keeps (fun i => i = gs) W wr) (fun i _ => P.length - (intOf i).toNat)
    case atStart => exact ⟨0, Nat.zero_le _, rfl, HDK.out, Keeps.refl _ _⟩
    case round =>
      obtain ⟨k, hk, rfl, hDk, hKr⟩ := hrel
      by_cases hlt : k < P.length
      · obtain ⟨x, hx⟩ : ∃ x, P[k]? = some x := ⟨_, List.getElem?_eq_getElem hlt⟩
        have hxs := h.size x (List.mem_of_getElem? hx)
        have hS := Lib.hid (keepS_snoc K (undo S (revs P)) (P.zipIdx.take k) (x, k))
        have hZ := Lib.hid (zip_snoc hx)
        obtain ⟨g, cc, hv, hgl, hr⟩ := pw_range hDk.pend (fun x hx => (h.size x hx).2) hx
        obtain ⟨rfl, rfl⟩ : A = some ⟨g, 0, none⟩ ∧ c = cc := by injection hv with h1 h2 h3; exact ⟨h1, h3⟩
        have hcl := cellsP_len hxs.2
        have hx1 := cellsP_one x
        have hdP := descPW'
        generalize fieldsOf (Tryz.prog.underlying 130) = fs at hdP
        have hzr : wr.heap.size ≤ wr.heap.size := Nat.le_refl _
        obtain ⟨L, hL⟩ : ∃ L, L = cellsP x := ⟨_, rfl⟩
        rw [← hL] at hr hcl hx1
        have hsL : (Tryz.prog.info? 130).map (·.size) = some L.length := by rw [hcl]; exact sizePW
        have hLs : L.toArray.size = 129 := by rw [List.size_toArray, hcl]
        have hDn := hDk.below (below_al (Below.refl _ _) (.cells L.toArray 130))
        have kL := Blk.new wr 130 L.toArray
        have hK1 := hKr.alloc (.cells L.toArray 130)
        have HKr := Lib.hid hKr
        have HL := Lib.hid hL
        have HX := Lib.hid hx
        have HDk := Lib.hid hDk
        clear hv hL hx hDk hKr
        by_cases hkK : k < K.length
        · obtain ⟨n, hn⟩ : ∃ n, K[k]? = some n := ⟨_, List.getElem?_eq_getElem hkK⟩
          have hni := hKi n (List.mem_of_getElem? hn)
          obtain ⟨gk, ok, rfl, hKc, hKn⟩ := hKA (by omega)
          have kc0 := hKc k n hn
          have kc1 : (wr.alloc (.cells L.toArray 130)).cell? ⟨gk, ok + k, none⟩ = some (.int .i64 n) := by
            have h1 : gk < w.heap.size := World.block_lt_of_cell? w _ kc0
            have h2 : ¬ gk = gs := fun e => hKn (.inr (.inl e))
            have h3 := ((Keeps.of_new (S := fun i => i = gs) hB0).cell (o := ok + k) h1 h2).trans kc0
            have h4 := (HKK.out.cell (o := ok + k) (by have := hB0.size; omega) h2).trans h3
            exact (hK1.cell (o := ok + k) (by have := HKK.out.size; have := hB0.size; omega) h2).trans h4
          have hkr := kept_range n
          have hmn : keptOf n = min (max n 0) 64 := rfl
          have HN := Lib.hid hn
          have HKc := Lib.hid hKc
          have HKn := Lib.hid hKn
          clear hn hKc hKn kc0
          gi_wp2_with (first
            | (refine wpListIn_load_mid rfl _ _ rfl g (k * 129) rfl L _ hr hdP rfl hsL ?_)
            | (refine wpListIn_store_row rfl _ _ _ rfl wr.heap.size L.toArray rfl rfl 130 Z0 (heap_alloc_new wr _) (hszP.trans (congrArg some hLs.symm)) (hZ0s.trans hLs.symm) hx1 ?_; rw [World.setRow_alloc_new]))
          all_goals
            have hv8 : (keptOf n).toNat = (keptOf n).toNat := rfl
            first
              | rw [show (64 : Int) = ((keptOf n).toNat : Int) by omega]
              | rw [show (0 : Int) = ((keptOf n).toNat : Int) by omega]
              | rw [show (Value.int .i64 n) = Value.int .i64 ((keptOf n).toNat : Int) by congr 1; omega]
          all_goals
            generalize hkp : (keptOf n).toNat = kp
            have hkp64 : kp ≤ 64 := by omega
            have HKP := Lib.hid hkp
            obtain ⟨w1, hw1⟩ : ∃ w1, w1 = wr.alloc (.cells L.toArray 130) := ⟨_, rfl⟩
            have hgw : wr.heap.size < w1.heap.size := by rw [hw1]; simp
            rw [← hw1] at hDn kL hK1 kc1 ⊢
            clear hw1 hkr hmn hkp
            generalize wr.heap.size = gw at kL hgw ⊢
            have hlen2 := keepS_len K (undo S (revs P)) (P.zipIdx.take k)
            have hlen3 := undo_len S (revs P)
            rw [hlen3] at hlen2
            obtain ⟨old, hold⟩ : ∃ old, (keepS K (undo S (revs P)) (P.zipIdx.take k))[x.1]? = some old := ⟨_, List.getElem?_eq_getElem (by rw [hlen2]; exact hxs.1)⟩
            have hbl : (x.2.2.take kp).length = kp := by rw [List.length_take]; omega
            have hD2 := hDn.below (w' := w1.drew) (Below.refl _ _).drew
            have c0 := hDn.blk.cell 0
            have cb1 := (HKB.out.keep hK1 (by omega)).cell 0
            have zp1 := hDn.blk.lt
            have zs1 := hDn.sec.lt
            have zb1 : w.heap.size < w1.heap.size := by have := hK1.size; omega
            have cx : w1.cell? ⟨gw, 0, none⟩ = some (.int .i64 (x.1 : Nat)) := by
              rw [kL.cell 0, HL.out]
              rfl
            have hra := pw_after (x := x) (by rw [← HL.out]; exact kL) hxs.2.1
            have hszU : (Tryz.prog.info? 5).map (·.size) = some 1 := by kernel_rfl
            have hbk : (cellsB (x.2.2.take kp)).length = Nat.min 64 kp := by rw [cellsB_len, hbl]; exact (Nat.min_eq_right hkp64).symm
            have hcpy : 0 < (cellsB (x.2.2.take kp)).length → (some ⟨gs, x.1 * 64, none⟩ : Option Addr) = some ⟨gs, x.1 * 64, none⟩ ∧ ∃ ad, (some ⟨gw, 65, none⟩ : Option Addr) = some ad ∧ ∀ j v, (cellsB (x.2.2.take kp))[j]? = some v → w1.drew.cell? (ad.add j) = some v := fun _ => ⟨rfl, _, rfl, fun j v hv => by
              rw [Addr.add_mid]
              refine hra j v ?_
              unfold cellsB at hv ⊢
              rw [List.map_take] at hv
              rw [List.getElem?_take] at hv
              split at hv
              · exact hv
              · cases hv⟩
            have hfit : x.1 * 64 + (cellsB (x.2.2.take kp)).length ≤ ((keepS K (undo S (revs P)) (P.zipIdx.take k)).flatMap cellsB).length := by rw [cellsB_len, hbl, flat_len hDn.all, hlen2]; omega
            have hone := cellsB_one (x.2.2.take kp)
            have hsec := hD2.sec
            have HPT := Lib.hid (fun w' => hD2.part (w' := w') (b := x.2.2.take kp) hold (by omega))
            rw [hlen2] at c0
            simp at c0 cb1
            have hx1' := hxs.1
            have hkx : (x.1 : Int) < (S.length : Int) := by omega
            have hkpi : (kp : Int) ≤ 64 := by omega
            have HOLD := Lib.hid hold
            generalize (keepS K (undo S (revs P)) (P.zipIdx.take k)).flatMap cellsB = FL at hfit hsec HPT
            obtain ⟨B, hB⟩ : ∃ B, B = cellsB (x.2.2.take kp) := ⟨_, rfl⟩
            rw [← hB] at hbk hcpy hfit hone HPT
            clear hold hra hB
            refine wpIn_wide.2 ?_
            refine wp_region_still_tail 11 (by kernel_rfl) (by kernel_rfl) ?_
            simp only [List.take_succ_cons, List.take_zero, List.drop_succ_cons, List.drop_zero]
            change wpStill _ _ w1.drew _ _ _
            still_step
            still_step
            still_step
            still_step
            still_step
            still_step
            still_step
            still_step
            still_step
            still_step
            still_step
            refine wpStill_nil ?_
            change wpList _ _ _ _ _ w1.drew
            refine wpList_copy_keeps rfl _ _ _ _ rfl 5 rowU8 hszU _ _ kp 64 64 64 rfl rfl gs (x.1 * 64) FL 121 hsec B hbk hcpy hfit hone ?_
            intro w5 HG HKG
            refine wpList_nil ?_
            gi_wp2
            go_roundw
            case rel =>
              have hfin := HPT.out w5 HG.out HKG.out
              refine ⟨k + 1, by omega, by go_num, ?_, hK1.drew.trans HKG.out (fun i _ e => e)⟩
              rw [hbl] at hfin
              rw [hZ.out, hS.out]
              simp only [HN.out]
              unfold mix
              rw [HKP.out, List.getD_eq_getElem?_getD, HOLD.out]
              exact hfin
            case measure => simp [intOf]; omega
        · gi_wp2_with (first
            | (refine wpListIn_load_mid rfl _ _ rfl g (k * 129) rfl L _ hr hdP rfl hsL ?_)
            | (refine wpListIn_store_row rfl _ _ _ rfl wr.heap.size L.toArray rfl rfl 130 Z0 (heap_alloc_new wr _) (hszP.trans (congrArg some hLs.symm)) (hZ0s.trans hLs.symm) hx1 ?_; rw [World.setRow_alloc_new]))
          go_roundw
          case rel => exact ⟨k + 1, by omega, by go_num, by rw [hZ.out, hS.out, List.getElem?_eq_none (by simp only []; omega)]; exact hDn, hK1⟩
          case measure => simp [intOf]; omega
      · have hk2 : k = P.length := by omega
        subst hk2
        have hTk := Lib.hid (List.take_of_length_le (l := P.zipIdx) (i := P.length) (by simp))
        have cb1 := (HKB.out.keep hKr (by omega)).cell 0
        have zp1 := hDk.blk.lt
        have zb1 : w.heap.size < wr.heap.size := by have := hKr.size; omega
        have c1 := hDk.blk.cell 1
        have c2 := hDk.blk.cell 2
        have c3 := hDk.blk.cell 3
        have f1 := hDk.blk.frozen 1
        have f2 := hDk.blk.frozen 2
        have f3 := hDk.blk.frozen 3
        simp at cb1 c1 c2 c3
        have HDk := Lib.hid hDk
        have HKr := Lib.hid hKr
        clear hDk hKr
        gi_wp2_with fail
        refine wpIn_wide.2 ?_
        go_region
        have hD1 := ((HDk.out.flushed.put (dn' := false) (st' := st) (ca' := ca) 2 (.bool false) rfl).put (dn' := false) (st' := false) (ca' := ca) 3 (.bool false) rfl).below (Below.refl _ _).drew
        have hKE : Keeps (fun i => i = p) wr (((wr.setCell ⟨p, 1, none⟩ (.slice none 0 0)).setCell ⟨p, 2, none⟩ (.bool false)).setCell ⟨p, 3, none⟩ (.bool false)).drew :=
          ((((Keeps.refl (fun i => i = p) wr).setCell (p := ⟨p, 1, none⟩) (fun _ => rfl) _).setCell (p := ⟨p, 2, none⟩) (fun _ => rfl) _).setCell (p := ⟨p, 3, none⟩) (fun _ => rfl) _).drew
        generalize (((wr.setCell ⟨p, 1, none⟩ (.slice none 0 0)).setCell ⟨p, 2, none⟩ (.bool false)).setCell ⟨p, 3, none⟩ (.bool false)).drew = WE at hD1 hKE ⊢
        have hDl : D < W.heap.size := (Array.getElem?_eq_some_iff.1 HKD.out).1
        have hDD : WE.heap[D]? = some (.deferred (some [])) := (hKE.block D (by have := HKr.out.size; omega) (by omega)).trans ((HKr.out.block D hDl (by omega)).trans HKD.out)
        have hKD : Keeps (fun i => i = D) WE (WE.putObj D (.deferred none)) := Keeps.of_grown (grownBy_putObj' WE D _) (fun k e _ => by cases e; rfl)
        have hl := World.ownsRow.lt h.pend
        have hKf : Keeps (fun i => i = p ∨ i = gs) w WE := (((Keeps.of_new (S := fun i => i = p ∨ i = gs) hB0).trans HKK.out (fun i _ e => .inr e)).trans HKr.out (fun i _ e => .inr e)).trans hKE (fun i _ e => .inl e)
        rw [hTk.out] at hD1
        refine ⟨by simp, .inl ⟨_, _, rfl, run_takeDeferred hDD, ?_⟩⟩
        exact ⟨_, results_none rfl _ _ _, ⟨_, rfl⟩, hD1.keep hKD (fun i hi e => by rcases hi with hi | hi | hi <;> first | omega | (simp [Value.ownBlock] at hi)), hKf.trans hKD (fun i h1 e => by omega)⟩
end Go.Proofs.YthgfbaekmhpiaaaGreatDoor
namespace Go.Proofs.YthgfbaekmhpiaaaGreatDoor
open Go.RowKit

section
variable {w : World} {p gs : Nat} {vp : Value} {S : List (List Int)} {P : List PW} {dn st : Bool} {ca : Int}
theorem secErr_cases (dn : Bool) (n : Nat) (k : Int) (h : secErr dn n k ≠ 0) : secErr dn n k = 70 ∨ secErr dn n k = 1 := by
  unfold secErr at h ⊢
  split
  · exact .inl rfl
  · rename_i h1
    rw [if_neg h1] at h
    split at h
    · exact absurd rfl h
    · rename_i h2
      rw [if_neg h2]
      exact .inr rfl
theorem read_bad (h : DiskAt w p gs vp S P dn st ca) (hS : S.length ≤ 65536) (k : Int) (he : secErr dn S.length k ≠ 0) :
    Calls Tryz.prog 28 #[.pointer (some ⟨p, 0, none⟩), .int .i64 k] w fun e w' => e = .returned (.tuple #[.slice none 0 0, .int .i64 (secErr dn S.length k)]) ∧ w = w' := by
  have HR := Lib.hid (refusesSector_any h hS k)
  have hx := secErr_cases _ _ _ he
  generalize secErr dn S.length k = x at hx HR
  clear h he
  rcases hx with rfl | rfl
  all_goals
    go_enter Tryz.func28, Tryz.ntmps28
    go_wp2_with fail
    refine HR.out.mono ?_
    rintro e w1 ⟨rfl, rfl⟩
    go_wp2_with fail
    go_ret2
    exact ⟨rfl, rfl⟩
theorem write_bad (h : DiskAt w p gs vp S P dn st ca) (hS : S.length ≤ 65536) (k : Int) (A : Option Addr) (n c : Nat) (he : secErr dn S.length k ≠ 0) :
    Calls Tryz.prog 30 #[.pointer (some ⟨p, 0, none⟩), .int .i64 k, .slice A n c] w fun e w' => e = .returned (.int .i64 (secErr dn S.length k)) ∧ w = w' := by
  have HR := Lib.hid (refusesSector_any h hS k)
  have hx := secErr_cases _ _ _ he
  generalize secErr dn S.length k = x at hx HR
  clear h he
  rcases hx with rfl | rfl
  all_goals
    go_enter Tryz.func30, Tryz.ntmps30
    go_wp2_with fail
    refine HR.out.mono ?_
    rintro e w1 ⟨rfl, rfl⟩
    go_wp2_with fail
    go_ret
    exact ⟨rfl, rfl⟩
theorem write_long (h : DiskAt w p gs vp S P dn st ca) (hS : S.length ≤ 65536) (k : Int) (A : Option Addr) (n c : Nat) (he : secErr dn S.length k = 0) (hn : 64 < n) :
    Calls Tryz.prog 30 #[.pointer (some ⟨p, 0, none⟩), .int .i64 k, .slice A n c] w fun e w' => e = .returned (.int .i64 2) ∧ w = w' := by
  have HR := Lib.hid (refusesSector_any h hS k)
  have hn' : (64 : Int) < (n : Int) := by omega
  rw [he] at HR
  clear h he
  go_enter Tryz.func30, Tryz.ntmps30
  go_wp2_with fail
  refine HR.out.mono ?_
  rintro e w1 ⟨rfl, rfl⟩
  go_wp2_with fail
  go_ret
  exact ⟨rfl, rfl⟩
theorem write_stop (h : DiskAt w p gs vp S P false true 0) (hS : S.length ≤ 65536) (k : Int) (A : Option Addr) (n c : Nat) (he : secErr false S.length k = 0) (hn : n ≤ 64) :
    Calls Tryz.prog 30 #[.pointer (some ⟨p, 0, none⟩), .int .i64 k, .slice A n c] w fun e w' => e = .returned (.int .i64 70) ∧ DiskAt w' p gs vp S P true true 0 ∧ Keeps (fun i => i = p) w w' := by
  have HR := Lib.hid (refusesSector_any h hS k)
  have HF := Lib.hid (fails_stop h)
  have hn' : ¬ (64 : Int) < (n : Int) := by omega
  rw [he] at HR
  clear h he
  go_enter Tryz.func30, Tryz.ntmps30
  go_wp2_with fail
  refine HR.out.mono ?_
  rintro e w1 ⟨rfl, rfl⟩
  go_wp2_with fail
  refine HF.out.mono ?_
  rintro e w2 ⟨rfl, hD, hK⟩
  have HD := Lib.hid hD
  have HK := Lib.hid hK
  clear hD hK HR HF
  go_wp2_with fail
  go_ret
  exact ⟨rfl, HD.out, HK.out⟩
theorem flush_down (h : DiskAt w p gs vp S P true st ca) :
    Calls Tryz.prog 33 #[.pointer (some ⟨p, 0, none⟩)] w fun e w' => e = .returned (.int .i64 70) ∧ w = w' := by
  have HR := Lib.hid (refuses_any h)
  clear h
  go_enter Tryz.func33, Tryz.ntmps33
  go_wp2_with fail
  refine HR.out.mono ?_
  rintro e w1 ⟨rfl, rfl⟩
  go_wp2_with fail
  go_ret
  exact ⟨rfl, rfl⟩
theorem flush_stop (h : DiskAt w p gs vp S P false true 0) :
    Calls Tryz.prog 33 #[.pointer (some ⟨p, 0, none⟩)] w fun e w' => e = .returned (.int .i64 70) ∧ DiskAt w' p gs vp S P true true 0 ∧ Keeps (fun i => i = p) w w' := by
  have HR := Lib.hid (refuses_any h)
  have HF := Lib.hid (fails_stop h)
  clear h
  go_enter Tryz.func33, Tryz.ntmps33
  go_wp2_with fail
  refine HR.out.mono ?_
  rintro e w1 ⟨rfl, rfl⟩
  go_wp2_with fail
  refine HF.out.mono ?_
  rintro e w2 ⟨rfl, hD, hK⟩
  have HD := Lib.hid hD
  have HK := Lib.hid hK
  clear hD hK HR HF
  go_wp2_with fail
  go_ret
  exact ⟨rfl, HD.out, HK.out⟩
theorem stop_down (h : DiskAt w p gs vp S P true st ca) (n : Int) :
    Calls Tryz.prog 34 #[.pointer (some ⟨p, 0, none⟩), .int .i64 n] w fun e w' => e = .returned (.int .i64 70) ∧ w = w' := by
  have HR := Lib.hid (refuses_any h)
  clear h
  go_enter Tryz.func34, Tryz.ntmps34
  go_wp2_with fail
  refine HR.out.mono ?_
  rintro e w1 ⟨rfl, rfl⟩
  go_wp2_with fail
  go_ret
  exact ⟨rfl, rfl⟩
theorem stop_neg (h : DiskAt w p gs vp S P false st ca) (n : Int) (hn : n < 0) :
    Calls Tryz.prog 34 #[.pointer (some ⟨p, 0, none⟩), .int .i64 n] w fun e w' => e = .returned (.int .i64 1) ∧ w = w' := by
  have HR := Lib.hid (refuses_any h)
  clear h
  go_enter Tryz.func34, Tryz.ntmps34
  go_wp2_with fail
  refine HR.out.mono ?_
  rintro e w1 ⟨rfl, rfl⟩
  go_wp2_with fail
  go_ret
  exact ⟨rfl, rfl⟩
theorem stop_ok (h : DiskAt w p gs vp S P false st ca) (n : Int) (hn : 0 ≤ n) :
    Calls Tryz.prog 34 #[.pointer (some ⟨p, 0, none⟩), .int .i64 n] w fun e w' => e = .returned (.int .i64 0) ∧ DiskAt w' p gs vp S P false true n ∧ Keeps (fun i => i = p) w w' := by
  have HR := Lib.hid (refuses_any h)
  have c3 := h.blk.cell 3
  have c4 := h.blk.cell 4
  have f3 := h.blk.frozen 3
  have f4 := h.blk.frozen 4
  have zp := h.blk.lt
  have HD := Lib.hid ((h.put (dn' := false) (st' := true) (ca' := ca) 3 (.bool true) rfl).put (dn' := false) (st' := true) (ca' := n) 4 (.int .i64 n) rfl)
  have HK := Lib.hid ((((Keeps.refl (fun i => i = p) w).setCell (p := ⟨p, 3, none⟩) (fun _ => rfl) (.bool true)).setCell (p := ⟨p, 4, none⟩) (fun _ => rfl) (.int .i64 n)))
  have hn' : ¬ n < 0 := by omega
  simp at c3 c4
  clear h
  go_enter Tryz.func34, Tryz.ntmps34
  go_wp2_with fail
  refine HR.out.mono ?_
  rintro e w1 ⟨rfl, rfl⟩
  go_wp2_with fail
  go_ret
  exact ⟨rfl, HD.out, HK.out⟩
end
end Go.Proofs.YthgfbaekmhpiaaaGreatDoor
