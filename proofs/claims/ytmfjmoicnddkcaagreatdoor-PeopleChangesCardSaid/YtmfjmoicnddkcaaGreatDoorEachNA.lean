/- The range over each, for entries whose persons are ints and whose names have the lengths that strings have. Conditions: the list lies in memory. -/
import Derived.Test.YtmfjmoicnddkcaaGreatDoorOnA
namespace Go.Proofs.YtmfjmoicnddkcaaGreatDoor
open Go.RowKit Go.Shelf
attribute [local go_sem] Oper.semAt_some

/-- An entry whose person is an int, and whose name a string. -/
abbrev NEnt := { x : Ent // (-9223372036854775808 ≤ x.person ∧ x.person ≤ 9223372036854775807) ∧ x.name.size ≤ maxLen }
/-- The entries of a kind that hold on a day. -/
def fltN (l : List NEnt) (kd d : Int) : List NEnt := l.filter fun x => x.1.kind == kd && hld x.1 d
theorem fltN_snoc {l : List NEnt} {kd d : Int} {k : Nat} {x : NEnt} (hx : l[k]? = some x) : fltN (l.take (k + 1)) kd d = fltN (l.take k) kd d ++ (if (x.1.kind == kd && hld x.1 d) = true then [x] else []) := by
  unfold fltN
  rw [List.take_add_one, hx, List.filter_append]
  simp [List.filter_cons]
theorem fltN_pre (l : List NEnt) (kd d : Int) (k : Nat) : fltN (l.take k) kd d <+: fltN l kd d := by
  unfold fltN
  exact (List.take_prefix k l).filter _

set_option maxRecDepth 100000 in
set_option maxHeartbeats 2000000 in
theorem each1N_in (S : Nat → Prop) (n : Nat) (lp Bd Bk n₀ : Nat) (A : Option Addr) (c : Nat) (l : List NEnt) (kd d : Int) (m1 m2 : Option Nat) (J Jx : List NEnt → World → Prop)
    (hY : ∀ pre x W, J pre W → pre.length < (fltN l kd d).length → YieldAt Fence.wide (n - 1) Tryz.prog lp #[entVal x.1] W fun e W' =>
      (e = .returned (.bool true) ∧ J (pre ++ [x]) W' ∧ Keeps S W W') ∨ (e = .returned (.bool false) ∧ Jx (pre ++ [x]) W'))
    (W : World) (hJ : AbidesFrom W.heap.size J) (hS0 : ∀ i, i < n₀ → ¬ S i) (hSd : ¬ S Bd) (hSk : ¬ S Bk) (hn₀ : n₀ ≤ W.heap.size) (hl : l.length ≤ maxLen) (hBd : Blk W Bd 69 (dirCells A l.length c d m1 m2)) (hBk : Blk W Bk 5 #[.int .u8 kd]) (hL : EntsLie W n₀ A (l.map (·.1))) (h0 : J [] W) :
    CallsIn Fence.wide n Tryz.prog 77 #[.func (.yield lp) #[] #[], .pointer (some ⟨Bd, 0, none⟩), .pointer (some ⟨Bk, 0, none⟩)] W fun e W' => (∃ v, e = .returned v) ∧
      ((∃ ys, ys = fltN l kd d ∧ J ys W') ∨ (∃ pre, pre <+: fltN l kd d ∧ Jx pre W')) := by
  have hl63 : (l.length : Int) ≤ 9223372036854775807 := by unfold maxLen at hl; omega
  refine callsIn_of_wp Tryz.func77 rfl trivial ?_ rfl
  simp only [Tryz.ntmps77, List.size_toArray, List.length_cons, List.length_nil, Nat.reduceAdd, Nat.reduceSub, Array.replicate_succ, Array.replicate_zero, List.push_toArray, List.append_toArray, List.nil_append, List.cons_append]
  have d0 := hBd.cell 0
  simp [dirCells] at d0
  gi_wp2
  gi_loopw [8] (fun i wr => ∃ k : Nat, k ≤ l.length ∧ i = .int .i64 k ∧ Keeps S W wr ∧ J (fltN (l.take k) kd d) wr) (fun i _ => l.length - (intOf i).toNat)
  case atStart => exact ⟨0, Nat.zero_le _, rfl, Keeps.refl _ _, h0⟩
  case round =>
    obtain ⟨k, hk, rfl, hB, hJs⟩ := hrel
    by_cases hlt : k < l.length
    · obtain ⟨x, hx⟩ : ∃ x, l[k]? = some x := ⟨_, List.getElem?_eq_getElem hlt⟩
      have hS := Lib.hid (fltN_snoc (kd := kd) (d := d) hx)
      obtain ⟨b, off, rfl, hb, c0, c1, c2, c3, c4, c5, c6, c7, c8, c9⟩ := (hL.below (hB.below hS0 hn₀)).at (k := k) (x := x.1) (by simp [hx])
      have hD1 := hBd.keep hB hSd
      have e0 := hD1.cell 0
      have e1 := hD1.cell 1
      simp [dirCells] at e0 e1
      have e2 := (hBk.keep hB hSk).cell 0
      simp at e2
      have hbW : b < wr.heap.size := by have := hB.size; omega
      have hdW : Bd < wr.heap.size := by have := hB.size; have := hBd.lt; omega
      have hlen : (x.1.kind == kd && hld x.1 d) = true → (fltN (l.take k) kd d).length < (fltN l kd d).length := fun h => by
        have h1 := fltN_pre l kd d (k + 1)
        rw [hS.out, if_pos h] at h1
        have := h1.length_le
        simp at this; omega
      have HLn := Lib.hid hlen
      clear hlen hx
      by_cases hkd : x.1.kind = kd
      · rw [hkd] at c1
        have HK := Lib.hid hkd
        clear hkd
        cases hh : hld x.1 d
        · have HH := Lib.hid hh
          have HS2 : Hid (fltN (l.take (k + 1)) kd d = fltN (l.take k) kd d) := Lib.hid (by rw [hS.out, HK.out, hh]; simp)
          clear hh
          gi_wp2
          have g0 := fun d' os => cell_regrown c0 d' os
          have g1 := fun d' os => cell_regrown c1 d' os
          have g2 := fun d' os => cell_regrown c2 d' os
          have g3 := fun d' os => cell_regrown c3 d' os
          have g4 := fun d' os => cell_regrown c4 d' os
          have g5 := fun d' os => cell_regrown c5 d' os
          have g6 := fun d' os => cell_regrown c6 d' os
          have g7 := fun d' os => cell_regrown c7 d' os
          have g8 := fun d' os => cell_regrown c8 d' os
          have g9 := fun d' os => cell_regrown c9 d' os
          have h0 := fun d' os => cell_regrown e0 d' os
          have h1 := fun d' os => cell_regrown e1 d' os
          have h2 := fun d' os => cell_regrown e2 d' os
          clear c0 c1 c2 c3 c4 c5 c6 c7 c8 c9 e0 e1 e2
          refine wpIn_wide.2 ?_
          refine wp_region_quiet_below (by kernel_rfl) (by kernel_rfl) ?_
          repeat (go_big_quiet_step ((go_at_call 11; exact Calls.regrown_of ((holds_any { x.1 with kind := kd } d _).mono fun _ _ ⟨ha, hb'⟩ => ⟨ha.trans (by rw [show hld { x.1 with kind := kd } d = false from HH.out]), hb'⟩))))
          refine wpQuiet_nil ?_
          intro _ hw'
          obtain ⟨⟨dq, osq⟩, hw''⟩ := hw'
          subst hw''
          gi_wp2
          go_roundw
          case rel => exact ⟨k + 1, by omega, by go_num, hB.trans (Keeps.of_new (S := S) (below_regrown wr dq osq)) (fun _ _ h => h), by rw [HS2.out]; exact abides_new hJ hJs (below_regrown wr dq osq)⟩
          case measure => simp [intOf]; omega
        · have HH := Lib.hid hh
          have HS2 : Hid (fltN (l.take (k + 1)) kd d = fltN (l.take k) kd d ++ [x]) := Lib.hid (by rw [hS.out, HK.out, hh]; simp)
          have hlen2 : (fltN (l.take k) kd d).length < (fltN l kd d).length := HLn.out (by rw [HK.out, hh]; simp)
          clear hh
          gi_wp2
          gi_region_with (first
            | (refine ⟨trivial, fun h => (by cases h), ?_⟩; gi_at_call 11; refine (callsIn_wide.2 (holds_any { x.1 with kind := kd } d _)).mono ?_; rintro e w1 ⟨he1, hb1⟩; rw [show hld { x.1 with kind := kd } d = true from HH.out] at he1; subst he1
               obtain ⟨hcb, hzb⟩ := held hb1 (g := b) (by simp; omega)
               obtain ⟨hcd, hzd⟩ := held hb1 (g := Bd) (by simp; omega)
               have hJ1 : J (fltN (l.take k) kd d) w1 := abides_new hJ hJs ((below_draws (Below.refl _ _) rfl rfl rfl rfl : Below wr.heap.size wr wr.drew).trans hb1)
               obtain ⟨fn, tmps, assign, body, hy, hR⟩ := hY _ x w1 hJ1 hlen2
               unfold entVal at hy
               rw [HK.out] at hy)
            | (refine ⟨fun h => (by cases h), ?_⟩; refine hR.mono ?_; rintro e W' hy'; obtain ⟨bb, rfl, hyt, hyf⟩ := yield_bool hy'))
          all_goals
            cases bb
            · obtain hJx' := hyf rfl
              gi_wp2
              refine bodyPost_ret (results_none rfl _ _ _) rfl ?_
              exact ⟨⟨_, rfl⟩, .inr ⟨_, by have h1 := fltN_pre l kd d (k + 1); rw [HS2.out] at h1; exact h1, hJx'⟩⟩
            · obtain ⟨hJ', hk'⟩ := hyt rfl
              gi_wp2
              go_roundw
              case rel => exact ⟨k + 1, by omega, by go_num, ((hB.heap (w2 := wr.drew) rfl rfl rfl rfl).trans (Keeps.of_new (S := S) hb1) (fun _ _ h => h)).trans hk' (fun _ _ h => h), by rw [HS2.out]; exact hJ'⟩
              case measure => simp [intOf]; omega
      · have HS2 : Hid (fltN (l.take (k + 1)) kd d = fltN (l.take k) kd d) := Lib.hid (by rw [hS.out, show (x.1.kind == kd) = false by simpa using hkd]; simp)
        have hkf : (x.1.kind == kd) = false := by simpa using hkd
        clear hkd
        gi_wp2
        refine wpIn_wide.2 ?_
        go_quiet (fail)
        gi_wp2
        go_roundw
        case rel => exact ⟨k + 1, by omega, by go_num, hB.heap rfl rfl rfl rfl, by rw [HS2.out]; exact abides_new hJ hJs (below_draws (Below.refl _ _) rfl rfl rfl rfl)⟩
        case measure => simp [intOf]; omega
    · have HT := Lib.hid (List.take_of_length_le (l := l) (i := k) (by omega))
      gi_wp2
      go_end0
      exact ⟨⟨_, rfl⟩, .inl ⟨_, rfl, by rw [HT.out] at hJs; exact hJs⟩⟩

theorem each_stopsN (n : Nat) (n₀ Bd Bk : Nat) (A : Option Addr) (c : Nat) (l : List NEnt) (kd d : Int) (m1 m2 : Option Nat) (w : World) (hn₀ : n₀ ≤ w.heap.size) (hl : l.length ≤ maxLen)
    (hBd : Blk w Bd 69 (dirCells A l.length c d m1 m2)) (hBk : Blk w Bk 5 #[.int .u8 kd]) (hL : EntsLie w n₀ A (l.map (·.1))) :
    SeqStopsK Fence.wide n Tryz.prog 77 #[.pointer (some ⟨Bd, 0, none⟩), .pointer (some ⟨Bk, 0, none⟩)] (fun x : NEnt => #[entVal x.1]) (Keeps (mineS n₀ Bd Bk))
      (fun ys => ys = fltN l kd d) (fun pre => pre <+: fltN l kd d) (fltN l kd d).length w := fun lp J Jx W hW hJ _ hY h0 =>
  each1N_in (mineS n₀ Bd Bk) n lp Bd Bk n₀ A c l kd d m1 m2 J Jx hY W hJ (fun i hi h => by have := h.1; omega) (fun h => h.2.1 rfl) (fun h => h.2.2 rfl) (by have := hW.size; omega) hl
    (hBd.below hW hBd.lt) (hBk.below hW hBk.lt) (hL.below (hW.mono hn₀)) h0

/-- 'for x := range d.each(kind)', where x is boxed in the slot sl. -/
theorem wpIn_eachLN {n : Nat} {g : Operand} {p : Nat} {assign body : Code} {Q : Exit → Act → World → Prop} {a : Act} {w : World} (h2 : 2 ≤ n) (sl n₀ Bd Bk : Nat) (A : Option Addr) (c : Nat) (l : List NEnt) (kd d : Int) (m1 m2 : Option Nat)
    (hg : a.eval g = .func (.func 77) #[] #[.pointer (some ⟨Bd, 0, none⟩), .pointer (some ⟨Bk, 0, none⟩)])
    (hn₀ : n₀ ≤ w.heap.size) (hl : l.length ≤ maxLen) (hBd : Blk w Bd 69 (dirCells A l.length c d m1 m2)) (hBk : Blk w Bk 5 #[.int .u8 kd]) (hL : EntsLie w n₀ A (l.map (·.1)))
    (I : List NEnt → World → Prop) (Ix : Code → List NEnt → World → Prop) (hI : OwnFrom w.heap.size I) (hIx : ∀ c, OwnFrom w.heap.size (Ix c)) (h0 : I [] w) (hIs : ∀ pre W, I pre W → w.heap.size ≤ W.heap.size)
    (hassign : ∀ (lp : Nat) (x : NEnt) (W : World) (K : Act → World → Prop), K { tmps := (a.tmps.setIfInBounds p (entVal x.1)).setIfInBounds sl (.pointer (some ⟨W.heap.size, 0, none⟩)), defers := [] } (W.alloc (.cells (entCells x.1).toArray 26)) →
      assign.wpIn (Fence.wide.inRound lp) (n - 1 - 1) Tryz.prog (Exit.then K (fun _ _ _ => False)) { tmps := a.tmps.setIfInBounds p (entVal x.1), defers := [] } W)
    (hbody : ∀ (lp : Nat) (pre : List NEnt) (x : NEnt) (Bx : Nat) (W : World), w.heap.size ≤ Bx → EntAt W Bx x.1 → I pre W → pre.length < (fltN l kd d).length →
      body.wpIn (Fence.wide.inRound lp) (n - 1 - 1) Tryz.prog (ownPostG w.heap.size (Keeps (mineS n₀ Bd Bk)) I Ix (pre ++ [x]) W) { tmps := (a.tmps.setIfInBounds p (entVal x.1)).setIfInBounds sl (.pointer (some ⟨Bx, 0, none⟩)), defers := [] } W)
    (hdone : ∀ (D : Nat) (W : World), w.heap.size ≤ D → I (fltN l kd d) W → W.heap[D]? = some (.deferred (some [])) → Q .normal { a with defers := { target := .collected D, args := #[] } :: a.defers } W)
    (hstop : ∀ (D : Nat) (co : Code) (pre : List NEnt) (W : World), w.heap.size ≤ D → pre <+: fltN l kd d → Ix co pre W → W.heap[D]? = some (.deferred (some [])) → co.wpIn Fence.wide n Tryz.prog Q { a with defers := { target := .collected D, args := #[] } :: a.defers } W) :
    (Code.rangeFunc g #[p] assign body).wpIn Fence.wide n Tryz.prog Q a w := by
  have h1 : 1 ≤ n := by omega
  refine wpIn_rangeFunc_ownH (F := Fence.wide) rfl h1 hg trivial (enters_of Tryz.func77 (by kernel_rfl) rfl)
    (each_stopsN (n - 1) n₀ Bd Bk A c l kd d m1 m2 w hn₀ hl hBd hBk hL) mineS_t (mineS_b hn₀ hBd.lt hBk.lt) (Below.refl _ _) (fun _ => rfl)
    I Ix hI hIx h0
    (fun x a' W => ∃ Bx, w.heap.size ≤ Bx ∧ EntAt W Bx x.1 ∧ a' = { tmps := (a.tmps.setIfInBounds p (entVal x.1)).setIfInBounds sl (.pointer (some ⟨Bx, 0, none⟩)), defers := [] })
    (fun x a' _ X Y row hs hgr hr => by obtain ⟨Bx, k1, k2, k3⟩ := hs; exact ⟨Bx, k1, blk_own Bx _ (fun (_ : Unit) => (entCells x.1).toArray) () X Y row k2 hgr (fun r e => (hr r e).2), k3⟩)
    ?_ ?_ ?_ hstop
  · intro lp pre x W K hi hK
    have hz : ((#[p] : Array Tmp).zip #[entVal x.1]).foldl (fun t (p, v) => t.setIfInBounds p v) a.tmps = a.tmps.setIfInBounds p (entVal x.1) := by simp
    rw [hz]
    exact hassign lp x W K (hK _ _ ((KeepsOthers.alloc _ _).from _) ((Keeps.refl _ _).alloc _) (hI.alloc _ hi) ⟨W.heap.size, hIs pre W hi, EntAt.new W _, rfl⟩)
  · rintro lp pre x a' W _ _ hi ⟨Bx, k1, k2, rfl⟩ hlen
    exact hbody lp pre x Bx W k1 k2 hi hlen
  · rintro D ys W hD rfl hi hK
    exact hdone D W hD hi hK
end Go.Proofs.YtmfjmoicnddkcaaGreatDoor
