/- The contracts of each, and of the iterator that it returns: the entries of a kind that hold on a day, in their order. Conditions: the list lies in memory. -/
import Derived.Test.YtlbehpbhmmppiaaGreatDoorWordsA
import Derived.Test.YtlbehpbhmmppiaaGreatDoorRefA
import Derived.RangeFuncNested
import Derived.RangeFuncBound
import Derived.RangeFuncCalls
import Derived.RangeFuncLeaves
import Derived.Shelf.Abstract
import Derived.Shelf.RegionOpen
import Derived.OwnWalkIn
import Derived.TacticsInMore
import Derived.LoopNIn
import Derived.LoopIn
import Derived.Stop.RegionWithIn
import Derived.Sort.QuietIn
import Derived.Sort.CutIn
import Derived.Lib.QuietBelow
namespace Go.Proofs.YtlbehpbhmmppiaaGreatDoor
open Go.RowKit Go.Shelf
attribute [local go_sem] Oper.semAt_some

/-- An entry whose ids are Go's ints. -/
abbrev OEnt := { x : Ent // (-9223372036854775808 ≤ x.person ∧ x.person ≤ 9223372036854775807) ∧ (-9223372036854775808 ≤ x.order ∧ x.order ≤ 9223372036854775807) ∧ (-9223372036854775808 ≤ x.other ∧ x.other ≤ 9223372036854775807) ∧ (-9223372036854775808 ≤ x.place ∧ x.place ≤ 9223372036854775807) }
/-- The entries of a kind that hold on a day. -/
def flt (l : List OEnt) (kd d : Int) : List OEnt := l.filter fun x => x.1.kind == kd && hld x.1 d
theorem flt_snoc {l : List OEnt} {kd d : Int} {k : Nat} {x : OEnt} (hx : l[k]? = some x) : flt (l.take (k + 1)) kd d = flt (l.take k) kd d ++ (if (x.1.kind == kd && hld x.1 d) = true then [x] else []) := by
  unfold flt
  rw [List.take_add_one, hx, List.filter_append]
  simp [List.filter_cons]
theorem flt_pre (l : List OEnt) (kd d : Int) (k : Nat) : flt (l.take k) kd d <+: flt l kd d := by
  unfold flt
  exact (List.take_prefix k l).filter _

/-- A directory's cells. -/
def dirCells (A : Option Addr) (n c : Nat) (d : Int) (m1 m2 : Option Nat) : Array Value := #[.slice A n c, .int .i64 d, .map m1, .map m2]
def dirVal (A : Option Addr) (n c : Nat) (d : Int) (m1 m2 : Option Nat) : Value := .agg #[.slice A n c, .int .i64 d, .map m1, .map m2]

theorem yield_bool {e : Ending} {X Y : Prop} (h : (e = .returned (.bool true) ∧ X) ∨ (e = .returned (.bool false) ∧ Y)) : ∃ bb, e = .returned (.bool bb) ∧ (bb = true → X) ∧ (bb = false → Y) := by
  rcases h with ⟨h, hx⟩ | ⟨h, hy⟩
  · exact ⟨true, h, fun _ => hx, fun h => by cases h⟩
  · exact ⟨false, h, fun h => (by cases h), fun _ => hy⟩
theorem abides_new {β : Type} {B : Nat} {J : β → World → Prop} (hJ : AbidesFrom B J) {s : β} {W W' : World} (h : J s W) (hb : Below W.heap.size W W') : J s W' :=
  hJ s W W' none h ⟨hb.os, hb.tape, hb.output, hb.size, fun k hk _ => hb.block k hk⟩ (fun r e => by cases e)

set_option maxRecDepth 100000 in
set_option maxHeartbeats 2000000 in
theorem each1_in (S : Nat → Prop) (n : Nat) (lp Bd Bk n₀ : Nat) (A : Option Addr) (c : Nat) (l : List OEnt) (kd d : Int) (m1 m2 : Option Nat) (J Jx : List OEnt → World → Prop)
    (hY : ∀ pre x W, J pre W → pre.length < (flt l kd d).length → YieldAt Fence.wide (n - 1) Tryz.prog lp #[entVal x.1] W fun e W' =>
      (e = .returned (.bool true) ∧ J (pre ++ [x]) W' ∧ Keeps S W W') ∨ (e = .returned (.bool false) ∧ Jx (pre ++ [x]) W'))
    (W : World) (hJ : AbidesFrom W.heap.size J) (hS0 : ∀ i, i < n₀ → ¬ S i) (hSd : ¬ S Bd) (hSk : ¬ S Bk) (hn₀ : n₀ ≤ W.heap.size) (hl : l.length ≤ maxLen) (hBd : Blk W Bd 49 (dirCells A l.length c d m1 m2)) (hBk : Blk W Bk 5 #[.int .u8 kd]) (hL : EntsLie W n₀ A (l.map (·.1))) (h0 : J [] W) :
    CallsIn Fence.wide n Tryz.prog 56 #[.func (.yield lp) #[] #[], .pointer (some ⟨Bd, 0, none⟩), .pointer (some ⟨Bk, 0, none⟩)] W fun e W' => (∃ v, e = .returned v) ∧
      ((∃ ys, ys = flt l kd d ∧ J ys W') ∨ (∃ pre, pre <+: flt l kd d ∧ Jx pre W')) := by
  have hl63 : (l.length : Int) ≤ 9223372036854775807 := by unfold maxLen at hl; omega
  refine callsIn_of_wp Tryz.func56 rfl trivial ?_ rfl
  simp only [Tryz.ntmps56, List.size_toArray, List.length_cons, List.length_nil, Nat.reduceAdd, Nat.reduceSub, Array.replicate_succ, Array.replicate_zero, List.push_toArray, List.append_toArray, List.nil_append, List.cons_append]
  have d0 := hBd.cell 0
  simp [dirCells] at d0
  gi_wp2
  gi_loopw [8] (fun i wr => ∃ k : Nat, k ≤ l.length ∧ i = .int .i64 k ∧ Keeps S W wr ∧ J (flt (l.take k) kd d) wr) (fun i _ => l.length - (intOf i).toNat)
  case atStart => exact ⟨0, Nat.zero_le _, rfl, Keeps.refl _ _, h0⟩
  case round =>
    obtain ⟨k, hk, rfl, hB, hJs⟩ := hrel
    by_cases hlt : k < l.length
    · obtain ⟨x, hx⟩ : ∃ x, l[k]? = some x := ⟨_, List.getElem?_eq_getElem hlt⟩
      have hS := Lib.hid (flt_snoc (kd := kd) (d := d) hx)
      obtain ⟨b, off, rfl, hb, c0, c1, c2, c3, c4, c5, c6, c7, c8, c9⟩ := (hL.below (hB.below hS0 hn₀)).at (k := k) (x := x.1) (by simp [hx])
      have hD1 := hBd.keep hB hSd
      have e0 := hD1.cell 0
      have e1 := hD1.cell 1
      simp [dirCells] at e0 e1
      have e2 := (hBk.keep hB hSk).cell 0
      simp at e2
      have hbW : b < wr.heap.size := by have := hB.size; omega
      have hdW : Bd < wr.heap.size := by have := hB.size; have := hBd.lt; omega
      have hlen : (x.1.kind == kd && hld x.1 d) = true → (flt (l.take k) kd d).length < (flt l kd d).length := fun h => by
        have h1 := flt_pre l kd d (k + 1)
        rw [hS.out, if_pos h] at h1
        have := h1.length_le
        simp at this; omega
      have HLn := Lib.hid hlen
      clear hlen hx
      by_cases hkd : x.1.kind = kd
      · rw [hkd] at c1
        have HK := Lib.hid hkd
        clear hkd
        cases hh : hld x.1 d
        · have HH := Lib.hid hh
          have HS2 : Hid (flt (l.take (k + 1)) kd d = flt (l.take k) kd d) := Lib.hid (by rw [hS.out, HK.out, hh]; simp)
          clear hh
          gi_wp2
          have g0 := fun d' os => cell_regrown c0 d' os
          have g1 := fun d' os => cell_regrown c1 d' os
          have g2 := fun d' os => cell_regrown c2 d' os
          have g3 := fun d' os => cell_regrown c3 d' os
          have g4 := fun d' os => cell_regrown c4 d' os
          have g5 := fun d' os => cell_regrown c5 d' os
          have g6 := fun d' os => cell_regrown c6 d' os
          have g7 := fun d' os => cell_regrown c7 d' os
          have g8 := fun d' os => cell_regrown c8 d' os
          have g9 := fun d' os => cell_regrown c9 d' os
          have h0 := fun d' os => cell_regrown e0 d' os
          have h1 := fun d' os => cell_regrown e1 d' os
          have h2 := fun d' os => cell_regrown e2 d' os
          clear c0 c1 c2 c3 c4 c5 c6 c7 c8 c9 e0 e1 e2
          refine wpIn_wide.2 ?_
          refine wp_region_quiet_below (by kernel_rfl) (by kernel_rfl) ?_
          repeat (go_big_quiet_step ((go_at_call 57; exact Calls.regrown_of ((holds_any { x.1 with kind := kd } d _).mono fun _ _ ⟨ha, hb'⟩ => ⟨ha.trans (by rw [show hld { x.1 with kind := kd } d = false from HH.out]), hb'⟩))))
          refine wpQuiet_nil ?_
          intro _ hw'
          obtain ⟨⟨dq, osq⟩, hw''⟩ := hw'
          subst hw''
          gi_wp2
          go_roundw
          case rel => exact ⟨k + 1, by omega, by go_num, hB.trans (Keeps.of_new (S := S) (below_regrown wr dq osq)) (fun _ _ h => h), by rw [HS2.out]; exact abides_new hJ hJs (below_regrown wr dq osq)⟩
          case measure => simp [intOf]; omega
        · have HH := Lib.hid hh
          have HS2 : Hid (flt (l.take (k + 1)) kd d = flt (l.take k) kd d ++ [x]) := Lib.hid (by rw [hS.out, HK.out, hh]; simp)
          have hlen2 : (flt (l.take k) kd d).length < (flt l kd d).length := HLn.out (by rw [HK.out, hh]; simp)
          clear hh
          gi_wp2
          gi_region_with (first
            | (refine ⟨trivial, fun h => (by cases h), ?_⟩; gi_at_call 57; refine (callsIn_wide.2 (holds_any { x.1 with kind := kd } d _)).mono ?_; rintro e w1 ⟨he1, hb1⟩; rw [show hld { x.1 with kind := kd } d = true from HH.out] at he1; subst he1
               obtain ⟨hcb, hzb⟩ := held hb1 (g := b) (by simp; omega)
               obtain ⟨hcd, hzd⟩ := held hb1 (g := Bd) (by simp; omega)
               have hJ1 : J (flt (l.take k) kd d) w1 := abides_new hJ hJs ((below_draws (Below.refl _ _) rfl rfl rfl rfl : Below wr.heap.size wr wr.drew).trans hb1)
               obtain ⟨fn, tmps, assign, body, hy, hR⟩ := hY _ x w1 hJ1 hlen2
               unfold entVal at hy
               rw [HK.out] at hy)
            | (refine ⟨fun h => (by cases h), ?_⟩; refine hR.mono ?_; rintro e W' hy'; obtain ⟨bb, rfl, hyt, hyf⟩ := yield_bool hy'))
          all_goals
            cases bb
            · obtain hJx' := hyf rfl
              gi_wp2
              refine bodyPost_ret (results_none rfl _ _ _) rfl ?_
              exact ⟨⟨_, rfl⟩, .inr ⟨_, by have h1 := flt_pre l kd d (k + 1); rw [HS2.out] at h1; exact h1, hJx'⟩⟩
            · obtain ⟨hJ', hk'⟩ := hyt rfl
              gi_wp2
              go_roundw
              case rel => exact ⟨k + 1, by omega, by go_num, ((hB.heap (w2 := wr.drew) rfl rfl rfl rfl).trans (Keeps.of_new (S := S) hb1) (fun _ _ h => h)).trans hk' (fun _ _ h => h), by rw [HS2.out]; exact hJ'⟩
              case measure => simp [intOf]; omega
      · have HS2 : Hid (flt (l.take (k + 1)) kd d = flt (l.take k) kd d) := Lib.hid (by rw [hS.out, show (x.1.kind == kd) = false by simpa using hkd]; simp)
        have hkf : (x.1.kind == kd) = false := by simpa using hkd
        clear hkd
        gi_wp2
        refine wpIn_wide.2 ?_
        go_quiet (fail)
        gi_wp2
        go_roundw
        case rel => exact ⟨k + 1, by omega, by go_num, hB.heap rfl rfl rfl rfl, by rw [HS2.out]; exact abides_new hJ hJs (below_draws (Below.refl _ _) rfl rfl rfl rfl)⟩
        case measure => simp [intOf]; omega
    · have HT := Lib.hid (List.take_of_length_le (l := l) (i := k) (by omega))
      gi_wp2
      go_end0
      exact ⟨⟨_, rfl⟩, .inl ⟨_, rfl, by rw [HT.out] at hJs; exact hJs⟩⟩
end Go.Proofs.YtlbehpbhmmppiaaGreatDoor
