/- The law of CustodyDisk. Conditions: the script lies in memory. -/
import Derived.Test.YtoglkeinhpcboaaDkStep4
import Derived.Deep.RegionLaw
namespace Go.Proofs.Ytoglkeinhpcboaa
open Go.RowKit

/-- An operation whose bytes and numbers lie below B. -/
structure OpOk (w : World) (B : Nat) (o : DOp) : Prop where
  kind : 0 ≤ o.kind ∧ o.kind ≤ 255
  n : -9223372036854775808 ≤ o.n ∧ o.n ≤ 9223372036854775807
  data : o.data.length ≤ 200
  bytes : BytesIn w B o.dA o.data
  keep : o.keep.length ≤ 200
  ints : ∀ x ∈ o.keep, -9223372036854775808 ≤ x ∧ x ≤ 9223372036854775807
  nums : KeepIn w B o.kA o.keep
theorem OpOk.below {w w' : World} {B : Nat} {o : DOp} (h : OpOk w B o) (hb : Below B w w') (hB : B ≤ w.heap.size) : OpOk w' B o :=
  ⟨h.kind, h.n, h.data, h.bytes.below hb hB, h.keep, h.ints, h.nums.below hb hB⟩
theorem step_any {B m N : Nat} {w : World} {p q : Nat} {dn : Bool} (hB : Both B m N w p q dn) (hm : m ≤ 1000) (hBw : B ≤ w.heap.size) (o : DOp) (ho : OpOk w B o) :
    Calls Try.prog 9 #[.pointer (some ⟨p, 0, none⟩), .pointer (some ⟨q, 0, none⟩), .agg #[.int .u8 o.kind, .int .i64 o.sector, .slice o.dA o.data.length o.dc, .int .i64 o.n, .slice o.kA o.keep.length o.kc]] w (StepTo B m N w p q) := by
  have h1 := Int.tmod_nonneg 5 ho.kind.1
  have h2 := Int.tmod_lt_of_pos o.kind (show (0 : Int) < 5 by decide)
  have hc : o.kind.tmod 5 = 0 ∨ o.kind.tmod 5 = 1 ∨ o.kind.tmod 5 = 2 ∨ o.kind.tmod 5 = 3 ∨ o.kind.tmod 5 = 4 := by omega
  rcases hc with hc | hc | hc | hc | hc
  · exact (step_read hB hm hBw o.kind o.sector o.n hc _ _).mono fun e w' h => ⟨h.1, ⟨_, h.2.1⟩, h.2.2.mono hBw⟩
  · exact step_write hB hm hBw o.kind o.sector o.n hc _ o.dA o.dc o.data ho.data ho.bytes
  · exact step_flush hB hm hBw o.kind o.sector o.n hc _ _
  · exact step_stop hB hBw o.kind o.sector o.n ho.n hc _ _
  · exact step_crash hB hm hBw o.kind o.sector o.n hc _ o.kA o.kc o.keep (by have := ho.keep; omega) ho.ints ho.nums
theorem Both.same {B m N : Nat} {w w' : World} {p q : Nat} {dn : Bool} (h : Both B m N w p q dn) (hb : Below w.heap.size w w') : Both B m N w' p q dn := by
  obtain ⟨gs, vp, vD, vQ, S, P, D, st, ca, L, h⟩ := h
  exact ⟨gs, vp, vD, vQ, S, P, D, st, ca, L, h.disk.below hb, h.ref.below hb, h.chain, h.left, h.len, h.room, h.few, h.apart, h.base1, h.base2⟩
theorem withinB_range (k : Int) : withinB k 16 65536 = true ↔ 16 ≤ k ∧ k ≤ 65536 := by unfold withinB; simp

set_option maxRecDepth 100000 in
set_option maxHeartbeats 2000000 in
theorem cdisk_any (sectors : Int) (A : Option Addr) (c : Nat) (l : List DOp) (hl : l.length ≤ 9223372036854775807) (w : World) (h : OpsLie w A l) (hd : ∀ x ∈ l, x.data.length ≤ 9223372036854775807 ∧ x.keep.length ≤ 9223372036854775807) (hok : ∀ x ∈ l, smallOp x = true → OpOk w w.heap.size x) :
    Calls Try.prog 3 #[.int .i64 sectors, .slice A l.length c] w fun e w' => e = .returned (.bool true) ∧ Below w.heap.size w w' := by
  have HS := Lib.hid (small_any A c l hl hd w h)
  have HDS := Lib.hid disks_any
  have HDK := Lib.hid (disk_any sectors w)
  go_enter Try.func3, Try.ntmps3
  go_wp2_with fail
  refine HS.out.mono ?_
  rintro e w1 ⟨rfl, rfl⟩
  cases hsm : smallOps l
  · clear hsm
    go_wp2_with fail
    refine (HDS.out _).mono ?_
    rintro e w2 ⟨rfl, hb⟩
    go_wp2_with fail
    go_ret
    exact ⟨rfl, hb⟩
  · have hsm2 : l.length ≤ 200 ∧ ∀ x ∈ l, smallOp x = true := by
      unfold smallOps at hsm
      simp only [Bool.and_eq_true, decide_eq_true_eq, List.all_eq_true] at hsm
      exact hsm
    have HSM := Lib.hid hsm2
    clear hsm hsm2
    by_cases hr : 16 ≤ sectors ∧ sectors ≤ 65536
    case' pos =>
      have r1 : ¬ sectors < 16 := by omega
      have r2 : ¬ 65536 < sectors := by omega
      clear hr
      go_wp2_with fail
      refine HDK.out.mono ?_
    case' neg =>
      have HN := Lib.hid (newDisk_bad sectors ((Bool.not_eq_true _).mp (fun hw => hr ((withinB_range sectors).1 hw))) w)
      by_cases r1 : sectors < 16
      case' pos =>
        clear hr
        go_wp2_with fail
        refine HN.out.mono ?_
        rintro e w1 ⟨rfl, rfl⟩
        clear HN
        go_wp2_with fail
        refine HDK.out.mono ?_
      case' neg =>
        have r2 : 65536 < sectors := by omega
        clear hr
        go_wp2_with fail
        refine HN.out.mono ?_
        rintro e w1 ⟨rfl, rfl⟩
        clear HN
        go_wp2_with fail
        refine HDK.out.mono ?_
    all_goals
      rintro e w1 ⟨⟨p, q, N, hN, rfl, hBo⟩, hB1⟩
      have HBo := Lib.hid hBo
      have HB1 := Lib.hid hB1
      clear HDK hBo hB1
      go_wp2_with fail
      go_loopw [10] (fun i wr => ∃ (k : Nat) (dn : Bool), k ≤ l.length ∧ i = .int .i64 k ∧ Both w.heap.size k N wr p q dn ∧ Below w.heap.size w wr) (fun i _ => l.length - (intOf i).toNat)
      case atStart => exact ⟨0, false, Nat.zero_le _, rfl, HBo.out, HB1.out⟩
      case round =>
        obtain ⟨k, dn, hk, rfl, hBk, hB⟩ := hrel
        have hl200 := HSM.out.1
        by_cases hlt : k < l.length
        · obtain ⟨x, hx⟩ : ∃ x, l[k]? = some x := ⟨_, List.getElem?_eq_getElem hlt⟩
          have hm := List.mem_of_getElem? hx
          have hox := (hok x hm (HSM.out.2 x hm)).below hB (Nat.le_refl _)
          obtain ⟨b, off, rfl, hb, q0, q1, q2, q3, q4⟩ := h.at hx
          have hKp : Keeps (fun _ => False) w wr := Keeps.of_new hB
          have t0 := (hKp.cell hb (fun e => e)).trans q0
          have t1 := (hKp.cell hb (fun e => e)).trans q1
          have t2 := (hKp.cell hb (fun e => e)).trans q2
          have t3 := (hKp.cell hb (fun e => e)).trans q3
          have t4 := (hKp.cell hb (fun e => e)).trans q4
          have hki : (k : Int) < (l.length : Int) := by omega
          have HST := Lib.hid (step_any (hBk.same (w' := wr.drew) (Below.refl _ _).drew) (by omega) (by exact hB.size) x (hox.below (w' := wr.drew) (Below.refl _ _).drew hB.size))
          have HB := Lib.hid hB
          clear q0 q1 q2 q3 q4 hx hm hox hKp hBk hB
          go_upto_region 13 with fail
          go_region_law (first
            | (go_simp; go_at_call 9; refine HST.out.mono ?_; rintro e W2 ⟨rfl, ⟨dn2, hb2⟩, hB2⟩; obtain ⟨gs, vp, vD, vQ, S, P, D, st, ca, L, hP⟩ := hb2; have d3 := hP.ref.blk.cell 3; have zq := hP.ref.blk.lt; have HP2 := Lib.hid hP; have HB2 := Lib.hid hB2; simp at d3; clear hP hB2; dsimp only)
            | (go_simp; go_at_call 10; refine (down_any HP2.out.disk).mono ?_; rintro e W3 ⟨rfl, rfl⟩; dsimp only))
          all_goals
            go_wp2_with fail
            exact ⟨⟨k + 1, dn2, by omega, by go_num, ⟨_, _, _, _, _, _, _, _, _, _, HP2.out⟩, HB.out.drew.trans HB2.out⟩, by simp [intOf]; omega⟩
        · have hki : ¬ (k : Int) < (l.length : Int) := by omega
          have HBk := Lib.hid hBk
          have HB := Lib.hid hB
          clear hBk hB
          go_wp2_with fail
          go_loopw [11] (fun i wx => ∃ (j : Nat) (dn : Bool), j ≤ N ∧ i = .int .i64 j ∧ Both w.heap.size (k + j) N wx p q dn ∧ Below w.heap.size w wx) (fun i _ => N - (intOf i).toNat)
          case atStart => exact ⟨0, dn, Nat.zero_le _, rfl, HBk.out, HB.out⟩
          case round =>
            obtain ⟨j, dn3, hj, rfl, hBj, hBx⟩ := hrel
            have HBj := Lib.hid hBj
            have HBx := Lib.hid hBx
            obtain ⟨gs, vp, vD, vQ, S, P, D, st, ca, L, hP⟩ := hBj
            obtain ⟨⟨A', c', rfl⟩, _⟩ := hP.ref.shapes
            have e0 := hP.ref.blk.cell 0
            have zq := hP.ref.blk.lt
            rw [hP.len] at e0
            simp at e0
            clear hP hBx
            by_cases hjl : j < N
            · have hji : (j : Int) < (N : Int) := by omega
              have HST := Lib.hid (step_read HBj.out (by omega) HBx.out.size 0 (j : Int) 0 (by decide) (.slice none 0 0) (.slice none 0 0))
              go_wp2_with fail
              refine HST.out.mono ?_
              rintro e wz ⟨rfl, hbz, hBz⟩
              have HBz := Lib.hid (HBx.out.trans (hBz.mono HBx.out.size))
              have Hbz := Lib.hid hbz
              clear hbz hBz HST
              go_wp2_with fail
              exact ⟨⟨j + 1, dn3, by omega, by go_num, Hbz.out, HBz.out⟩, by simp [intOf]; omega⟩
            · have hji : ¬ (j : Int) < (N : Int) := by omega
              go_wp2_with fail
              refine (HDS.out _).mono ?_
              rintro e wy ⟨rfl, hb⟩
              have HBy := Lib.hid (HBx.out.trans (hb.mono HBx.out.size))
              clear hb
              go_wp2_with fail
              go_ret
              exact ⟨rfl, HBy.out⟩
end Go.Proofs.Ytoglkeinhpcboaa
