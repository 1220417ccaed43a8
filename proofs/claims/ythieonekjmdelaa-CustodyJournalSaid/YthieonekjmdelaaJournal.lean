/- The law of CustodyJournal. Conditions: the script lies in memory. -/
import Derived.Test.YthieonekjmdelaaJLaw3
namespace Go.Proofs.Ythieonekjmdelaa
open Go.RowKit

/-- Behind an operation: some journal of at most n records. -/
def Done (w0 : World) (p mb N n : Nat) (jb : Nat) (w : World) : Prop := ∃ R, JS w0 w jb p mb N R ∧ R.length ≤ n
structure OkJ (w : World) (o : JOp) : Prop where
  kind : 0 ≤ o.kind ∧ o.kind ≤ 255
  n : -9223372036854775808 ≤ o.n ∧ o.n ≤ 9223372036854775807
  ints : ∀ x ∈ o.keep, -9223372036854775808 ≤ x ∧ x ≤ 9223372036854775807
  nums : NumsAt w o.kA o.keep
set_option maxRecDepth 100000 in
set_option maxHeartbeats 4000000 in
theorem journal_any (sectors : Int) (A : Option Addr) (c : Nat) (l : List JOp) (hl : l.length ≤ 9223372036854775807) (hd : ∀ x ∈ l, x.data.size ≤ 9223372036854775807 ∧ x.keep.length ≤ 9223372036854775807) (w : World) (h : OpsJ w A l) (hok : ∀ x ∈ l, OkJ w x) :
    Calls Try.prog 3 #[.int .i64 sectors, .slice A l.length c] w fun e w' => e = .returned (.bool true) ∧ Below w.heap.size w w' := by
  have HJN := Lib.hid journals_any
  have HLT := Lib.hid (light_any A c l hl hd w h)
  have HH := Lib.hid h
  have HOK := Lib.hid hok
  clear h hok hd
  go_enter Try.func3, Try.ntmps3
  go_wp2_with fail
  refine HLT.out.mono ?_
  rintro e w1 ⟨b, rfl, hb, rfl⟩
  cases b
  · clear hb HLT
    go_wp2_with fail
    refine (HJN.out _).mono ?_
    rintro e w1 ⟨rfl, hB⟩
    go_wp2_with fail
    go_ret
    exact ⟨rfl, hB⟩
  have HL := Lib.hid (hb rfl)
  clear hb HLT
  go_wp2_with fail
  obtain ⟨k0, hk0, hke⟩ := at_modN 2000 (by omega) (by omega) sectors
  have hke' : wrap64 ((IntKind.u64.wrap sectors).tmod 2000) = (k0 : Int) := hke
  rw [hke', show wrap64 (16 + (k0 : Int)) = ((16 + k0 : Nat) : Int) by unfold wrap64; omega]
  clear hke hke'
  generalize hN : 16 + k0 = N
  have hN1 : 16 ≤ N := by omega
  have hN2 : N ≤ 2015 := by omega
  refine (newDisk_live N (by omega) (by omega) _).mono ?_
  rintro e w1 ⟨p, M, rfl, hD, hM, hB1⟩
  have hmz : w1.heap.size < (w1.alloc (.cells #[.slice none 0 0, .int .i64 0, .bool false, .string ⟨#[]⟩] 33)).heap.size := by simp
  have hba : Below w1.heap.size w1 (w1.alloc (.cells #[.slice none 0 0, .int .i64 0, .bool false, .string ⟨#[]⟩] 33)) := (Below.refl _ _).alloc (Nat.le_refl _) _
  have hm0 : MAt (w1.alloc (.cells #[.slice none 0 0, .int .i64 0, .bool false, .string ⟨#[]⟩] 33)) w1.heap.size w.heap.size (.slice none 0 0) (([] : List (List Int)).map sJ) 0 false ⟨#[]⟩ := ⟨Blk.new .., World.ownsRow_nil _ _ _ _, ⟨none, 0, rfl⟩, by simp [Value.ownBlock]⟩
  have hMz : ¬ M w1.heap.size := fun e => by
    obtain ⟨_, _, _, _, _, _, _, _, _, _, hok⟩ := hD
    have := hok _ e
    omega
  have HOP := Lib.hid (opened_any (hD.below hba) hm0 (Nat.le_trans hB1.size hba.size) hM hB1.size hMz false (.inl ⟨rfl, rfl⟩) (Nat.zero_le _))
  have HB1 := Lib.hid (hB1.trans (hba.mono hB1.size))
  have hmb := hB1.size
  clear hD hM hB1 hba hm0 hMz hN hmz
  go_wp2_with fail
  obtain ⟨mb, hmbe⟩ : ∃ mb, mb = w1.heap.size := ⟨_, rfl⟩
  rw [← hmbe] at HOP hmb ⊢
  clear hmbe
  refine HOP.out.mono ?_
  rintro e w2 ⟨jb, M2, rv2, rfl, hJ, hm2, h1, h2, h3, hb2, _⟩
  have HR : Hid (JS w w2 jb p mb N []) := Lib.hid ⟨⟨M2, rv2, 0, false, _, hm2, Nat.le_refl _, h1, h2, h3, .inl ⟨false, hJ, rfl⟩⟩, hmb, fun r hr => by simp at hr, HB1.out.trans hb2⟩
  clear hJ hm2 h1 h2 h3 hb2 HOP HB1
  go_wp2_with fail
  go_loopw [9, 11] (fun jv i wr => ∃ (k jb : Nat) (R : List (List Int)), k ≤ l.length ∧ R.length ≤ 2 * k ∧ i = .int .i64 k ∧ jv = .pointer (some ⟨jb, 0, none⟩) ∧ JS w wr jb p mb N R) (fun _ i _ => l.length - (intOf i).toNat)
  case atStart => exact ⟨0, jb, [], Nat.zero_le _, Nat.le_refl _, rfl, rfl, HR.out⟩
  case round =>
    clear HR
    obtain ⟨k, jx, R, hk, hRk, rfl, rfl, hJS⟩ := hrel
    have hl200 := HL.out.1
    by_cases hlt : k < l.length
    rotate_left
    · have e1 : ¬ (k : Int) < (l.length : Int) := by omega
      have HB := Lib.hid hJS.below
      clear hJS
      go_wp2_with fail
      refine (HJN.out _).mono ?_
      rintro e w3 ⟨rfl, hb⟩
      have HB3 := Lib.hid (HB.out.trans (hb.mono HB.out.size))
      clear hb
      go_wp2_with fail
      go_ret
      exact ⟨rfl, HB3.out⟩
    have e1 : (k : Int) < (l.length : Int) := by omega
    obtain ⟨x, hx⟩ : ∃ x, l[k]? = some x := ⟨_, List.getElem?_eq_getElem hlt⟩
    have hxm := List.mem_of_getElem? hx
    have hox := HOK.out x hxm
    obtain ⟨hdx, hkx⟩ := HL.out.2 x hxm
    obtain ⟨b, off, rfl, hb, q0, q1, q2, q3⟩ := HH.out.at hx
    have hKp : Keeps (fun _ => False) w wr := Keeps.of_new hJS.below
    have t0 := (hKp.cell hb (fun e => e)).trans q0
    have t1 := (hKp.cell hb (fun e => e)).trans q1
    have t2 := (hKp.cell hb (fun e => e)).trans q2
    have t3 := (hKp.cell hb (fun e => e)).trans q3
    have hbr : b < wr.heap.size := Nat.lt_of_lt_of_le hb hJS.below.size
    have HJS0 := Lib.hid hJS
    clear q0 q1 q2 q3 hx hxm hKp hJS
    go_upto_region 15 with fail
    have hba : Below wr.heap.size wr (wr.alloc (.cells #[.int .u8 x.kind, .string x.data, .int .i64 x.n, .slice x.kA x.keep.length x.kc] 39)) := (Below.refl _ _).alloc (Nat.le_refl _) _
    have kO := Blk.new wr 39 #[.int .u8 x.kind, .string x.data, .int .i64 x.n, .slice x.kA x.keep.length x.kc]
    have hzo : wr.heap.size < (wr.alloc (.cells #[.int .u8 x.kind, .string x.data, .int .i64 x.n, .slice x.kA x.keep.length x.kc] 39)).heap.size := by simp
    have HBA := Lib.hid hba
    have HKO := Lib.hid kO
    clear t0 t1 t2 t3
    generalize wr.alloc (.cells #[.int .u8 x.kind, .string x.data, .int .i64 x.n, .slice x.kA x.keep.length x.kc] 39) = wo at HBA HKO hzo kO ⊢
    have o0 := kO.cell 0
    have o1 := kO.cell 1
    have o2 := kO.cell 2
    have o3 := kO.cell 3
    simp at o0 o1 o2 o3
    have HJ1 := Lib.hid (HJS0.out.same HBA.out)
    have h1t := Int.tmod_nonneg 5 hox.kind.1
    have h2t := Int.tmod_lt_of_pos x.kind (show (0 : Int) < 5 by decide)
    have hcc : x.kind.tmod 5 = 0 ∨ x.kind.tmod 5 = 1 ∨ x.kind.tmod 5 = 2 ∨ x.kind.tmod 5 = 3 ∨ x.kind.tmod 5 = 4 := by omega
    have HOX := Lib.hid hox
    have hkd := hox.kind
    clear kO hba hox h1t h2t
    rcases hcc with hc | hc | hc | hc | hc
    case' inl =>
      have HDIV : Hid ((N : Int) / 2 = ((N / 2 : Nat) : Int)) := Lib.hid (by omega)
      have HJ1d := Lib.hid (HJ1.out.same (w' := wo.drew) (Below.refl _ _).drew)
      have HCO := Lib.hid (cost_js HJ1d.out (by omega))
      have HAP := Lib.hid (append2_any HJ1d.out (by omega) x.data hdx (by omega))
      go_upto_region 23 with fail
      refine wp_region_still_tail 9 (by kernel_rfl) (by kernel_rfl) ?_
      simp only [List.take_succ_cons, List.take_zero, List.drop_succ_cons, List.drop_zero]
      change wpStill _ _ wo.drew _ _ _
      have o1d : wo.drew.cell? ⟨wr.heap.size, 1, none⟩ = some (.string x.data) := o1
      have zod : wr.heap.size < wo.drew.heap.size := hzo
      clear o0 o1 o2 o3
      iterate 6 still_step
      still_call HCO.out
      iterate 2 still_step
      refine wpStill_nil ?_
      change wpList _ _ _ _ _ wo.drew
      rw [HDIV.out]
      go_wp2_with fail
      refine HAP.out.mono ?_
      rintro e wz ⟨rfl, Rz, hJz, hz0⟩
      have hz : Rz.length ≤ 2 * (k + 1) := by omega
      have HZ := Lib.hid hJz
      clear hJz HAP HCO o1d zod HJ1d
      go_upto_region 46 with fail
    case' inr.inl =>
      have HSY := Lib.hid (sync_js HJ1.out)
      have hz : R.length ≤ 2 * (k + 1) := by omega
      clear o1 o2 o3
      go_wp2_with fail
      refine HSY.out.mono ?_
      rintro e w3 (⟨rfl, hJ3⟩ | ⟨rfl, hJ3, hdd⟩)
      case' inl =>
        obtain ⟨A3, c3, s3, q0, q1, qf, qz⟩ := cells_js hJ3
        have HZ := Lib.hid (safe_js hJ3)
        clear hJ3 HSY
        go_upto_region 46 with fail
        generalize w3.setCell ⟨mb, 1, none⟩ (.int .i64 (R.length : Int)) = wz at HZ ⊢
        clear q0 q1 qf qz
      case' inr =>
        have HZ := Lib.hid hJ3
        have HDD := Lib.hid (deadJ_down hdd)
        clear hJ3 HSY hdd
        go_wp2_with fail
        refine HDD.out.mono ?_
        rintro e w4 ⟨rfl, rfl⟩
        go_upto_region 46 with fail
    case' inr.inr.inl =>
      have HST := Lib.hid (stop_js HJ1.out x.n HOX.out.n.2)
      have hz : R.length ≤ 2 * (k + 1) := by omega
      clear o1 o3
      go_wp2_with fail
      refine HST.out.mono ?_
      rintro e wz ⟨⟨v, rfl⟩, hJz⟩
      have HZ := Lib.hid hJz
      clear hJz HST o0 o2
      go_upto_region 46 with fail
    case' inr.inr.inr.inl =>
      have HCR := Lib.hid (crash_js (ob := some wr.heap.size) HJS0.out HBA.out (fun b e => by cases e; exact ⟨Nat.le_refl _, hzo, HKO.out⟩) x.kA x.kc x.keep (by omega) HOX.out.ints HOX.out.nums)
      have hnb := HOX.out.n.2
      clear o1
      go_wp2_with fail
      refine HCR.out.mono ?_
      rintro e w3 ⟨⟨v, rfl⟩, R3, hCS, hR3⟩
      obtain ⟨z3, hO3⟩ := hCS.obj
      have kO3 : Blk w3 wr.heap.size 39 #[.int .u8 x.kind, .string x.data, .int .i64 x.n, .slice x.kA x.keep.length x.kc] := hO3
      have o2 := kO3.cell 2
      have o3 := kO3.cell 3
      simp at o2 o3
      by_cases hn0 : 0 < x.n
      case' pos =>
        have HSP := Lib.hid (stop_cs hCS (x.n - 1) (by omega))
        clear hO3 kO3 hCS HCR o0
        go_wp2_with fail
        refine HSP.out.mono ?_
        rintro e w4 ⟨⟨v2, rfl⟩, hCS4⟩
        have HOP := Lib.hid (opened_cs hCS4 (by omega))
        clear hCS4 HSP o2 o3
        go_wp2_with fail
        refine HOP.out.mono ?_
        rintro e w5 ⟨j5, rfl, hJ5, hob⟩
        obtain ⟨z5, hO5⟩ := hob _ rfl
        have kO5 : Blk w5 wr.heap.size 39 #[.int .u8 x.kind, .string x.data, .int .i64 x.n, .slice x.kA x.keep.length x.kc] := hO5
        have p3 := kO5.cell 3
        simp at p3
        have HCR6 := Lib.hid (crash_js (ob := none) (o := .cells #[] 0) hJ5 (Below.refl _ _) (fun b e => by cases e) x.kA x.kc x.keep (by omega) HOX.out.ints HOX.out.nums)
        clear hJ5 hob hO5 kO5 HOP
        go_wp2_with fail
        refine HCR6.out.mono ?_
        rintro e w6 ⟨⟨v3, rfl⟩, R6, hCS6, hR6⟩
        have HOP7 := Lib.hid (opened_cs hCS6 (by omega))
        have hz : R6.length ≤ 2 * (k + 1) := by omega
        clear hCS6 HCR6 p3
        go_wp2_with fail
        refine HOP7.out.mono ?_
        rintro e w7 ⟨j7, rfl, hJ7, _⟩
        have HZ := Lib.hid hJ7
        clear hJ7 HOP7
        go_upto_region 46 with fail
      case' neg =>
        have HOP := Lib.hid (opened_cs hCS (by omega))
        have hz : R3.length ≤ 2 * (k + 1) := by omega
        clear hO3 kO3 hCS HCR o0 o3
        go_wp2_with fail
        refine HOP.out.mono ?_
        rintro e w7 ⟨j7, rfl, hJ7, _⟩
        have HZ := Lib.hid hJ7
        clear hJ7 HOP
        go_upto_region 46 with fail
    case' inr.inr.inr.inr =>
      obtain ⟨bd, hdn, hlv⟩ := down_js HJ1.out
      have HDN := Lib.hid hdn
      have HLV := Lib.hid hlv
      have hz : R.length ≤ 2 * (k + 1) := by omega
      clear o1 o2 o3 hdn hlv
      cases bd
      case' false =>
        have HOP := Lib.hid (opened_js HJ1.out (HLV.out rfl) (by omega))
        clear HLV
        go_wp2_with fail
        refine HDN.out.mono ?_
        rintro e w4 ⟨rfl, rfl⟩
        go_wp2_with fail
        refine HOP.out.mono ?_
        rintro e w7 ⟨j7, rfl, hJ7⟩
        have HZ := Lib.hid hJ7
        clear hJ7 HOP HDN o0
        go_upto_region 46 with fail
      case' true =>
        have HZ := Lib.hid HJ1.out
        clear HLV
        go_wp2_with fail
        refine HDN.out.mono ?_
        rintro e w4 ⟨rfl, rfl⟩
        go_upto_region 46 with fail
    all_goals
      obtain ⟨Az, cz, sz, q0, _, _, zq⟩ := cells_js HZ.out
      have HLN := Lib.hid (fun n => len_js (HZ.out.same (below_dr (Below.refl _ _) n)))
      clear HJS0 HJ1 HBA HKO
      go_quiet ((go_at_call 16; exact Calls.quiet_of_same (HLN.out _)))
      have HZ2 := Lib.hid (HZ.out.same (below_dr (Below.refl _ _) nq))
      clear HLN q0 zq
      go_wp2_with fail
      go_roundw
      case rel => exact ⟨k + 1, _, _, by omega, hz, by go_num, rfl, HZ2.out⟩
      case measure => simp [intOf]; omega
end Go.Proofs.Ythieonekjmdelaa
