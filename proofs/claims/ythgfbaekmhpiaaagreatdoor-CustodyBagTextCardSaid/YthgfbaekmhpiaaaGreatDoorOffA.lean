/- The contract of write of a journal that is embedded: its block begins with the journal's three cells. Conditions: the disk and the block lie in memory. The contract of add of a journal that is embedded. Conditions: the disk and the block lie in memory. -/
import Derived.Test.YthgfbaekmhpiaaaGreatDoorJouB
namespace Go.Proofs.YthgfbaekmhpiaaaGreatDoor
open Go.RowKit

/-- Block jb, of type t, begins with a journal's cells; the cells X are behind these. -/
def OA (t : TypeId) (Xs : List Value) (w : World) (jb p u n : Nat) : Prop := Blk w jb t (Value.pointer (some ⟨p, 0, none⟩) :: Value.int .i64 (u : Int) :: Value.int .i64 (n : Int) :: Xs).toArray
variable {t : TypeId} {Xs : List Value}
theorem OA.cell {w : World} {jb p u n : Nat} (h : OA t Xs w jb p u n) (i : Nat) : w.cell? ⟨jb, i, none⟩ = (Value.pointer (some ⟨p, 0, none⟩) :: Value.int .i64 (u : Int) :: Value.int .i64 (n : Int) :: Xs)[i]? := by
  rw [Blk.cell h, List.getElem?_toArray]
theorem OA.lt {w : World} {jb p u n : Nat} (h : OA t Xs w jb p u n) : jb < w.heap.size := Blk.lt h
theorem OA.frozen {w : World} {jb p u n : Nat} (h : OA t Xs w jb p u n) (i : Nat) : w.frozen? ⟨jb, i, none⟩ = false := Blk.frozen h i
theorem OA.set1 {w : World} {jb p u n : Nat} (h : OA t Xs w jb p u n) (m : Int) : Blk (w.setCell ⟨jb, 1, none⟩ (.int .i64 m)) jb t (Value.pointer (some ⟨p, 0, none⟩) :: Value.int .i64 m :: Value.int .i64 (n : Int) :: Xs).toArray := by
  have := Blk.set h 1 (.int .i64 m)
  rwa [List.setIfInBounds_toArray] at this
theorem OA.set2 {w : World} {jb p u n : Nat} (h : OA t Xs w jb p u n) (m : Int) : Blk (w.setCell ⟨jb, 2, none⟩ (.int .i64 m)) jb t (Value.pointer (some ⟨p, 0, none⟩) :: Value.int .i64 (u : Int) :: Value.int .i64 m :: Xs).toArray := by
  have := Blk.set h 2 (.int .i64 m)
  rwa [List.setIfInBounds_toArray] at this
set_option maxRecDepth 100000 in
set_option maxHeartbeats 1000000 in
theorem owrite_any {w : World} {p gs jb u0 n0 : Nat} {vp : Value} {D : List (List Int)} {st : Bool} {ca : Int} (h : DiskAt w p gs vp D [] false st ca) (hca : 0 ≤ ca ∧ ca ≤ 9223372036854775807) (hD : D.length ≤ 65536) (hj : OA t Xs w jb p u0 n0) (hjn : ¬ ownD p gs vp jb)
    (u : Nat) (B : List (List Int)) (hB : ∀ b ∈ B, b.length = 64) (hl : u + B.length ≤ D.length) (hBl : B.length ≤ 100000) (A : Option Addr) (c : Nat) (hc : B.length ≤ c) (hA : 0 < B.length → ∃ g o, A = some ⟨g, o, none⟩ ∧ w.rangeAt g o (B.flatMap cellsB) ∧ ¬ ownD p gs vp g) :
    Calls Tryz.prog 107 #[.pointer (some ⟨jb, 0, none⟩), .int .i64 (u : Int), .slice A B.length c] w fun e w' =>
      ((e = .returned (.int .i64 0) ∧ ∃ vp' ca', DiskAt w' p gs vp' (splice D u B) [] false st ca' ∧ (0 ≤ ca' ∧ ca' ≤ 9223372036854775807) ∧ (vp'.ownBlock = vp.ownBlock ∨ ∀ i, vp'.ownBlock = some i → w.heap.size ≤ i)) ∨ (st = true ∧ e = .returned (.int .i64 70) ∧ ∃ k, k ≤ B.length ∧ WrK w w' p gs vp D u B k true true)) ∧ Keeps (ownD p gs vp) w w' := by
  have hW0 : WrK w w p gs vp D u B 0 false st := ⟨⟨vp, [], ca, by rw [List.take_zero, splice_nil]; exact h, by rw [List.take_zero, splice_nil]; exact .nil, rfl, fun i x hx => by simp at hx, hca, .inl rfl⟩, Keeps.refl _ _⟩
  have HW0 := Lib.hid hW0
  have HDa := Lib.hid h.all
  have j0 := hj.cell 0
  have jl := hj.lt
  simp at j0
  go_enter Tryz.func107, Tryz.ntmps107
  go_wp2_with fail
  go_loopw [11] (fun i wr => ∃ k : Nat, k ≤ B.length ∧ i = .int .i64 k ∧ WrK w wr p gs vp D u B k false st) (fun i _ => B.length - (intOf i).toNat)
  case atStart => exact ⟨0, Nat.zero_le _, rfl, HW0.out⟩
  case round =>
    obtain ⟨k, hk, rfl, hWk⟩ := hrel
    have HWk := Lib.hid hWk
    have jr := (hWk.keep.cell (b := jb) (o := 0) jl hjn).trans j0
    have jrl : jb < wr.heap.size := by have := hWk.keep.size; omega
    clear hWk
    by_cases hlt : k < B.length
    · have hki : (k : Int) < (B.length : Int) := by omega
      obtain ⟨g, o, rfl, hr, hg⟩ := hA (by omega)
      go_upto_region 4 with fail
      refine wp_region_still_tail 11 (by kernel_rfl) (by kernel_rfl) ?_
      simp only [List.take_succ_cons, List.take_zero, List.drop_succ_cons, List.drop_zero]
      change wpStill _ _ wr.drew _ _ _
      have jrd : wr.drew.cell? ⟨jb, 0, none⟩ = some (.pointer (some ⟨p, 0, none⟩)) := jr
      have jrdl : jb < wr.drew.heap.size := jrl
      obtain ⟨b, hb⟩ : ∃ b, B[k]? = some b := ⟨_, List.getElem?_eq_getElem hlt⟩
      have hbl := hB b (List.mem_of_getElem? hb)
      have hgd : B.getD k [] = b := by rw [List.getD_eq_getElem?_getD, hb]; rfl
      have hg0 : g < w.heap.size := by
        have h1 : (B.flatMap cellsB)[k * 64]? = (cellsB b)[0]? := flat_at hB hb (j := 0) (by omega)
        rw [show (cellsB b)[0]? = some (.int .u8 b[0]) by unfold cellsB; rw [List.getElem?_map, List.getElem?_eq_getElem (by omega)]; rfl] at h1
        exact World.block_lt_of_cell? w _ (hr _ _ h1)
      have hrb : wr.drew.rangeAt g (o + k * 64) (cellsB (B.getD k [])) := fun j v hv => by
        rw [hgd] at hv
        have hj64 : j < 64 := by
          have := (List.getElem?_eq_some_iff.1 hv).1
          rw [cellsB_len, hbl] at this
          exact this
        have h1 := hr (k * 64 + j) v (by rw [flat_at hB hb hj64]; exact hv)
        rw [Nat.add_assoc]
        exact (HWk.out.keep.drew.cell (b := g) (o := o + (k * 64 + j)) hg0 hg).trans h1
      have HWR := Lib.hid (write_k HWk.out.drew hD HDa.out hB hl hlt hBl g (o + k * 64) 64 hrb hg hg0)
      rw [Int.natCast_add] at HWR
      have hwj : IntKind.i64.wrap ((u : Int) + (k : Int)) = (u : Int) + (k : Int) := wrap64_id _ (by omega) (by omega)
      have hkl : k < B.length := hlt
      clear hr hg hb hbl hgd hrb HWk jr jrl
      iterate 11 still_step
      refine wpStill_nil ?_
      change wpList _ _ _ _ _ wr.drew
      go_wp2_with fail
      refine HWR.out.mono ?_
      rintro e w2 (⟨rfl, hW2⟩ | ⟨rfl, rfl, hW2⟩)
      · have HW2 := Lib.hid hW2
        clear hW2 HWR
        go_wp2_with fail
        go_roundw
        case rel => exact ⟨k + 1, by omega, by go_num, HW2.out⟩
        case measure => simp [intOf]; omega
      · have HW2 := Lib.hid hW2
        clear hW2 HWR
        go_wp2_with fail
        go_ret
        exact ⟨.inr ⟨rfl, k, by omega, HW2.out⟩, HW2.out.keep⟩
    · have hki : ¬ (k : Int) < (B.length : Int) := by omega
      obtain rfl : k = B.length := by omega
      by_cases hn : B.length = 0
      · have hB0 : B = [] := List.eq_nil_of_length_eq_zero hn
        subst hB0
        have HF : Hid ((∃ vp' ca', DiskAt wr p gs vp' (splice D u []) [] false st ca' ∧ (0 ≤ ca' ∧ ca' ≤ 9223372036854775807) ∧ (vp'.ownBlock = vp.ownBlock ∨ ∀ i, vp'.ownBlock = some i → w.heap.size ≤ i)) ∧ Keeps (ownD p gs vp) w wr) := Lib.hid (by
          obtain ⟨⟨vp', P', ca', h1, h2, h3, h4, h5, h6⟩, h7⟩ := HWk.out
          obtain rfl : P' = [] := List.eq_nil_of_length_eq_zero h3
          exact ⟨⟨vp', ca', h1, h5, h6⟩, h7⟩)
        clear HWk
        go_wp2_with fail
        go_ret
        exact ⟨.inl ⟨rfl, HF.out.1⟩, HF.out.2⟩
      · have hni : ¬ (B.length : Int) = 0 := by omega
        have hni2 : ((B.length : Int) == 0) = false := by simpa using hn
        have hni3 : ¬ B = [] := fun e => hn (by rw [e]; rfl)
        have HFL := Lib.hid (flush_k HWk.out)
        clear HWk
        go_wp2_with fail
        refine HFL.out.mono ?_
        rintro e w2 (⟨rfl, hW2⟩ | ⟨rfl, rfl, hW2⟩)
        · have HW2 := Lib.hid hW2
          clear hW2 HFL
          go_wp2_with fail
          go_ret
          exact ⟨.inl ⟨rfl, HW2.out.1⟩, HW2.out.2⟩
        · have HW2 := Lib.hid hW2
          clear hW2 HFL
          go_wp2_with fail
          go_ret
          exact ⟨.inr ⟨rfl, B.length, Nat.le_refl _, HW2.out⟩, HW2.out.keep⟩
end Go.Proofs.YthgfbaekmhpiaaaGreatDoor
namespace Go.Proofs.YthgfbaekmhpiaaaGreatDoor
open Go.RowKit

variable {t : TypeId} {Xs : List Value}
/-- A journal of the records R, on a disk that is not down; nothing is pending. -/
structure OUp (t : TypeId) (Xs : List Value) (w : World) (jb p gs : Nat) (vp : Value) (S R : List (List Int)) (st : Bool) : Prop where
  disk : ∃ ca, DiskAt w p gs vp S [] false st ca ∧ (0 ≤ ca ∧ ca ≤ 9223372036854775807)
  room : S.length ≤ 65536
  recs : Jr R S
  at_ : OA t Xs w jb p (encsOf R).length R.length
  apart : ¬ ownD p gs vp jb
/-- A journal of the records R on a disk that is down; a crash leaves these, or these and r. -/
structure ODn (t : TypeId) (Xs : List Value) (w : World) (jb p gs : Nat) (vp : Value) (N : Nat) (R : List (List Int)) (X : Option (List Int)) : Prop where
  disk : ∃ S P ca, DiskAt w p gs vp S P true true ca ∧ S.length = N ∧ P.length ≤ 100000 ∧ (0 ≤ ca ∧ ca ≤ 9223372036854775807) ∧ ∀ K, (crashed S P K).length = N ∧ (Jr R (crashed S P K) ∨ ∃ r, X = some r ∧ Jr (R ++ [r]) (crashed S P K))
  room : N ≤ 65536
  at_ : OA t Xs w jb p (encsOf R).length R.length
  apart : ¬ ownD p gs vp jb
theorem oadd_down {w : World} {jb p gs : Nat} {vp : Value} {N : Nat} {R : List (List Int)} {X : Option (List Int)} (h : ODn t Xs w jb p gs vp N R X) (s : ByteArray) (hs : s.size ≤ 60000) :
    Calls Tryz.prog 78 #[.pointer (some ⟨jb, 0, none⟩), .string s] w fun e w' => e = .returned (.int .i64 70) ∧ w = w' := by
  have hs' : ¬ (60000 : Int) < (s.size : Int) := by omega
  obtain ⟨S, P, ca, hD, _⟩ := h.disk
  have HDN := Lib.hid (down_any hD)
  have j0 := h.at_.cell 0
  have jl := h.at_.lt
  simp at j0
  clear hD h
  go_enter Tryz.func78, Tryz.ntmps78
  go_wp2_with fail
  refine HDN.out.mono ?_
  rintro e w1 ⟨rfl, rfl⟩
  go_wp2_with fail
  go_ret
  exact ⟨rfl, rfl⟩
theorem OUp.drewN {w : World} {jb p gs : Nat} {vp : Value} {S R : List (List Int)} {st : Bool} (h : OUp t Xs w jb p gs vp S R st) (n : Nat) : OUp t Xs (w.drewN n) jb p gs vp S R st := by
  obtain ⟨⟨ca, h1, h2⟩, h3, h4, h5, h6⟩ := h
  exact ⟨⟨ca, h1.below (below_dr (Below.refl _ _) n), h2⟩, h3, h4, Blk.drewN h5 n, h6⟩
theorem OUp.below {w w' : World} {jb p gs : Nat} {vp : Value} {S R : List (List Int)} {st : Bool} (h : OUp t Xs w jb p gs vp S R st) (hb : Below w.heap.size w w') : OUp t Xs w' jb p gs vp S R st := by
  obtain ⟨⟨ca, h1, h2⟩, h3, h4, h5, h6⟩ := h
  exact ⟨⟨ca, h1.below hb, h2⟩, h3, h4, Blk.below h5 hb (Blk.lt h5), h6⟩
set_option maxRecDepth 100000 in
set_option maxHeartbeats 1000000 in
theorem oadd_full {w : World} {jb p gs : Nat} {vp : Value} {S R : List (List Int)} {st : Bool} (h : OUp t Xs w jb p gs vp S R st) (s : ByteArray) (hs : s.size ≤ 60000) (hf : S.length < (encsOf R).length + nbOf s.size) :
    Calls Tryz.prog 78 #[.pointer (some ⟨jb, 0, none⟩), .string s] w fun e w' => e = .returned (.int .i64 72) ∧ ∃ n, w' = w.drewN n := by
  have hs' : ¬ (60000 : Int) < (s.size : Int) := by omega
  obtain ⟨ca, hD, _⟩ := h.disk
  have HDN := Lib.hid (down_any hD)
  have hu := h.recs.used
  have j0 := h.at_.cell 0
  have j1 := h.at_.cell 1
  have jl := h.at_.lt
  have d0 := hD.blk.cell 0
  have zp := hD.blk.lt
  simp at j0 j1 d0
  have g1 : (S.length : Int) - ((encsOf R).length : Int) < (nbOf s.size : Int) := by omega
  have HBF := Lib.hid (fun W => blocksFor_eq s.size (by omega) W)
  have hrm := h.room
  generalize (encsOf R).length = u at *
  clear hD h
  go_enter Tryz.func78, Tryz.ntmps78
  go_wp2_with fail
  refine HDN.out.mono ?_
  rintro e w1 ⟨rfl, rfl⟩
  clear HDN
  go_upto_region 5 with fail
  go_quiet ((go_at_call 74; exact Calls.quiet_of_same (HBF.out _)))
  go_wp2_with fail
  go_ret
  exact ⟨rfl, nq, rfl⟩
set_option maxRecDepth 100000 in
set_option maxHeartbeats 2000000 in
theorem oadd_any {w : World} {jb p gs : Nat} {vp : Value} {S R : List (List Int)} {st : Bool} (h : OUp t Xs w jb p gs vp S R st) (s : ByteArray) (hs : s.size ≤ 60000) (hf : (encsOf R).length + nbOf s.size ≤ S.length) :
    Calls Tryz.prog 78 #[.pointer (some ⟨jb, 0, none⟩), .string s] w fun e w' =>
      ((e = .returned (.int .i64 0) ∧ ∃ vp', OUp t Xs w' jb p gs vp' (splice S (encsOf R).length (encB (bsOf s))) (R ++ [bsOf s]) st ∧ newB w vp vp') ∨ (st = true ∧ e = .returned (.int .i64 70) ∧ ∃ vp', ODn t Xs w' jb p gs vp' S.length R (some (bsOf s)) ∧ newB w vp vp')) ∧ Keeps (fun i => ownD p gs vp i ∨ i = jb) w w' := by
  have hs' : ¬ (60000 : Int) < (s.size : Int) := by omega
  obtain ⟨ca, hD, hca⟩ := h.disk
  have HDN := Lib.hid (down_any hD)
  have hu := h.recs.used
  have j0 := h.at_.cell 0
  have j1 := h.at_.cell 1
  have jl := h.at_.lt
  have d0 := hD.blk.cell 0
  have zp := hD.blk.lt
  simp at j0 j1 d0
  obtain ⟨u, hue⟩ : ∃ u, u = (encsOf R).length := ⟨_, rfl⟩
  have HUE := Lib.hid hue
  rw [← hue] at j1 hf hu
  clear hue
  have g1 : ¬ (S.length : Int) - (u : Int) < (nbOf s.size : Int) := by omega
  have HBF := Lib.hid (fun W => blocksFor_eq s.size (by omega) W)
  have hrm := h.room
  have HJ := Lib.hid h
  clear hD h
  go_enter Tryz.func78, Tryz.ntmps78
  go_wp2_with fail
  refine HDN.out.mono ?_
  rintro e w1 ⟨rfl, rfl⟩
  clear HDN
  go_upto_region 5 with fail
  go_quiet ((go_at_call 74; exact Calls.quiet_of_same (HBF.out _)))
  have HJ1 := Lib.hid (HJ.out.drewN nq)
  have HK1 := Lib.hid ((Keeps.refl (fun i => ownD p gs vp i ∨ i = jb) w).drewN nq)
  have hz1 : w.heap.size ≤ (w.drewN nq).heap.size := Nat.le_refl _
  generalize w.drewN nq = w1 at HJ1 HK1 hz1 ⊢
  clear HBF j0 j1 jl d0 zp
  go_wp2_with fail
  refine (blocksOf_any s hs w1).mono ?_
  rintro e w2 ⟨gB, rfl, kB, hgB, hB2⟩
  have HJ2 := Lib.hid (HJ1.out.below hB2)
  have HK2 := Lib.hid (HK1.out.trans (Keeps.of_new (S := fun _ => False) hB2) (fun _ _ e => e.elim))
  have hz2 : w1.heap.size ≤ w2.heap.size := hB2.size
  have hbl := encB_len (bsOf s)
  rw [bsOf_len] at hbl
  have hrB : w2.rangeAt gB 0 ((encB (bsOf s)).flatMap cellsB) := fun j v hv => by
    rw [Nat.zero_add, kB.cell j, List.getElem?_toArray, hv]
  have HRB := Lib.hid hrB
  have HKB := Lib.hid kB
  have hgBl := kB.lt
  have hnb := nb_pos s.size
  have j1 := HJ2.out.at_.cell 1
  have jl := HJ2.out.at_.lt
  rw [← HUE.out] at j1
  simp at j1
  clear hrB kB hB2 HJ1 HK1
  go_upto_region 8 with fail
  refine wp_region_still_tail 8 (by kernel_rfl) (by kernel_rfl) ?_
  simp only [List.take_succ_cons, List.take_zero, List.drop_succ_cons, List.drop_zero]
  change wpStill _ _ w2.drew _ _ _
  have j1d : w2.drew.cell? ⟨jb, 1, none⟩ = some (.int .i64 (u : Int)) := j1
  have jld : jb < w2.drew.heap.size := jl
  have hwu : IntKind.i64.wrap ((u : Int) + 1) = (u : Int) + 1 := wrap64_id _ (by omega) (by omega)
  have hn1 : 1 ≤ nbOf s.size := hnb
  have hn2 : (1 : Int) ≤ (nbOf s.size : Int) := by omega
  clear j1 jl
  iterate 8 still_step
  refine wpStill_nil ?_
  change wpList _ _ _ _ _ w2.drew
  obtain ⟨A1, hA1⟩ : ∃ A1 : Option Addr, A1 = if nbOf s.size = 1 then some ⟨gB, 0, none⟩ else some ⟨gB, 64, none⟩ := ⟨_, rfl⟩
  rw [← hA1]
  obtain ⟨ca2, hD2, hca2⟩ := HJ2.out.disk
  have hown : ¬ ownD p gs vp gB := fun e => by
    have hdw := HJ.out.disk
    obtain ⟨ca0, hD0, _⟩ := hdw
    have := ownD_lt hD0 e
    omega
  have hjg : jb ≠ gB := by have := HJ.out.at_.lt; omega
  have hdl : ((encB (bsOf s)).drop 1).length = nbOf s.size - 1 := by rw [List.length_drop, hbl]
  have hok := HJ2.out.recs
  have hW1 := owrite_any (hD2.below (w' := w2.drew) (Below.refl _ _).drew) hca2 hrm (show OA t Xs w2.drew jb p (encsOf R).length R.length from Blk.drew HJ2.out.at_) HJ2.out.apart (u + 1) ((encB (bsOf s)).drop 1) (fun b hb => (enc_rest hb).1) (by omega) (by omega) A1 (nbOf s.size - 1) (by omega) (fun h0 => by
    rw [hdl] at h0
    rw [hA1, if_neg (by omega)]
    refine ⟨gB, 64, rfl, fun j v hv => ?_, hown⟩
    have h1 := HRB.out (64 + j) v (by
      obtain ⟨b, B, hbB, hb64⟩ := enc_cons (bsOf s)
      rw [hbB] at hv ⊢
      rw [List.drop_succ_cons, List.drop_zero] at hv
      rw [List.flatMap_cons, List.getElem?_append_right (by rw [cellsB_len, hb64]; omega), cellsB_len, hb64, Nat.add_sub_cancel_left]
      exact hv)
    rw [Nat.zero_add] at h1
    exact h1)
  rw [hdl, Int.natCast_add] at hW1
  have HW1 := Lib.hid hW1
  have HOW := Lib.hid hown
  clear hW1 hA1 hD2 hown hok
  go_wp2_with fail
  refine HW1.out.mono ?_
  rintro e w3 ⟨(⟨rfl, vp3, ca3, hD3, hca3, hv3⟩ | ⟨rfl, rfl, k, hk, hWK⟩), hK3⟩
  rotate_left
  · have HF : Hid ((∃ vp', ODn t Xs w3 jb p gs vp' S.length R (some (bsOf s)) ∧ newB w vp vp') ∧ Keeps (fun i => ownD p gs vp i ∨ i = jb) w w3) := Lib.hid (by
      rw [HUE.out] at hWK
      obtain ⟨vp', S', P', ca', q1, q2, q3, q4, q5, q6⟩ := down_rest HJ2.out.recs (by rw [← HUE.out, bsOf_len]; exact hf) hWK (by rw [hdl]; exact hk)
      refine ⟨⟨vp', ⟨⟨S', P', ca', q1, q2, by omega, q4, fun K => ⟨by rw [crashed_len, q2], .inl (q6 K)⟩⟩, hrm, Blk.keep (Blk.drew HJ2.out.at_) hK3 HJ2.out.apart, apart_new HJ2.out.apart q5 (by have := HJ2.out.at_.lt; exact this)⟩, newB_up q5 (by show w.heap.size ≤ w2.heap.size; omega)⟩, HK2.out.drew.trans (hK3.mono (fun i _ e => .inl e)) (fun i _ e => e)⟩)
    clear hWK hK3 HW1
    go_wp2_with fail
    go_ret
    exact ⟨.inr ⟨rfl, HF.out.1⟩, HF.out.2⟩
  · have hjA3 : OA t Xs w3 jb p (encsOf R).length R.length := Blk.keep (Blk.drew HJ2.out.at_) hK3 HJ2.out.apart
    have hj3 : ¬ ownD p gs vp3 jb := apart_new HJ2.out.apart hv3 (by have := HJ2.out.at_.lt; exact this)
    have hg3 : ¬ ownD p gs vp3 gB := apart_new HOW.out hv3 (by exact hgBl)
    have hgw3 : gB < w3.heap.size := Nat.lt_of_lt_of_le hgBl hK3.size
    have hr3 : w3.rangeAt gB 0 ((encB (bsOf s)).flatMap cellsB) := fun j v hv => (hK3.cell (b := gB) (o := 0 + j) hgBl HOW.out).trans (HRB.out j v hv)
    have hsl : (splice S (u + 1) ((encB (bsOf s)).drop 1)).length = S.length := length_splice _ _ _ (by omega)
    have htl : ((encB (bsOf s)).take 1).length = 1 := by rw [List.length_take]; omega
    have hW2 := owrite_any (hD3.below (w' := w3.drew) (Below.refl _ _).drew) hca3 (by omega) (show OA t Xs w3.drew jb p (encsOf R).length R.length from Blk.drew hjA3) hj3 u ((encB (bsOf s)).take 1) (fun b hb => encB_all b (List.mem_of_mem_take hb)) (by omega) (by omega) (some ⟨gB, 0, none⟩) (nbOf s.size) (by omega) (fun _ => ⟨gB, 0, rfl, fun j v hv => by
      obtain ⟨b, B, hbB, hb64⟩ := enc_cons (bsOf s)
      refine hr3 j v ?_
      rw [hbB] at hv ⊢
      have hjl := (List.getElem?_eq_some_iff.1 hv).1
      rw [show (b :: B).take 1 = [b] from rfl, List.flatMap_singleton] at hv hjl
      rw [List.flatMap_cons, List.getElem?_append_left hjl]
      exact hv, hg3⟩)
    rw [htl] at hW2
    have HW2 := Lib.hid hW2
    have HKw3 := Lib.hid (HK2.out.drew.trans (hK3.mono (fun i _ e => .inl e)) (fun i _ e => e))
    have hz3 : w.heap.size ≤ w3.heap.size := by have h1 := hK3.size; have h2 : w2.drew.heap.size = w2.heap.size := rfl; omega
    have HNB3 : Hid (newB w vp vp3) := Lib.hid (newB_up hv3 (by show w.heap.size ≤ w2.heap.size; omega))
    have HJA3 := Lib.hid hjA3
    have HJ3 := Lib.hid hj3
    have j1 := hjA3.cell 1
    have jl := hjA3.lt
    rw [← HUE.out] at j1
    simp at j1
    clear hjA3 hj3 hg3 hgw3 hr3 hW2 hD3 hv3 hK3 HW1
    go_upto_region 11 with fail
    refine wp_region_still_tail 7 (by kernel_rfl) (by kernel_rfl) ?_
    simp only [List.take_succ_cons, List.take_zero, List.drop_succ_cons, List.drop_zero]
    change wpStill _ _ w3.drew _ _ _
    have j1e : w3.drew.cell? ⟨jb, 1, none⟩ = some (.int .i64 (u : Int)) := j1
    have jle : jb < w3.drew.heap.size := jl
    clear j1 jl j1d jld
    iterate 7 still_step
    refine wpStill_nil ?_
    change wpList _ _ _ _ _ w3.drew
    go_wp2_with fail
    refine HW2.out.mono ?_
    rintro e w4 ⟨(⟨rfl, vp4, ca4, hD4, hca4, hv4⟩ | ⟨rfl, rfl, k, hk, hWK⟩), hK4⟩
    · have hjA4 : OA t Xs w4 jb p (encsOf R).length R.length := Blk.keep (Blk.drew HJA3.out) hK4 HJ3.out
      have hj4 : ¬ ownD p gs vp4 jb := apart_new HJ3.out hv4 (by have := HJA3.out.lt; exact this)
      have hDe : splice (splice S (u + 1) ((encB (bsOf s)).drop 1)) u ((encB (bsOf s)).take 1) = splice S u (encB (bsOf s)) := by
        have h0 : (encB (bsOf s))[0]? = some (blkJ (bsOf s) 0 1) := by rw [encB_at (by rw [bsOf_len]; exact hnb), if_pos rfl]
        have h1 := splice_at (splice S (u + 1) ((encB (bsOf s)).drop 1)) u (encB (bsOf s)) (k := 0) h0 (by omega)
        rw [Nat.zero_add] at h1
        rw [h1, List.take_zero, splice_nil, Nat.add_zero]
        exact splice_two (by rw [bsOf_len]; exact hf)
      rw [hDe] at hD4
      have hks : Keeps (fun i => i = jb) w4 ((w4.setCell ⟨jb, 1, none⟩ (.int .i64 ((u : Int) + (nbOf s.size : Int)))).setCell ⟨jb, 2, none⟩ (.int .i64 ((R.length : Int) + 1))) := ((Keeps.refl (fun i => i = jb) w4).setCell (p := ⟨jb, 1, none⟩) (fun _ => rfl) _).setCell (p := ⟨jb, 2, none⟩) (fun _ => rfl) _
      have HF : Hid ((∃ vp', OUp t Xs ((w4.setCell ⟨jb, 1, none⟩ (.int .i64 ((u : Int) + (nbOf s.size : Int)))).setCell ⟨jb, 2, none⟩ (.int .i64 ((R.length : Int) + 1))) jb p gs vp' (splice S (encsOf R).length (encB (bsOf s))) (R ++ [bsOf s]) st ∧ newB w vp vp') ∧ Keeps (fun i => ownD p gs vp i ∨ i = jb) w ((w4.setCell ⟨jb, 1, none⟩ (.int .i64 ((u : Int) + (nbOf s.size : Int)))).setCell ⟨jb, 2, none⟩ (.int .i64 ((R.length : Int) + 1)))) := Lib.hid (by
        rw [HUE.out] at hD4 hks ⊢
        refine ⟨⟨vp4, ⟨⟨ca4, hD4.keep hks (fun i hi e => hj4 (by rw [← e]; exact hi)), hca4⟩, by rw [length_splice _ _ _ (by rw [hbl, ← HUE.out]; exact hf)]; exact hrm, HJ2.out.recs.add ⟨by rw [bsOf_len]; exact hs, bsOf_range s⟩ (by rw [bsOf_len, ← HUE.out]; exact hf), ?_, hj4⟩, newB_two HNB3.out hv4 (by exact hz3)⟩, ?_⟩
        · rw [encsOf_snoc, List.length_append, List.length_append, hbl]
          have h1 := hjA4.set1 (((encsOf R).length : Int) + (nbOf s.size : Int))
          rw [← Int.natCast_add] at h1
          have := OA.set2 h1 ((R.length : Int) + 1)
          unfold OA
          rw [Int.natCast_add, Int.natCast_add]
          exact this
        · exact ((HKw3.out.drew.trans hK4 (fun i hi e => by
            rcases e with e | e | e
            · exact .inl (.inl e)
            · exact .inl (.inr (.inl e))
            · rcases HNB3.out with h | h
              · exact .inl (.inr (.inr (by rw [← h]; exact e)))
              · have := h i e; omega)).trans hks (fun i _ e => .inr e)))
      have j1 := hjA4.cell 1
      have j2 := hjA4.cell 2
      have jf1 := hjA4.frozen 1
      have jf2 := hjA4.frozen 2
      have jl := hjA4.lt
      rw [← HUE.out] at j1
      simp at j1 j2
      have hul : u + nbOf s.size ≤ 65536 := by omega
      have hRl : R.length ≤ 65536 := by have := encsOf_len R; have := HUE.out; omega
      clear hjA4 hj4 hDe hD4 hks hv4 hK4 HW2 j1e jle
      go_wp2_with fail
      go_ret
      exact ⟨.inl ⟨rfl, HF.out.1⟩, HF.out.2⟩
    · have HF : Hid ((∃ vp', ODn t Xs w4 jb p gs vp' S.length R (some (bsOf s)) ∧ newB w vp vp') ∧ Keeps (fun i => ownD p gs vp i ∨ i = jb) w w4) := Lib.hid (by
        rw [HUE.out] at hWK
        obtain ⟨vp', S', P', ca', q1, q2, q3, q4, q5, q6⟩ := down_head HJ2.out.recs ⟨by rw [bsOf_len]; exact hs, bsOf_range s⟩ (by rw [← HUE.out, bsOf_len]; exact hf) hWK (by omega)
        refine ⟨⟨vp', ⟨⟨S', P', ca', q1, q2, by omega, q4, fun K => ⟨by rw [crashed_len, q2], (q6 K).imp id (fun h => ⟨_, rfl, h⟩)⟩⟩, hrm, Blk.keep (Blk.drew HJA3.out) hK4 HJ3.out, apart_new HJ3.out q5 (by have := HJA3.out.lt; exact this)⟩, newB_two HNB3.out q5 (by exact hz3)⟩, HKw3.out.drew.trans hK4 (fun i hi e => by
            rcases e with e | e | e
            · exact .inl (.inl e)
            · exact .inl (.inr (.inl e))
            · rcases HNB3.out with h | h
              · exact .inl (.inr (.inr (by rw [← h]; exact e)))
              · have := h i e; omega)⟩)
      clear hWK hK4 HW2
      go_wp2_with fail
      go_ret
      exact ⟨.inr ⟨rfl, HF.out.1⟩, HF.out.2⟩
end Go.Proofs.YthgfbaekmhpiaaaGreatDoor
