/- The contract of add of a journal: the walk. Conditions: the disk and the journal lie in memory. -/
import Derived.Test.YthieonekjmdelaaJAdd
namespace Go.Proofs.Ythieonekjmdelaa
open Go.RowKit

theorem add_long (jb : Nat) (s : ByteArray) (hs : 60000 < s.size) (w : World) :
    Calls Try.prog 30 #[.pointer (some ⟨jb, 0, none⟩), .string s] w fun e w' => e = .returned (.int .i64 2) ∧ w = w' := by
  have hs' : (60000 : Int) < (s.size : Int) := by omega
  go_enter Try.func30, Try.ntmps30
  go_wp2_with fail
  go_ret
  exact ⟨rfl, rfl⟩
theorem add_down {w : World} {jb p gs : Nat} {vp : Value} {N : Nat} {R : List (List Int)} {X : Option (List Int)} (h : JDn w jb p gs vp N R X) (s : ByteArray) (hs : s.size ≤ 60000) :
    Calls Try.prog 30 #[.pointer (some ⟨jb, 0, none⟩), .string s] w fun e w' => e = .returned (.int .i64 70) ∧ w = w' := by
  have hs' : ¬ (60000 : Int) < (s.size : Int) := by omega
  obtain ⟨S, P, ca, hD, _⟩ := h.disk
  have HDN := Lib.hid (down_any hD)
  have j0 := h.at_.cell 0
  have jl := h.at_.lt
  simp at j0
  clear hD h
  go_enter Try.func30, Try.ntmps30
  go_wp2_with fail
  refine HDN.out.mono ?_
  rintro e w1 ⟨rfl, rfl⟩
  go_wp2_with fail
  go_ret
  exact ⟨rfl, rfl⟩
theorem JUp.drewN {w : World} {jb p gs : Nat} {vp : Value} {S R : List (List Int)} {st : Bool} (h : JUp w jb p gs vp S R st) (n : Nat) : JUp (w.drewN n) jb p gs vp S R st := by
  obtain ⟨⟨ca, h1, h2⟩, h3, h4, h5, h6⟩ := h
  exact ⟨⟨ca, h1.below (below_dr (Below.refl _ _) n), h2⟩, h3, h4, Blk.drewN h5 n, h6⟩
theorem JUp.below {w w' : World} {jb p gs : Nat} {vp : Value} {S R : List (List Int)} {st : Bool} (h : JUp w jb p gs vp S R st) (hb : Below w.heap.size w w') : JUp w' jb p gs vp S R st := by
  obtain ⟨⟨ca, h1, h2⟩, h3, h4, h5, h6⟩ := h
  exact ⟨⟨ca, h1.below hb, h2⟩, h3, h4, Blk.below h5 hb (Blk.lt h5), h6⟩
theorem ownD_lt {w : World} {p gs : Nat} {vp : Value} {S : List (List Int)} {P : List PW} {dn st : Bool} {ca : Int} (h : DiskAt w p gs vp S P dn st ca) {i : Nat} (hi : ownD p gs vp i) : i < w.heap.size := by
  rcases hi with e | e | e
  · rw [e]; exact h.blk.lt
  · rw [e]; exact h.sec.lt
  · exact (World.ownsRow.lt h.pend i e).2
theorem apart_new {w0 : World} {p gs : Nat} {vp vp' : Value} {j : Nat} (h : ¬ ownD p gs vp j) (hv : newB w0 vp vp') (hj : j < w0.heap.size) : ¬ ownD p gs vp' j := fun e => by
  rcases e with e | e | e
  · exact h (.inl e)
  · exact h (.inr (.inl e))
  · rcases hv with hv | hv
    · exact h (.inr (.inr (by rw [← hv]; exact e)))
    · have := hv j e; omega
theorem newB_up {w0 w : World} {vp vp' : Value} (h : newB w0 vp vp') (hw : w.heap.size ≤ w0.heap.size) : newB w vp vp' := by
  rcases h with h | h
  · exact .inl h
  · exact .inr (fun i hi => Nat.le_trans hw (h i hi))
theorem newB_two {w w1 : World} {vp vp1 vp2 : Value} (h1 : newB w vp vp1) (h2 : newB w1 vp1 vp2) (hw : w.heap.size ≤ w1.heap.size) : newB w vp vp2 := by
  rcases h2 with h | h
  · rcases h1 with g | g
    · exact .inl (h.trans g)
    · exact .inr (fun i hi => g i (by rw [← h]; exact hi))
  · exact .inr (fun i hi => Nat.le_trans hw (h i hi))
theorem enc_cons (r : List Int) : ∃ b B, encB r = b :: B ∧ b.length = 64 := by
  cases hE : encB r with
  | nil => have := encB_len r; have := nb_pos r.length; rw [hE] at *; simp at *; omega
  | cons b B => exact ⟨b, B, rfl, encB_all b (by rw [hE]; exact List.mem_cons_self ..)⟩
set_option maxRecDepth 100000 in
set_option maxHeartbeats 1000000 in
theorem add_full {w : World} {jb p gs : Nat} {vp : Value} {S R : List (List Int)} {st : Bool} (h : JUp w jb p gs vp S R st) (s : ByteArray) (hs : s.size ≤ 60000) (hf : S.length < (encsOf R).length + nbOf s.size) :
    Calls Try.prog 30 #[.pointer (some ⟨jb, 0, none⟩), .string s] w fun e w' => e = .returned (.int .i64 72) ∧ ∃ n, w' = w.drewN n := by
  have hs' : ¬ (60000 : Int) < (s.size : Int) := by omega
  obtain ⟨ca, hD, _⟩ := h.disk
  have HDN := Lib.hid (down_any hD)
  have hu := h.recs.used
  have j0 := h.at_.cell 0
  have j1 := h.at_.cell 1
  have jl := h.at_.lt
  have d0 := hD.blk.cell 0
  have zp := hD.blk.lt
  simp at j0 j1 d0
  have g1 : (S.length : Int) - ((encsOf R).length : Int) < (nbOf s.size : Int) := by omega
  have HBF := Lib.hid (fun W => blocksFor_eq s.size (by omega) W)
  have hrm := h.room
  generalize (encsOf R).length = u at *
  clear hD h
  go_enter Try.func30, Try.ntmps30
  go_wp2_with fail
  refine HDN.out.mono ?_
  rintro e w1 ⟨rfl, rfl⟩
  clear HDN
  go_upto_region 5 with fail
  go_quiet ((go_at_call 29; exact Calls.quiet_of_same (HBF.out _)))
  go_wp2_with fail
  go_ret
  exact ⟨rfl, nq, rfl⟩
set_option maxRecDepth 100000 in
set_option maxHeartbeats 2000000 in
theorem add_any {w : World} {jb p gs : Nat} {vp : Value} {S R : List (List Int)} {st : Bool} (h : JUp w jb p gs vp S R st) (s : ByteArray) (hs : s.size ≤ 60000) (hf : (encsOf R).length + nbOf s.size ≤ S.length) :
    Calls Try.prog 30 #[.pointer (some ⟨jb, 0, none⟩), .string s] w fun e w' =>
      ((e = .returned (.int .i64 0) ∧ ∃ vp', JUp w' jb p gs vp' (splice S (encsOf R).length (encB (bsOf s))) (R ++ [bsOf s]) st ∧ newB w vp vp') ∨ (st = true ∧ e = .returned (.int .i64 70) ∧ ∃ vp', JDn w' jb p gs vp' S.length R (some (bsOf s)) ∧ newB w vp vp')) ∧ Keeps (fun i => ownD p gs vp i ∨ i = jb) w w' := by
  have hs' : ¬ (60000 : Int) < (s.size : Int) := by omega
  obtain ⟨ca, hD, hca⟩ := h.disk
  have HDN := Lib.hid (down_any hD)
  have hu := h.recs.used
  have j0 := h.at_.cell 0
  have j1 := h.at_.cell 1
  have jl := h.at_.lt
  have d0 := hD.blk.cell 0
  have zp := hD.blk.lt
  simp at j0 j1 d0
  obtain ⟨u, hue⟩ : ∃ u, u = (encsOf R).length := ⟨_, rfl⟩
  have HUE := Lib.hid hue
  rw [← hue] at j1 hf hu
  clear hue
  have g1 : ¬ (S.length : Int) - (u : Int) < (nbOf s.size : Int) := by omega
  have HBF := Lib.hid (fun W => blocksFor_eq s.size (by omega) W)
  have hrm := h.room
  have HJ := Lib.hid h
  clear hD h
  go_enter Try.func30, Try.ntmps30
  go_wp2_with fail
  refine HDN.out.mono ?_
  rintro e w1 ⟨rfl, rfl⟩
  clear HDN
  go_upto_region 5 with fail
  go_quiet ((go_at_call 29; exact Calls.quiet_of_same (HBF.out _)))
  have HJ1 := Lib.hid (HJ.out.drewN nq)
  have HK1 := Lib.hid ((Keeps.refl (fun i => ownD p gs vp i ∨ i = jb) w).drewN nq)
  have hz1 : w.heap.size ≤ (w.drewN nq).heap.size := Nat.le_refl _
  generalize w.drewN nq = w1 at HJ1 HK1 hz1 ⊢
  clear HBF j0 j1 jl d0 zp
  go_wp2_with fail
  refine (blocksOf_any s hs w1).mono ?_
  rintro e w2 ⟨gB, rfl, kB, hgB, hB2⟩
  have HJ2 := Lib.hid (HJ1.out.below hB2)
  have HK2 := Lib.hid (HK1.out.trans (Keeps.of_new (S := fun _ => False) hB2) (fun _ _ e => e.elim))
  have hz2 : w1.heap.size ≤ w2.heap.size := hB2.size
  have hbl := encB_len (bsOf s)
  rw [bsOf_len] at hbl
  have hrB : w2.rangeAt gB 0 ((encB (bsOf s)).flatMap cellsB) := fun j v hv => by
    rw [Nat.zero_add, kB.cell j, List.getElem?_toArray, hv]
  have HRB := Lib.hid hrB
  have HKB := Lib.hid kB
  have hgBl := kB.lt
  have hnb := nb_pos s.size
  have j1 := HJ2.out.at_.cell 1
  have jl := HJ2.out.at_.lt
  rw [← HUE.out] at j1
  simp at j1
  clear hrB kB hB2 HJ1 HK1
  go_upto_region 8 with fail
  refine wp_region_still_tail 8 (by kernel_rfl) (by kernel_rfl) ?_
  simp only [List.take_succ_cons, List.take_zero, List.drop_succ_cons, List.drop_zero]
  change wpStill _ _ w2.drew _ _ _
  have j1d : w2.drew.cell? ⟨jb, 1, none⟩ = some (.int .i64 (u : Int)) := j1
  have jld : jb < w2.drew.heap.size := jl
  have hwu : IntKind.i64.wrap ((u : Int) + 1) = (u : Int) + 1 := wrap64_id _ (by omega) (by omega)
  have hn1 : 1 ≤ nbOf s.size := hnb
  have hn2 : (1 : Int) ≤ (nbOf s.size : Int) := by omega
  clear j1 jl
  iterate 8 still_step
  refine wpStill_nil ?_
  change wpList _ _ _ _ _ w2.drew
  obtain ⟨A1, hA1⟩ : ∃ A1 : Option Addr, A1 = if nbOf s.size = 1 then some ⟨gB, 0, none⟩ else some ⟨gB, 64, none⟩ := ⟨_, rfl⟩
  rw [← hA1]
  obtain ⟨ca2, hD2, hca2⟩ := HJ2.out.disk
  have hown : ¬ ownD p gs vp gB := fun e => by
    have hdw := HJ.out.disk
    obtain ⟨ca0, hD0, _⟩ := hdw
    have := ownD_lt hD0 e
    omega
  have hjg : jb ≠ gB := by have := HJ.out.at_.lt; omega
  have hdl : ((encB (bsOf s)).drop 1).length = nbOf s.size - 1 := by rw [List.length_drop, hbl]
  have hok := HJ2.out.recs
  have hW1 := jwrite_any (hD2.below (w' := w2.drew) (Below.refl _ _).drew) hca2 hrm (show JAt w2.drew jb p (encsOf R).length R.length from Blk.drew HJ2.out.at_) HJ2.out.apart (u + 1) ((encB (bsOf s)).drop 1) (fun b hb => (enc_rest hb).1) (by omega) (by omega) A1 (nbOf s.size - 1) (by omega) (fun h0 => by
    rw [hdl] at h0
    rw [hA1, if_neg (by omega)]
    refine ⟨gB, 64, rfl, fun j v hv => ?_, hown⟩
    have h1 := HRB.out (64 + j) v (by
      obtain ⟨b, B, hbB, hb64⟩ := enc_cons (bsOf s)
      rw [hbB] at hv ⊢
      rw [List.drop_succ_cons, List.drop_zero] at hv
      rw [List.flatMap_cons, List.getElem?_append_right (by rw [cellsB_len, hb64]; omega), cellsB_len, hb64, Nat.add_sub_cancel_left]
      exact hv)
    rw [Nat.zero_add] at h1
    exact h1)
  rw [hdl, Int.natCast_add] at hW1
  have HW1 := Lib.hid hW1
  have HOW := Lib.hid hown
  clear hW1 hA1 hD2 hown hok
  go_wp2_with fail
  refine HW1.out.mono ?_
  rintro e w3 ⟨(⟨rfl, vp3, ca3, hD3, hca3, hv3⟩ | ⟨rfl, rfl, k, hk, hWK⟩), hK3⟩
  rotate_left
  · have HF : Hid ((∃ vp', JDn w3 jb p gs vp' S.length R (some (bsOf s)) ∧ newB w vp vp') ∧ Keeps (fun i => ownD p gs vp i ∨ i = jb) w w3) := Lib.hid (by
      rw [HUE.out] at hWK
      obtain ⟨vp', S', P', ca', q1, q2, q3, q4, q5, q6⟩ := down_rest HJ2.out.recs (by rw [← HUE.out, bsOf_len]; exact hf) hWK (by rw [hdl]; exact hk)
      refine ⟨⟨vp', ⟨⟨S', P', ca', q1, q2, by omega, q4, fun K => ⟨by rw [crashed_len, q2], .inl (q6 K)⟩⟩, hrm, Blk.keep (Blk.drew HJ2.out.at_) hK3 HJ2.out.apart, apart_new HJ2.out.apart q5 (by have := HJ2.out.at_.lt; exact this)⟩, newB_up q5 (by show w.heap.size ≤ w2.heap.size; omega)⟩, HK2.out.drew.trans (hK3.mono (fun i _ e => .inl e)) (fun i _ e => e)⟩)
    clear hWK hK3 HW1
    go_wp2_with fail
    go_ret
    exact ⟨.inr ⟨rfl, HF.out.1⟩, HF.out.2⟩
  · have hjA3 : JAt w3 jb p (encsOf R).length R.length := Blk.keep (Blk.drew HJ2.out.at_) hK3 HJ2.out.apart
    have hj3 : ¬ ownD p gs vp3 jb := apart_new HJ2.out.apart hv3 (by have := HJ2.out.at_.lt; exact this)
    have hg3 : ¬ ownD p gs vp3 gB := apart_new HOW.out hv3 (by exact hgBl)
    have hgw3 : gB < w3.heap.size := Nat.lt_of_lt_of_le hgBl hK3.size
    have hr3 : w3.rangeAt gB 0 ((encB (bsOf s)).flatMap cellsB) := fun j v hv => (hK3.cell (b := gB) (o := 0 + j) hgBl HOW.out).trans (HRB.out j v hv)
    have hsl : (splice S (u + 1) ((encB (bsOf s)).drop 1)).length = S.length := length_splice _ _ _ (by omega)
    have htl : ((encB (bsOf s)).take 1).length = 1 := by rw [List.length_take]; omega
    have hW2 := jwrite_any (hD3.below (w' := w3.drew) (Below.refl _ _).drew) hca3 (by omega) (show JAt w3.drew jb p (encsOf R).length R.length from Blk.drew hjA3) hj3 u ((encB (bsOf s)).take 1) (fun b hb => encB_all b (List.mem_of_mem_take hb)) (by omega) (by omega) (some ⟨gB, 0, none⟩) (nbOf s.size) (by omega) (fun _ => ⟨gB, 0, rfl, fun j v hv => by
      obtain ⟨b, B, hbB, hb64⟩ := enc_cons (bsOf s)
      refine hr3 j v ?_
      rw [hbB] at hv ⊢
      have hjl := (List.getElem?_eq_some_iff.1 hv).1
      rw [show (b :: B).take 1 = [b] from rfl, List.flatMap_singleton] at hv hjl
      rw [List.flatMap_cons, List.getElem?_append_left hjl]
      exact hv, hg3⟩)
    rw [htl] at hW2
    have HW2 := Lib.hid hW2
    have HKw3 := Lib.hid (HK2.out.drew.trans (hK3.mono (fun i _ e => .inl e)) (fun i _ e => e))
    have hz3 : w.heap.size ≤ w3.heap.size := by have h1 := hK3.size; have h2 : w2.drew.heap.size = w2.heap.size := rfl; omega
    have HNB3 : Hid (newB w vp vp3) := Lib.hid (newB_up hv3 (by show w.heap.size ≤ w2.heap.size; omega))
    have HJA3 := Lib.hid hjA3
    have HJ3 := Lib.hid hj3
    have j1 := hjA3.cell 1
    have jl := hjA3.lt
    rw [← HUE.out] at j1
    simp at j1
    clear hjA3 hj3 hg3 hgw3 hr3 hW2 hD3 hv3 hK3 HW1
    go_upto_region 11 with fail
    refine wp_region_still_tail 7 (by kernel_rfl) (by kernel_rfl) ?_
    simp only [List.take_succ_cons, List.take_zero, List.drop_succ_cons, List.drop_zero]
    change wpStill _ _ w3.drew _ _ _
    have j1e : w3.drew.cell? ⟨jb, 1, none⟩ = some (.int .i64 (u : Int)) := j1
    have jle : jb < w3.drew.heap.size := jl
    clear j1 jl j1d jld
    iterate 7 still_step
    refine wpStill_nil ?_
    change wpList _ _ _ _ _ w3.drew
    go_wp2_with fail
    refine HW2.out.mono ?_
    rintro e w4 ⟨(⟨rfl, vp4, ca4, hD4, hca4, hv4⟩ | ⟨rfl, rfl, k, hk, hWK⟩), hK4⟩
    · have hjA4 : JAt w4 jb p (encsOf R).length R.length := Blk.keep (Blk.drew HJA3.out) hK4 HJ3.out
      have hj4 : ¬ ownD p gs vp4 jb := apart_new HJ3.out hv4 (by have := HJA3.out.lt; exact this)
      have hDe : splice (splice S (u + 1) ((encB (bsOf s)).drop 1)) u ((encB (bsOf s)).take 1) = splice S u (encB (bsOf s)) := by
        have h0 : (encB (bsOf s))[0]? = some (blkJ (bsOf s) 0 1) := by rw [encB_at (by rw [bsOf_len]; exact hnb), if_pos rfl]
        have h1 := splice_at (splice S (u + 1) ((encB (bsOf s)).drop 1)) u (encB (bsOf s)) (k := 0) h0 (by omega)
        rw [Nat.zero_add] at h1
        rw [h1, List.take_zero, splice_nil, Nat.add_zero]
        exact splice_two (by rw [bsOf_len]; exact hf)
      rw [hDe] at hD4
      have hks : Keeps (fun i => i = jb) w4 ((w4.setCell ⟨jb, 1, none⟩ (.int .i64 ((u : Int) + (nbOf s.size : Int)))).setCell ⟨jb, 2, none⟩ (.int .i64 ((R.length : Int) + 1))) := ((Keeps.refl (fun i => i = jb) w4).setCell (p := ⟨jb, 1, none⟩) (fun _ => rfl) _).setCell (p := ⟨jb, 2, none⟩) (fun _ => rfl) _
      have HF : Hid ((∃ vp', JUp ((w4.setCell ⟨jb, 1, none⟩ (.int .i64 ((u : Int) + (nbOf s.size : Int)))).setCell ⟨jb, 2, none⟩ (.int .i64 ((R.length : Int) + 1))) jb p gs vp' (splice S (encsOf R).length (encB (bsOf s))) (R ++ [bsOf s]) st ∧ newB w vp vp') ∧ Keeps (fun i => ownD p gs vp i ∨ i = jb) w ((w4.setCell ⟨jb, 1, none⟩ (.int .i64 ((u : Int) + (nbOf s.size : Int)))).setCell ⟨jb, 2, none⟩ (.int .i64 ((R.length : Int) + 1)))) := Lib.hid (by
        rw [HUE.out] at hD4 hks ⊢
        refine ⟨⟨vp4, ⟨⟨ca4, hD4.keep hks (fun i hi e => hj4 (by rw [← e]; exact hi)), hca4⟩, by rw [length_splice _ _ _ (by rw [hbl, ← HUE.out]; exact hf)]; exact hrm, HJ2.out.recs.add ⟨by rw [bsOf_len]; exact hs, bsOf_range s⟩ (by rw [bsOf_len, ← HUE.out]; exact hf), ?_, hj4⟩, newB_two HNB3.out hv4 (by exact hz3)⟩, ?_⟩
        · rw [encsOf_snoc, List.length_append, List.length_append, hbl]
          have := (hjA4.set 1 (.int .i64 (((encsOf R).length : Int) + (nbOf s.size : Int)))).set 2 (.int .i64 ((R.length : Int) + 1))
          unfold JAt
          rw [Int.natCast_add, Int.natCast_add]
          exact this
        · exact ((HKw3.out.drew.trans hK4 (fun i hi e => by
            rcases e with e | e | e
            · exact .inl (.inl e)
            · exact .inl (.inr (.inl e))
            · rcases HNB3.out with h | h
              · exact .inl (.inr (.inr (by rw [← h]; exact e)))
              · have := h i e; omega)).trans hks (fun i _ e => .inr e)))
      have j1 := hjA4.cell 1
      have j2 := hjA4.cell 2
      have jf1 := hjA4.frozen 1
      have jf2 := hjA4.frozen 2
      have jl := hjA4.lt
      rw [← HUE.out] at j1
      simp at j1 j2
      have hul : u + nbOf s.size ≤ 65536 := by omega
      have hRl : R.length ≤ 65536 := by have := encsOf_len R; have := HUE.out; omega
      clear hjA4 hj4 hDe hD4 hks hv4 hK4 HW2 j1e jle
      go_wp2_with fail
      go_ret
      exact ⟨.inl ⟨rfl, HF.out.1⟩, HF.out.2⟩
    · have HF : Hid ((∃ vp', JDn w4 jb p gs vp' S.length R (some (bsOf s)) ∧ newB w vp vp') ∧ Keeps (fun i => ownD p gs vp i ∨ i = jb) w w4) := Lib.hid (by
        rw [HUE.out] at hWK
        obtain ⟨vp', S', P', ca', q1, q2, q3, q4, q5, q6⟩ := down_head HJ2.out.recs ⟨by rw [bsOf_len]; exact hs, bsOf_range s⟩ (by rw [← HUE.out, bsOf_len]; exact hf) hWK (by omega)
        refine ⟨⟨vp', ⟨⟨S', P', ca', q1, q2, by omega, q4, fun K => ⟨by rw [crashed_len, q2], (q6 K).imp id (fun h => ⟨_, rfl, h⟩)⟩⟩, hrm, Blk.keep (Blk.drew HJA3.out) hK4 HJ3.out, apart_new HJ3.out q5 (by have := HJA3.out.lt; exact this)⟩, newB_two HNB3.out q5 (by exact hz3)⟩, HKw3.out.drew.trans hK4 (fun i hi e => by
            rcases e with e | e | e
            · exact .inl (.inl e)
            · exact .inl (.inr (.inl e))
            · rcases HNB3.out with h | h
              · exact .inl (.inr (.inr (by rw [← h]; exact e)))
              · have := h i e; omega)⟩)
      clear hWK hK4 HW2
      go_wp2_with fail
      go_ret
      exact ⟨.inr ⟨rfl, HF.out.1⟩, HF.out.2⟩
end Go.Proofs.Ythieonekjmdelaa
