/- The contract of an office's Offer, of one bag. Conditions: the office lies in memory. The contracts of an office's Enter and Ship, over those of perform, and of perform at nil. Conditions: what perform asks. The contract of Start, on an empty disk. Conditions: the disk lies in memory. The contract of an office's Hear, of a message that matters, over those of readMessage, matters, perform and answer. Conditions: what these ask. -/
import Derived.Test.YthgfbaekmhpiaaaGreatDoorPerfA
import Derived.Defers
namespace Go.Proofs.YthgfbaekmhpiaaaGreatDoor
open Go.RowKit Go.Shelf Go.Sort

theorem infoLet : (Tryz.prog.info? 101).map (fun i => (i.zero, i.size, i.bytes)) = some (some (.agg #[.int .i64 0, .string ⟨#[]⟩]), 2, 24) := by kernel_rfl
theorem rowLet : Tryz.prog.underlying 83 = some (.slice 101) := by kernel_rfl
theorem append_letter (w : World) (base : Nat) (hb : base ≤ w.heap.size) (d : Int) (s : ByteArray) :
    ∃ A c w', (Builtin.append_ #[83, 83] 83 #[.slice none 0 0, .slice (some ⟨w.heap.size, 0, none⟩) 1 1]).run Tryz.prog (w.alloc (.cells #[.int .i64 d, .string s] 101)) = .ok (.slice A 1 c) w' ∧
      w'.ownsRow base 101 2 (.slice A 1 c) 1 [.int .i64 d, .string s] ∧ Keeps (fun _ => False) w w' := by
  obtain ⟨A, c, w', h1, h2, h3, _⟩ := append_one (tS := 83) rowLet infoLet rfl (by decide) (by decide) (w := w) (base := base) (v := .slice none 0 0) (k := 0) (cs := []) ⟨rfl, .inl ⟨rfl, rfl⟩⟩ (by omega) hb [.int .i64 d, .string s] rfl (fun u hu => by
    simp only [List.mem_cons, List.not_mem_nil, or_false] at hu
    rcases hu with rfl | rfl <;> rfl)
  exact ⟨A, c, w', h1, h2, h3.mono (fun k _ e => by simp [Value.ownBlock] at e)⟩
set_option maxRecDepth 100000 in
set_option maxHeartbeats 4000000 in
theorem offer_one {w : World} {ob p u n hb lb base : Nat} {id s1 r0 : Int} {b1 : Value} {A : Option Addr} {m c : Nat} {b : BagV} {L : List Tok} (hO : OB w ob p u n id hb lb b1 s1 r0 (.slice A m c)) (hv : BagOwn w base b1 [b]) (A3 : Option Addr) (c3 : Nat) (hbt : b.toks = .slice A3 L.length c3) (hT : TokAt w b.toks L) (h0 : 0 < L.length) (hl : L.length ≤ 1000000000) (hP : PowAt w) (hN : OkN [b.src, b.dst, b.seq]) (hI : OkTok L) (hlen : (L.flatMap tokL).length ≤ 100000000000000) :
    Calls Tryz.prog 42 #[.pointer (some ⟨ob, 0, none⟩)] w fun e w' => ∃ A' c', e = .returned (.slice A' 1 c') ∧ w'.ownsRow w.heap.size 101 2 (.slice A' 1 c') 1 [.int .i64 b.dst, .string (ba (msgL bagW.data.toList b L))] ∧ Below w.heap.size w w' := by
  have HBG := Lib.hid (bags_one hO hv A3 c3 hbt hT h0 hl)
  have HPW := Lib.hid hP
  have HMT := Lib.hid (fun W (hW : Below w.heap.size w W) tv (hTv : TokAt W tv L) => msgText_any bagW ⟨b.src, b.dst, b.seq, tv⟩ L W hTv (hP.up hW) hN hI (by decide) hl hlen)
  obtain ⟨bs, bd, bq, T⟩ := b
  dsimp only at HBG HMT ⊢
  obtain ⟨tx, htx⟩ : ∃ tx, tx = ba (msgL bagW.data.toList ⟨bs, bd, bq, T⟩ L) := ⟨_, rfl⟩
  have HTX : Hid (∀ tv, ba (msgL bagW.data.toList ⟨bs, bd, bq, tv⟩ L) = tx) := Lib.hid (fun tv => by rw [htx]; rfl)
  rw [← htx]
  have HMS : Hid (∀ W, Below w.heap.size w W → ∀ tv, TokAt W tv L → Calls Tryz.prog 57 #[msgVal bagW ⟨bs, bd, bq, tv⟩] W fun e w' => e = .returned (.string tx) ∧ Below W.heap.size W w') := Lib.hid (fun W hW tv hTv => (HMT.out W hW tv hTv).mono (fun e w' h => ⟨by rw [h.1, HTX.out tv], h.2⟩))
  unfold msgVal at HMS
  simp only [bagW] at HMS
  clear HMT HTX
  clear hO hv hbt hT hP hN hI hlen htx
  go_enter Tryz.func42, Tryz.ntmps42
  go_wp2_with fail
  refine HBG.out.mono ?_
  rintro e w1 ⟨A1, c1, tv, rfl, hB1, hT1, hb1⟩
  obtain ⟨g, cc, hgg, hcc, hgz, k0, k1, k2, k3⟩ := hB1.one
  simp only [Value.slice.injEq] at hgg
  obtain ⟨rfl, _, rfl⟩ := hgg
  obtain ⟨A5, c5, htv, _⟩ := hT1.at_
  subst htv
  have HBW := Lib.hid hb1
  have HT1 := Lib.hid hT1
  clear hB1 hT1 hb1 HBG
  have HK0 := Lib.hid k0
  have HK1 := Lib.hid k1
  have HK2 := Lib.hid k2
  have HK3 := Lib.hid k3
  have HG := Lib.hid hgz
  clear k0 k1 k2 k3 hgz
  go_wp2_with fail
  go_loopw [3, 9] (fun v i wr => (v = .slice none 0 0 ∧ i = .int .i64 0 ∧ wr = w1) ∨ (i = .int .i64 1 ∧ Below w.heap.size w wr ∧ ∃ A' c', v = .slice A' 1 c' ∧ wr.ownsRow w.heap.size 101 2 (.slice A' 1 c') 1 [.int .i64 bd, .string tx])) (fun _ i _ => 1 - (intOf i).toNat)
  case atStart => exact .inl ⟨rfl, rfl, rfl⟩
  case round =>
    rcases hrel with ⟨rfl, rfl, rfl⟩ | ⟨rfl, hBE, A', c', rfl, hOL⟩
    · have g0 := HK0.out
      have g1 := HK1.out
      have g2 := HK2.out
      have g3 := HK3.out
      have gz := HG.out
      have HX := Lib.hid (Blk.new wr 41 #[.int .i64 bs, .int .i64 bd, .int .i64 bq, .slice A5 L.length c5])
      have HB2 := Lib.hid (HBW.out.alloc HBW.out.size (.cells #[.int .i64 bs, .int .i64 bd, .int .i64 bq, .slice A5 L.length c5] 41))
      have HT2 := Lib.hid (HT1.out.below ((Below.refl _ _).alloc (Nat.le_refl _) (.cells #[.int .i64 bs, .int .i64 bd, .int .i64 bq, .slice A5 L.length c5] 41)))
      go_upto_region 5 with fail
      clear g0 g1 g2 g3 gz
      obtain ⟨X, hXe⟩ : ∃ X, X = wr.heap.size := ⟨_, rfl⟩
      rw [← hXe] at HX ⊢
      clear hXe
      generalize wr.alloc (.cells _ 41) = w2 at HX HB2 HT2 ⊢
      have x0 := HX.out.cell 0
      have x1 := HX.out.cell 1
      have x2 := HX.out.cell 2
      have x3 := HX.out.cell 3
      have xz := HX.out.lt
      simp at x0 x1 x2 x3
      have HMX : Hid (Calls Tryz.prog 57 #[.agg #[.string ⟨#[98, 97, 103]⟩, .int .i64 bs, .int .i64 bd, .int .i64 bq, .slice A5 L.length c5]] w2.drew fun e w' => e = .returned (.string tx) ∧ Below w2.heap.size w2 w') := Lib.hid ((HMS.out w2.drew HB2.out.drew _ (HT2.out.at_.below (Below.refl _ _).drew)).mono (fun e w' h => ⟨h.1, (below_drx (Below.refl _ w2)).trans h.2⟩))
      go_region_law (first
        | (refine Lib.wp_append_run _ _ _ _ _ rfl _ _ rfl rfl _ _ hrun ?_)
        | (rw [if_pos (by rfl)]; refine Lib.wp_append_run _ _ _ _ _ rfl _ _ rfl rfl _ _ hrun ?_)
        | (go_simp; go_at_call 57; refine HMX.out.mono ?_; rintro e wI ⟨rfl, hbI⟩
           have x1I := (hbI.cell (p := ⟨X, 1, none⟩) xz).trans x1
           have xzI := Nat.lt_of_lt_of_le xz hbI.size
           have HBI := Lib.hid (HB2.out.trans (hbI.mono HB2.out.size))
           obtain ⟨A6, c6, w3, hrun, hO3, hK3⟩ := append_letter wI w.heap.size HBI.out.size bd tx
           have HO3 := Lib.hid hO3
           have HBE := Lib.hid (HBI.out.trans (hK3.below (B := w.heap.size) (fun _ _ e => e) HBI.out.size))
           clear hO3 hK3 hbI
           dsimp only))
      all_goals
        clear HMX x0 x1 x2 x3 xz x1I xzI hrun HX HB2 HT2 HMS
        go_wp2_with fail
        go_roundw
        case rel => exact .inr ⟨rfl, HBE.out, A6, c6, rfl, HO3.out⟩
        case measure => decide
    · have HBE := Lib.hid hBE
      have HOL := Lib.hid hOL
      clear hBE hOL
      go_wp2_with fail
      go_ret
      exact ⟨A', c', rfl, HOL.out, HBE.out⟩
end Go.Proofs.YthgfbaekmhpiaaaGreatDoor
namespace Go.Proofs.YthgfbaekmhpiaaaGreatDoor
open Go.RowKit Go.Shelf Go.Sort

/-- The operation that Enter performs. -/
def opEnter (t : Tok) (note : ByteArray) : OpV := ⟨1, 0, t, 0, .slice none 0 0, ⟨#[]⟩, ⟨0, 0, 0, .slice none 0 0⟩, note⟩
/-- The operation that Ship performs. -/
def opShip (d : Int) (ids : Value) (note : ByteArray) : OpV := ⟨4, 0, ⟨0, ⟨#[]⟩⟩, d, ids, ⟨#[]⟩, ⟨0, 0, 0, .slice none 0 0⟩, note⟩
set_option maxRecDepth 100000 in
set_option maxHeartbeats 1000000 in
theorem enter_of {w : World} (ob : Option Addr) (t : Tok) (note : ByteArray) (r : Int) (Q : World → Prop)
    (hP : ∀ W, Below w.heap.size w W → Calls Tryz.prog 85 #[.pointer ob, opVal (opEnter t note)] W fun e w' => e = .returned (.int .i64 r) ∧ Q w') :
    Calls Tryz.prog 47 #[.pointer ob, tokVal t, .string note] w fun e w' => e = .returned (.int .i64 r) ∧ Q w' := by
  obtain ⟨i, b⟩ := t
  have HB1 := Lib.hid ((Below.refl _ w).alloc (Nat.le_refl _) (.cells #[.int .i64 i, .string b] 50))
  have kB := Blk.new w 50 #[.int .i64 i, .string b]
  have HP := Lib.hid hP
  unfold opVal opEnter at HP
  unfold tokVal
  dsimp only at HP ⊢
  clear hP
  go_enter Tryz.func47, Tryz.ntmps47
  go_upto_region 1 with fail
  generalize w.alloc _ = w1 at HB1 kB ⊢
  have x0 := kB.cell 0
  have x1 := kB.cell 1
  have xz := kB.lt
  simp at x0 x1
  go_wp2_with fail
  refine (HP.out _ HB1.out).mono ?_
  rintro e w2 ⟨rfl, hq⟩
  have HQ := Lib.hid hq
  clear hq
  go_wp2_with fail
  go_ret
  exact ⟨rfl, HQ.out⟩
set_option maxRecDepth 100000 in
set_option maxHeartbeats 1000000 in
theorem ship_of {w : World} (ob : Nat) (A : Option Addr) (m c : Nat) (note : ByteArray) (s : Int) (Q : World → Prop)
    (hP : Calls Tryz.prog 85 #[.pointer (some ⟨ob, 0, none⟩), opVal (opShip 1 (.slice A m c) note)] w fun e w' => e = .returned (.int .i64 0) ∧ Q w')
    (hs : ∀ W, Q W → W.cell? ⟨ob, 15, none⟩ = some (.int .i64 s) ∧ ob < W.heap.size) :
    Calls Tryz.prog 48 #[.pointer (some ⟨ob, 0, none⟩), .int .i64 1, .slice A m c, .string note] w fun e w' => e = .returned (.tuple #[.int .i64 s, .int .i64 0]) ∧ Q w' := by
  have HP := Lib.hid hP
  have HS := Lib.hid hs
  unfold opVal opShip at HP
  dsimp only at HP ⊢
  clear hP hs
  go_enter Tryz.func48, Tryz.ntmps48
  go_wp2_with fail
  refine HP.out.mono ?_
  rintro e w2 ⟨rfl, hq⟩
  obtain ⟨c15, oz⟩ := HS.out w2 hq
  have HQ := Lib.hid hq
  clear hq
  go_wp2_with fail
  go_ret2
  exact ⟨rfl, HQ.out⟩
set_option maxRecDepth 100000 in
set_option maxHeartbeats 1000000 in
theorem perform_nil {w : World} (x : OpV) (A : Option Addr) (ni c : Nat) (hids : x.ids = .slice A ni c) (A2 : Option Addr) (nt c2 : Nat) (htoks : x.bag.toks = .slice A2 nt c2) :
    Calls Tryz.prog 85 #[.pointer none, opVal x] w fun e w' => e = .returned (.int .i64 3) ∧ Below w.heap.size w w' := by
  obtain ⟨kd, o, ⟨ti, tb⟩, dest, ids, word, ⟨bs, bd, bq, T⟩, note⟩ := x
  dsimp only at hids htoks
  subst hids htoks
  have HB1 := Lib.hid ((Below.refl _ w).alloc (Nat.le_refl _) (.cells (opCells ⟨kd, o, ⟨ti, tb⟩, dest, .slice A ni c, word, ⟨bs, bd, bq, .slice A2 nt c2⟩, note⟩).toArray 155))
  unfold opVal
  simp only [opCells] at HB1
  dsimp only
  go_enter Tryz.func85, Tryz.ntmps85
  go_wp2_with fail
  go_ret
  exact ⟨rfl, HB1.out⟩
end Go.Proofs.YthgfbaekmhpiaaaGreatDoor
namespace Go.Proofs.YthgfbaekmhpiaaaGreatDoor
open Go.RowKit Go.Shelf Go.Sort

theorem start_idle (p q : Addr) (w : World) :
    CallsD Tryz.prog 75 #[.pointer (some p), .pointer (some q)] .returning w fun e u' w' => e = .returned (.tuple #[]) ∧ u' = .returning ∧ w' = w := by
  refine callsD_of_wpS Tryz.func75 rfl fun c₀ cs hu => ?_
  apply wpS_seq
  apply wpS_region
  simp [wpOpsS, go_sem, recoverD, hu, Tryz.ntmps75, Exit.thenS]
  refine wpS_cond (t := false) (by simp [Act.eval, Array.replicate]) ?_
  simp only [Bool.false_eq_true, if_false]
  refine wpS_of_wp (wp_skip ?_)
  cases c₀
  simp_all [bodyPostS, results, Tryz.results75]
theorem set_new_of {K : TypeId} {W : World} {b : Nat} (hb : W.heap[b]? = some (.map #[] 0)) : SetAt K W b 0 (fun _ => false) := by
  obtain ⟨D, ⟨es, ck, h1, h2⟩, h3⟩ := SetAt.made K W
  rw [World.alloc_heap_new] at h1
  exact ⟨D, ⟨es, ck, hb.trans h1, h2⟩, h3⟩
set_option maxRecDepth 100000 in
set_option maxHeartbeats 2000000 in
theorem start_ok {w : World} {p gs : Nat} {vp : Value} {S : List (List Int)} {st : Bool} {ca : Int} (h : DiskAt w p gs vp S [] false st ca) (hS : S.length ≤ 65536) (hJ : Jr [] S) (id : Int) (hid : isOfficeB id = true) :
    Calls Tryz.prog 32 #[.pointer (some ⟨p, 0, none⟩), .int .i64 id] w fun e w' => ∃ ob hb lb, e = .returned (.tuple #[.pointer (some ⟨ob, 0, none⟩), .int .i64 0]) ∧ OB w' ob p 0 0 id hb lb (.slice none 0 0) 0 0 (.slice none 0 0) ∧ MapS w' hb 0 (fun _ => none) ∧ SetAt 3 w' lb 0 (fun _ => false) ∧ w.heap.size ≤ hb ∧ hb < lb ∧ lb < ob ∧ Below w.heap.size w w' := by
  have hmf : ∀ (fn : Fn) (first cap : Array Value) (w : World), (Instr.makeFunc fn first cap).run Tryz.prog w = .ok (.func fn first cap) w := fun _ _ _ _ => rfl
  have hmm := @run_makeMap Tryz.prog
  have HB1 := Lib.hid (((Below.refl _ w).alloc (Nat.le_refl _) (.cells #[.pointer none] 61)).alloc (by simp) (.cells #[.int .i64 0] 24))
  have hC0 := (Blk.new w 61 #[.pointer none]).alloc (.cells #[.int .i64 0] 24)
  have hE0 : Blk ((w.alloc (.cells #[.pointer none] 61)).alloc (.cells #[.int .i64 0] 24)) (w.heap.size + 1) 24 #[.int .i64 0] := by
    have := Blk.new (w.alloc (.cells #[.pointer none] 61)) 24 #[.int .i64 0]
    simpa using this
  have HIS : Hid (∀ W, Calls Tryz.prog 76 #[.int .i64 id] W fun e w' => e = .returned (.bool true) ∧ W = w') := Lib.hid (fun W => by have := isOffice_any id W; rwa [hid] at this)
  have HOP := Lib.hid (fun W (hW : Below w.heap.size w W) => open_ok (h.below hW) hS [] hJ)
  clear h
  go_enter_defers Tryz.func32, Tryz.ntmps32
  go_wp2_with fail
  generalize (w.alloc _).alloc _ = w1 at HB1 hC0 hE0 ⊢
  refine (HIS.out _).mono ?_
  rintro e w1' ⟨rfl, rfl⟩
  go_wp2_with fail
  refine (HOP.out _ HB1.out).mono ?_
  rintro e w2 ⟨jb, A, c, rfl, hJ2, hN2, hjb, hb2⟩
  have hjz : w.heap.size + 1 < jb := by have := hE0.lt; omega
  clear hjb
  have hC2 := hC0.below hb2 hC0.lt
  have hE2 := hE0.below hb2 hE0.lt
  have HB2 := Lib.hid (HB1.out.trans (hb2.mono HB1.out.size))
  have hf := hE2.frozen 0
  have hz := hE2.lt
  have hx := hE2.cell 0
  simp at hx
  have hC3 := hC2.far (p := ⟨w.heap.size + 1, 0, none⟩) (by simp) (.int .i64 0)
  have hE3 := hE2.set 0 (.int .i64 0)
  have hJ3 := Blk.far hJ2 (p := ⟨w.heap.size + 1, 0, none⟩) (by simp; omega) (.int .i64 0)
  have HB3 := Lib.hid (HB2.out.setCell (p := ⟨w.heap.size + 1, 0, none⟩) (Nat.le_succ _) (.int .i64 0))
  rw [List.setIfInBounds_toArray] at hE3
  simp only [List.set_cons_zero] at hE3
  have HC3 := Lib.hid hC3
  have HE3 := Lib.hid hE3
  have HJ3 := Lib.hid hJ3
  clear hC0 hE0 hJ2 hN2 hb2 hC2 hE2 hC3 hE3 hJ3 HIS HOP
  go_upto_region 5 with fail
  generalize w2.setCell _ _ = w3 at HC3 HE3 HJ3 HB3 ⊢
  clear hf hz hx HB2 HB1
  have hfc := HC3.out.frozen 0
  have hzc := HC3.out.lt
  have hxc := HC3.out.cell 0
  have hfe := HE3.out.frozen 0
  have hze := HE3.out.lt
  have hxe := HE3.out.cell 0
  have j0 := HJ3.out.cell 0
  have j1 := HJ3.out.cell 1
  have j2 := HJ3.out.cell 2
  have jz := HJ3.out.lt
  simp [encsOf] at hxc hxe j0 j1 j2
  have HBm : Hid (∀ o : Obj, Below w3.heap.size w3 (((w3.alloc (.map #[] 0)).alloc (.map #[] 0)).alloc o)) := Lib.hid (fun o => (((Below.refl _ w3).alloc (Nat.le_refl _) _).alloc (by simp) _).alloc (by simp; omega) _)
  have hx4 : ∀ o : Obj, (((w3.alloc (.map #[] 0)).alloc (.map #[] 0)).alloc o).cell? ⟨w.heap.size, 0, none⟩ = some (.pointer none) := fun o => ((HBm.out o).cell (p := ⟨w.heap.size, 0, none⟩) hzc).trans hxc
  have hf4 : ∀ o : Obj, (((w3.alloc (.map #[] 0)).alloc (.map #[] 0)).alloc o).frozen? ⟨w.heap.size, 0, none⟩ = false := fun o => (World.frozen?_of_block ((HBm.out o).block _ hzc)).trans hfc
  go_upto_region 8 with fail
  have hO4 : OB (((w3.alloc (.map #[] 0)).alloc (.map #[] 0)).alloc (.cells (Value.pointer (some ⟨p, 0, none⟩) :: Value.int .i64 0 :: Value.int .i64 0 :: stCells id w3.heap.size (w3.heap.size + 1) (.slice none 0 0) 0 0 (.slice none 0 0)).toArray 144)) (w3.heap.size + 1 + 1) p 0 0 id w3.heap.size (w3.heap.size + 1) (.slice none 0 0) 0 0 (.slice none 0 0) := by
    have := Blk.new ((w3.alloc (.map #[] 0)).alloc (.map #[] 0)) 144 (Value.pointer (some ⟨p, 0, none⟩) :: Value.int .i64 0 :: Value.int .i64 0 :: stCells id w3.heap.size (w3.heap.size + 1) (.slice none 0 0) 0 0 (.slice none 0 0)).toArray
    rw [show ((w3.alloc (.map #[] 0)).alloc (.map #[] 0)).heap.size = w3.heap.size + 1 + 1 by simp] at this
    exact this
  have hm1 : MapS (((w3.alloc (.map #[] 0)).alloc (.map #[] 0)).alloc (.cells (Value.pointer (some ⟨p, 0, none⟩) :: Value.int .i64 0 :: Value.int .i64 0 :: stCells id w3.heap.size (w3.heap.size + 1) (.slice none 0 0) 0 0 (.slice none 0 0)).toArray 144)) w3.heap.size 0 (fun _ => none) := MapS.new_of ((Below.heap_alloc _ _ _ (by simp; omega)).trans ((Below.heap_alloc _ _ _ (by simp)).trans (heap_alloc_new w3 _)))
  have hm2 : SetAt 3 (((w3.alloc (.map #[] 0)).alloc (.map #[] 0)).alloc (.cells (Value.pointer (some ⟨p, 0, none⟩) :: Value.int .i64 0 :: Value.int .i64 0 :: stCells id w3.heap.size (w3.heap.size + 1) (.slice none 0 0) 0 0 (.slice none 0 0)).toArray 144)) (w3.heap.size + 1) 0 (fun _ => false) := set_new_of ((Below.heap_alloc _ _ _ (by simp)).trans (by have := heap_alloc_new (w3.alloc (.map #[] 0)) (.map #[] 0); simpa using this))
  have hB4 := HBm.out (.cells (Value.pointer (some ⟨p, 0, none⟩) :: Value.int .i64 0 :: Value.int .i64 0 :: stCells id w3.heap.size (w3.heap.size + 1) (.slice none 0 0) 0 0 (.slice none 0 0)).toArray 144)
  simp only [stCells] at hO4 hm1 hm2 hB4
  clear HBm hx4 hf4
  generalize ((w3.alloc (.map #[] 0)).alloc (.map #[] 0)).alloc _ = w4 at hO4 hm1 hm2 hB4 ⊢
  have hC4 := HC3.out.below hB4 hzc
  have hE4 := HE3.out.below hB4 hze
  have HO5 := Lib.hid (show OB (w4.setCell ⟨w.heap.size, 0, none⟩ (.pointer (some ⟨w3.heap.size + 1 + 1, 0, none⟩))) (w3.heap.size + 1 + 1) p 0 0 id w3.heap.size (w3.heap.size + 1) (.slice none 0 0) 0 0 (.slice none 0 0) from Blk.far (p := ⟨w.heap.size, 0, none⟩) hO4 (by simp; omega) _)
  have hK5 : Keeps (fun j => j = w.heap.size) w4 (w4.setCell ⟨w.heap.size, 0, none⟩ (.pointer (some ⟨w3.heap.size + 1 + 1, 0, none⟩))) := (Keeps.refl (fun j => j = w.heap.size) w4).setCell (p := ⟨w.heap.size, 0, none⟩) (fun _ => rfl) _
  have HM5 := Lib.hid (hm1.keep hK5 (by omega))
  have HL5 := Lib.hid (hm2.keep hK5 (by omega))
  have HC5 := Lib.hid (hC4.set 0 (.pointer (some ⟨w3.heap.size + 1 + 1, 0, none⟩)))
  have HE5 := Lib.hid (hE4.keep hK5 (by omega))
  have HB5 := Lib.hid ((HB3.out.trans (hB4.mono HB3.out.size)).trans (hK5.below (B := w.heap.size) (fun k hk e => by omega) (Nat.le_trans HB3.out.size hB4.size)))
  have HZ := Lib.hid (show w.heap.size ≤ w3.heap.size from HB3.out.size)
  have HZ2 := Lib.hid hze
  clear hO4 hm1 hm2 hB4 hC4 hE4 hK5 HC3 HE3 HJ3 HB3 hfc hzc hxc hfe hze hxe j0 j1 j2 jz
  generalize w4.setCell _ _ = w5 at HO5 HM5 HL5 HC5 HE5 HB5 ⊢
  have hzc := HC5.out.lt
  have hfc := HC5.out.frozen 0
  have hxc := HC5.out.cell 0
  have hze := HE5.out.lt
  have hfe := HE5.out.frozen 0
  have hxe := HE5.out.cell 0
  simp at hxc hxe
  go_wp2_with fail
  go_loopw [35] (fun i wr => i = .int .i64 0 ∧ wr = w5) (fun _ _ => 0)
  case atStart => exact ⟨rfl, rfl⟩
  case round =>
    obtain ⟨rfl, rfl⟩ := hrel
    go_wp2_with fail
    have hK9 : Keeps (fun j => j = w.heap.size ∨ j = w.heap.size + 1) wr ((wr.setCell ⟨w.heap.size, 0, none⟩ (.pointer (some ⟨w3.heap.size + 1 + 1, 0, none⟩))).setCell ⟨w.heap.size + 1, 0, none⟩ (.int .i64 0)) := ((Keeps.refl (fun j => j = w.heap.size ∨ j = w.heap.size + 1) wr).setCell (p := ⟨w.heap.size, 0, none⟩) (fun _ => .inl rfl) _).setCell (p := ⟨w.heap.size + 1, 0, none⟩) (fun _ => .inr rfl) _
    have x0 := ((HC5.out.set 0 (.pointer (some ⟨w3.heap.size + 1 + 1, 0, none⟩))).far (p := ⟨w.heap.size + 1, 0, none⟩) (by simp) (.int .i64 0)).cell 0
    have x1 := ((HE5.out.far (p := ⟨w.heap.size, 0, none⟩) (by simp) (.pointer (some ⟨w3.heap.size + 1 + 1, 0, none⟩))).set 0 (.int .i64 0)).cell 0
    have hO9 := Blk.keep HO5.out hK9 (by have := HZ.out; omega)
    have hM9 := HM5.out.keep hK9 (by have := HZ2.out; omega)
    have hL9 := HL5.out.keep hK9 (by have := HZ2.out; omega)
    have hB9 : Below w.heap.size w ((wr.setCell ⟨w.heap.size, 0, none⟩ (.pointer (some ⟨w3.heap.size + 1 + 1, 0, none⟩))).setCell ⟨w.heap.size + 1, 0, none⟩ (.int .i64 0)) := HB5.out.trans (hK9.below (B := w.heap.size) (fun k hk e => by omega) HB5.out.size)
    refine leaves_cons (f := 75) (args := #[.pointer (some ⟨w.heap.size, 0, none⟩), .pointer (some ⟨w.heap.size + 1, 0, none⟩)]) (by simp) (by simp [go_sem]) ?_
    refine (start_idle ⟨w.heap.size, 0, none⟩ ⟨w.heap.size + 1, 0, none⟩ _).mono ?_
    rintro e u' w'' ⟨rfl, rfl, rfl⟩
    simp at x0 x1
    refine ⟨.tuple #[.pointer (some ⟨w3.heap.size + 1 + 1, 0, none⟩), .int .i64 0], ?_, _, _, _, rfl, hO9, hM9, hL9, HZ.out, by omega, by omega, hB9⟩
    simp [results, Tryz.results32, go_sem, x0, x1]
end Go.Proofs.YthgfbaekmhpiaaaGreatDoor
namespace Go.Proofs.YthgfbaekmhpiaaaGreatDoor
open Go.RowKit Go.Shelf Go.Sort

theorem hear_idle (p q : Addr) (w : World) :
    CallsD Tryz.prog 86 #[.pointer (some p), .pointer (some q)] .returning w fun e u' w' => e = .returned (.tuple #[]) ∧ u' = .returning ∧ w' = w := by
  refine callsD_of_wpS Tryz.func86 rfl fun c₀ cs hu => ?_
  apply wpS_seq
  apply wpS_region
  simp [wpOpsS, go_sem, recoverD, hu, Tryz.ntmps86, Exit.thenS]
  refine wpS_cond (t := false) (by simp [Act.eval, Array.replicate]) ?_
  simp only [Bool.false_eq_true, if_false]
  refine wpS_of_wp (wp_skip ?_)
  cases c₀
  simp_all [bodyPostS, results, Tryz.results86]
/-- The operation that Hear performs. -/
def opHear (wd : ByteArray) (b : BagV) (note : ByteArray) : OpV := ⟨5, 0, ⟨0, ⟨#[]⟩⟩, 0, .slice none 0 0, wd, b, note⟩
set_option maxRecDepth 100000 in
set_option maxHeartbeats 4000000 in
theorem hear_of {w : World} {ob : Nat} (m note wd : ByteArray) (s d q : Int) (L : List Tok) (hn : note.size ≤ 8000) (ho : w.cell? ⟨ob, 3, none⟩ = some (.int .i64 d)) (hz : ob < w.heap.size) (S : Nat → Prop) (hS : ∀ i, S i → i < w.heap.size) (Q : World → Prop) (ans : ByteArray)
    (hR : ∀ W, Below w.heap.size w W → Calls Tryz.prog 61 #[.string m] W fun e w' => ∃ V, e = .returned (msgVal wd ⟨s, d, q, V⟩) ∧ TokOwn w' W.heap.size V L ∧ Below W.heap.size W w')
    (hM : ∀ W A n c, Below w.heap.size w W → Calls Tryz.prog 88 #[.pointer (some ⟨ob, 3, none⟩), msgVal wd ⟨s, d, q, .slice A n c⟩] W fun e w' => e = .returned (.bool true) ∧ Below W.heap.size W w')
    (hP : ∀ W A c, Below w.heap.size w W → w.heap.size + 2 ≤ W.heap.size → TokOwn W w.heap.size (.slice A L.length c) L → Calls Tryz.prog 85 #[.pointer (some ⟨ob, 0, none⟩), opVal (opHear wd ⟨s, d, q, .slice A L.length c⟩ note)] W fun e w' => e = .returned (.int .i64 0) ∧ Q w' ∧ Keeps S W w')
    (hA : ∀ W A n c, Q W → Calls Tryz.prog 89 #[.pointer (some ⟨ob, 3, none⟩), msgVal wd ⟨s, d, q, .slice A n c⟩] W fun e w' => e = .returned (.string ans) ∧ Below W.heap.size W w')
    (hQd : ∀ W, Q W → Q W.drew) :
    Calls Tryz.prog 49 #[.pointer (some ⟨ob, 0, none⟩), .string m, .string note] w fun e w' => e = .returned (.tuple #[.string ans, .int .i64 0]) ∧ ∃ W, Q W ∧ Keeps (fun j => j = w.heap.size ∨ j = w.heap.size + 1) W w' ∧ Keeps S w w' := by
  have hmf : ∀ (fn : Fn) (first cap : Array Value) (w : World), (Instr.makeFunc fn first cap).run Tryz.prog w = .ok (.func fn first cap) w := fun _ _ _ _ => rfl
  have HB1 := Lib.hid (((Below.refl _ w).alloc (Nat.le_refl _) (.cells #[.string ⟨#[]⟩] 9)).alloc (by simp) (.cells #[.int .i64 0] 24))
  have hC0 := (Blk.new w 9 #[.string ⟨#[]⟩]).alloc (.cells #[.int .i64 0] 24)
  have hE0 : Blk ((w.alloc (.cells #[.string ⟨#[]⟩] 9)).alloc (.cells #[.int .i64 0] 24)) (w.heap.size + 1) 24 #[.int .i64 0] := by
    have := Blk.new (w.alloc (.cells #[.string ⟨#[]⟩] 9)) 24 #[.int .i64 0]
    simpa using this
  have HN := Lib.hid (fun W => refusesNote_any note W)
  rw [if_neg (by omega)] at HN
  have HR := Lib.hid hR
  have HM := Lib.hid hM
  have HP := Lib.hid hP
  have HA := Lib.hid hA
  have HQD := Lib.hid hQd
  have HS := Lib.hid hS
  have HO := Lib.hid ho
  have HZ := Lib.hid hz
  clear hR hM hP hA hQd hS ho hz hn
  go_enter_defers Tryz.func49, Tryz.ntmps49
  go_wp2_with fail
  generalize (w.alloc _).alloc _ = w1 at HB1 hC0 hE0 ⊢
  refine (HN.out _).mono ?_
  rintro e w1' ⟨rfl, rfl⟩
  go_wp2_with fail
  refine (HR.out _ HB1.out).mono ?_
  rintro e w2 ⟨V, rfl, hT2, hb2⟩
  have HC2 := Lib.hid (hC0.below hb2 hC0.lt)
  have HE2 := Lib.hid (hE0.below hb2 hE0.lt)
  have HB2 := Lib.hid (HB1.out.trans (hb2.mono HB1.out.size))
  have HT2 := Lib.hid (hT2.low HB1.out.size)
  obtain ⟨A, c, htv, _⟩ := hT2.at_
  subst htv
  have HZ2 := Lib.hid hE0.lt
  have HZ3 := Lib.hid hb2.size
  clear hC0 hE0 hT2 hb2 HB1 HN HR
  unfold msgVal
  dsimp only
  go_upto_region 8 with fail
  have HX3 := Lib.hid (Blk.new w2 109 #[.string wd, .int .i64 s, .int .i64 d, .int .i64 q, .slice A L.length c])
  have HB3 := Lib.hid (HB2.out.alloc HB2.out.size (.cells #[.string wd, .int .i64 s, .int .i64 d, .int .i64 q, .slice A L.length c] 109))
  have HC3 := Lib.hid (HC2.out.alloc (.cells #[.string wd, .int .i64 s, .int .i64 d, .int .i64 q, .slice A L.length c] 109))
  have HE3 := Lib.hid (HE2.out.alloc (.cells #[.string wd, .int .i64 s, .int .i64 d, .int .i64 q, .slice A L.length c] 109))
  have HT3 := Lib.hid (HT2.out.below ((Below.refl _ _).alloc (Nat.le_refl _) (.cells #[.string wd, .int .i64 s, .int .i64 d, .int .i64 q, .slice A L.length c] 109)))
  obtain ⟨X, hXe⟩ : ∃ X, X = w2.heap.size := ⟨_, rfl⟩
  have HXZ : Hid (w.heap.size + 1 < X) := Lib.hid (by have h1 := HZ2.out; have h2 := HZ3.out; omega)
  rw [← hXe] at HX3 ⊢
  clear hXe HC2 HE2 HT2 HB2 HZ2 HZ3
  generalize w2.alloc _ = w3 at HX3 HB3 HC3 HE3 HT3 ⊢
  have x0 := HX3.out.cell 0
  have x1 := HX3.out.cell 1
  have x2 := HX3.out.cell 2
  have x3 := HX3.out.cell 3
  have x4 := HX3.out.cell 4
  have xz := HX3.out.lt
  have o3 := (HB3.out.cell (p := ⟨ob, 3, none⟩) HZ.out).trans HO.out
  have oz := Nat.lt_of_lt_of_le HZ.out HB3.out.size
  simp at x0 x1 x2 x3 x4
  go_quiet (fail)
  have HX4 := Lib.hid (HX3.out.drewN nq)
  have HC4 := Lib.hid (HC3.out.drewN nq)
  have HE4 := Lib.hid (HE3.out.drewN nq)
  have HB4 : Hid (Below w.heap.size w (w3.drewN nq)) := Lib.hid (below_dr HB3.out nq)
  have HT4 : Hid (TokOwn (w3.drewN nq) w.heap.size (.slice A L.length c) L) := Lib.hid HT3.out
  generalize w3.drewN nq = w4 at HX4 HC4 HE4 HB4 HT4 ⊢
  clear x0 x1 x2 x3 x4 xz o3 oz HX3 HC3 HE3 HB3 HT3
  have x0 := HX4.out.cell 0
  have x1 := HX4.out.cell 1
  have x2 := HX4.out.cell 2
  have x3 := HX4.out.cell 3
  have x4 := HX4.out.cell 4
  have xz := HX4.out.lt
  simp at x0 x1 x2 x3 x4
  go_upto_region 10 with fail
  have gx0 := fun d' os => cell_regrown x0 d' os
  have gx1 := fun d' os => cell_regrown x1 d' os
  have gx2 := fun d' os => cell_regrown x2 d' os
  have gx3 := fun d' os => cell_regrown x3 d' os
  have gx4 := fun d' os => cell_regrown x4 d' os
  have hgr : ∀ d' (os : Array Obj), w4.heap.size ≤ (grow (redrawn w4 d') os).heap.size := fun d' os => (below_regrown w4 d' os).size
  have HWg := Lib.hid (fun d' os => HB4.out.trans ((below_regrown w4 d' os).mono HB4.out.size))
  have HMX : Hid (∀ W, Below w.heap.size w W → Calls Tryz.prog 88 #[.pointer (some ⟨ob, 3, none⟩), .agg #[.string wd, .int .i64 s, .int .i64 d, .int .i64 q, .slice A L.length c]] W fun e w' => e = .returned (.bool true) ∧ Below W.heap.size W w') := Lib.hid (fun W hW => HM.out W A L.length c hW)
  refine wp_region_quiet_below (by kernel_rfl) (by kernel_rfl) ?_
  repeat (go_big_quiet_step (first | (go_at_call 88; exact Calls.regrown_of (HMX.out _ (HWg.out _ _)))))
  refine wpQuiet_nil ?_
  intro _ hw'
  obtain ⟨⟨dq, osq⟩, hw''⟩ := hw'
  subst hw''
  have hb5 := below_regrown w4 dq osq
  have HX5 := Lib.hid (HX4.out.below hb5 HX4.out.lt)
  have HC5 := Lib.hid (HC4.out.below hb5 HC4.out.lt)
  have HE5 := Lib.hid (HE4.out.below hb5 HE4.out.lt)
  have HT5 := Lib.hid (HT4.out.below hb5)
  have HB5 := Lib.hid (HB4.out.trans (hb5.mono HB4.out.size))
  generalize grow (redrawn w4 dq) osq = w5 at HX5 HC5 HE5 HT5 HB5 ⊢
  clear x0 x1 x2 x3 x4 xz gx0 gx1 gx2 gx3 gx4 hgr HWg hb5 HX4 HC4 HE4 HT4 HB4 HM HMX
  have x0 := HX5.out.cell 0
  have x1 := HX5.out.cell 1
  have x2 := HX5.out.cell 2
  have x3 := HX5.out.cell 3
  have x4 := HX5.out.cell 4
  have xz := HX5.out.lt
  simp at x0 x1 x2 x3 x4
  have HPX := Lib.hid (HP.out w5 A c HB5.out (by have h1 := HXZ.out; have h2 := HX5.out.lt; omega) HT5.out)
  unfold opVal opHear at HPX
  dsimp only at HPX
  go_wp2_with fail
  refine HPX.out.mono ?_
  rintro e w6 ⟨rfl, hq6, hk6⟩
  have HX6 := Lib.hid (HX5.out.keep hk6 (fun h => by have h1 := HS.out _ h; have h2 := HXZ.out; omega))
  have HC6 := Lib.hid (HC5.out.keep hk6 (fun h => by have h1 := HS.out _ h; omega))
  have HE6 := Lib.hid (HE5.out.keep hk6 (fun h => by have h1 := HS.out _ h; omega))
  have HQ6 := Lib.hid hq6
  have HK6 := Lib.hid ((Keeps.of_new (S := S) HB5.out).trans hk6 (fun _ _ e => e))
  clear x0 x1 x2 x3 x4 xz hq6 hk6 HPX HX5 HC5 HE5 HT5 HB5
  have x0 := HX6.out.cell 0
  have x1 := HX6.out.cell 1
  have x2 := HX6.out.cell 2
  have x3 := HX6.out.cell 3
  have x4 := HX6.out.cell 4
  have xz := HX6.out.lt
  simp at x0 x1 x2 x3 x4
  go_upto_region 14 with fail
  have HAX : Hid (Calls Tryz.prog 89 #[.pointer (some ⟨ob, 3, none⟩), .agg #[.string wd, .int .i64 s, .int .i64 d, .int .i64 q, .slice A L.length c]] w6.drew fun e w' => e = .returned (.string ans) ∧ Below w6.heap.size w6 w') := Lib.hid ((HA.out w6.drew A L.length c (HQD.out _ HQ6.out)).mono (fun e w' h => ⟨h.1, (below_drx (Below.refl _ w6)).trans h.2⟩))
  have HSX : Hid (∀ W : World, W.heap[X]? = w6.heap[X]? → W.cell? ⟨X, 0, none⟩ = some (.string wd) ∧ W.cell? ⟨X, 1, none⟩ = some (.int .i64 s) ∧ W.cell? ⟨X, 2, none⟩ = some (.int .i64 d) ∧ W.cell? ⟨X, 3, none⟩ = some (.int .i64 q) ∧ W.cell? ⟨X, 4, none⟩ = some (.slice A L.length c)) := Lib.hid (fun W hW => by
    refine ⟨?_, ?_, ?_, ?_, ?_⟩ <;> (rw [World.cell?_of_block hW]; assumption))
  have d0 := HSX.out w6.drew rfl
  have hx6 := xz
  clear x0 x1 x2 x3 x4
  go_region_held3 (fun W => W.cell? ⟨X, 0, none⟩ = some (.string wd) ∧ W.cell? ⟨X, 1, none⟩ = some (.int .i64 s) ∧ W.cell? ⟨X, 2, none⟩ = some (.int .i64 d) ∧ W.cell? ⟨X, 3, none⟩ = some (.int .i64 q) ∧ W.cell? ⟨X, 4, none⟩ = some (.slice A L.length c))
    (exact HSX.out _ (by repeat (first | (with_reducible assumption) | (with_reducible rfl) | (with_reducible exact hxI1 _) | (with_reducible exact hxI2 _ _) | (with_reducible refine heap_dr ?_))))
    (first
    | (go_at_call 89; refine HAX.out.mono ?_; rintro e wI ⟨rfl, hbI⟩
       have HCI := Lib.hid (HC6.out.below hbI HC6.out.lt)
       have HEI := Lib.hid (HE6.out.below hbI HE6.out.lt)
       have HBI := Lib.hid hbI
       have hxI : wI.heap[X]? = w6.heap[X]? := hbI.block X hx6
       have hxz2 : w.heap.size + 1 < X := HXZ.out
       have hxI1 : ∀ v : Value, (wI.setCell ⟨w.heap.size, 0, none⟩ v).heap[X]? = w6.heap[X]? := fun v => (Below.heap_setCell wI ⟨w.heap.size, 0, none⟩ v X (by simp; omega)).trans hxI
       have hxI2 : ∀ v v' : Value, ((wI.setCell ⟨w.heap.size, 0, none⟩ v).setCell ⟨w.heap.size + 1, 0, none⟩ v').heap[X]? = w6.heap[X]? := fun v v' => (Below.heap_setCell (wI.setCell ⟨w.heap.size, 0, none⟩ v) ⟨w.heap.size + 1, 0, none⟩ v' X (by simp; omega)).trans (hxI1 v)
       have c0 := HCI.out.cell 0
       have cf := HCI.out.frozen 0
       have cz := HCI.out.lt
       have e0 := HEI.out.cell 0
       have ef := HEI.out.frozen 0
       have ez := HEI.out.lt
       simp at c0 e0
       clear hbI hxz2))
  all_goals
    go_wp2_with fail
    have hK9 : Keeps (fun j => j = w.heap.size ∨ j = w.heap.size + 1) w6.drew ((wI.setCell ⟨w.heap.size, 0, none⟩ (.string ans)).setCell ⟨w.heap.size + 1, 0, none⟩ (.int .i64 0)) := (((Keeps.of_new (S := fun j => j = w.heap.size ∨ j = w.heap.size + 1) (w := w6.drew) ⟨HBI.out.os, HBI.out.tape, HBI.out.output, HBI.out.size, HBI.out.block⟩).setCell (p := ⟨w.heap.size, 0, none⟩) (fun _ => .inl rfl) _).setCell (p := ⟨w.heap.size + 1, 0, none⟩) (fun _ => .inr rfl) _)
    have hKS : Keeps S w ((wI.setCell ⟨w.heap.size, 0, none⟩ (.string ans)).setCell ⟨w.heap.size + 1, 0, none⟩ (.int .i64 0)) := ((HK6.out.trans (Keeps.of_new (S := S) HBI.out) (fun _ _ e => e)).setCell (p := ⟨w.heap.size, 0, none⟩) (fun h => absurd h (Nat.lt_irrefl _)) _).setCell (p := ⟨w.heap.size + 1, 0, none⟩) (fun h => absurd h (by simp)) _
    have y0 := ((HCI.out.set 0 (.string ans)).far (p := ⟨w.heap.size + 1, 0, none⟩) (by simp) (.int .i64 0)).cell 0
    have y1 := ((HEI.out.far (p := ⟨w.heap.size, 0, none⟩) (by simp) (.string ans)).set 0 (.int .i64 0)).cell 0
    refine leaves_cons (f := 86) (args := #[.pointer (some ⟨w.heap.size, 0, none⟩), .pointer (some ⟨w.heap.size + 1, 0, none⟩)]) (by simp) (by simp [go_sem]) ?_
    refine (hear_idle ⟨w.heap.size, 0, none⟩ ⟨w.heap.size + 1, 0, none⟩ _).mono ?_
    rintro e u' w'' ⟨rfl, rfl, rfl⟩
    simp at y0 y1
    refine ⟨.tuple #[.string ans, .int .i64 0], ?_, rfl, w6.drew, HQD.out _ HQ6.out, hK9, hKS⟩
    simp [results, Tryz.results49, go_sem, y0, y1]
end Go.Proofs.YthgfbaekmhpiaaaGreatDoor
