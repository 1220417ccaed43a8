/- CustodyBagBack returns true for every two bags and every text, and leaves its arguments as they were; the package variables that it names start as the program's text lays them (the card ties them). -/
import Derived.Test.YthgfbaekmhpiaaaGreatDoorGetA
import Derived.Test.YthgfbaekmhpiaaaGreatDoorShipA
import Derived.Test.YthgfbaekmhpiaaaGreatDoorOpenA
namespace Go.Proofs.YthgfbaekmhpiaaaGreatDoor
open Go.RowKit Go.Shelf Go.Sort

theorem bagText_size {s d q : Int} {L : List Tok} (h : GoodBag s d q L) : (bagText s d q L).size ≤ 1000000000 := by
  obtain ⟨h1, h2, h3, h4, h5⟩ := valid_facts (goodBag_valid h)
  have h6 := line3_len s d q (h2 s (by simp)).2 (h2 d (by simp)).2 (h2 q (by simp)).2
  rw [lineB_ba, ba_size] at h6
  unfold bagText msgL
  rw [ba_size]
  simp only [List.length_append]
  have h7 : bagW.data.toList.length = 3 := by decide
  simp only [List.length_singleton]
  omega
/-- What PutBag returns. -/
def PutOr (s d q : Int) (L : List Tok) (w : World) (e : Ending) (w' : World) : Prop :=
  (∃ (tx : ByteArray) (f : Int), e = .returned (.tuple #[.string tx, .int .i64 f]) ∧ Hid ((f = 0 ∧ GoodBag s d q L ∧ tx = bagText s d q L) ∨ (f = 1 ∧ ¬ GoodBag s d q L))) ∧ Below w.heap.size w w'
theorem putBag_or (s d q : Int) (V : Value) (L : List Tok) (w : World) (hT : TokAt w V L) (hP : PowAt w) (hl : L.length ≤ 9223372036854775807) :
    Calls Tryz.prog 20 #[bagVal ⟨s, d, q, V⟩] w (PutOr s d q L w) := by
  refine (putBag_any ⟨s, d, q, V⟩ L w hT hP hl).mono ?_
  rintro e w' ⟨rfl, hb⟩
  refine ⟨⟨_, _, rfl, Lib.hid ?_⟩, hb⟩
  by_cases hv : isBagB ⟨s, d, q, V⟩ L = true
  · exact .inl ⟨by unfold putE; rw [if_pos hv], hv, by unfold putTx; rw [if_pos hv]⟩
  · exact .inr ⟨by unfold putE; rw [if_neg hv], hv⟩
set_option maxRecDepth 100000 in
set_option maxHeartbeats 16000000 in
theorem back_walk (a b : BagV) (La Lb : List Tok) (m : ByteArray) (w : World) (hTa : TokAt w a.toks La) (hTb : TokAt w b.toks Lb) (hla : La.length ≤ 9223372036854775807) (hlb : Lb.length ≤ 9223372036854775807) (hP : PowAt w) (hE : ErrsAt w) :
    Calls Tryz.prog 5 #[bagVal a, bagVal b, .string m] w fun e w' => e = .returned (.bool true) ∧ Below w.heap.size w w' := by
  have KUa := Lib.hid (fun W (hW : Below w.heap.size w W) => huge_any a La W (hTa.below hW) hla)
  have KUb := Lib.hid (fun W (hW : Below w.heap.size w W) => huge_any b Lb W (hTb.below hW) hlb)
  have KH := Lib.hid (fun W (hW : Below w.heap.size w W) => shipped_ok W (PowAt.up hP hW))
  obtain ⟨aS, aD, aQ, aV⟩ := a
  obtain ⟨bS, bD, bQ, bV⟩ := b
  dsimp only at hTa hTb
  have KPa := Lib.hid (fun W (hW : Below w.heap.size w W) => putBag_or aS aD aQ aV La W (hTa.below hW) (hP.up hW) hla)
  have KPb := Lib.hid (fun W (hW : Below w.heap.size w W) => putBag_or bS bD bQ bV Lb W (hTb.below hW) (hP.up hW) hlb)
  have KG := Lib.hid (fun (x : ByteArray) (hx : x.size ≤ 1000000000) W (hW : Below w.heap.size w W) => getBag_any x W (hP.up hW) (hE.below hW) hx)
  have HTA := Lib.hid (fun W (hW : Below w.heap.size w W) => hTa.below hW)
  have HTB := Lib.hid (fun W (hW : Below w.heap.size w W) => hTb.below hW)
  have HPW := Lib.hid hP
  obtain ⟨aA, ac, rfl, _, _⟩ := hTa
  obtain ⟨bA, bc, rfl, _, _⟩ := hTb
  have HLa := Lib.hid hla
  have HLb := Lib.hid hlb
  simp only [bagVal] at KUa KUb KPa KPb ⊢
  have HA0 := (Blk.new w 41 #[.int .i64 aS, .int .i64 aD, .int .i64 aQ, .slice aA La.length ac]).alloc (.cells #[.int .i64 bS, .int .i64 bD, .int .i64 bQ, .slice bA Lb.length bc] 41)
  have HB0' : Blk ((w.alloc (.cells #[.int .i64 aS, .int .i64 aD, .int .i64 aQ, .slice aA La.length ac] 41)).alloc (.cells #[.int .i64 bS, .int .i64 bD, .int .i64 bQ, .slice bA Lb.length bc] 41)) (w.heap.size + 1) 41 #[.int .i64 bS, .int .i64 bD, .int .i64 bQ, .slice bA Lb.length bc] := by
    have := Blk.new (w.alloc (.cells #[.int .i64 aS, .int .i64 aD, .int .i64 aQ, .slice aA La.length ac] 41)) 41 #[.int .i64 bS, .int .i64 bD, .int .i64 bQ, .slice bA Lb.length bc]
    rwa [World.size_alloc] at this
  have HB0 := Lib.hid (((Below.refl _ w).alloc (Nat.le_refl _) (.cells #[.int .i64 aS, .int .i64 aD, .int .i64 aQ, .slice aA La.length ac] 41)).alloc (by simp) (.cells #[.int .i64 bS, .int .i64 bD, .int .i64 bQ, .slice bA Lb.length bc] 41))
  clear hP hE hla hlb
  go_enter Tryz.func5, Tryz.ntmps5
  go_upto_region 1 with fail
  generalize (w.alloc _).alloc _ = W1 at HA0 HB0' HB0 ⊢
  have HC : Hid (∀ W, Below W1.heap.size W1 W → (W.cell? ⟨w.heap.size, 0, none⟩ = some (.int .i64 aS) ∧ W.cell? ⟨w.heap.size, 1, none⟩ = some (.int .i64 aD) ∧ W.cell? ⟨w.heap.size, 2, none⟩ = some (.int .i64 aQ) ∧ W.cell? ⟨w.heap.size, 3, none⟩ = some (.slice aA La.length ac) ∧ W.cell? ⟨w.heap.size + 1, 0, none⟩ = some (.int .i64 bS) ∧ W.cell? ⟨w.heap.size + 1, 1, none⟩ = some (.int .i64 bD) ∧ W.cell? ⟨w.heap.size + 1, 2, none⟩ = some (.int .i64 bQ) ∧ W.cell? ⟨w.heap.size + 1, 3, none⟩ = some (.slice bA Lb.length bc)) ∧ w.heap.size < W.heap.size ∧ w.heap.size + 1 < W.heap.size) := Lib.hid (fun W hW => by
    have a1 := HA0.below hW HA0.lt
    have a2 := HB0'.below hW HB0'.lt
    refine ⟨⟨?_, ?_, ?_, ?_, ?_, ?_, ?_, ?_⟩, a1.lt, a2.lt⟩
    all_goals first | (exact a1.cell _) | (exact a2.cell _))
  clear HA0 HB0'
  obtain ⟨⟨a0, a1, a2, a3, b0, b1, b2, b3⟩, z1, z2⟩ := HC.out W1 (Below.refl _ _)
  go_wp2_with fail
  refine (KUa.out _ HB0.out).mono ?_
  rintro e w2 ⟨rfl, hb⟩
  have HB2 := Lib.hid hb
  clear hb a0 a1 a2 a3 b0 b1 b2 b3 z1 z2
  obtain ⟨⟨a0, a1, a2, a3, b0, b1, b2, b3⟩, z1, z2⟩ := HC.out w2 HB2.out
  rcases hua : hugeB La with _ | _
  rotate_left
  · clear hua
    have HBH := Lib.hid (HB0.out.trans (HB2.out.mono HB0.out.size))
    clear a0 a1 a2 a3 b0 b1 b2 b3 z1 z2
    go_wp2_with fail
    refine (KH.out _ HBH.out).mono ?_
    rintro e wz ⟨rfl, hbz⟩
    have HBZ := Lib.hid (HBH.out.trans (hbz.mono HBH.out.size))
    clear hbz
    go_wp2_with fail
    go_ret
    exact ⟨rfl, HBZ.out⟩
  clear hua
  go_wp2_with fail
  refine (KUb.out _ (HB0.out.trans (HB2.out.mono HB0.out.size))).mono ?_
  rintro e w3 ⟨rfl, hb⟩
  have HB3 := Lib.hid (HB2.out.trans (hb.mono HB2.out.size))
  clear hb HB2 a0 a1 a2 a3 b0 b1 b2 b3 z1 z2
  obtain ⟨⟨a0, a1, a2, a3, b0, b1, b2, b3⟩, z1, z2⟩ := HC.out w3 HB3.out
  rcases hub : hugeB Lb with _ | _
  rotate_left
  · clear hub
    have HBH := Lib.hid (HB0.out.trans (HB3.out.mono HB0.out.size))
    clear a0 a1 a2 a3 b0 b1 b2 b3 z1 z2
    go_wp2_with fail
    refine (KH.out _ HBH.out).mono ?_
    rintro e wz ⟨rfl, hbz⟩
    have HBZ := Lib.hid (HBH.out.trans (hbz.mono HBH.out.size))
    clear hbz
    go_wp2_with fail
    go_ret
    exact ⟨rfl, HBZ.out⟩
  clear hub
  by_cases hm : (200000 : Int) < (m.size : Int)
  · have HBH := Lib.hid (HB0.out.trans (HB3.out.mono HB0.out.size))
    clear a0 a1 a2 a3 b0 b1 b2 b3 z1 z2
    go_wp2_with fail
    refine (KH.out _ HBH.out).mono ?_
    rintro e wz ⟨rfl, hbz⟩
    have HBZ := Lib.hid (HBH.out.trans (hbz.mono HBH.out.size))
    clear hbz
    go_wp2_with fail
    go_ret
    exact ⟨rfl, HBZ.out⟩
  go_wp2_with fail
  refine (KPa.out _ (HB0.out.trans (HB3.out.mono HB0.out.size))).mono ?_
  rintro e w4 ⟨⟨sa, ea, rfl, HPA⟩, hb⟩
  have HB4 := Lib.hid (HB3.out.trans (hb.mono HB3.out.size))
  clear hb HB3 a0 a1 a2 a3 b0 b1 b2 b3 z1 z2
  obtain ⟨⟨a0, a1, a2, a3, b0, b1, b2, b3⟩, z1, z2⟩ := HC.out w4 HB4.out
  go_wp2_with fail
  refine (KPb.out _ (HB0.out.trans (HB4.out.mono HB0.out.size))).mono ?_
  rintro e w5 ⟨⟨sb, eb, rfl, HPB⟩, hb⟩
  have HB5 := Lib.hid (HB4.out.trans (hb.mono HB4.out.size))
  clear hb HB4 a0 a1 a2 a3 b0 b1 b2 b3 z1 z2
  obtain ⟨⟨a0, a1, a2, a3, b0, b1, b2, b3⟩, z1, z2⟩ := HC.out w5 HB5.out
  rcases HPA.out with ⟨rfl, hga, rfl⟩ | ⟨rfl, hna⟩
  rotate_left
  · go_wp2_with fail
    refine (KG.out m (by omega) _ (HB0.out.trans (HB5.out.mono HB0.out.size))).mono ?_
    rintro e wg ⟨⟨s, d, q, V, L, rfl, hT, hg, ht⟩ | ⟨rfl, _⟩, hbg⟩
    rotate_left
    · have HBG := Lib.hid (HB0.out.trans ((HB5.out.trans (hbg.mono HB5.out.size)).mono HB0.out.size))
      have HBN := Lib.hid (HBG.out.alloc HBG.out.size (.cells #[.int .i64 0, .int .i64 0, .int .i64 0, .slice none 0 0] 41))
      clear hbg a0 a1 a2 a3 b0 b1 b2 b3 z1 z2
      unfold bagVal
      dsimp only
      go_wp2_with fail
      refine (KH.out _ HBN.out).mono ?_
      rintro e wz ⟨rfl, hbz⟩
      have HBZ := Lib.hid (HBN.out.trans (hbz.mono HBN.out.size))
      clear hbz
      go_wp2_with fail
      go_ret
      exact ⟨rfl, HBZ.out⟩
    obtain ⟨VA, Vc, hV, _⟩ := hT.at_
    subst hV
    have hal : Below wg.heap.size wg (wg.alloc (.cells #[.int .i64 s, .int .i64 d, .int .i64 q, .slice VA L.length Vc] 41)) := (Below.refl _ _).alloc (Nat.le_refl _) _
    have HBG := Lib.hid (HB0.out.trans (((HB5.out.trans (hbg.mono HB5.out.size)).trans (hal.mono (Nat.le_trans HB5.out.size hbg.size))).mono HB0.out.size))
    have HTV := Lib.hid (hT.at_.below hal)
    have HGX := Lib.hid hg
    have HTX := Lib.hid ht
    have HXB := Lib.hid (Blk.new wg 41 #[.int .i64 s, .int .i64 d, .int .i64 q, .slice VA L.length Vc])
    clear hbg hT hg ht hal a0 a1 a2 a3 b0 b1 b2 b3 z1 z2
    unfold bagVal
    dsimp only
    go_upto_region 12 with fail
    generalize wg.alloc _ = wh at HBG HTV HXB ⊢
    have x0 := HXB.out.cell 0
    have x1 := HXB.out.cell 1
    have x2 := HXB.out.cell 2
    have x3 := HXB.out.cell 3
    have xz := HXB.out.lt
    simp at x0 x1 x2 x3
    have KPX := Lib.hid (putBag_or s d q (.slice VA L.length Vc) L wh HTV.out (HPW.out.up HBG.out) (by have := bag_facts HGX.out; omega))
    simp only [bagVal] at KPX
    go_wp2_with fail
    refine KPX.out.mono ?_
    rintro e wi ⟨⟨tx, f, rfl, HPX⟩, hbi⟩
    have HBI := Lib.hid (HBG.out.trans (hbi.mono HBG.out.size))
    clear hbi x0 x1 x2 x3 xz
    rcases HPX.out with ⟨rfl, _, htx⟩ | ⟨_, hno⟩
    rotate_left
    · exact absurd HGX.out hno
    obtain rfl : tx = m := htx.trans HTX.out
    clear htx HTX
    go_wp2_with fail
    refine (KH.out _ HBI.out).mono ?_
    rintro e wz ⟨rfl, hbz⟩
    have HBZ := Lib.hid (HBI.out.trans (hbz.mono HBI.out.size))
    clear hbz
    go_wp2_with fail
    go_ret
    exact ⟨rfl, HBZ.out⟩
  have HGA := Lib.hid hga
  have KGA := Lib.hid (KG.out (bagText aS aD aQ La) (bagText_size hga) w5 (HB0.out.trans (HB5.out.mono HB0.out.size)))
  obtain ⟨xa, hxa⟩ : ∃ xa, xa = bagText aS aD aQ La := ⟨_, rfl⟩
  have HXA := Lib.hid hxa
  rw [← hxa] at KGA ⊢
  clear hga hxa
  go_wp2_with fail
  refine KGA.out.mono ?_
  rintro e w6 ⟨⟨s, d, q, V, L, rfl, hT, hg, ht⟩ | ⟨rfl, hno⟩, hb6⟩
  rotate_left
  · exact absurd HXA.out.symm (hno _ _ _ _ HGA.out)
  have hinj := bag_inj hg HGA.out (by
    have h1 := ht.trans HXA.out
    unfold bagText ba at h1
    simpa using h1)
  dsimp only at hinj
  obtain ⟨rfl, rfl, rfl, rfl⟩ := hinj
  obtain ⟨VA, Vc, hV, _⟩ := hT.at_
  subst hV
  have hal : Below w6.heap.size w6 (w6.alloc (.cells #[.int .i64 s, .int .i64 d, .int .i64 q, .slice VA L.length Vc] 41)) := (Below.refl _ _).alloc (Nat.le_refl _) _
  have HB6 := Lib.hid ((HB5.out.trans (hb6.mono HB5.out.size)).trans (hal.mono (Nat.le_trans HB5.out.size hb6.size)))
  have HTV := Lib.hid (hT.at_.below hal)
  have HXB := Lib.hid (Blk.new w6 41 #[.int .i64 s, .int .i64 d, .int .i64 q, .slice VA L.length Vc])
  clear hT hg ht hal hb6 KGA HB5 a0 a1 a2 a3 b0 b1 b2 b3 z1 z2
  unfold bagVal
  dsimp only
  go_upto_region 7 with fail
  generalize w6.alloc _ = w7 at HB6 HTV HXB ⊢
  have KSM := Lib.hid (sameBag_eq s d q L _ _ w7 HTV.out (HTA.out w7 (HB0.out.trans (HB6.out.mono HB0.out.size))) HLa.out)
  simp only [bagVal] at KSM
  have x0 := HXB.out.cell 0
  have x1 := HXB.out.cell 1
  have x2 := HXB.out.cell 2
  have x3 := HXB.out.cell 3
  have xz := HXB.out.lt
  simp at x0 x1 x2 x3
  obtain ⟨⟨a0, a1, a2, a3, b0, b1, b2, b3⟩, z1, z2⟩ := HC.out w7 HB6.out
  go_wp2_with fail
  refine KSM.out.mono ?_
  rintro e w8 ⟨rfl, hb8⟩
  have HB8 := Lib.hid (HB6.out.trans (hb8.mono HB6.out.size))
  clear hb8 HB6 KSM HTV HXB x0 x1 x2 x3 xz a0 a1 a2 a3 b0 b1 b2 b3 z1 z2
  obtain ⟨⟨a0, a1, a2, a3, b0, b1, b2, b3⟩, z1, z2⟩ := HC.out w8 HB8.out
  rcases HPB.out with ⟨rfl, hgb, rfl⟩ | ⟨rfl, hnb⟩
  rotate_left
  · go_wp2_with fail
    refine (KG.out m (by omega) _ (HB0.out.trans (HB8.out.mono HB0.out.size))).mono ?_
    rintro e wg ⟨⟨s, d, q, V, L, rfl, hT, hg, ht⟩ | ⟨rfl, _⟩, hbg⟩
    rotate_left
    · have HBG := Lib.hid (HB0.out.trans ((HB8.out.trans (hbg.mono HB8.out.size)).mono HB0.out.size))
      have HBN := Lib.hid (HBG.out.alloc HBG.out.size (.cells #[.int .i64 0, .int .i64 0, .int .i64 0, .slice none 0 0] 41))
      clear hbg a0 a1 a2 a3 b0 b1 b2 b3 z1 z2
      unfold bagVal
      dsimp only
      go_wp2_with fail
      refine (KH.out _ HBN.out).mono ?_
      rintro e wz ⟨rfl, hbz⟩
      have HBZ := Lib.hid (HBN.out.trans (hbz.mono HBN.out.size))
      clear hbz
      go_wp2_with fail
      go_ret
      exact ⟨rfl, HBZ.out⟩
    obtain ⟨VA, Vc, hV, _⟩ := hT.at_
    subst hV
    have hal : Below wg.heap.size wg (wg.alloc (.cells #[.int .i64 s, .int .i64 d, .int .i64 q, .slice VA L.length Vc] 41)) := (Below.refl _ _).alloc (Nat.le_refl _) _
    have HBG := Lib.hid (HB0.out.trans (((HB8.out.trans (hbg.mono HB8.out.size)).trans (hal.mono (Nat.le_trans HB8.out.size hbg.size))).mono HB0.out.size))
    have HTV := Lib.hid (hT.at_.below hal)
    have HGX := Lib.hid hg
    have HTX := Lib.hid ht
    have HXB := Lib.hid (Blk.new wg 41 #[.int .i64 s, .int .i64 d, .int .i64 q, .slice VA L.length Vc])
    clear hbg hT hg ht hal a0 a1 a2 a3 b0 b1 b2 b3 z1 z2
    unfold bagVal
    dsimp only
    go_upto_region 12 with fail
    generalize wg.alloc _ = wh at HBG HTV HXB ⊢
    have x0 := HXB.out.cell 0
    have x1 := HXB.out.cell 1
    have x2 := HXB.out.cell 2
    have x3 := HXB.out.cell 3
    have xz := HXB.out.lt
    simp at x0 x1 x2 x3
    have KPX := Lib.hid (putBag_or s d q (.slice VA L.length Vc) L wh HTV.out (HPW.out.up HBG.out) (by have := bag_facts HGX.out; omega))
    simp only [bagVal] at KPX
    go_wp2_with fail
    refine KPX.out.mono ?_
    rintro e wi ⟨⟨tx, f, rfl, HPX⟩, hbi⟩
    have HBI := Lib.hid (HBG.out.trans (hbi.mono HBG.out.size))
    clear hbi x0 x1 x2 x3 xz
    rcases HPX.out with ⟨rfl, _, htx⟩ | ⟨_, hno⟩
    rotate_left
    · exact absurd HGX.out hno
    obtain rfl : tx = m := htx.trans HTX.out
    clear htx HTX
    go_wp2_with fail
    refine (KH.out _ HBI.out).mono ?_
    rintro e wz ⟨rfl, hbz⟩
    have HBZ := Lib.hid (HBI.out.trans (hbz.mono HBI.out.size))
    clear hbz
    go_wp2_with fail
    go_ret
    exact ⟨rfl, HBZ.out⟩
  obtain ⟨xb, hxb⟩ : ∃ xb, xb = bagText bS bD bQ Lb := ⟨_, rfl⟩
  have HXB := Lib.hid hxb
  have HGB := Lib.hid hgb
  rw [← hxb]
  clear hgb hxb
  rcases hab : (xa.toList == xb.toList) with _ | _
  · go_wp2_with fail
    refine (KG.out m (by omega) _ (HB0.out.trans (HB8.out.mono HB0.out.size))).mono ?_
    rintro e wg ⟨⟨s, d, q, V, L, rfl, hT, hg, ht⟩ | ⟨rfl, _⟩, hbg⟩
    rotate_left
    · have HBG := Lib.hid (HB0.out.trans ((HB8.out.trans (hbg.mono HB8.out.size)).mono HB0.out.size))
      have HBN := Lib.hid (HBG.out.alloc HBG.out.size (.cells #[.int .i64 0, .int .i64 0, .int .i64 0, .slice none 0 0] 41))
      clear hbg a0 a1 a2 a3 b0 b1 b2 b3 z1 z2
      unfold bagVal
      dsimp only
      go_wp2_with fail
      refine (KH.out _ HBN.out).mono ?_
      rintro e wz ⟨rfl, hbz⟩
      have HBZ := Lib.hid (HBN.out.trans (hbz.mono HBN.out.size))
      clear hbz
      go_wp2_with fail
      go_ret
      exact ⟨rfl, HBZ.out⟩
    obtain ⟨VA, Vc, hV, _⟩ := hT.at_
    subst hV
    have hal : Below wg.heap.size wg (wg.alloc (.cells #[.int .i64 s, .int .i64 d, .int .i64 q, .slice VA L.length Vc] 41)) := (Below.refl _ _).alloc (Nat.le_refl _) _
    have HBG := Lib.hid (HB0.out.trans (((HB8.out.trans (hbg.mono HB8.out.size)).trans (hal.mono (Nat.le_trans HB8.out.size hbg.size))).mono HB0.out.size))
    have HTV := Lib.hid (hT.at_.below hal)
    have HGX := Lib.hid hg
    have HTX := Lib.hid ht
    have HXB := Lib.hid (Blk.new wg 41 #[.int .i64 s, .int .i64 d, .int .i64 q, .slice VA L.length Vc])
    clear hbg hT hg ht hal a0 a1 a2 a3 b0 b1 b2 b3 z1 z2
    unfold bagVal
    dsimp only
    go_upto_region 12 with fail
    generalize wg.alloc _ = wh at HBG HTV HXB ⊢
    have x0 := HXB.out.cell 0
    have x1 := HXB.out.cell 1
    have x2 := HXB.out.cell 2
    have x3 := HXB.out.cell 3
    have xz := HXB.out.lt
    simp at x0 x1 x2 x3
    have KPX := Lib.hid (putBag_or s d q (.slice VA L.length Vc) L wh HTV.out (HPW.out.up HBG.out) (by have := bag_facts HGX.out; omega))
    simp only [bagVal] at KPX
    go_wp2_with fail
    refine KPX.out.mono ?_
    rintro e wi ⟨⟨tx, f, rfl, HPX⟩, hbi⟩
    have HBI := Lib.hid (HBG.out.trans (hbi.mono HBG.out.size))
    clear hbi x0 x1 x2 x3 xz
    rcases HPX.out with ⟨rfl, _, htx⟩ | ⟨_, hno⟩
    rotate_left
    · exact absurd HGX.out hno
    obtain rfl : tx = m := htx.trans HTX.out
    clear htx HTX
    go_wp2_with fail
    refine (KH.out _ HBI.out).mono ?_
    rintro e wz ⟨rfl, hbz⟩
    have HBZ := Lib.hid (HBI.out.trans (hbz.mono HBI.out.size))
    clear hbz
    go_wp2_with fail
    go_ret
    exact ⟨rfl, HBZ.out⟩
  have hinj := bag_inj HGA.out HGB.out (by
    rw [beq_iff_eq, Lib.toList_data, Lib.toList_data, HXA.out, HXB.out] at hab
    unfold bagText at hab
    rw [ba_list, ba_list] at hab
    exact hab)
  dsimp only at hinj
  obtain ⟨h1, h2, h3, h4⟩ := hinj
  have KSB := Lib.hid (sameBag_eq s d q L _ _ w8 (HTA.out w8 (HB0.out.trans (HB8.out.mono HB0.out.size))) (by rw [h4]; exact HTB.out w8 (HB0.out.trans (HB8.out.mono HB0.out.size))) HLa.out)
  simp only [bagVal] at KSB
  subst h1 h2 h3
  clear h4
  go_wp2_with fail
  refine KSB.out.mono ?_
  rintro e w9 ⟨rfl, hb9⟩
  have HB9 := Lib.hid (HB8.out.trans (hb9.mono HB8.out.size))
  clear hb9 HB8 KSB a0 a1 a2 a3 b0 b1 b2 b3 z1 z2
  obtain ⟨⟨a0, a1, a2, a3, b0, b1, b2, b3⟩, z1, z2⟩ := HC.out w9 HB9.out
  go_wp2_with fail
  refine (KG.out m (by omega) _ (HB0.out.trans (HB9.out.mono HB0.out.size))).mono ?_
  rintro e wg ⟨⟨s, d, q, V, L, rfl, hT, hg, ht⟩ | ⟨rfl, _⟩, hbg⟩
  rotate_left
  · have HBG := Lib.hid (HB0.out.trans ((HB9.out.trans (hbg.mono HB9.out.size)).mono HB0.out.size))
    have HBN := Lib.hid (HBG.out.alloc HBG.out.size (.cells #[.int .i64 0, .int .i64 0, .int .i64 0, .slice none 0 0] 41))
    clear hbg a0 a1 a2 a3 b0 b1 b2 b3 z1 z2
    unfold bagVal
    dsimp only
    go_wp2_with fail
    refine (KH.out _ HBN.out).mono ?_
    rintro e wz ⟨rfl, hbz⟩
    have HBZ := Lib.hid (HBN.out.trans (hbz.mono HBN.out.size))
    clear hbz
    go_wp2_with fail
    go_ret
    exact ⟨rfl, HBZ.out⟩
  obtain ⟨VA, Vc, hV, _⟩ := hT.at_
  subst hV
  have hal : Below wg.heap.size wg (wg.alloc (.cells #[.int .i64 s, .int .i64 d, .int .i64 q, .slice VA L.length Vc] 41)) := (Below.refl _ _).alloc (Nat.le_refl _) _
  have HBG := Lib.hid (HB0.out.trans (((HB9.out.trans (hbg.mono HB9.out.size)).trans (hal.mono (Nat.le_trans HB9.out.size hbg.size))).mono HB0.out.size))
  have HTV := Lib.hid (hT.at_.below hal)
  have HGX := Lib.hid hg
  have HTX := Lib.hid ht
  have HXB := Lib.hid (Blk.new wg 41 #[.int .i64 s, .int .i64 d, .int .i64 q, .slice VA L.length Vc])
  clear hbg hT hg ht hal a0 a1 a2 a3 b0 b1 b2 b3 z1 z2
  unfold bagVal
  dsimp only
  go_upto_region 12 with fail
  generalize wg.alloc _ = wh at HBG HTV HXB ⊢
  have x0 := HXB.out.cell 0
  have x1 := HXB.out.cell 1
  have x2 := HXB.out.cell 2
  have x3 := HXB.out.cell 3
  have xz := HXB.out.lt
  simp at x0 x1 x2 x3
  have KPX := Lib.hid (putBag_or s d q (.slice VA L.length Vc) L wh HTV.out (HPW.out.up HBG.out) (by have := bag_facts HGX.out; omega))
  simp only [bagVal] at KPX
  go_wp2_with fail
  refine KPX.out.mono ?_
  rintro e wi ⟨⟨tx, f, rfl, HPX⟩, hbi⟩
  have HBI := Lib.hid (HBG.out.trans (hbi.mono HBG.out.size))
  clear hbi x0 x1 x2 x3 xz
  rcases HPX.out with ⟨rfl, _, htx⟩ | ⟨_, hno⟩
  rotate_left
  · exact absurd HGX.out hno
  obtain rfl : tx = m := htx.trans HTX.out
  clear htx HTX
  go_wp2_with fail
  refine (KH.out _ HBI.out).mono ?_
  rintro e wz ⟨rfl, hbz⟩
  have HBZ := Lib.hid (HBI.out.trans (hbz.mono HBI.out.size))
  clear hbz
  go_wp2_with fail
  go_ret
  exact ⟨rfl, HBZ.out⟩
end Go.Proofs.YthgfbaekmhpiaaaGreatDoor
namespace Go.Proofs.YthgfbaekmhpiaaaGreatDoor
open Go.ChangeShapes Go.WideShapes Go.ChangeAt Go.RowKit

theorem custodyBagBack_rd0 : Tryz.prog.readableRec 41 = true ∧ (41 : TypeId) < Tryz.prog.types.size := ⟨by kernel_rfl, of_decide_eq_true (by kernel_rfl)⟩
theorem custodyBagBack_rd1 : Tryz.prog.readableRec 9 = true ∧ (9 : TypeId) < Tryz.prog.types.size := ⟨by kernel_rfl, of_decide_eq_true (by kernel_rfl)⟩
set_option maxRecDepth 100000 in
theorem custodyBagBack_contract (H : Type) (enc : TypeId × Value → H) (W : World) (base : Nat) (args : Array Value) (ds gs : List (DataW H)) (before : List MemPlace)
    (hval : ∀ (j : Nat) t v, Tryz.f5.params[j]? = some t → args[j]? = some v → Value.okWide Tryz.prog W .any base t v)
    (hW : DataW.Whole enc Tryz.prog Tryz.f5.params.toList Rows.custodyBagBackSpec.vars false W args.toList ds gs before)
    (hlaid : laidMetH Tryz.prog Rows.custodyBagBackRow.laid W) :
    Calls Tryz.prog 5 args W fun e W' => ∃ v, e = .returned v ∧ Rows.custodyBagBackSpec.post enc Tryz.prog Tryz.f5 false true false false W args v W' := by
  have hW' := hW
  obtain ⟨p, q, hA, hV, rfl, hfz, hnd⟩ := hW
  have hA0 : DataW.TrodAll enc Tryz.prog W 0 (fun _ => true) true [41, 41, 9] args.toList ds p := hA
  obtain ⟨v0, vs0, d0, ds0, p0, q0, hargs, rfl, rfl, h0, r0⟩ := trodAll_cons hA0
  obtain ⟨v1, vs1, d1, ds1, p1, q1, rfl, rfl, rfl, h1, r1⟩ := trodAll_cons r0
  obtain ⟨v2, vs2, d2, ds2, p2, q2, rfl, rfl, rfl, h2, r2⟩ := trodAll_cons r1
  obtain ⟨rfl, rfl, rfl⟩ := trodAll_nil r2
  obtain rfl : args = #[v0, v1, v2] := by cases args; simp_all
  obtain ⟨rfl, rfl⟩ := trodVars_none hV
  obtain ⟨a, La, rfl, hTa, hla, hba⟩ := open_bag (hval 0 41 v0 rfl rfl) h0
  obtain ⟨b, Lb, rfl, hTb, hlb, hbb⟩ := open_bag (hval 1 41 v1 rfl rfl) h1
  obtain ⟨m, rfl, rfl, rfl, hm⟩ := Go.ChangeMaps.open_string strRowO (hval 2 9 v2 rfl rfl) h2
  obtain ⟨hP, hE⟩ := cu_laid (by exact hlaid)
  have hla2 : La.length ≤ 9223372036854775807 := by unfold maxLen at hla; omega
  have hlb2 : Lb.length ≤ 9223372036854775807 := by unfold maxLen at hlb; omega
  refine (back_walk a b La Lb m W hTa hTb hla2 hlb2 hP hE).mono fun e W' ⟨he, hb⟩ => ?_
  subst he
  exact law_post rfl (fun t ht => by
    have ht' : t ∈ [(41 : TypeId), 41, 9] := ht
    simp at ht'
    rcases ht' with rfl | rfl
    · exact custodyBagBack_rd0
    · exact custodyBagBack_rd1) rfl hW' rfl hb
theorem custodyBagBack_laid_met (os : Os) : laidMetH Tryz.prog Rows.custodyBagBackRow.laid ((doorW os).forCall (fun _ _ => 0) ⟨#[], #[.agg #[.int .i64 0, .int .i64 0, .int .i64 0, .slice none 0 0], .agg #[.int .i64 0, .int .i64 0, .int .i64 0, .slice none 0 0], .string ⟨#[]⟩], []⟩).memory :=
  by rw [Go.MakeChecks.laidMetH_plain _ _ _ (by kernel_rfl)]; exact laidMet_laidAll _ (by kernel_rfl) (by kernel_rfl)
theorem custodyBagBack_reads (os : Os) {H : Type} (enc : TypeId × Value → H) : ∃ places, DataW.whole enc Tryz.prog ((doorW os).forCall (fun _ _ => 0) ⟨#[], #[.agg #[.int .i64 0, .int .i64 0, .int .i64 0, .slice none 0 0], .agg #[.int .i64 0, .int .i64 0, .int .i64 0, .slice none 0 0], .string ⟨#[]⟩], []⟩).memory Tryz.f5.params.toList Rows.custodyBagBackSpec.vars false (#[.agg #[.int .i64 0, .int .i64 0, .int .i64 0, .slice none 0 0], .agg #[.int .i64 0, .int .i64 0, .int .i64 0, .slice none 0 0], .string ⟨#[]⟩] : Array Value).toList 8 = some ([.agg [.lit (.int .i64 0), .lit (.int .i64 0), .lit (.int .i64 0), .nil], .agg [.lit (.int .i64 0), .lit (.int .i64 0), .lit (.int .i64 0), .nil], .lit (.string [])], [], places) :=
  ⟨[], by kernel_rfl⟩
set_option maxRecDepth 100000 in
theorem custodyBagBack_lifted (os : Os) (started : os.Started) (H : Type) (enc : TypeId × Value → H) (F : Stop.Interp) :
    ReturnsInHanded {} Tryz.checked os 5 .any ((OpenSpec.ofChange Rows.custodyBagBackSpec).preRow enc Tryz.prog Tryz.f5 Rows.custodyBagBackRow.domain false Rows.custodyBagBackRow.laid) (((OpenSpec.ofChange Rows.custodyBagBackSpec).at F).post enc Tryz.prog Tryz.f5 false true false false) := by
  obtain ⟨places, hx⟩ := custodyBagBack_reads os enc
  refine returnsInHanded_of_row (C := Tryz.checked) (s := OpenSpec.ofChange Rows.custodyBagBackSpec) ownKnobA started (by kernel_rfl) Tryz.func5
    (witness_zip (enc := enc) (C := Tryz.checked) false (doorW os) #[.agg #[.int .i64 0, .int .i64 0, .int .i64 0, .slice none 0 0], .agg #[.int .i64 0, .int .i64 0, .int .i64 0, .slice none 0 0], .string ⟨#[]⟩] (World.laidAll_os _ _ _) (by kernel_rfl) (by kernel_rfl) (by kernel_rfl)
      (OpenSpec.preRow_of_cond 8 hx (by kernel_rfl) (fun k hk => by cases hk) (by kernel_rfl) (custodyBagBack_laid_met os))) ?_
  intro W base args ds gs before hval hW _ _ _ hlaid hsh _
  exact custodyBagBack_contract H enc W base args ds gs before hval hW hlaid
theorem custodyBagBack_said : Rows.CustodyBagBackSaid :=
  OpenClaim.holds_of_cond 5 Tryz.f5 rfl rfl rfl rfl rfl rfl rfl ⟨rfl, rfl, rfl, rfl, rfl⟩ rfl rfl rfl rfl rfl (by kernel_rfl) Tryz.func5 (by kernel_rfl)
    (of_decide_eq_true (by kernel_rfl)) (by unfold Func.isWrapper; first | (rw [if_pos (by decide +kernel)]; kernel_rfl) | (rw [if_neg (by decide +kernel)]; exact ⟨rfl, rfl⟩))
    (fun os started H enc _ F => by rw [OpenClaim.pre_eq_preRow]; exact custodyBagBack_lifted os started H enc F)
theorem custodyBagBack_plain (f : FuncId) (fn : Func) (hf : Tryz.pinned.checked.prog.funcNamed "restante/restantelaw07.CustodyBagBack" = some f) (hfn : Tryz.pinned.checked.prog.funcs[f]? = some fn) :
    true = Tryz.pinned.checked.prog.looks [] ∧ ∀ (j : Nat) t, fn.params[j]? = some t → Tryz.pinned.checked.prog.wantsStandIn t = false := by
  obtain rfl : f = 5 := Option.some.inj ((show Tryz.prog.funcNamed "restante/restantelaw07.CustodyBagBack" = some 5 by kernel_rfl).symm.trans hf) |>.symm
  obtain rfl : fn = Tryz.f5 := (Option.some.inj (Tryz.func5.symm.trans hfn)).symm
  refine ⟨by kernel_rfl, fun j t ht => ?_⟩
  rw [Tryz.params5] at ht
  have ht' := Array.mem_of_getElem? ht
  simp at ht'
  rcases ht' with rfl | rfl
  · exact (show Tryz.prog.wantsStandIn 41 = false by kernel_rfl)
  · exact (show Tryz.prog.wantsStandIn 9 = false by kernel_rfl)
theorem custodyBagBack_card : Rows.CustodyBagBackCardSaid :=
  Claim7.holds_tied_plain_at .later [] _ _ _ _ custodyBagBack_said (fun _ h => by cases h) (by kernel_rfl) (fun _ h => by cases h) custodyBagBack_row_tie rfl ⟨rfl, rfl⟩ (by kernel_rfl) rfl custodyBagBack_plain (by kernel_rfl)
#print axioms custodyBagBack_card
end Go.Proofs.YthgfbaekmhpiaaaGreatDoor
