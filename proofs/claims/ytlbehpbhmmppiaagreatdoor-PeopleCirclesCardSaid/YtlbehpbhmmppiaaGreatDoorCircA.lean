/- The contract of circle: what a walk from a target adds to the pairs that were met, and the circle that it closes. Conditions: the directory lies in memory; at most 2 * 10^12 entries. -/
import Derived.Test.YtlbehpbhmmppiaaGreatDoorPairSlA
import Derived.Test.YtlbehpbhmmppiaaGreatDoorCycA
import Derived.Test.YtlbehpbhmmppiaaGreatDoorFolA
import Derived.Test.YtlbehpbhmmppiaaGreatDoorSetPA
namespace Go.Proofs.YtlbehpbhmmppiaaGreatDoor
open Go.RowKit Go.Shelf
attribute [local go_sem] Oper.semAt_some

/-- The pair to which a pair leads on a day. -/
def nxAt (l : List OEnt) (d : Int) (c : Int × Int) : Option (Int × Int) := if (hopAt l d c).2 = true then some (hopAt l d c).1.2.1 else none
theorem nxAt_mem {l : List OEnt} {d : Int} {c y : Int × Int} (h : nxAt l d c = some y) : y ∈ l.map (tgOf l d) := by
  unfold nxAt at h
  split at h
  · rename_i h1
    obtain rfl := Option.some.inj h
    exact hop_to (hop_leads h1)
  · cases h
theorem keysP_mem {cs : List (Int × Int)} {c : Int × Int} {kl : Lit} (hk : keyOf Tryz.prog 33 (candVal c) = some kl) : keysP cs kl = true ↔ c ∈ cs := by
  rw [keysP_iff]
  constructor
  · rintro ⟨x, hx, hx2⟩
    rw [← candVal_inj (lawCand.inj hx2 hk)]
    exact hx
  · exact fun h => ⟨c, h, hk⟩

theorem indexP_of' {q : List (Int × Int)} {m : Int × Int} (h : m ∈ q) : ∃ k : Nat, indexP q m = k ∧ q[k]? = some m ∧ k < q.length := by
  unfold indexP
  cases hf : q.findIdx? (fun y => decide (m = y)) with
  | none =>
    have := List.findIdx?_eq_none_iff.1 hf m h
    simp at this
  | some k =>
    obtain ⟨h1, h2, _⟩ := List.findIdx?_eq_some_iff_getElem.1 hf
    refine ⟨k, rfl, ?_, h1⟩
    rw [List.getElem?_eq_getElem h1]
    simpa using (of_decide_eq_true h2).symm
theorem indexP_no {q : List (Int × Int)} {m : Int × Int} (h : m ∉ q) : indexP q m = -1 := by
  unfold indexP
  have : q.findIdx? (fun y => decide (m = y)) = none := by
    rw [List.findIdx?_eq_none_iff]
    intro y hy
    simp
    intro e
    exact h (by rw [e]; exact hy)
  rw [this]
def sliceLen : Value → Nat
  | .slice _ n _ => n
  | _ => 0
theorem SetAt.keep' {K : TypeId} {S : Nat → Prop} {w w' : World} {b n : Nat} {p : Lit → Bool} (h : SetAt K w b n p) (hk : Keeps S w w') (hn : ¬ S b) : SetAt K w' b n p := h.of_block (hk.block b h.lt hn)
theorem DirIn.keep {S : Nat → Prop} {w w' : World} {A : Option Addr} {l : List OEnt} {b1 b2 : Nat} {dead canc : Int → Bool} (h : DirIn w A l b1 b2 dead canc) (hk : Keeps S w w') (h1 : ¬ S b1) (h2 : ¬ S b2) (hA : ∀ b off, A = some ⟨b, off, none⟩ → ¬ S b) : DirIn w' A l b1 b2 dead canc :=
  ⟨h.list.elim .inl (fun ⟨b, off, e, hlt, hc⟩ => .inr ⟨b, off, e, Nat.lt_of_lt_of_le hlt hk.size, fun k x hx j v hv => (hk.cell hlt (hA b off e)).trans (hc k x hx j v hv)⟩), h.len, h.dead.keep' hk h1, h.canc.keep' hk h2⟩
theorem OwnC.some {w : World} {base : Nat} {A : Option Addr} {c : Nat} {l : List (Int × Int)} (h : OwnC w base (.slice A l.length c) l) (hl : l ≠ []) : ∃ g, A = some ⟨g, 0, none⟩ ∧ base ≤ g ∧ l.length ≤ c ∧ c ≤ maxLen := by
  rcases h.2 with ⟨_, h0⟩ | ⟨g, cap, cur, hv, hb, hg, hn, hm, _⟩
  · exact absurd (List.eq_nil_of_length_eq_zero h0) hl
  · simp only [Value.slice.injEq] at hv
    obtain ⟨rfl, _, rfl⟩ := hv
    exact ⟨g, rfl, hb, hn, hm⟩
set_option maxRecDepth 100000 in
set_option maxHeartbeats 1000000 in
theorem indexNone_any (A : Option Addr) (c : Nat) (x : Int × Int) (w : World) :
    Calls Tryz.prog 34 #[.slice A 0 c, candVal x] w fun e w' => e = .returned (.int .i64 (-1)) ∧ Below w.heap.size w w' := by
  have hB0 : Below w.heap.size w (w.alloc (.cells #[.int .i64 x.1, .int .i64 x.2] 33)) := (Below.refl _ _).alloc (Nat.le_refl _) _
  unfold candVal
  go_enter Tryz.func34, Tryz.ntmps34
  go_wp2_with fail
  go_loopw [8] (fun i wr => i = .int .i64 0 ∧ Below w.heap.size w wr) (fun _ _ => 0)
  case atStart => exact ⟨rfl, hB0⟩
  case round =>
    obtain ⟨rfl, hB⟩ := hrel
    go_wp2_with fail
    go_ret
    exact ⟨rfl, hB⟩

/-- What stands between two rounds of a walk. -/
structure WalkIs (l : List OEnt) (d : Int) (ms wk : List (Int × Int)) (c0 cc : Int × Int) : Prop where
  head : (wk ++ [cc])[0]? = some c0
  chain : ChainC (nxAt l d) wk cc
  nodup : wk.Nodup
  fresh : ∀ x, x ∈ wk → x ∉ ms
  tg : ∀ x, x ∈ wk → x ∈ l.map (tgOf l d)
  at' : cc ∈ l.map (tgOf l d)
theorem WalkIs.len {l : List OEnt} {d : Int} {ms wk : List (Int × Int)} {c0 cc : Int × Int} (h : WalkIs l d ms wk c0 cc) (hmn : ms.Nodup) (hmT : ∀ x, x ∈ ms → x ∈ l.map (tgOf l d)) : (ms ++ wk).length ≤ l.length := by
  have hn : (ms ++ wk).Nodup := List.nodup_append.2 ⟨hmn, h.nodup, fun a ha b hb e => h.fresh b hb (by rw [← e]; exact ha)⟩
  have := nodup_le (ms ++ wk) (l.map (tgOf l d)) hn (fun x hx => (List.mem_append.1 hx).elim (hmT x) (h.tg x))
  rwa [List.length_map] at this
theorem WalkIs.on {l : List OEnt} {d : Int} {ms wk : List (Int × Int)} {c0 cc : Int × Int} (h : WalkIs l d ms wk c0 cc) (hn : cc ∉ ms ++ wk) (hl : (hopAt l d cc).2 = true) : WalkIs l d ms (wk ++ [cc]) c0 (hopAt l d cc).1.2.1 := by
  have hx : nxAt l d cc = some (hopAt l d cc).1.2.1 := by unfold nxAt; rw [if_pos hl]
  refine ⟨?_, chainC_snoc h.chain hx, ?_, ?_, ?_, nxAt_mem hx⟩
  · rw [List.getElem?_append_left (by simp)]
    exact h.head
  · refine List.nodup_append.2 ⟨h.nodup, by simp, fun a ha b hb e => ?_⟩
    rw [List.mem_singleton.1 hb] at e
    exact hn (List.mem_append_right _ (by rw [← e]; exact ha))
  · intro x hx
    rcases List.mem_append.1 hx with hx | hx
    · exact h.fresh x hx
    · rw [List.mem_singleton.1 hx]
      exact fun hm => hn (List.mem_append_left _ hm)
  · intro x hx
    rcases List.mem_append.1 hx with hx | hx
    · exact h.tg x hx
    · rw [List.mem_singleton.1 hx]; exact h.at'

set_option maxRecDepth 100000 in
set_option maxHeartbeats 4000000 in
theorem circle_any (A : Option Addr) (c : Nat) (l : List OEnt) (d : Int) (hI : ∀ x ∈ l, intB x.1.place ∧ intB x.1.at') (h60 : l.length ≤ 2000000000000) (c0 : Int × Int) (hc0 : c0 ∈ l.map (tgOf l d)) (b1 b2 mb : Nat) (ms : List (Int × Int)) (hmn : ms.Nodup) (hmT : ∀ x, x ∈ ms → x ∈ l.map (tgOf l d)) (hcl : ClosedC (nxAt l d) ms) (w : World) (hD : DirIn w A l b1 b2 (deadOf l d) (cancOf l d)) (hne : b1 ≠ mb ∧ b2 ≠ mb ∧ ∀ b off, A = some ⟨b, off, none⟩ → b ≠ mb) (hS : SetT 33 w mb ms.length (keysP ms)) :
    Calls Tryz.prog 16 #[dirVal A l.length c d (some b1) (some b2), candVal c0, .map (some mb)] w fun e w' =>
      ∃ wk q A' c', e = .returned (.slice A' q.length c') ∧ CircP (nxAt l d) ms wk c0 q ∧ (q ≠ [] → ∃ g off, A' = some ⟨g, off, none⟩ ∧ w.heap.size ≤ g ∧ PairsF w' g off q ∧ q.length ≤ c' ∧ c' ≤ maxLen) ∧ SetT 33 w' mb (ms ++ wk).length (keysP (ms ++ wk)) ∧ (∀ x, x ∈ wk → x ∈ l.map (tgOf l d)) ∧ Keeps (fun i => i = mb) w w' := by
  have HW0 : Hid (WalkIs l d ms [] c0 c0) := Lib.hid ⟨rfl, chainC_nil _, List.nodup_nil, fun x hx => by simp at hx, fun x hx => by simp at hx, hc0⟩
  have hmz := hS.lt
  have hS0 := hS
  unfold dirVal candVal
  go_enter Tryz.func16, Tryz.ntmps16
  go_wp2_with fail
  have hK0 : Keeps (fun i => i = mb) w ((w.alloc (.cells #[.slice A l.length c, .int .i64 d, .map (some b1), .map (some b2)] 49)).alloc (.cells #[.int .i64 c0.1, .int .i64 c0.2] 33)) := ((Keeps.refl _ w).alloc _).alloc _
  have bD0 : Blk ((w.alloc (.cells #[.slice A l.length c, .int .i64 d, .map (some b1), .map (some b2)] 49)).alloc (.cells #[.int .i64 c0.1, .int .i64 c0.2] 33)) w.heap.size 49 #[.slice A l.length c, .int .i64 d, .map (some b1), .map (some b2)] := (Blk.new w _ _).alloc _
  have bC0 : Blk ((w.alloc (.cells #[.slice A l.length c, .int .i64 d, .map (some b1), .map (some b2)] 49)).alloc (.cells #[.int .i64 c0.1, .int .i64 c0.2] 33)) (w.heap.size + 1) 33 #[.int .i64 c0.1, .int .i64 c0.2] := at_new (by simp)
  have hS1 : SetT 33 ((w.alloc (.cells #[.slice A l.length c, .int .i64 d, .map (some b1), .map (some b2)] 49)).alloc (.cells #[.int .i64 c0.1, .int .i64 c0.2] 33)) mb (ms ++ []).length (keysP (ms ++ [])) := by
    rw [List.append_nil]
    exact (hS0.alloc _).alloc _
  generalize (w.alloc (.cells _ 49)).alloc (.cells _ 33) = W0 at hK0 bD0 bC0 hS1 ⊢
  clear hS hS0
  go_loopw [7] (fun v wr => ∃ (wk : List (Int × Int)) (cc : Int × Int), OwnC wr (w.heap.size + 2) v wk ∧ Blk wr w.heap.size 49 #[.slice A l.length c, .int .i64 d, .map (some b1), .map (some b2)] ∧ Blk wr (w.heap.size + 1) 33 #[.int .i64 cc.1, .int .i64 cc.2] ∧ SetT 33 wr mb (ms ++ wk).length (keysP (ms ++ wk)) ∧ Keeps (fun i => i = mb) w wr ∧ Hid (WalkIs l d ms wk c0 cc)) (fun v _ => 2000000000001 - sliceLen v)
  case atStart => exact ⟨[], c0, OwnC.nil _ _, bD0, bC0, hS1, hK0, HW0⟩
  case round =>
    clear hK0 bD0 bC0 hS1 HW0
    obtain ⟨wk, cc, hO, bD, bC, hSt, hK, HW⟩ := hrel
    obtain ⟨A1, c1, rfl⟩ := hO.shape
    have hlen := HW.out.len hmn hmT
    rw [List.length_append] at hlen
    have hci := tg_int hI HW.out.at'
    obtain ⟨kl, hk⟩ := keyCand hci
    have hlook := hSt.set.look lawCand mapCandRow hk
    have e0 := bC.cell 0
    have e1 := bC.cell 1
    have zC := bC.lt
    have zD := bD.lt
    simp at e0 e1
    by_cases hmet : cc ∈ ms ++ wk
    · rw [(keysP_mem hk).2 hmet] at hlook
      unfold candVal at hlook
      have HM := Lib.hid (List.mem_append.1 hmet)
      clear hmet
      by_cases hw0 : wk = []
      · subst hw0
        have HI := Lib.hid (indexNone_any A1 c1 cc)
        unfold candVal at HI
        have HP := Lib.hid (circ_endA hcl HW.out.head HW.out.chain HW.out.nodup HW.out.fresh HM.out (q := []) (.inl ⟨by simp, rfl⟩))
        clear hk hci
        go_wp2_with (at_lookup; refine wpList_look _ rfl _ _ _ _ rfl hlook ?_)
        refine (HI.out _).mono ?_
        rintro e w5 ⟨rfl, hb5⟩
        go_wp2_with fail
        go_ret
        exact ⟨[], [], none, 0, rfl, HP.out, fun h => absurd rfl h, hSt.below hb5 hSt.lt, fun x hx => by simp at hx, hK.trans (Keeps.of_new (S := fun i => i = mb) hb5) (fun _ _ h => h)⟩
      · obtain ⟨g, rfl, hgb, hgc, hgm⟩ := hO.some hw0
        have hP := hO.from
        have HI := Lib.hid (fun W (hW : Below wr.heap.size wr W) => indexP_any g 0 c1 wk cc (by omega) W (hP.below hW))
        unfold candVal at HI
        by_cases hin : cc ∈ wk
        · obtain ⟨k, hk1, hk2, hk3⟩ := indexP_of' hin
          have HP := Lib.hid (circ_endA hcl HW.out.head HW.out.chain HW.out.nodup HW.out.fresh HM.out (.inr ⟨k, hk2, rfl⟩))
          rw [hk1] at HI
          have HK1 := Lib.hid hk1
          unfold maxLen at hgm
          have i0 : (0 : Int) ≤ (k : Int) := by omega
          have i1 : (k : Int) ≤ (wk.length : Int) := by omega
          have i2 : (wk.length : Int) ≤ (c1 : Int) := by omega
          have i3 : (k : Int) ≤ (c1 : Int) := by omega
          have i4 : ¬ c1 = k := by omega
          clear hk hci hk1 hk2 hin
          go_wp2_with (at_lookup; refine wpList_look _ rfl _ _ _ _ rfl hlook ?_)
          refine (HI.out _ (Below.refl _ _)).mono ?_
          rintro e w5 ⟨rfl, hb5⟩
          go_wp2_with fail
          go_ret
          have hl2 : (wk.drop k).length = wk.length - k := by simp
          exact ⟨wk, wk.drop k, some ⟨g, 0 + k * 2, none⟩, c1 - k, by rw [hl2]; first | rfl | simp, HP.out, fun _ => ⟨g, 0 + k * 2, rfl, by omega, (hP.below hb5).drop k, by omega, by unfold maxLen; omega⟩, hSt.below hb5 hSt.lt, HW.out.tg, hK.trans (Keeps.of_new (S := fun i => i = mb) hb5) (fun _ _ h => h)⟩
        · have hix : indexP wk cc = -1 := indexP_no hin
          have HP := Lib.hid (circ_endA hcl HW.out.head HW.out.chain HW.out.nodup HW.out.fresh HM.out (q := []) (.inl ⟨hin, rfl⟩))
          rw [hix] at HI
          clear hk hci hix hin
          go_wp2_with (at_lookup; refine wpList_look _ rfl _ _ _ _ rfl hlook ?_)
          refine (HI.out _ (Below.refl _ _)).mono ?_
          rintro e w5 ⟨rfl, hb5⟩
          go_wp2_with fail
          go_ret
          exact ⟨wk, [], none, 0, rfl, HP.out, fun h => absurd rfl h, hSt.below hb5 hSt.lt, HW.out.tg, hK.trans (Keeps.of_new (S := fun i => i = mb) hb5) (fun _ _ h => h)⟩
    · rw [Bool.eq_false_iff.2 (fun h => hmet ((keysP_mem hk).1 h))] at hlook
      have HN := Lib.hid hmet
      have hle61 : wk.length ≤ 2000000000000 := by omega
      unfold candVal at hlook hk
      obtain ⟨w2, hrun, hset, hk2⟩ := hSt.store lawCand mapCandRow (by rw [List.length_append]; unfold maxLen; omega) hk
      have hs2 : SetT 33 w2 mb (ms ++ (wk ++ [cc])).length (keysP (ms ++ (wk ++ [cc]))) := by
        have := hset (keysP (ms ++ wk ++ [cc])) (keysP_at (c := cc) hk) (fun k h => keysP_other (c := cc) hk h)
        rw [← List.append_assoc]
        rw [show (ms ++ wk ++ [cc]).length = (ms ++ wk).length + 1 by rw [List.length_append]; rfl]
        exact this
      have hO2 := hO.keep hk2 (fun g hg e => by
        subst e
        have := (hO.own_lt g hg).1
        have h3 := hmz
        omega)
      have bD2 := bD.keep hk2 (show ¬ (w.heap.size = mb) by omega)
      have bC2 := bC.keep hk2 (show ¬ (w.heap.size + 1 = mb) by omega)
      have hK2 := hK.trans hk2 (fun _ _ h => h)
      obtain ⟨v3, w3, hrunA, hO3, hk3⟩ := append_cand hO2 cc (by have := hK2.size; have := bC2.lt; omega) (by omega) 30
      have hown := hO2.own_lt
      have hk3' : Keeps (fun _ => False) w3 w3 := Keeps.refl _ _
      have hs3 : SetT 33 w3 mb (ms ++ (wk ++ [cc])).length (keysP (ms ++ (wk ++ [cc]))) := hs2.of_block (hk3.block mb hs2.lt (fun e => by have := (hown mb e).1; omega))
      have bD3 := bD2.keep hk3 (fun e => by have := (hown _ e).1; omega)
      have bC3 := bC2.keep hk3 (fun e => by have := (hown _ e).1; omega)
      have hK3 : Keeps (fun i => i = mb) w w3 := hK2.trans hk3 (fun i hi e => by have := (hown i e).1; omega)
      have hD3 := hD.keep hK3 (fun e => hne.1 e) (fun e => hne.2.1 e) (fun b off e => hne.2.2 b off e)
      have HH := Lib.hid (hop_any A c l d cc b1 b2 (deadOf l d) (cancOf l d) hci.1 w3 hD3)
      have HAT : Hid (hopOf (deadOf l d) (cancOf l d) l d cc = hopAt l d cc) := Lib.hid rfl
      rw [HAT.out] at HH
      clear HAT
      have HE : Hid ((hopAt l d cc).2 = false → nxAt l d cc = none) := Lib.hid fun h => by unfold nxAt; rw [h]; rfl
      have HON : Hid ((hopAt l d cc).2 = true → WalkIs l d ms (wk ++ [cc]) c0 (hopAt l d cc).1.2.1) := Lib.hid fun h => HW.out.on HN.out h
      have HENDB : Hid ((hopAt l d cc).2 = false → CircP (nxAt l d) ms (wk ++ [cc]) c0 [] ∧ ∀ x, x ∈ wk ++ [cc] → x ∈ l.map (tgOf l d)) := Lib.hid fun h =>
        ⟨circ_endB hcl HW.out.head HW.out.chain (List.nodup_append.2 ⟨HW.out.nodup, by simp, fun a ha b hb e => by
            rw [List.mem_singleton.1 hb] at e
            exact HN.out (List.mem_append_right _ (by rw [← e]; exact ha))⟩) (fun x hx => by
            rcases List.mem_append.1 hx with hx | hx
            · exact HW.out.fresh x hx
            · rw [List.mem_singleton.1 hx]
              exact fun hm => HN.out (List.mem_append_left _ hm)) (HE.out h), fun x hx => by
            rcases List.mem_append.1 hx with hx | hx
            · exact HW.out.tg x hx
            · rw [List.mem_singleton.1 hx]; exact HW.out.at'⟩
      generalize hopAt l d cc = hv at HH HON HENDB
      obtain ⟨⟨k1, ⟨t1, t2⟩, o1⟩, ld⟩ := hv
      unfold dirVal candVal hopVal at HH
      have f0 := bC2.cell 0
      have f1 := bC2.cell 1
      have zC2 := bC2.lt
      have h0 := bC3.cell 0
      have h1 := bC3.cell 1
      have zC3 := bC3.lt
      have d0 := bD3.cell 0
      have d1 := bD3.cell 1
      have d2 := bD3.cell 2
      have d3 := bD3.cell 3
      have zD3 := bD3.lt
      simp at f0 f1 h0 h1 d0 d1 d2 d3
      have HLC : Hid ((wk ++ [cc]).length = wk.length + 1) := Lib.hid (by simp)
      clear hk hci hset hO hO2 bD bC hSt hK bD2 bC2 hK2 hs2 hk2 hk3 hk3' hown HE HN hmet zD
      dsimp only at HH HON HENDB
      go_wp2_with (first
        | (at_lookup; refine wpList_look _ rfl _ _ _ _ rfl hlook ?_)
        | (at_mapUpdate; refine wpList_put _ rfl _ _ _ _ rfl hrun ?_)
        | (at_builtin; refine Lib.wpList_append_run _ rfl _ _ _ _ rfl _ _ rfl rfl _ _ hrunA ?_))
      refine HH.out.mono ?_
      rintro e w4 ⟨rfl, hb4⟩
      have bC4 := bC3.below hb4 bC3.lt
      have bD4 := bD3.below hb4 bD3.lt
      have hs4 := hs3.below hb4 hs3.lt
      have hO4 := hO3.below hb4
      have hK4 : Keeps (fun i => i = mb) w w4 := hK3.trans (Keeps.of_new (S := fun i => i = mb) hb4) (fun _ _ h => h)
      clear bC3 bD3 hs3 hO3 hK3 hb4 hD3 HH f0 f1 h0 h1 d0 d1 d2 d3 zC2 zC3 zD3 e0 e1 zC hlook hrun hrunA
      have hs5 := hs4.alloc (.cells #[.int .u8 k1, .int .i64 cc.1, .int .i64 cc.2, .int .i64 t1, .int .i64 t2, .int .i64 o1] 45)
      have hK5 := hK4.alloc (.cells #[.int .u8 k1, .int .i64 cc.1, .int .i64 cc.2, .int .i64 t1, .int .i64 t2, .int .i64 o1] 45)
      have bC5 := bC4.alloc (.cells #[.int .u8 k1, .int .i64 cc.1, .int .i64 cc.2, .int .i64 t1, .int .i64 t2, .int .i64 o1] 45)
      have bD5 := bD4.alloc (.cells #[.int .u8 k1, .int .i64 cc.1, .int .i64 cc.2, .int .i64 t1, .int .i64 t2, .int .i64 o1] 45)
      have hO5 := hO4.keep (S := fun _ => False) ((Keeps.refl _ w4).alloc (.cells #[.int .u8 k1, .int .i64 cc.1, .int .i64 cc.2, .int .i64 t1, .int .i64 t2, .int .i64 o1] 45)) (fun _ _ h => h)
      cases ld
      · go_wp2_with fail
        go_ret
        exact ⟨wk ++ [cc], [], none, 0, rfl, (HENDB.out (by first | rfl | trivial)).1, fun h => absurd rfl h, hs5, (HENDB.out (by first | rfl | trivial)).2, hK5⟩
      · have g0 := bC5.cell 0
        have g1 := bC5.cell 1
        have gf0 := bC5.frozen 0
        have gf1 := bC5.frozen 1
        have gz := bC5.lt
        have gz4 := bC4.lt
        have q0 := bC4.cell 0
        have q1 := bC4.cell 1
        have qf0 := bC4.frozen 0
        have qf1 := bC4.frozen 1
        simp at g0 g1 q0 q1
        obtain ⟨A3, c3, rfl⟩ := hO5.shape
        go_wp2_with fail
        go_roundw
        case rel =>
          refine ⟨wk ++ [cc], (t1, t2), ?_, ?_, ?_, ?_, ?_, Lib.hid (HON.out (by first | rfl | trivial))⟩
          · rw [← HLC.out]
            exact hO4.keep (S := fun i => i = w.heap.size + 1) ((((Keeps.refl (fun i => i = w.heap.size + 1) w4).setCell (p := ⟨w.heap.size + 1, 0, none⟩) (fun _ => rfl) _).setCell (p := ⟨w.heap.size + 1, 1, none⟩) (fun _ => rfl) _).alloc _) (fun g hg e => by have := (hO4.own_lt g hg).1; omega)
          · exact ((bD4.far (p := ⟨w.heap.size + 1, 0, none⟩) (by simp) _).far (p := ⟨w.heap.size + 1, 1, none⟩) (by simp) _).alloc _
          · exact ((bC4.set 0 (.int .i64 t1)).set 1 (.int .i64 t2)).alloc _
          · exact hs4.keep (S := fun i => i = w.heap.size + 1) ((((Keeps.refl (fun i => i = w.heap.size + 1) w4).setCell (p := ⟨w.heap.size + 1, 0, none⟩) (fun _ => rfl) _).setCell (p := ⟨w.heap.size + 1, 1, none⟩) (fun _ => rfl) _).alloc _) (by omega)
          · exact ((hK4.setCell (p := ⟨w.heap.size + 1, 0, none⟩) (fun h => by simp at h; omega) _).setCell (p := ⟨w.heap.size + 1, 1, none⟩) (fun h => by simp at h; omega) _).alloc _
        case measure => simp [sliceLen]; omega
end Go.Proofs.YtlbehpbhmmppiaaGreatDoor
