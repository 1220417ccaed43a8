/- The contracts of a network's peek, Take, Lose and Repeat. Conditions: the network lies in memory. The contracts of the reference's Texts and of its network's questions. Conditions: the network lies in memory. -/
import Derived.Test.YthgfbaekmhpiaaaGreatDoorNetA
namespace Go.Proofs.YthgfbaekmhpiaaaGreatDoor
open Go.RowKit

/-- Whether a message waits at an index of a line; it, and the error; the lines without it. -/
def hasB (o : Int) (ls : List (List ByteArray)) (f t i : Int) : Bool := onL o f t && (decide (0 ≤ i) && decide (i < ((lineL_ ls f t).length : Int)))
def peekT (o : Int) (ls : List (List ByteArray)) (f t i : Int) : ByteArray := if hasB o ls f t i = true then (lineL_ ls f t).getD i.toNat ⟨#[]⟩ else ⟨#[]⟩
def peekE (o : Int) (ls : List (List ByteArray)) (f t i : Int) : Int := if hasB o ls f t i = true then 0 else 5
def takeL (o : Int) (ls : List (List ByteArray)) (f t i : Int) : List (List ByteArray) := if hasB o ls f t i = true then ls.set (f.toNat * 8 + t.toNat) ((lineL_ ls f t).eraseIdx i.toNat) else ls
theorem wait_in (b : Bool) (n : Nat) (i : Int) : inB i 0 ((if b = true then (n : Int) else 0) - 1) = (b && (decide (0 ≤ i) && decide (i < (n : Int)))) := by
  unfold inB
  cases b
  · rw [if_neg (by decide)]
    by_cases h : 0 ≤ i
    · rw [decide_eq_false (p := i ≤ 0 - 1) (by omega)]; simp
    · rw [decide_eq_false h]; simp
  · rw [if_pos rfl, Bool.true_and]
    by_cases h : i < (n : Int)
    · rw [decide_eq_true h, decide_eq_true (p := i ≤ (n : Int) - 1) (by omega)]
    · rw [decide_eq_false h, decide_eq_false (p := i ≤ (n : Int) - 1) (by omega)]
set_option maxRecDepth 100000 in
set_option maxHeartbeats 1000000 in
theorem npeek_any {w : World} {base p : Nat} {o : Int} {vs : List Value} {ls : List (List ByteArray)} (h : NetAt 92 w base p o vs ls) (f t i : Int) :
    Calls Tryz.prog 53 #[.pointer (some ⟨p, 0, none⟩), .int .i64 f, .int .i64 t, .int .i64 i] w fun e w' => e = .returned (.tuple #[.string (peekT o ls f t i), .int .i64 (peekE o ls f t i)]) ∧ w = w' := by
  have HWA := Lib.hid (nwait_any h f t)
  have hwl : (if onL o f t = true then ((lineL_ ls f t).length : Int) else 0) ≤ 100 ∧ 0 ≤ (if onL o f t = true then ((lineL_ ls f t).length : Int) else 0) := by
    by_cases hlb : onL o f t = true
    · rw [if_pos hlb]
      obtain ⟨a, b, rfl, rfl, ha, hb8, _⟩ := onL_nat hlb h.off.2
      obtain ⟨A, c, l, hv, hl, hO, hl100⟩ := h.at (k := a * 8 + b) (by omega)
      rw [lineL_of hl]
      omega
    · rw [if_neg hlb]; omega
  have hin := wait_in (onL o f t) (lineL_ ls f t).length i
  have HWI := Lib.hid (fun W => within3_any i 0 ((if onL o f t = true then ((lineL_ ls f t).length : Int) else 0) - 1) W)
  rw [hin] at HWI
  have hwr : IntKind.i64.wrap ((if onL o f t = true then ((lineL_ ls f t).length : Int) else 0) - 1) = (if onL o f t = true then ((lineL_ ls f t).length : Int) else 0) - 1 := wrap_id _ (by omega) (by omega)
  rcases hh : hasB o ls f t i with _ | _
  · rw [show peekT o ls f t i = ⟨#[]⟩ by unfold peekT; rw [if_neg (by rw [hh]; decide)], show peekE o ls f t i = 5 by unfold peekE; rw [if_neg (by rw [hh]; decide)]]
    unfold hasB at hh
    rw [hh] at HWI
    generalize (if onL o f t = true then ((lineL_ ls f t).length : Int) else 0) = n at HWA HWI hwr hwl
    clear h hin hh
    go_enter Tryz.func53, Tryz.ntmps53
    go_wp2_with fail
    refine HWA.out.mono ?_
    rintro e w1 ⟨rfl, rfl⟩
    go_wp2_with fail
    refine (HWI.out _).mono ?_
    rintro e w1 ⟨rfl, rfl⟩
    go_wp2_with fail
    go_ret2
    exact ⟨rfl, rfl⟩
  · have hh2 := hh
    unfold hasB at hh2
    rw [hh2] at HWI
    simp only [Bool.and_eq_true, decide_eq_true_eq] at hh2
    obtain ⟨hlb, hi0, hi1⟩ := hh2
    obtain ⟨a, b, rfl, rfl, ha, hb8, hne, ha2, hb2⟩ := onL_nat hlb h.off.2
    obtain ⟨A, c, l, hv, hl, hO, hl100⟩ := h.at (k := a * 8 + b) (by omega)
    have c1 := h.cellL hv
    rw [lineL_of hl] at hi1
    obtain ⟨k, rfl⟩ : ∃ k : Nat, i = (k : Int) := ⟨i.toNat, by omega⟩
    obtain ⟨x, hx⟩ : ∃ x, l[k]? = some x := ⟨_, List.getElem?_eq_getElem (by omega)⟩
    obtain ⟨g, rfl, hg, cx⟩ := hO.cell (k := k) (x := .string x) (by rw [List.getElem?_map, hx]; rfl)
    rw [show peekT o ls (a : Int) (b : Int) (k : Int) = x by unfold peekT; rw [if_pos hh, lineL_of hl, Int.toNat_natCast, List.getD_eq_getElem?_getD, hx]; rfl, show peekE o ls (a : Int) (b : Int) (k : Int) = 0 by unfold peekE; rw [if_pos hh]]
    have zp := h.blk.lt
    have ha3 : (a : Int) < 8 := by omega
    have hb3 : (b : Int) < 8 := by omega
    have hk3 : (k : Int) < (l.length : Int) := hi1
    generalize (if onL o (a : Int) (b : Int) = true then ((lineL_ ls (a : Int) (b : Int)).length : Int) else 0) = n at HWA HWI hwr hwl
    clear h hin hh hlb hi0 hi1 hv hl hO hx hne ha2 hb2
    go_enter Tryz.func53, Tryz.ntmps53
    go_wp2_with fail
    refine HWA.out.mono ?_
    rintro e w1 ⟨rfl, rfl⟩
    go_wp2_with fail
    refine (HWI.out _).mono ?_
    rintro e w1 ⟨rfl, rfl⟩
    go_wp2_with fail
    go_ret2
    exact ⟨rfl, rfl⟩
set_option maxRecDepth 100000 in
set_option maxHeartbeats 2000000 in
theorem ntake_any {w : World} {base p : Nat} {o : Int} {vs : List Value} {ls : List (List ByteArray)} (h : NetAt 92 w base p o vs ls) (f t i : Int) :
    Calls Tryz.prog 14 #[.pointer (some ⟨p, 0, none⟩), .int .i64 f, .int .i64 t, .int .i64 i] w fun e w' => e = .returned (.tuple #[.string (peekT o ls f t i), .int .i64 (peekE o ls f t i)]) ∧ NetTo 92 w base p o vs (takeL o ls f t i) w' := by
  have HP := Lib.hid (npeek_any h f t i)
  have HN := Lib.hid h
  rcases hh : hasB o ls f t i with _ | _
  · rw [show takeL o ls f t i = ls by unfold takeL; rw [if_neg (by rw [hh]; decide)]]
    rw [show peekE o ls f t i = 5 by unfold peekE; rw [if_neg (by rw [hh]; decide)]] at HP ⊢
    generalize peekT o ls f t i = x at HP ⊢
    clear h hh
    go_enter Tryz.func14, Tryz.ntmps14
    go_wp2_with fail
    refine HP.out.mono ?_
    rintro e w1 ⟨rfl, rfl⟩
    go_wp2_with fail
    go_ret2
    exact ⟨rfl, NetTo.same HN.out⟩
  · have hh2 := hh
    unfold hasB at hh2
    simp only [Bool.and_eq_true, decide_eq_true_eq] at hh2
    obtain ⟨hlb, hi0, hi1⟩ := hh2
    obtain ⟨a, b, rfl, rfl, ha, hb8, hne, ha2, hb2⟩ := onL_nat hlb h.off.2
    obtain ⟨A, c, l, hv, hl, hO, hl100⟩ := h.at (k := a * 8 + b) (by omega)
    have c1 := h.cellL hv
    have hli := lineL_of hl
    rw [hli] at hi1
    obtain ⟨k, rfl⟩ : ∃ k : Nat, i = (k : Int) := ⟨i.toNat, by omega⟩
    obtain ⟨x, hx⟩ : ∃ x, l[k]? = some x := ⟨_, List.getElem?_eq_getElem (by omega)⟩
    obtain ⟨g, rfl, hg, cx⟩ := hO.cell (k := k) (x := .string x) (by rw [List.getElem?_map, hx]; rfl)
    rw [show takeL o ls (a : Int) (b : Int) (k : Int) = ls.set (a * 8 + b) (l.eraseIdx k) by unfold takeL; rw [if_pos hh, hli, Int.toNat_natCast, Int.toNat_natCast, Int.toNat_natCast]]
    rw [show peekE o ls (a : Int) (b : Int) (k : Int) = 0 by unfold peekE; rw [if_pos hh]] at HP ⊢
    generalize peekT o ls (a : Int) (b : Int) (k : Int) = y at HP ⊢
    have zp := h.blk.lt
    have ha3 : (a : Int) < 8 := by omega
    have hb3 : (b : Int) < 8 := by omega
    have hk3 : (k : Int) < 100 := by omega
    have hwk : IntKind.i64.wrap ((k : Int) + 1) = (k : Int) + 1 := wrap_id _ (by omega) (by omega)
    have HD := Lib.hid (delete_text (w := w.drew) (hO.below ((Below.refl _ w).drew)) (k := k) (by omega) hl100)
    have hgp : g ≠ p := h.ne hv rfl
    have hel : (l.eraseIdx k).length = l.length - 1 := by rw [List.length_eraseIdx, if_pos (by omega)]
    have c1d : w.drew.cell? ⟨p, 1 + a * 8 + b, none⟩ = some (.slice (some ⟨g, 0, none⟩) l.length c) := c1
    have HV := Lib.hid hv
    have HEL := Lib.hid hel
    have HL1 := Lib.hid hl100
    have hzp : p < w.drew.heap.size := zp
    clear h hh hlb hi0 hi1 hv hl hO hx hne ha2 hb2 hli hel hl100 cx
    go_enter Tryz.func14, Tryz.ntmps14
    go_wp2_with fail
    refine HP.out.mono ?_
    rintro e w1 ⟨rfl, rfl⟩
    go_upto_region 3 with fail
    go_region_law (first
      | (go_simp; go_at_call 54; refine HD.out.mono ?_; rintro e wI ⟨rfl, hOI, hKI⟩
         have hpI : wI.heap[p]? = w.heap[p]? := hKI.block p zp (fun e => hgp e.symm)
         have hcI : wI.cell? ⟨p, 1 + a * 8 + b, none⟩ = some (.slice (some ⟨g, 0, none⟩) l.length c) := (World.cell?_of_block hpI).trans c1
         have hfI : wI.frozen? ⟨p, 1 + a * 8 + b, none⟩ = false := (World.frozen?_of_block hpI).trans (HN.out.blk.frozen _)
         have hzI : p < wI.heap.size := Nat.lt_of_lt_of_le zp hKI.size
         have HO := Lib.hid hOI
         have HK := Lib.hid hKI
         clear hOI hKI hpI
         dsimp only))
    all_goals
      have HPT := Lib.hid (HN.out.put (l' := l.eraseIdx k) HV.out (w' := wI) ⟨HK.out.os, HK.out.tape, HK.out.output, HK.out.size, fun j hj hn => HK.out.block j hj (fun e => hn (by rw [e]; rfl))⟩ HO.out ⟨_, _, by rw [HEL.out]⟩ (by have := HL1.out; have := HEL.out; omega) (fun j hj => .inl hj) (q := 1 + a * 8 + b) (by omega))
      go_wp2_with fail
      go_ret2
      exact ⟨rfl, _, HPT.out⟩
set_option maxRecDepth 100000 in
set_option maxHeartbeats 1000000 in
theorem nlose_any {w : World} {base p : Nat} {o : Int} {vs : List Value} {ls : List (List ByteArray)} (h : NetAt 92 w base p o vs ls) (f t i : Int) :
    Calls Tryz.prog 16 #[.pointer (some ⟨p, 0, none⟩), .int .i64 f, .int .i64 t, .int .i64 i] w fun e w' => e = .returned (.int .i64 (peekE o ls f t i)) ∧ NetTo 92 w base p o vs (takeL o ls f t i) w' := by
  have HT := Lib.hid (ntake_any h f t i)
  clear h
  go_enter Tryz.func16, Tryz.ntmps16
  go_wp2_with fail
  refine HT.out.mono ?_
  rintro e w1 ⟨rfl, hN⟩
  have HN := Lib.hid hN
  clear hN
  go_wp2_with fail
  go_ret
  exact ⟨rfl, HN.out⟩
/-- What Repeat returns, and the lines behind it. -/
def repR (o : Int) (ls : List (List ByteArray)) (f t i : Int) : Int := if hasB o ls f t i = true then sendR o ls f t (peekT o ls f t i) else 5
def repL (o : Int) (ls : List (List ByteArray)) (f t i : Int) : List (List ByteArray) := if hasB o ls f t i = true then sendL o ls f t (peekT o ls f t i) else ls
set_option maxRecDepth 100000 in
set_option maxHeartbeats 1000000 in
theorem nrepeat_any {w : World} {base p : Nat} {o : Int} {vs : List Value} {ls : List (List ByteArray)} (h : NetAt 92 w base p o vs ls) (hb : base ≤ w.heap.size) (f t i : Int) :
    Calls Tryz.prog 17 #[.pointer (some ⟨p, 0, none⟩), .int .i64 f, .int .i64 t, .int .i64 i] w fun e w' => e = .returned (.int .i64 (repR o ls f t i)) ∧ NetTo 92 w base p o vs (repL o ls f t i) w' := by
  have HP := Lib.hid (npeek_any h f t i)
  have HS := Lib.hid (nsend_any h hb f t (peekT o ls f t i))
  have HN := Lib.hid h
  rcases hh : hasB o ls f t i with _ | _
  · rw [show repR o ls f t i = 5 by unfold repR; rw [if_neg (by rw [hh]; decide)], show repL o ls f t i = ls by unfold repL; rw [if_neg (by rw [hh]; decide)]]
    rw [show peekE o ls f t i = 5 by unfold peekE; rw [if_neg (by rw [hh]; decide)]] at HP
    generalize peekT o ls f t i = x at HP HS
    clear h hh
    go_enter Tryz.func17, Tryz.ntmps17
    go_wp2_with fail
    refine HP.out.mono ?_
    rintro e w1 ⟨rfl, rfl⟩
    go_wp2_with fail
    go_ret
    exact ⟨rfl, NetTo.same HN.out⟩
  · rw [show repR o ls f t i = sendR o ls f t (peekT o ls f t i) by unfold repR; rw [if_pos hh], show repL o ls f t i = sendL o ls f t (peekT o ls f t i) by unfold repL; rw [if_pos hh]]
    rw [show peekE o ls f t i = 0 by unfold peekE; rw [if_pos hh]] at HP
    generalize peekT o ls f t i = x at HP HS ⊢
    generalize sendR o ls f t x = r at HS ⊢
    generalize sendL o ls f t x = l2 at HS ⊢
    clear h hh
    go_enter Tryz.func17, Tryz.ntmps17
    go_wp2_with fail
    refine HP.out.mono ?_
    rintro e w1 ⟨rfl, rfl⟩
    go_wp2_with fail
    refine HS.out.mono ?_
    rintro e w1 ⟨rfl, hN⟩
    have HN2 := Lib.hid hN
    clear hN
    go_wp2_with fail
    go_ret
    exact ⟨rfl, HN2.out⟩
theorem NetAt.fresh {T : TypeId} {w : World} {base p : Nat} {o : Int} (hB : Blk w p T (Value.int .i64 o :: List.replicate 64 (Value.slice none 0 0)).toArray) (ho : 1 ≤ o ∧ o ≤ 8) (hT : T ≠ 9) : NetAt T w base p o (List.replicate 64 (Value.slice none 0 0)) (List.replicate 64 []) := by
  have hr : ∀ k v, (List.replicate 64 (Value.slice none 0 0))[k]? = some v → v = Value.slice none 0 0 := fun k v hv => List.eq_of_mem_replicate (List.mem_of_getElem? hv)
  refine ⟨hB, by rw [List.length_replicate], by rw [List.length_replicate], fun k v l hv hl => ?_, fun j k v u i hv hu h1 h2 => ?_, ho, hT⟩
  · obtain rfl := hr k v hv
    obtain rfl : l = [] := List.eq_of_mem_replicate (List.mem_of_getElem? hl)
    exact ⟨⟨rfl, .inl ⟨rfl, rfl⟩⟩, ⟨none, 0, rfl⟩, Nat.zero_le _⟩
  · obtain rfl := hr j v hv
    simp [Value.ownBlock] at h1
set_option maxRecDepth 100000 in
set_option maxHeartbeats 1000000 in
theorem newNet_ok (o : Int) (ho : 1 ≤ o ∧ o ≤ 8) (w : World) :
    Calls Tryz.prog 7 #[.int .i64 o] w fun e w' => e = .returned (.tuple #[.pointer (some ⟨w.heap.size, 0, none⟩), .int .i64 0]) ∧ NetAt 92 w' w.heap.size w.heap.size o (List.replicate 64 (Value.slice none 0 0)) (List.replicate 64 []) ∧ Below w.heap.size w w' := by
  have HW := Lib.hid (fun W => within3_any o 1 8 W)
  rw [show inB o 1 8 = true by unfold inB; rw [decide_eq_true ho.1, decide_eq_true ho.2]; rfl] at HW
  have HN : Hid (NetAt 92 (w.alloc (.cells (Value.int .i64 o :: List.replicate 64 (Value.slice none 0 0)).toArray 92)) w.heap.size w.heap.size o (List.replicate 64 (Value.slice none 0 0)) (List.replicate 64 [])) := Lib.hid (NetAt.fresh (Blk.new w _ _) ho (by decide))
  have HB := Lib.hid ((Below.refl _ w).alloc (Nat.le_refl _) (.cells (Value.int .i64 o :: List.replicate 64 (Value.slice none 0 0)).toArray 92))
  go_enter Tryz.func7, Tryz.ntmps7
  go_wp2_with fail
  refine (HW.out _).mono ?_
  rintro e w1 ⟨rfl, rfl⟩
  go_wp2_with fail
  go_ret2
  exact ⟨rfl, HN.out, HB.out⟩
theorem newNet_bad (o : Int) (ho : ¬ (1 ≤ o ∧ o ≤ 8)) (w : World) :
    Calls Tryz.prog 7 #[.int .i64 o] w fun e w' => e = .returned (.tuple #[.pointer none, .int .i64 1]) ∧ w = w' := by
  have HW := Lib.hid (fun W => within3_any o 1 8 W)
  rw [show inB o 1 8 = false by unfold inB; by_cases h : 1 ≤ o <;> simp [h] <;> omega] at HW
  go_enter Tryz.func7, Tryz.ntmps7
  go_wp2_with fail
  refine (HW.out _).mono ?_
  rintro e w1 ⟨rfl, rfl⟩
  go_wp2_with fail
  go_ret2
  exact ⟨rfl, rfl⟩
end Go.Proofs.YthgfbaekmhpiaaaGreatDoor
namespace Go.Proofs.YthgfbaekmhpiaaaGreatDoor
open Go.RowKit

set_option maxRecDepth 100000 in
set_option maxHeartbeats 1000000 in
theorem texts_any {w : World} {base : Nat} {A : Option Addr} {c : Nat} {l : List ByteArray} (hO : OwnT w base (.slice A l.length c) (l.map Value.string)) (hl : l.length ≤ 1000000) :
    Calls Tryz.prog 52 #[.slice A l.length c] w fun e w' => ∃ A' c', e = .returned (.slice A' l.length c') ∧ OwnT w' w.heap.size (.slice A' l.length c') (l.map Value.string) ∧ Below w.heap.size w w' := by
  have HO := Lib.hid hO
  have HL := Lib.hid hl
  clear hO
  go_enter Tryz.func52, Tryz.ntmps52
  go_wp2_with fail
  go_loopw [3, 4] (fun v i wr => ∃ k : Nat, k ≤ l.length ∧ i = .int .i64 (k : Int) ∧ (∃ A' c', v = .slice A' k c') ∧ OwnT wr w.heap.size v ((l.take k).map Value.string) ∧ Below w.heap.size w wr) (fun _ i _ => l.length - (intOf i).toNat)
  case atStart => exact ⟨0, Nat.zero_le _, rfl, ⟨none, 0, rfl⟩, ⟨rfl, .inl ⟨rfl, rfl⟩⟩, Below.refl _ _⟩
  case round =>
    obtain ⟨k, hk, rfl, ⟨A', c', rfl⟩, hv, hb⟩ := hrel
    have HB := Lib.hid hb
    have HV := Lib.hid hv
    by_cases hlt : k < l.length
    · obtain ⟨x, hx⟩ : ∃ x, l[k]? = some x := ⟨_, List.getElem?_eq_getElem hlt⟩
      obtain ⟨g, rfl, hg, cx⟩ := (HO.out.below HB.out).cell (k := k) (x := .string x) (by rw [List.getElem?_map, hx]; rfl)
      have hki : (k : Int) < (l.length : Int) := by omega
      have hlk : ((l.take k).map Value.string).length = k := by rw [List.length_map, List.length_take]; omega
      obtain ⟨A2, c2, w2, hrun, hO2, hK2, hv2⟩ := append_text hv (by rw [hlk]; omega) hb.size x
      rw [hlk] at hrun hO2
      have HO2 : Hid (OwnT w2 w.heap.size (.slice A2 (k + 1) c2) ((l.take (k + 1)).map Value.string)) := Lib.hid (by
        rw [List.take_add_one, hx, List.map_append]
        exact hO2)
      have HB2 := Lib.hid (hb.trans (hK2.below (B := w.heap.size) (fun i hi e => by have := (World.ownsRow.lt hv i e).1; omega) hb.size))
      have HLT := Lib.hid hlt
      clear hv hb hx hlt hlk hO2 hK2 hv2 hk
      go_wp2_with (at_builtin; refine Lib.wpList_append_run _ rfl _ _ _ _ rfl _ _ rfl rfl _ _ hrun ?_)
      go_roundw
      case rel => exact ⟨k + 1, HLT.out, by go_num, ⟨_, _, rfl⟩, HO2.out, HB2.out⟩
      case measure => exact meas_up _ _ HLT.out
    · obtain rfl : k = l.length := by omega
      have hki : ¬ ((l.length : Nat) : Int) < (l.length : Int) := by omega
      rw [List.take_length] at hv
      have HVE := Lib.hid hv
      clear hv hb hk hlt
      go_wp2_with fail
      go_ret
      exact ⟨_, _, rfl, HVE.out, HB.out⟩
set_option maxRecDepth 100000 in
set_option maxHeartbeats 1000000 in
theorem rline_any {w : World} {base p : Nat} {o : Int} {vs : List Value} {ls : List (List ByteArray)} (h : NetAt 94 w base p o vs ls) (f t : Int) :
    Calls Tryz.prog 51 #[.pointer (some ⟨p, 0, none⟩), .int .i64 f, .int .i64 t] w fun e w' => e = .returned (.bool (onL o f t)) ∧ w = w' := by
  have c0 := h.cell0
  have zp := h.blk.lt
  have ho := h.off
  clear h
  by_cases h1 : f = t
  · have HL : Hid (onL o f t = false) := Lib.hid (by unfold onL; rw [decide_eq_false (fun h => h h1)]; rfl)
    subst h1
    go_enter Tryz.func51, Tryz.ntmps51
    go_wp2_with fail
    go_ret
    exact ⟨by rw [HL.out]; rfl, rfl⟩
  have n1 : (f == t) = false := by simpa using h1
  have n2 : (f != t) = true := by simpa using h1
  by_cases h2 : 0 ≤ f
  rotate_left
  · have HL : Hid (onL o f t = false) := Lib.hid (by unfold onL; rw [decide_eq_false h2]; simp)
    go_enter Tryz.func51, Tryz.ntmps51
    go_wp2_with fail
    go_ret
    exact ⟨by rw [HL.out]; rfl, rfl⟩
  by_cases h3 : 0 ≤ t
  rotate_left
  · have HL : Hid (onL o f t = false) := Lib.hid (by unfold onL; rw [decide_eq_false h3]; simp)
    go_enter Tryz.func51, Tryz.ntmps51
    go_wp2_with fail
    go_ret
    exact ⟨by rw [HL.out]; rfl, rfl⟩
  by_cases h4 : f < o
  rotate_left
  · have HL : Hid (onL o f t = false) := Lib.hid (by unfold onL; rw [decide_eq_false h4]; simp)
    go_enter Tryz.func51, Tryz.ntmps51
    go_wp2_with fail
    go_ret
    exact ⟨by rw [HL.out]; rfl, rfl⟩
  by_cases h5 : t < o
  rotate_left
  · have HL : Hid (onL o f t = false) := Lib.hid (by unfold onL; rw [decide_eq_false h5]; simp)
    go_enter Tryz.func51, Tryz.ntmps51
    go_wp2_with fail
    go_ret
    exact ⟨by rw [HL.out]; rfl, rfl⟩
  have HL : Hid (onL o f t = true) := Lib.hid (by unfold onL; rw [decide_eq_true h1, decide_eq_true h2, decide_eq_true h3, decide_eq_true h4, decide_eq_true h5]; rfl)
  go_enter Tryz.func51, Tryz.ntmps51
  go_wp2_with fail
  go_ret
  exact ⟨by rw [HL.out]; rfl, rfl⟩
set_option maxRecDepth 100000 in
set_option maxHeartbeats 1000000 in
theorem rwait_any {w : World} {base p : Nat} {o : Int} {vs : List Value} {ls : List (List ByteArray)} (h : NetAt 94 w base p o vs ls) (f t : Int) :
    Calls Tryz.prog 13 #[.pointer (some ⟨p, 0, none⟩), .int .i64 f, .int .i64 t] w fun e w' => e = .returned (.int .i64 (if onL o f t = true then ((lineL_ ls f t).length : Int) else 0)) ∧ w = w' := by
  have HL := Lib.hid (rline_any h f t)
  have zp := h.blk.lt
  rcases hlb : onL o f t with _ | _
  · rw [hlb] at HL
    rw [if_neg (by decide)]
    clear h hlb
    go_enter Tryz.func13, Tryz.ntmps13
    go_wp2_with fail
    refine HL.out.mono ?_
    rintro e w1 ⟨rfl, rfl⟩
    go_wp2_with fail
    go_ret
    exact ⟨rfl, rfl⟩
  · rw [hlb] at HL
    rw [if_pos rfl]
    obtain ⟨a, b, rfl, rfl, ha, hb8, hne, ha2, hb2⟩ := onL_nat hlb h.off.2
    obtain ⟨A, c, l, hv, hl, hO, hl100⟩ := h.at (k := a * 8 + b) (by omega)
    have c1 := h.cellL hv
    have ha3 : (a : Int) < 8 := by omega
    have hb3 : (b : Int) < 8 := by omega
    rw [lineL_of hl]
    clear h hlb hO hv hl hne ha2 hb2
    go_enter Tryz.func13, Tryz.ntmps13
    go_wp2_with fail
    refine HL.out.mono ?_
    rintro e w1 ⟨rfl, rfl⟩
    go_wp2_with fail
    go_ret
    exact ⟨rfl, rfl⟩
set_option maxRecDepth 100000 in
set_option maxHeartbeats 1000000 in
theorem rhas_any {w : World} {base p : Nat} {o : Int} {vs : List Value} {ls : List (List ByteArray)} (h : NetAt 94 w base p o vs ls) (f t i : Int) :
    Calls Tryz.prog 55 #[.pointer (some ⟨p, 0, none⟩), .int .i64 f, .int .i64 t, .int .i64 i] w fun e w' => e = .returned (.bool (hasB o ls f t i)) ∧ w = w' := by
  have HL := Lib.hid (rline_any h f t)
  have zp := h.blk.lt
  rcases hlb : onL o f t with _ | _
  · rw [hlb] at HL
    rw [show hasB o ls f t i = false by unfold hasB; rw [hlb]; rfl]
    clear h hlb
    go_enter Tryz.func55, Tryz.ntmps55
    go_wp2_with fail
    refine HL.out.mono ?_
    rintro e w1 ⟨rfl, rfl⟩
    go_wp2_with fail
    go_ret
    exact ⟨rfl, rfl⟩
  · rw [hlb] at HL
    obtain ⟨a, b, rfl, rfl, ha, hb8, hne, ha2, hb2⟩ := onL_nat hlb h.off.2
    obtain ⟨A, c, l, hv, hl, hO, hl100⟩ := h.at (k := a * 8 + b) (by omega)
    have c1 := h.cellL hv
    have ha3 : (a : Int) < 8 := by omega
    have hb3 : (b : Int) < 8 := by omega
    have hhb : hasB o ls (a : Int) (b : Int) i = (decide (0 ≤ i) && decide (i < (l.length : Int))) := by unfold hasB; rw [hlb, lineL_of hl, Bool.true_and]
    by_cases hi0 : 0 ≤ i
    rotate_left
    · rw [show hasB o ls (a : Int) (b : Int) i = false by rw [hhb, decide_eq_false hi0]; rfl]
      clear h hlb hO hv hl hne ha2 hb2 hhb
      go_enter Tryz.func55, Tryz.ntmps55
      go_wp2_with fail
      refine HL.out.mono ?_
      rintro e w1 ⟨rfl, rfl⟩
      go_wp2_with fail
      go_ret
      exact ⟨rfl, rfl⟩
    by_cases hi1 : i < (l.length : Int)
    · rw [show hasB o ls (a : Int) (b : Int) i = true by rw [hhb, decide_eq_true hi0, decide_eq_true hi1]; rfl]
      clear h hlb hO hv hl hne ha2 hb2 hhb
      go_enter Tryz.func55, Tryz.ntmps55
      go_wp2_with fail
      refine HL.out.mono ?_
      rintro e w1 ⟨rfl, rfl⟩
      go_wp2_with fail
      go_ret
      exact ⟨rfl, rfl⟩
    · rw [show hasB o ls (a : Int) (b : Int) i = false by rw [hhb, decide_eq_false hi1]; simp]
      have hdi : decide (i < (l.length : Int)) = false := decide_eq_false hi1
      clear h hlb hO hv hl hne ha2 hb2 hhb
      go_enter Tryz.func55, Tryz.ntmps55
      go_wp2_with fail
      refine HL.out.mono ?_
      rintro e w1 ⟨rfl, rfl⟩
      go_wp2_with fail
      go_ret
      exact ⟨rfl, rfl⟩
set_option maxRecDepth 100000 in
set_option maxHeartbeats 1000000 in
theorem rnewNet_ok (o : Int) (ho : 1 ≤ o ∧ o ≤ 8) (w : World) :
    Calls Tryz.prog 8 #[.int .i64 o] w fun e w' => e = .returned (.tuple #[.pointer (some ⟨w.heap.size, 0, none⟩), .int .i64 0]) ∧ NetAt 94 w' w.heap.size w.heap.size o (List.replicate 64 (Value.slice none 0 0)) (List.replicate 64 []) ∧ Below w.heap.size w w' := by
  have h1 : ¬ o < 1 := by omega
  have h2 : ¬ 8 < o := by omega
  have HN : Hid (NetAt 94 (w.alloc (.cells (Value.int .i64 o :: List.replicate 64 (Value.slice none 0 0)).toArray 94)) w.heap.size w.heap.size o (List.replicate 64 (Value.slice none 0 0)) (List.replicate 64 [])) := Lib.hid (NetAt.fresh (Blk.new w _ _) ho (by decide))
  have HB := Lib.hid ((Below.refl _ w).alloc (Nat.le_refl _) (.cells (Value.int .i64 o :: List.replicate 64 (Value.slice none 0 0)).toArray 94))
  go_enter Tryz.func8, Tryz.ntmps8
  go_wp2_with fail
  go_ret2
  exact ⟨rfl, HN.out, HB.out⟩
theorem rnewNet_bad (o : Int) (ho : ¬ (1 ≤ o ∧ o ≤ 8)) (w : World) :
    Calls Tryz.prog 8 #[.int .i64 o] w fun e w' => e = .returned (.tuple #[.pointer none, .int .i64 1]) ∧ w = w' := by
  by_cases h1 : o < 1
  · go_enter Tryz.func8, Tryz.ntmps8
    go_wp2_with fail
    go_ret2
    exact ⟨rfl, rfl⟩
  · have h2 : 8 < o := by omega
    go_enter Tryz.func8, Tryz.ntmps8
    go_wp2_with fail
    go_ret2
    exact ⟨rfl, rfl⟩
end Go.Proofs.YthgfbaekmhpiaaaGreatDoor
