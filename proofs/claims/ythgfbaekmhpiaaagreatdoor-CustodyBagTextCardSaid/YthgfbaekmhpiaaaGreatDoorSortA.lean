/- slices.Sorted of the keys of a map from ints to texts, and of slices.Values of one number. Conditions: the map, the number lie in memory. The contracts of tokens and, for one held token, of release. Conditions: the map lies in memory. The contract of ship, of one held token to office 1. Conditions: the office lies in memory. -/
import Derived.Test.YthgfbaekmhpiaaaGreatDoorStA
import Derived.Test.YthgfbaekmhpiaaaGreatDoorSetLaysB
import Derived.Test.YthgfbaekmhpiaaaGreatDoorDiskB
import Derived.RangeFuncGives
import Derived.Shelf.SlIterI.Nil
import Derived.Shelf.SortM.Plain
import Derived.Shelf.SortM.SortNone
namespace Go.Proofs.YthgfbaekmhpiaaaGreatDoor
open Go.RowKit Go.Shelf Go.Sort Go.Maps
attribute [local go_sem] Oper.semAt_some

theorem sortsI (m : Nat) : AnyZI.SortsIn Tryz.prog laysSortedI_ren Fence.wide m :=
  ⟨fun blk off cap ss W hH hblk hsz => callsIn_wide.2 (AnyM.slices_Sort_int laysSortI blk off cap ss W hH hblk hsz),
   fun p cap W => callsIn_wide.2 (AnyM.slices_Sort_int_none laysSortI p cap W)⟩
theorem keysS_any (b : Nat) (w : World) : Calls Tryz.prog 108 #[.map (some b)] w fun e w' => e = .returned (.func (.func 126) #[] #[.pointer (some ⟨w.heap.size, 0, none⟩)]) ∧ w' = w.alloc (.cells #[.map (some b)] 137) :=
  (callsIn_wide (n := 5)).1 (AnyZI.keys_in laysKeysI Fence.wide 5 trivial rfl (some b) w)
theorem intKeys_facts {H : Type} {D0 : DataW H} {R : Value → Option (DataW H × List MemPlace)} {w : World} {b n : Nat} (hown : w.ownsMap Tryz.prog 3 R b n D0) : (intKeys D0).Nodup ∧ ∀ x, x ∈ intKeys D0 ↔ has D0 (Lit.int .i64 x) = true := by
  obtain ⟨es, hD, hp, _⟩ := hown.entries lawInt
  obtain ⟨es', hD', hko⟩ := hown.keysOf
  obtain rfl : es = es' := by rw [hD] at hD'; simpa using hD'
  subst hD
  have hk : ∀ p ∈ es, ∃ x, p.1 = Lit.int .i64 x := fun p hp => by obtain ⟨v, hv⟩ := hko p hp; obtain ⟨x, _, hx, _⟩ := Maps.keyOf_i64 (k := 3) intRowS hv; exact ⟨x, hx⟩
  constructor
  · show (es.map fun p => Go.intOf p.1).Nodup
    refine List.pairwise_map.2 (hp.imp_of_mem fun {p q} hp' hq' hne e => hne ?_)
    obtain ⟨a, ha⟩ := hk p hp'
    obtain ⟨b, hb⟩ := hk q hq'
    rw [ha, hb] at e ⊢
    exact congrArg _ e
  · intro x
    rw [has_eq, List.any_eq_true]
    show x ∈ es.map (fun p => Go.intOf p.1) ↔ _
    rw [List.mem_map]
    constructor
    · rintro ⟨p, hp', rfl⟩
      obtain ⟨a, ha⟩ := hk p hp'
      exact ⟨p, hp', by rw [ha]; simp [Lit.sameKey, Go.intOf]⟩
    · rintro ⟨p, hp', hs⟩
      obtain ⟨a, ha⟩ := hk p hp'
      rw [ha] at hs
      exact ⟨p, hp', by rw [ha]; simpa [Lit.sameKey, Go.intOf] using hs⟩
set_option maxHeartbeats 1000000 in
theorem sortedKeys_any (Bm b nn : Nat) (hnn : nn ≤ 1000000000) (f : Int → Option ByteArray) (w : World) (hBm : Blk w Bm 137 #[.map (some b)]) (hS : MapS w b nn f) :
    Calls Tryz.prog 82 #[.func (.func 126) #[] #[.pointer (some ⟨Bm, 0, none⟩)]] w fun e w' => ∃ (v : Value) (q : List Int), e = .returned v ∧ w'.ownsRow w.heap.size 3 1 v q.length (q.map (Value.int .i64)) ∧ Hid (q.Pairwise (· < ·) ∧ ∀ n, n ∈ q ↔ (f n).isSome = true) ∧ q.length ≤ nn ∧ Below w.heap.size w w' := by
  obtain ⟨D0, hown, hm, hp⟩ := hS
  have hsz := hown.size_le
  have hcell : w.cell? ⟨Bm, 0, none⟩ = some (.map (some b)) := by have := hBm.cell 0; simpa using this
  have hseq : SeqGives Fence.wide 2 Tryz.prog 126 #[.pointer (some ⟨Bm, 0, none⟩)] encZ (fun ss => ss.Perm (intKeys D0)) (Maps.size D0) w :=
    AnyZI.keys_gives (ρ := laysKeysI_ren) { laysKeysI with } Fence.wide _ trivial rfl (by omega) Bm b nn D0 w hBm.lt hcell hown
  have cS := AnyZI.sorted_in laysSortedI Fence.wide 5 trivial trivial trivial trivial rfl (by omega) (sortsI _) (enters_of Tryz.func110 (by kernel_rfl) rfl) 126 #[.pointer (some ⟨Bm, 0, none⟩)] trivial (enters_of Tryz.func126 (by kernel_rfl) rfl) _ (Maps.size D0) (by unfold maxLen; omega) (by omega) _ hseq
  change CallsIn _ _ Tryz.prog 82 _ _ _ at cS
  have hk := intKeys_facts hown
  refine ((callsIn_wide (n := 5)).1 cS).mono ?_
  rintro e w' ⟨v, ss, he, hperm, hrow, _, hB⟩
  have hp2 : (ss.mergeSort (fun x y => decide (x ≤ y))).Perm ss := List.mergeSort_perm ss _
  have hlen : (ss.mergeSort (fun x y => decide (x ≤ y))).length = ss.length := hp2.length_eq
  have hall := hp2.trans hperm
  have hle : ss.length ≤ nn := by
    have h1 := hperm.length_eq
    have h2 : (intKeys D0).length = Maps.size D0 := by
      obtain ⟨es, hD, _⟩ := hown.entries lawInt
      subst hD
      simp [intKeys, Maps.size]
    omega
  have hsort : (ss.mergeSort (fun x y => decide (x ≤ y))).Pairwise (· < ·) := by
    have h1 := List.pairwise_mergeSort (le := fun x y : Int => decide (x ≤ y)) (fun a b c h1 h2 => by simp only [decide_eq_true_eq] at *; omega) (fun a b => by simp only [Bool.or_eq_true, decide_eq_true_eq]; omega) ss
    have h2 := (hall.nodup_iff).2 hk.1
    exact (h1.and h2).imp (fun {a b} hab => by have h3 := hab.1; simp only [decide_eq_true_eq] at h3; have h4 := hab.2; omega)
  refine ⟨v, ss.mergeSort (fun x y => decide (x ≤ y)), he, ?_, Lib.hid ⟨hsort, fun n => ?_⟩, by omega, hB⟩
  · rw [hlen]
    exact hrow
  · rw [hall.mem_iff, hk.2 n]
    cases hf : f n with
    | none => simp [has_false_of_atKey (D := D0) (k := Lit.int .i64 n) (fun z => by rw [hp, hf])]
    | some s => simp [has_true_of_atKey (D := D0) (k := Lit.int .i64 n) (y := .held (.string s)) (fun z => by rw [hp, hf])]
theorem values_any (v : Value) (A : Option Addr) (n c : Nat) (hv : v = .slice A n c) (w : World) : Calls Tryz.prog 143 #[v] w fun e w' => e = .returned (.func (.func 172) #[] #[.pointer (some ⟨w.heap.size, 0, none⟩)]) ∧ w' = w.alloc (.cells #[v] 51) := by
  subst hv
  go_enter Tryz.func143, Tryz.ntmps143
  go_wp2_with fail
  go_ret
  exact ⟨rfl, rfl⟩
set_option maxRecDepth 100000 in
set_option maxHeartbeats 2000000 in
theorem values1_in (n : Nat) (lp Bv g o c : Nat) (x : Int) (J : List Int → World → Prop)
    (hY : ∀ pre y W, J pre W → pre.length < 1 → YieldAt Fence.wide (n - 1) Tryz.prog lp #[encZ y] W fun e W' => e = .returned (.bool true) ∧ J (pre ++ [y]) W' ∧ KeepsWalks W W')
    (W : World) (hBv : W.cell? ⟨Bv, 0, none⟩ = some (.slice (some ⟨g, o, none⟩) 1 c)) (hc : W.cell? ⟨g, o, none⟩ = some (.int .i64 x)) (hzB : Bv < W.heap.size) (hzg : g < W.heap.size) (h0 : J [] W) :
    CallsIn Fence.wide n Tryz.prog 172 #[.func (.yield lp) #[] #[], .pointer (some ⟨Bv, 0, none⟩)] W fun e W' => (∃ v, e = .returned v) ∧ ∃ xs, xs = [x] ∧ J xs W' := by
  refine callsIn_of_wp Tryz.func172 rfl trivial ?_ rfl
  simp only [Tryz.ntmps172, List.size_toArray, List.length_cons, List.length_nil, Nat.reduceAdd, Nat.reduceSub, Array.replicate_succ, Array.replicate_zero, List.push_toArray, List.append_toArray, List.nil_append, List.cons_append]
  gi_wp2
  gi_loopw [7] (fun i wr => (i = .int .i64 0 ∧ wr = W) ∨ (i = .int .i64 1 ∧ J [x] wr)) (fun i _ => 1 - (intOf i).toNat)
  case atStart => exact .inl ⟨rfl, rfl⟩
  case round =>
    rcases hrel with ⟨rfl, rfl⟩ | ⟨rfl, hJ⟩
    · obtain ⟨fn, tmps, assign, body, hy, hR⟩ := hY [] x wr h0 (by simp)
      simp only [encZ] at hy
      gi_wp2_with (refine ⟨fun h => (by cases h), ?_⟩; refine hR.mono ?_; rintro e W' ⟨rfl, hJ', _⟩)
      exact ⟨.inr ⟨rfl, hJ'⟩, by decide⟩
    · gi_wp2
      go_end0
      exact ⟨⟨_, rfl⟩, _, rfl, hJ⟩
theorem sortedVals_any {w : World} {Bv g o c : Nat} (x : Int) (hBv : Blk w Bv 51 #[.slice (some ⟨g, o, none⟩) 1 c]) (hc : w.cell? ⟨g, o, none⟩ = some (.int .i64 x)) :
    Calls Tryz.prog 82 #[.func (.func 172) #[] #[.pointer (some ⟨Bv, 0, none⟩)]] w fun e w' => ∃ (A : Option Addr) (cc : Nat), e = .returned (.slice A 1 cc) ∧ w'.ownsRow w.heap.size 3 1 (.slice A 1 cc) 1 [.int .i64 x] ∧ Below w.heap.size w w' := by
  have hzg := World.block_lt_of_cell? w _ hc
  have hcB : w.cell? ⟨Bv, 0, none⟩ = some (.slice (some ⟨g, o, none⟩) 1 c) := by have := hBv.cell 0; simpa using this
  have hseq : SeqGives Fence.wide 2 Tryz.prog 172 #[.pointer (some ⟨Bv, 0, none⟩)] encZ (fun ss => ss = [x]) 1 w := fun l J W hW hJ hY h0 =>
    values1_in 2 l Bv g o c x J hY W ((hW.cell (p := ⟨Bv, 0, none⟩) hBv.lt).trans hcB) ((hW.cell (p := ⟨g, o, none⟩) hzg).trans hc) (Nat.lt_of_lt_of_le hBv.lt hW.size) (Nat.lt_of_lt_of_le hzg hW.size) h0
  have cS := AnyZI.sorted_in laysSortedI Fence.wide 5 trivial trivial trivial trivial rfl (by omega) (sortsI _) (enters_of Tryz.func110 (by kernel_rfl) rfl) 172 #[.pointer (some ⟨Bv, 0, none⟩)] trivial (enters_of Tryz.func172 (by kernel_rfl) rfl) _ 1 (by decide) (by decide) _ hseq
  change CallsIn _ _ Tryz.prog 82 _ _ _ at cS
  refine ((callsIn_wide (n := 5)).1 cS).mono ?_
  rintro e w' ⟨v, ss, he, rfl, hrow, hnil, hB⟩
  rw [List.mergeSort_singleton] at hrow
  obtain ⟨A, cc, rfl⟩ : ∃ A cc, v = .slice A 1 cc := by
    rcases hrow.2 with ⟨_, h1⟩ | ⟨g', cap, cur, h1, _⟩
    · simp at h1
    · exact ⟨_, _, h1⟩
  exact ⟨A, cc, he, hrow, hB⟩
end Go.Proofs.YthgfbaekmhpiaaaGreatDoor
namespace Go.Proofs.YthgfbaekmhpiaaaGreatDoor
open Go.RowKit Go.Shelf Go.Sort

def heldTok (f : Int → Option ByteArray) (n : Int) : Tok := ⟨n, (f n).getD ⟨#[]⟩⟩
theorem rowI_at {w : World} {base : Nat} {A : Option Addr} {m c k : Nat} {q : List Int} (h : w.ownsRow base 3 1 (.slice A m c) k (q.map (Value.int .i64))) (hk : k = q.length) : m = k ∧ IntsAt w (.slice A m c) q := by
  obtain ⟨h1, h2, h3⟩ := row_lies h
  subst hk h1
  exact ⟨rfl, A, c, rfl, h2, h3⟩
set_option maxRecDepth 100000 in
set_option maxHeartbeats 2000000 in
theorem tokens_any {w : World} {sb hb nn : Nat} {f : Int → Option ByteArray} (hc : w.cell? ⟨sb, 1, none⟩ = some (.map (some hb))) (hz : sb < w.heap.size) (hM : MapS w hb nn f) (hnn : nn ≤ 1000000000) (hf : ∀ n, (f n).isSome = true → 0 ≤ n ∧ n ≤ 1000000) :
    Calls Tryz.prog 80 #[.pointer (some ⟨sb, 0, none⟩)] w fun e w' => ∃ (v : Value) (q : List Int), e = .returned v ∧ TokOwn w' w.heap.size v (q.map (heldTok f)) ∧ Hid (q.Pairwise (· < ·) ∧ ∀ n, n ∈ q ↔ (f n).isSome = true) ∧ Below w.heap.size w w' := by
  have HK := Lib.hid (keysS_any hb w)
  have HB1 := Lib.hid ((Below.refl _ w).alloc (Nat.le_refl _) (.cells #[.map (some hb)] 137))
  have HS := Lib.hid (sortedKeys_any w.heap.size hb nn hnn f (w.alloc (.cells #[.map (some hb)] 137)) (Blk.new w _ _) (hM.below HB1.out hM.lt))
  have HM := Lib.hid hM
  have HC := Lib.hid hc
  clear hM
  go_enter Tryz.func80, Tryz.ntmps80
  go_wp2_with fail
  refine HK.out.mono ?_
  rintro e w1 ⟨rfl, rfl⟩
  go_wp2_with fail
  refine HS.out.mono ?_
  rintro e w2 ⟨v, q, rfl, hrow, HQ, hql, hb2⟩
  have HB2 := Lib.hid (HB1.out.trans (hb2.mono HB1.out.size))
  obtain ⟨A, m, c, rfl⟩ : ∃ A m c, v = .slice A m c := by
    rcases hrow.2 with ⟨h1, _⟩ | ⟨g', cap, cur, h1, _⟩
    · exact ⟨none, 0, 0, h1⟩
    · exact ⟨_, _, _, h1⟩
  obtain ⟨rfl, hI⟩ := rowI_at hrow rfl
  have HI2 := Lib.hid hI
  have HQL := Lib.hid (Nat.le_trans hql hnn)
  clear hrow hql hb2 HS HK HB1 hI
  go_wp2_with fail
  go_loopw [3, 13] (fun v j wr => ∃ k : Nat, k ≤ q.length ∧ j = .int .i64 (k : Int) ∧ (∃ A c, v = .slice A k c) ∧ TokOwn wr w2.heap.size v ((q.take k).map (heldTok f)) ∧ Below w.heap.size w wr ∧ Below w2.heap.size w2 wr) (fun _ j _ => q.length - (intOf j).toNat)
  case atStart => exact ⟨0, Nat.zero_le _, rfl, ⟨none, 0, rfl⟩, TokOwn.nil _ _, HB2.out, Below.refl _ _⟩
  case round =>
    obtain ⟨k, hk, rfl, ⟨A0, c0, rfl⟩, hO, hBr, hB2r⟩ := hrel
    have HO := Lib.hid hO
    have HBr := Lib.hid hBr
    have HI := Lib.hid (HI2.out.below hB2r)
    have HB2r := Lib.hid hB2r
    have hqm : q.length ≤ 1000000000 := HQL.out
    clear hO hB2r
    by_cases hlt : k < q.length
    · have hki : (k : Int) < (q.length : Int) := by omega
      obtain ⟨x, hx⟩ : ∃ x, q[k]? = some x := ⟨_, List.getElem?_eq_getElem hlt⟩
      obtain ⟨g, o, rfl, hg, hcx⟩ := HI.out.cell hx
      have hsx := hf x ((HQ.out.2 x).1 (List.mem_of_getElem? hx))
      have hrun := (HM.out.below hBr HM.out.lt).look (intW hsx)
      have hcm := (hBr.cell (p := ⟨sb, 1, none⟩) hz).trans HC.out
      have hzr := Nat.lt_of_lt_of_le hz hBr.size
      have HTK : Hid ((q.take (k + 1)).map (heldTok f) = (q.take k).map (heldTok f) ++ [heldTok f x]) := Lib.hid (by rw [List.take_add_one, hx]; simp)
      have hlk : ((q.take k).map (heldTok f)).length = k := by rw [List.length_map, List.length_take]; omega
      obtain ⟨A', c', w3, hrn, hO4, hK4, hv4⟩ := append_tok HO.out (by rw [hlk]; omega) HB2r.out.size (heldTok f x)
      rw [hlk] at hrn hO4
      have HO4 : Hid (TokOwn w3 w2.heap.size (.slice A' (k + 1) c') ((q.take (k + 1)).map (heldTok f))) := Lib.hid (by rw [HTK.out]; exact hO4)
      have HB5 := Lib.hid (HB2r.out.trans (hK4.below (B := w2.heap.size) (fun i hi e => by have := (World.ownsRow.lt HO.out i e).1; omega) HB2r.out.size))
      have HB4 := Lib.hid (HB2.out.trans (HB5.out.mono HB2.out.size))
      have HLT := Lib.hid hlt
      simp only [heldTok] at hrn
      clear hO4 hK4 hv4 hx hlk hsx hg
      go_wp2_with (first
        | (at_lookup; refine wpList_look wr rfl _ _ _ _ rfl hrun ?_)
        | (at_builtin; refine Lib.wpList_append_run _ rfl _ _ _ _ rfl _ _ rfl rfl _ _ hrn ?_))
      go_roundw
      case rel => exact ⟨k + 1, by have := HLT.out; omega, by go_num, ⟨_, _, rfl⟩, HO4.out, HB4.out, HB5.out⟩
      case measure => exact meas_up _ _ HLT.out
    · have hki : ¬ (k : Int) < (q.length : Int) := by omega
      obtain rfl : k = q.length := by omega
      have HOE := HO.out
      rw [List.take_length] at HOE
      have HOF := Lib.hid HOE
      clear HOE hk hlt
      go_wp2_with fail
      go_ret
      refine ⟨_, rfl, q, ?_, HQ.out, HBr.out⟩
      obtain ⟨h1, h2⟩ := HOF.out
      refine ⟨h1, ?_⟩
      rcases h2 with h0 | ⟨g, cap, cur, h3, h4, h5⟩
      · exact .inl h0
      · exact .inr ⟨g, cap, cur, h3, Nat.le_trans HB2.out.size h4, h5⟩
theorem wpList_del {P : Program} (w : World) {ops : Array Oper} {rest : List Oper} {o : Oper} {a : Act} {Q : Exit → Act → World → Prop} (hg : o.guard = none) (m x : Operand) (t k : TypeId) (hop : o.op = Op.call { callee := Callee.builtin Builtin.delete, args := #[m, x], argTypes := #[t, k] }) {w' : World}
    (hrun : (Builtin.delete_ #[t, k] o.type #[a.eval m, a.eval x]).run P w = .ok (.tuple #[]) w') (hK : wpList P ops Q rest (a.put o.dst (.tuple #[])) w') : wpList P ops Q (o :: rest) a w := by
  refine wpList_plain hg fun K' hK' => ?_
  unfold Oper.wp
  simp [execOp, hop, resolve, invoke, builtin, hrun, Result.andThen]
  exact hK' _ _ hK
set_option maxRecDepth 100000 in
set_option maxHeartbeats 4000000 in
theorem release_one {w : World} {ob hb nn : Nat} {f : Int → Option ByteArray} (hc : w.cell? ⟨ob, 4, none⟩ = some (.map (some hb))) (hz : ob < w.heap.size) (hobn : ob ≠ hb) (hM : MapS w hb nn f) (ids : Value) (i : Int) (hI : IntsAt w ids [i]) (hi : 0 ≤ i ∧ i ≤ 1000000) (s : ByteArray) (hf : f i = some s) :
    Calls Tryz.prog 125 #[.pointer (some ⟨ob, 3, none⟩), ids] w fun e w' => (∃ A c, e = .returned (.slice A 1 c) ∧ TokOwn w' w.heap.size (.slice A 1 c) [⟨i, s⟩]) ∧ MapS w' hb nn (fun j => if j = i then none else f j) ∧ Keeps (fun j => j = hb) w w' := by
  obtain ⟨A, c, rfl, hlc, hL⟩ := hI
  obtain ⟨g, o, rfl, hg, hcx⟩ := IntsAt.cell ⟨A, c, rfl, hlc, hL⟩ (k := 0) (x := i) rfl
  rw [Nat.add_zero] at hcx
  simp only [List.length_cons, List.length_nil, Nat.zero_add] at *
  have HV := Lib.hid (values_any (.slice (some ⟨g, o, none⟩) 1 c) _ _ _ rfl w)
  have HB1 := Lib.hid ((Below.refl _ w).alloc (Nat.le_refl _) (.cells #[.slice (some ⟨g, o, none⟩) 1 c] 51))
  have HS := Lib.hid (sortedVals_any (w := w.alloc (.cells #[.slice (some ⟨g, o, none⟩) 1 c] 51)) i (Blk.new w _ _) ((HB1.out.cell (p := ⟨g, o, none⟩) hg).trans hcx))
  have HM := Lib.hid hM
  have HC := Lib.hid hc
  have hmz := hM.lt
  clear hM hL hcx
  go_enter Tryz.func125, Tryz.ntmps125
  go_wp2_with fail
  refine HV.out.mono ?_
  rintro e w1 ⟨rfl, rfl⟩
  go_wp2_with fail
  refine HS.out.mono ?_
  rintro e w2 ⟨A2, c2, rfl, hrow, hb2⟩
  have HB2 := Lib.hid (HB1.out.trans (hb2.mono HB1.out.size))
  have hrow' : w2.ownsRow (w.alloc (.cells #[.slice (some ⟨g, o, none⟩) 1 c] 51)).heap.size 3 1 (.slice A2 1 c2) 1 (([i] : List Int).map (Value.int .i64)) := hrow
  obtain ⟨_, hI2⟩ := rowI_at hrow' rfl
  obtain ⟨g2, o2, rfl, hg2, hcx2⟩ := hI2.cell (k := 0) (x := i) rfl
  rw [Nat.add_zero] at hcx2
  have hrun := (HM.out.below HB2.out HM.out.lt).look (intW hi)
  rw [hf] at hrun
  have hcm := (HB2.out.cell (p := ⟨ob, 4, none⟩) hz).trans HC.out
  have hzr := Nat.lt_of_lt_of_le hz HB2.out.size
  obtain ⟨A', c', w3, hrn, hO4, hK4, hv4⟩ := append_tok (TokOwn.nil w2 w.heap.size) (by simp) HB2.out.size ⟨i, s⟩
  have hK4' : Below w2.heap.size w2 w3 := hK4.below (fun k _ e => by simp [Value.ownBlock] at e) (Nat.le_refl _)
  have HB3 := Lib.hid (HB2.out.trans (hK4'.mono HB2.out.size))
  have hM3 := HM.out.below HB3.out HM.out.lt
  obtain ⟨w4, hdel, hM4, hK5⟩ := hM3.drop (intW hi) 137
  have hcm3 := (HB3.out.cell (p := ⟨ob, 4, none⟩) hz).trans HC.out
  have hzr3 := Nat.lt_of_lt_of_le hz HB3.out.size
  simp only [List.length_nil, Nat.zero_add, List.nil_append] at hrn hO4
  have HO5 := Lib.hid (hO4.keep hK5 (fun k hk e => by have h1 := (World.ownsRow.lt hO4 k hk).1; omega))
  have HM4 := Lib.hid hM4
  have HKE := Lib.hid ((Keeps.of_new (S := fun j => j = hb) HB3.out).trans hK5 (fun _ _ e => e))
  clear hrow hrow' hI2 hb2 HS HV hO4 hK4 hv4 hM3 hM4 hK5
  go_wp2_with fail
  go_loopw [5, 12] (fun v j wr => (j = .int .i64 0 ∧ v = .slice none 0 0 ∧ wr = w2) ∨ (j = .int .i64 1 ∧ v = .slice A' 1 c' ∧ wr = w4)) (fun _ j _ => 1 - (intOf j).toNat)
  case atStart => exact .inl ⟨rfl, rfl, rfl⟩
  case round =>
    rcases hrel with ⟨rfl, rfl, rfl⟩ | ⟨rfl, rfl, rfl⟩
    · go_wp2_with (first
        | (at_lookup; refine wpList_look wr rfl _ _ _ _ rfl hrun ?_)
        | (at_builtin; refine Lib.wpList_append_run _ rfl _ _ _ _ rfl _ _ rfl rfl _ _ hrn ?_)
        | (at_delete; refine wpList_del w3 rfl _ _ _ _ rfl hdel ?_))
      go_roundw
      case rel => exact .inr ⟨rfl, rfl, trivial⟩
      case measure => decide
    · go_wp2_with fail
      go_ret
      exact ⟨⟨_, _, rfl, HO5.out⟩, HM4.out, HKE.out⟩
end Go.Proofs.YthgfbaekmhpiaaaGreatDoor
namespace Go.Proofs.YthgfbaekmhpiaaaGreatDoor
open Go.RowKit Go.Shelf Go.Sort

section
variable {w : World} {ob p u n hb lb : Nat} {id s1 r0 : Int} {b1 nv : Value}
theorem OB.setS1 (h : OB w ob p u n id hb lb b1 s1 r0 nv) (v : Int) : OB (w.setCell ⟨ob, 15, none⟩ (.int .i64 v)) ob p u n id hb lb b1 v r0 nv := by
  have := Blk.set h 15 (.int .i64 v)
  rwa [List.setIfInBounds_toArray] at this
theorem OB.setB1 (h : OB w ob p u n id hb lb b1 s1 r0 nv) (v : Value) : OB (w.setCell ⟨ob, 7, none⟩ v) ob p u n id hb lb v s1 r0 nv := by
  have := Blk.set h 7 v
  rwa [List.setIfInBounds_toArray] at this
theorem OB.setR0 (h : OB w ob p u n id hb lb b1 s1 r0 nv) (v : Int) : OB (w.setCell ⟨ob, 22, none⟩ (.int .i64 v)) ob p u n id hb lb b1 s1 v nv := by
  have := Blk.set h 22 (.int .i64 v)
  rwa [List.setIfInBounds_toArray] at this
theorem OB.setNv (h : OB w ob p u n id hb lb b1 s1 r0 nv) (v : Value) : OB (w.setCell ⟨ob, 30, none⟩ v) ob p u n id hb lb b1 s1 r0 v := by
  have := Blk.set h 30 v
  rwa [List.setIfInBounds_toArray] at this
theorem OB.drew (h : OB w ob p u n id hb lb b1 s1 r0 nv) : OB w.drew ob p u n id hb lb b1 s1 r0 nv := h
end
theorem append_bag {w : World} {base : Nat} {v : Value} {L : List BagV} (hO : BagOwn w base v L) (hL : L.length ≤ 1000000000) (hb : base ≤ w.heap.size) (b : BagV) (A3 : Option Addr) (n3 c3 : Nat) (hbt : b.toks = .slice A3 n3 c3) :
    ∃ A c w', (Builtin.append_ #[80, 80] 80 #[v, .slice (some ⟨w.heap.size, 0, none⟩) 1 1]).run Tryz.prog (w.alloc (.cells (bagCells b).toArray 41)) = .ok (.slice A (L.length + 1) c) w' ∧
      BagOwn w' base (.slice A (L.length + 1) c) (L ++ [b]) ∧ Keeps (fun i => v.ownBlock = some i) w w' ∧ (v.ownBlock = (Value.slice A (L.length + 1) c).ownBlock ∨ ∀ i, (Value.slice A (L.length + 1) c).ownBlock = some i → w.heap.size ≤ i) := by
  obtain ⟨A, c, w', h1, h2, h3, h4⟩ := append_one (tS := 80) rowBag infoBag rfl (by decide) (by decide) hO hL hb (bagCells b) rfl (fun u hu => by
    simp only [bagCells, List.mem_cons, List.not_mem_nil, or_false] at hu
    rcases hu with rfl | rfl | rfl | rfl
    · rfl
    · rfl
    · rfl
    · rw [hbt]; rfl)
  refine ⟨A, c, w', h1, ?_, h3, h4⟩
  unfold BagOwn
  rw [List.length_append, List.flatMap_append]
  simpa using h2
theorem TokOwn.low {w : World} {b b' : Nat} {v : Value} {L : List Tok} (h : TokOwn w b v L) (hb : b' ≤ b) : TokOwn w b' v L := Go.Joins.ownsRow_le h hb
theorem BagOwn.low {w : World} {b b' : Nat} {v : Value} {L : List BagV} (h : BagOwn w b v L) (hb : b' ≤ b) : BagOwn w b' v L := Go.Joins.ownsRow_le h hb
theorem blk_alk {S : Nat → Prop} {Y w' : World} {t : TypeId} {cs : Array Value} (hk : Keeps S (Y.alloc (.cells cs t)) w') (hn : ¬ S Y.heap.size) : Blk w' Y.heap.size t cs := (Blk.new Y t cs).keep hk hn
theorem blk_alkd {S : Nat → Prop} {Y w' : World} {t : TypeId} {cs : Array Value} (hk : Keeps S (Y.alloc (.cells cs t)).drew w') (hn : ¬ S Y.heap.size) : Blk w' Y.heap.size t cs := (Blk.new Y t cs).drew.keep hk hn
set_option maxRecDepth 100000 in
set_option maxHeartbeats 4000000 in
theorem ship_one {w : World} {ob p u n hb lb nn : Nat} {s1 r0 : Int} {nv : Value} {f : Int → Option ByteArray} (hO : OB w ob p u n 0 hb lb (.slice none 0 0) s1 r0 nv) (hobn : ob ≠ hb) (hM : MapS w hb nn f) (hs1 : 0 ≤ s1 ∧ s1 ≤ 1000000) (ids : Value) (i : Int) (hI : IntsAt w ids [i]) (hgo : ∀ A m c, ids = .slice A m c → ∀ a, A = some a → a.block ≠ ob) (hi : 0 ≤ i ∧ i ≤ 1000000) (s : ByteArray) (hf : f i = some s) :
    Calls Tryz.prog 123 #[.pointer (some ⟨ob, 3, none⟩), .int .i64 1, ids] w fun e w' => e = .returned (.tuple #[]) ∧ ∃ b1 tv, OB w' ob p u n 0 hb lb b1 (s1 + 1) r0 nv ∧ BagOwn w' w.heap.size b1 [⟨0, 1, s1 + 1, tv⟩] ∧ TokOwn w' w.heap.size tv [⟨i, s⟩] ∧ MapS w' hb nn (fun j => if j = i then none else f j) ∧ Keeps (fun j => j = hb ∨ j = ob) w w' := by
  have HO := Lib.hid hO
  have o15 := hO.cell 15
  have f15 := hO.frozen 15
  have zo := hO.lt
  simp [stCells] at o15
  have hwr : IntKind.i64.wrap (s1 + 1) = s1 + 1 := wrap_id _ (by omega) (by omega)
  have HO1 := Lib.hid (OB.drew (hO.setS1 (s1 + 1)))
  have hK1 : Keeps (fun j => j = ob) w (w.setCell ⟨ob, 15, none⟩ (.int .i64 (s1 + 1))).drew := ((Keeps.refl (fun j => j = ob) w).setCell (p := ⟨ob, 15, none⟩) (fun _ => rfl) _).drew
  have HK1 := Lib.hid hK1
  have HM1 := Lib.hid (hM.keep hK1 (fun e => hobn e.symm))
  have HI1 : Hid (IntsAt (w.setCell ⟨ob, 15, none⟩ (.int .i64 (s1 + 1))).drew ids [i]) := Lib.hid (by
    obtain ⟨A, c, h1, h2, h3⟩ := hI
    refine ⟨A, c, h1, h2, ?_⟩
    rcases h3 with h3 | ⟨b, o, h4, h5, h6⟩
    · exact .inl h3
    · refine .inr ⟨b, o, h4, Nat.lt_of_lt_of_le h5 hK1.size, fun j v hv => ?_⟩
      rw [hK1.cell h5 (hgo A _ c h1 _ h4)]
      exact h6 j v hv)
  clear hO hM hI hgo hK1
  go_enter Tryz.func123, Tryz.ntmps123
  go_upto_region 0 with fail
  refine wp_region_still_tail 10 (by kernel_rfl) (by kernel_rfl) ?_
  simp only [List.take_succ_cons, List.take_zero, List.drop_succ_cons, List.drop_zero]
  change wpStill _ _ w.drew _ _ _
  have o15d : w.drew.cell? ⟨ob, 15, none⟩ = some (.int .i64 s1) := o15
  have f15d : w.drew.frozen? ⟨ob, 15, none⟩ = false := f15
  have zod : ob < w.drew.heap.size := zo
  iterate 10 still_step
  refine wpStill_nil ?_
  change wpList _ _ _ _ _ w.drew
  go_upto_region 1 with fail
  generalize (w.setCell ⟨ob, 15, none⟩ (.int .i64 (s1 + 1))).drew = w1 at HO1 HK1 HM1 HI1 ⊢
  clear o15 f15 o15d f15d zod zo hwr
  have o3 := HO1.out.cell 3
  have o4 := HO1.out.cell 4
  have o15 := HO1.out.cell 15
  have zo := HO1.out.lt
  simp [stCells] at o3 o4 o15
  have HS : Hid (∀ W : World, W.heap[ob]? = w1.heap[ob]? → W.cell? ⟨ob, 3, none⟩ = some (.int .i64 0) ∧ W.cell? ⟨ob, 15, none⟩ = some (.int .i64 (s1 + 1))) := Lib.hid (fun W hW => ⟨by rw [World.cell?_of_block hW]; exact o3, by rw [World.cell?_of_block hW]; exact o15⟩)
  have HRL := Lib.hid (fun W (hW : Below w1.heap.size w1 W) => release_one (w := W) ((hW.cell (p := ⟨ob, 4, none⟩) zo).trans o4) (Nat.lt_of_lt_of_le zo hW.size) hobn (HM1.out.below hW HM1.out.lt) ids i (HI1.out.below hW) hi s hf |>.mono (fun _ _ h => And.intro h hW))
  have hbz : hb < w1.heap.size := HM1.out.lt
  have d0 := HS.out w1.drew rfl
  clear o3 o4 o15
  go_cut [6] (fun v wx => ∃ A c, TokOwn wx w1.heap.size (.slice A 1 c) [⟨i, s⟩] ∧ MapS wx hb nn (fun j => if j = i then none else f j) ∧ Keeps (fun j => j = hb) w1 wx ∧ ∃ g, v = .pointer (some ⟨g, 0, none⟩) ∧ w1.heap.size ≤ g ∧ Blk wx g 41 (bagCells ⟨0, 1, s1 + 1, .slice A 1 c⟩).toArray)
  case first =>
    go_region_held3 (fun W => W.cell? ⟨ob, 3, none⟩ = some (.int .i64 0) ∧ W.cell? ⟨ob, 15, none⟩ = some (.int .i64 (s1 + 1)))
      (exact HS.out _ (by repeat (first | (with_reducible assumption) | (with_reducible rfl) | (with_reducible exact hXA _) | (with_reducible exact hXS _ _ _ _) | (with_reducible refine heap_dr ?_) | (with_reducible exact Below.heap_alloc w1 _ ob zo))))
      (first | (go_at_call 125; refine (HRL.out _ (by repeat (first | (with_reducible assumption) | (with_reducible exact Below.refl _ _) | (with_reducible refine below_drx ?_) | (with_reducible refine below_alx ?_ _)))).mono ?_; rintro e wI ⟨⟨⟨A, c, rfl, hT⟩, hMI, hKI⟩, hWb⟩
                have hX : wI.heap[ob]? = w1.heap[ob]? := (hKI.block ob (Nat.lt_of_lt_of_le zo hWb.size) hobn).trans (hWb.block ob zo)
                have hzI : w1.heap.size ≤ wI.heap.size := Nat.le_trans hWb.size hKI.size
                have hXA : ∀ oo : Obj, (wI.alloc oo).heap[ob]? = w1.heap[ob]? := fun oo => (Below.heap_alloc wI oo ob (Nat.lt_of_lt_of_le zo hzI)).trans hX
                have HT := Lib.hid hT
                have HMI := Lib.hid hMI
                have HKI := Lib.hid ((Keeps.of_new (S := fun j => j = hb) hWb).trans hKI (fun _ _ e => e))
                have hne : ¬ (w1.heap.size = hb) := by omega
                (try (with_reducible have hG0 := blk_alk hKI hne))
                (try (with_reducible have hG0 := blk_alkd hKI hne))
                (try (have hXS : ∀ v0 v1 v2 v3 : Value, ((((wI.setCell ⟨w1.heap.size, 0, none⟩ v0).setCell ⟨w1.heap.size, 1, none⟩ v1).setCell ⟨w1.heap.size, 2, none⟩ v2).setCell ⟨w1.heap.size, 3, none⟩ v3).heap[ob]? = w1.heap[ob]? := fun v0 v1 v2 v3 => ((((Keeps.refl (fun j => j = w1.heap.size) wI).setCell (p := ⟨w1.heap.size, 0, none⟩) (fun _ => rfl) v0).setCell (p := ⟨w1.heap.size, 1, none⟩) (fun _ => rfl) v1).setCell (p := ⟨w1.heap.size, 2, none⟩) (fun _ => rfl) v2).setCell (p := ⟨w1.heap.size, 3, none⟩) (fun _ => rfl) v3 |>.block ob (Nat.lt_of_lt_of_le zo hzI) (by omega) |>.trans hX
                      have HG0 := Lib.hid hG0
                      have g0 := Blk.cell hG0 0
                      have g1 := Blk.cell hG0 1
                      have g2 := Blk.cell hG0 2
                      have g3 := Blk.cell hG0 3
                      have q0 := Blk.frozen hG0 0
                      have q1 := Blk.frozen hG0 1
                      have q2 := Blk.frozen hG0 2
                      have q3 := Blk.frozen hG0 3
                      have gz := Blk.lt hG0
                      simp at g0 g1 g2 g3
                      clear hG0))
                clear hT hMI hKI hWb))
    · go_wp2_with fail
      go_meet
      exact ⟨A, c, HT.out.below ((Below.refl _ _).alloc (Nat.le_refl _) _), HMI.out.below ((Below.refl _ wI).alloc (Nat.le_refl _) _) HMI.out.lt, HKI.out.alloc _, _, rfl, hzI, Blk.new wI _ _⟩
    · go_wp2_with fail
      go_meet
      have hK4 : Keeps (fun j => j = w1.heap.size) wI ((((wI.setCell ⟨w1.heap.size, 0, none⟩ (.int .i64 0)).setCell ⟨w1.heap.size, 1, none⟩ (.int .i64 1)).setCell ⟨w1.heap.size, 2, none⟩ (.int .i64 (s1 + 1))).setCell ⟨w1.heap.size, 3, none⟩ (.slice A 1 c)) := ((((Keeps.refl (fun j => j = w1.heap.size) wI).setCell (p := ⟨w1.heap.size, 0, none⟩) (fun _ => rfl) _).setCell (p := ⟨w1.heap.size, 1, none⟩) (fun _ => rfl) _).setCell (p := ⟨w1.heap.size, 2, none⟩) (fun _ => rfl) _).setCell (p := ⟨w1.heap.size, 3, none⟩) (fun _ => rfl) _
      have hB4 := (((HG0.out.set 0 (.int .i64 0)).set 1 (.int .i64 1)).set 2 (.int .i64 (s1 + 1))).set 3 (.slice A 1 c)
      refine ⟨A, c, ((HT.out.keep hK4 (fun k hk e => by have h1 := (World.ownsRow.lt HT.out k hk).1; subst e; simp [World.drew] at h1; omega)).low (by simp [World.drew])), HMI.out.keep hK4 (fun e => hne e.symm), HKI.out.trans hK4 (fun k hk e => by omega), _, rfl, Nat.le_refl _, ?_⟩
      simpa [bagCells] using hB4
  case rest =>
    obtain ⟨A, c, hT, hM2, hK2, g, rfl, hgz, hG⟩ := hcut
    have hO2 : OB wc ob p u n 0 hb lb (.slice none 0 0) (s1 + 1) r0 nv := Blk.keep HO1.out hK2 hobn
    have o7 := hO2.cell 7
    have f7 := hO2.frozen 7
    have zo2 := hO2.lt
    simp [stCells] at o7
    have hG' : Blk wc g 41 #[.int .i64 0, .int .i64 1, .int .i64 (s1 + 1), .slice A 1 c] := hG
    have g0 := hG'.cell 0
    have g1 := hG'.cell 1
    have g2 := hG'.cell 2
    have g3 := hG'.cell 3
    have gz := hG'.lt
    simp at g0 g1 g2 g3
    have hsz : w.heap.size ≤ w1.heap.size := HK1.out.size
    obtain ⟨A', c', w3, hrun, hB3, hK3, hv3⟩ := append_bag (BagOwn.nil wc.drew w.heap.size) (by simp) (Nat.le_trans hsz hK2.size) ⟨0, 1, s1 + 1, .slice A 1 c⟩ A 1 c rfl
    have hK3' : Keeps (fun _ => False) wc w3 := (Keeps.refl _ wc).drew.trans (hK3.mono (S' := fun _ => False) (fun k _ e => by simp [Value.ownBlock] at e)) (fun _ _ e => e)
    simp only [List.length_nil, Nat.zero_add, List.nil_append, bagCells] at hrun hB3
    have hrun' : (Builtin.append_ #[80, 80] 80 #[.slice none 0 0, .slice (some ⟨wc.heap.size, 0, none⟩) 1 1]).run Tryz.prog (wc.alloc (.cells #[.int .i64 0, .int .i64 1, .int .i64 (s1 + 1), .slice A 1 c] 41)).drew = .ok (.slice A' 1 c') w3 := hrun
    have hO3 : OB w3 ob p u n 0 hb lb (.slice none 0 0) (s1 + 1) r0 nv := Blk.keep hO2 hK3' (fun e => e)
    have f73 := hO3.frozen 7
    have o73 := hO3.cell 7
    simp [stCells] at o73
    have zo3 := hO3.lt
    have HO4 := Lib.hid (hO3.setB1 (.slice A' 1 c'))
    have hKs : Keeps (fun j => j = ob) w3 (w3.setCell ⟨ob, 7, none⟩ (.slice A' 1 c')) := (Keeps.refl (fun j => j = ob) w3).setCell (p := ⟨ob, 7, none⟩) (fun _ => rfl) _
    have HB4 := Lib.hid (hB3.keep hKs (fun i hi e => by subst e; exact row_ne hB3 hO3 (by decide) hi))
    have hT3 := hT.keep hK3' (fun _ _ e => e)
    have HT4 := Lib.hid (TokOwn.low (hT3.keep hKs (fun i hi e => by subst e; exact row_ne hT3 hO3 (by decide) hi)) hsz)
    have HM4 := Lib.hid ((hM2.keep hK3' (fun e => e)).keep hKs (fun e => hobn e.symm))
    have HKE := Lib.hid (((((HK1.out.mono (S' := fun j => j = hb ∨ j = ob) (fun _ _ e => .inr e)).trans hK2 (fun _ _ e => .inl e)).trans hK3' (fun _ _ e => e.elim))).trans hKs (fun _ _ e => .inr e))
    clear hT hM2 hK2 hO2 hG hG' hB3 hK3 hv3 hK3' hO3 hKs hT3 HS HRL HM1 HI1 HO1 HK1 d0 HO hgz hsz hbz zo
    go_upto_region 2 with fail
    go_region_law (first
      | (refine Lib.wp_append_run _ _ _ _ _ rfl _ _ rfl rfl _ _ hrun ?_)
      | (refine Lib.wp_append_run _ _ _ _ _ rfl _ _ rfl rfl _ _ hrun' ?_)
      | (rw [if_pos (by rfl)]; refine Lib.wp_append_run _ _ _ _ _ rfl _ _ rfl rfl _ _ hrun' ?_))
    all_goals
      go_wp2_with fail
      go_end0
      exact ⟨rfl, _, _, HO4.out, HB4.out, HT4.out, HM4.out, HKE.out⟩
end Go.Proofs.YthgfbaekmhpiaaaGreatDoor
