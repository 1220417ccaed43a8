/- The library's contracts on sorts and sets that the proofs use, laid at this program: numbers of functions, types and variables, and the facts that they are those. slices.SortFunc at pairs by comparePairs: they come in strictly ascending order. Conditions: at most 2 * 10^12 pairs. The contracts of slices.Collect, slices.SortedFunc and sortedPairs on a map whose keys are some pairs: these, each once, in ascending order. Conditions: the pairs' numbers are ints; at most 2 * 10^12 entries. -/
import Derived.Shelf.SlGeneric
import Derived.Shelf.SlSortCmp.WholeK
import Derived.Shelf.SlSortCmp.Whole1
import Derived.Ground.SlsfProg
import Derived.Test.YtlbehpbhmmppiaaGreatDoorProg
import Derived.Test.YtlbehpbhmmppiaaGreatDoorSetKA
import Derived.Test.YtlbehpbhmmppiaaGreatDoorSortA
namespace Go.Proofs
open Go.Shelf
def YtlbehpbhmmppiaaGreatDoor.laysSort_ren : Go.Shelf.Ren := ⟨fun | 6 => 93 | 15 => 38 | 14 => 117 | 28 => 69 | 29 => 70 | 20 => 133 | 21 => 134 | 22 => 135 | 23 => 136 | 24 => 137 | 25 => 138 | 26 => 139 | 27 => 140 | 46 => 153 | 47 => 96 | 48 => 97 | 49 => 154 | 50 => 155 | 57 => 162 | n => n, fun | 22 => 30 | 24 => 33 | 25 => 56 | 3 => 3 | 39 => 92 | 0 => 0 | 53 => 128 | 55 => 130 | 4 => 4 | 46 => 122 | 45 => 121 | 50 => 68 | 5 => 5 | 9 => 9 | 66 => 161 | 70 => 140 | 76 => 182 | 77 => 183 | n => n, fun | n => n⟩
theorem YtlbehpbhmmppiaaGreatDoor.laysSort : Go.Proofs.SlLaysF0.n6 Tryz.prog YtlbehpbhmmppiaaGreatDoor.laysSort_ren := {
  mixed := by kernel_rfl
  f6 := ⟨Tryz.f93.name, by decide, Tryz.func93.trans (congrArg some (by kernel_rfl))⟩
  f14 := ⟨Tryz.f117.name, by decide, Tryz.func117.trans (congrArg some (by kernel_rfl))⟩
  f15 := Tryz.func38.trans (congrArg some (by kernel_rfl))
  f20 := ⟨Tryz.f133.name, by decide, Tryz.func133.trans (congrArg some (by kernel_rfl))⟩
  f21 := ⟨Tryz.f134.name, by decide, Tryz.func134.trans (congrArg some (by kernel_rfl))⟩
  f22 := ⟨Tryz.f135.name, by decide, Tryz.func135.trans (congrArg some (by kernel_rfl))⟩
  f23 := ⟨Tryz.f136.name, by decide, Tryz.func136.trans (congrArg some (by kernel_rfl))⟩
  f24 := ⟨Tryz.f137.name, by decide, Tryz.func137.trans (congrArg some (by kernel_rfl))⟩
  f25 := ⟨Tryz.f138.name, by decide, Tryz.func138.trans (congrArg some (by kernel_rfl))⟩
  f26 := ⟨Tryz.f139.name, by decide, Tryz.func139.trans (congrArg some (by kernel_rfl))⟩
  f27 := ⟨Tryz.f140.name, by decide, Tryz.func140.trans (congrArg some (by kernel_rfl))⟩
  f28 := Tryz.func69.trans (congrArg some (by kernel_rfl))
  f29 := Tryz.func70.trans (congrArg some (by kernel_rfl))
  f46 := ⟨Tryz.f153.name, by decide, Tryz.func153.trans (congrArg some (by kernel_rfl))⟩
  f47 := Tryz.func96.trans (congrArg some (by kernel_rfl))
  f48 := Tryz.func97.trans (congrArg some (by kernel_rfl))
  f49 := ⟨Tryz.f154.name, by decide, Tryz.func154.trans (congrArg some (by kernel_rfl))⟩
  f50 := ⟨Tryz.f155.name, by decide, Tryz.func155.trans (congrArg some (by kernel_rfl))⟩
  f57 := ⟨Tryz.f162.name, by decide, Tryz.func162.trans (congrArg some (by kernel_rfl))⟩
  t0 := Tryz.underlying0
  a0 := Tryz.isAgg0
  z0 := Tryz.sizeOf0
  v0 := Tryz.zeroValue0
  t3 := Tryz.underlying3
  a3 := Tryz.isAgg3
  z3 := Tryz.sizeOf3
  v3 := Tryz.zeroValue3
  t4 := Tryz.underlying4
  a4 := Tryz.isAgg4
  z4 := Tryz.sizeOf4
  v4 := Tryz.zeroValue4
  t5 := Tryz.underlying5
  a5 := Tryz.isAgg5
  z5 := Tryz.sizeOf5
  v5 := Tryz.zeroValue5
  t9 := Tryz.underlying9
  a9 := Tryz.isAgg9
  z9 := Tryz.sizeOf9
  v9 := Tryz.zeroValue9
  t22 := Tryz.underlying30
  a22 := Tryz.isAgg30
  z22 := Tryz.sizeOf30
  v22 := Tryz.zeroValue30
  t25 := Tryz.underlying56
  a25 := Tryz.isAgg56
  z25 := Tryz.sizeOf56
  v25 := Tryz.zeroValue56
  t39 := Tryz.underlying92
  a39 := Tryz.isAgg92
  z39 := Tryz.sizeOf92
  v39 := Tryz.zeroValue92
  t45 := Tryz.underlying121
  a45 := Tryz.isAgg121
  z45 := Tryz.sizeOf121
  v45 := Tryz.zeroValue121
  t46 := Tryz.underlying122
  a46 := Tryz.isAgg122
  z46 := Tryz.sizeOf122
  v46 := Tryz.zeroValue122
  t50 := Tryz.underlying68
  a50 := Tryz.isAgg68
  z50 := Tryz.sizeOf68
  v50 := Tryz.zeroValue68
  t53 := Tryz.underlying128
  a53 := Tryz.isAgg128
  z53 := Tryz.sizeOf128
  v53 := Tryz.zeroValue128
  t55 := Tryz.underlying130
  a55 := Tryz.isAgg130
  z55 := Tryz.sizeOf130
  v55 := Tryz.zeroValue130
  t66 := Tryz.underlying161
  a66 := Tryz.isAgg161
  z66 := Tryz.sizeOf161
  v66 := Tryz.zeroValue161
  t70 := Tryz.underlying140
  a70 := Tryz.isAgg140
  z70 := Tryz.sizeOf140
  v70 := Tryz.zeroValue140
  t76 := Tryz.underlying182
  a76 := Tryz.isAgg182
  z76 := Tryz.sizeOf182
  v76 := Tryz.zeroValue182
  t77 := Tryz.underlying183
  a77 := Tryz.isAgg183
  z77 := Tryz.sizeOf183
  v77 := Tryz.zeroValue183 }
def YtlbehpbhmmppiaaGreatDoor.laysSortQ_ren : Go.Shelf.Ren := ⟨fun | 6 => 18 | 15 => 38 | 14 => 37 | 28 => 69 | 29 => 70 | 20 => 61 | 21 => 62 | 22 => 63 | 23 => 64 | 24 => 65 | 25 => 66 | 26 => 67 | 27 => 68 | 46 => 95 | 47 => 96 | 48 => 97 | 49 => 98 | 50 => 99 | 57 => 118 | n => n, fun | 22 => 25 | 24 => 30 | 25 => 57 | 3 => 3 | 39 => 92 | 0 => 0 | 53 => 128 | 55 => 130 | 4 => 4 | 46 => 122 | 45 => 121 | 50 => 68 | 5 => 5 | 9 => 9 | 66 => 161 | 70 => 140 | 76 => 182 | 77 => 183 | n => n, fun | n => n⟩
theorem YtlbehpbhmmppiaaGreatDoor.laysSortQ : Go.Proofs.SlLaysF.n6 Tryz.prog YtlbehpbhmmppiaaGreatDoor.laysSortQ_ren := {
  mixed := by kernel_rfl
  f6 := ⟨Tryz.f18.name, by decide, Tryz.func18.trans (congrArg some (by kernel_rfl))⟩
  f14 := ⟨Tryz.f37.name, by decide, Tryz.func37.trans (congrArg some (by kernel_rfl))⟩
  f15 := Tryz.func38.trans (congrArg some (by kernel_rfl))
  f20 := ⟨Tryz.f61.name, by decide, Tryz.func61.trans (congrArg some (by kernel_rfl))⟩
  f21 := ⟨Tryz.f62.name, by decide, Tryz.func62.trans (congrArg some (by kernel_rfl))⟩
  f22 := ⟨Tryz.f63.name, by decide, Tryz.func63.trans (congrArg some (by kernel_rfl))⟩
  f23 := ⟨Tryz.f64.name, by decide, Tryz.func64.trans (congrArg some (by kernel_rfl))⟩
  f24 := ⟨Tryz.f65.name, by decide, Tryz.func65.trans (congrArg some (by kernel_rfl))⟩
  f25 := ⟨Tryz.f66.name, by decide, Tryz.func66.trans (congrArg some (by kernel_rfl))⟩
  f26 := ⟨Tryz.f67.name, by decide, Tryz.func67.trans (congrArg some (by kernel_rfl))⟩
  f27 := ⟨Tryz.f68.name, by decide, Tryz.func68.trans (congrArg some (by kernel_rfl))⟩
  f28 := Tryz.func69.trans (congrArg some (by kernel_rfl))
  f29 := Tryz.func70.trans (congrArg some (by kernel_rfl))
  f46 := ⟨Tryz.f95.name, by decide, Tryz.func95.trans (congrArg some (by kernel_rfl))⟩
  f47 := Tryz.func96.trans (congrArg some (by kernel_rfl))
  f48 := Tryz.func97.trans (congrArg some (by kernel_rfl))
  f49 := ⟨Tryz.f98.name, by decide, Tryz.func98.trans (congrArg some (by kernel_rfl))⟩
  f50 := ⟨Tryz.f99.name, by decide, Tryz.func99.trans (congrArg some (by kernel_rfl))⟩
  f57 := ⟨Tryz.f118.name, by decide, Tryz.func118.trans (congrArg some (by kernel_rfl))⟩
  t0 := Tryz.underlying0
  a0 := Tryz.isAgg0
  z0 := Tryz.sizeOf0
  v0 := Tryz.zeroValue0
  t3 := Tryz.underlying3
  a3 := Tryz.isAgg3
  z3 := Tryz.sizeOf3
  v3 := Tryz.zeroValue3
  t4 := Tryz.underlying4
  a4 := Tryz.isAgg4
  z4 := Tryz.sizeOf4
  v4 := Tryz.zeroValue4
  t5 := Tryz.underlying5
  a5 := Tryz.isAgg5
  z5 := Tryz.sizeOf5
  v5 := Tryz.zeroValue5
  t9 := Tryz.underlying9
  a9 := Tryz.isAgg9
  z9 := Tryz.sizeOf9
  v9 := Tryz.zeroValue9
  t22 := Tryz.underlying25
  a22 := Tryz.isAgg25
  z22 := Tryz.sizeOf25
  v22 := Tryz.zeroValue25
  a24 := Tryz.isAgg30
  z24 := Tryz.sizeOf30
  t25 := Tryz.underlying57
  a25 := Tryz.isAgg57
  z25 := Tryz.sizeOf57
  v25 := Tryz.zeroValue57
  t39 := Tryz.underlying92
  a39 := Tryz.isAgg92
  z39 := Tryz.sizeOf92
  v39 := Tryz.zeroValue92
  t45 := Tryz.underlying121
  a45 := Tryz.isAgg121
  z45 := Tryz.sizeOf121
  v45 := Tryz.zeroValue121
  t46 := Tryz.underlying122
  a46 := Tryz.isAgg122
  z46 := Tryz.sizeOf122
  v46 := Tryz.zeroValue122
  t50 := Tryz.underlying68
  a50 := Tryz.isAgg68
  z50 := Tryz.sizeOf68
  v50 := Tryz.zeroValue68
  t53 := Tryz.underlying128
  a53 := Tryz.isAgg128
  z53 := Tryz.sizeOf128
  v53 := Tryz.zeroValue128
  t55 := Tryz.underlying130
  a55 := Tryz.isAgg130
  z55 := Tryz.sizeOf130
  v55 := Tryz.zeroValue130
  t66 := Tryz.underlying161
  a66 := Tryz.isAgg161
  z66 := Tryz.sizeOf161
  v66 := Tryz.zeroValue161
  t70 := Tryz.underlying140
  a70 := Tryz.isAgg140
  z70 := Tryz.sizeOf140
  v70 := Tryz.zeroValue140
  t76 := Tryz.underlying182
  a76 := Tryz.isAgg182
  z76 := Tryz.sizeOf182
  v76 := Tryz.zeroValue182
  t77 := Tryz.underlying183
  a77 := Tryz.isAgg183
  z77 := Tryz.sizeOf183
  v77 := Tryz.zeroValue183 }
end Go.Proofs
namespace Go.Proofs.YtlbehpbhmmppiaaGreatDoor
open Go.RowKit Go.Shelf Go.Sort

theorem ltP (x y : Int × Int) : ltOf cmpP x y = true ↔ ltC x y := by
  unfold ltOf cmpP cmpI ltC
  rw [decide_eq_true_iff]
  repeat' split
  all_goals omega
theorem swoP : SWO (ltOf cmpP) where
  irrefl x := Bool.eq_false_iff.2 (fun h => by rw [ltP] at h; unfold ltC at h; omega)
  trans x y z h1 h2 := by rw [ltP] at *; unfold ltC at *; omega
  ntrans x y z h1 h2 := Bool.eq_false_iff.2 (fun h => by
    have h1' := mt (ltP x y).2 (Bool.eq_false_iff.1 h1)
    have h2' := mt (ltP y z).2 (Bool.eq_false_iff.1 h2)
    rw [ltP] at h
    unfold ltC at *
    omega)
theorem flatC_at (l : List (Int × Int)) (k : Nat) (x : Int × Int) (hk : l[k]? = some x) (j : Nat) (hj : j < 2) : (l.flatMap candCells)[k * 2 + j]? = (candCells x)[j]? := by
  induction l generalizing k with
  | nil => simp at hk
  | cons y l ih =>
    rw [List.flatMap_cons]
    cases k with
    | zero =>
      simp at hk; subst hk
      rw [Nat.zero_mul, Nat.zero_add, List.getElem?_append_left (by simpa [candCells] using hj)]
    | succ k =>
      rw [List.getElem?_append_right (by simp [candCells]; omega), show (candCells y).length = 2 from rfl, show (k + 1) * 2 + j - 2 = k * 2 + j by omega]
      exact ih k (by simpa using hk)
theorem holdsC {w : World} {g : Nat} {cur : Array Value} {e : TypeId} {q : List (Int × Int)} (hb : w.heap[g]? = some (.cells cur e (0, 0))) (ht : cur.toList.take (q.length * 2) = q.flatMap candCells) : HoldsK candCells 2 w g 0 q.toArray := by
  intro t hT
  have hT' : t < q.length * 2 := by simpa using hT
  refine ⟨?_, by simp [World.frozen?, hb]⟩
  have hk : t / 2 < q.length := by omega
  obtain ⟨x, hx⟩ : ∃ x, q[t / 2]? = some x := ⟨_, List.getElem?_eq_getElem hk⟩
  have h1 : (cur.toList.take (q.length * 2))[t]? = (q.flatMap candCells)[t]? := by rw [ht]
  rw [List.getElem?_take_of_lt hT'] at h1
  have h2 := flatC_at q (t / 2) x hx (t % 2) (Nat.mod_lt _ (by omega))
  rw [show t / 2 * 2 + t % 2 = t by omega] at h2
  have h3 : (flatK candCells 2 q.toArray)[t]! = (candCells x)[t % 2]! := by
    rw [get_flatK _ _ _ _ (by simpa using hT')]
    congr 2
    have h4 : q.toArray[t / 2]! = x := by
      rw [getElem!_pos q.toArray (t / 2) (by simpa using hk)]
      rw [List.getElem?_eq_getElem hk] at hx
      simpa using Option.some.inj hx
    rw [h4]
  rw [h3]
  simp only [World.cell?, hb, Nat.zero_add]
  simp only [Option.isSome_none, Bool.false_eq_true, if_false]
  rw [← Array.getElem?_toList, h1, h2]
  have h5 : t % 2 < (candCells x).length := Nat.mod_lt _ (by decide)
  rw [List.getElem?_eq_getElem h5, getElem!_pos (candCells x) (t % 2) h5]
  rfl
theorem keepsC {w : World} {g n : Nat} {os : Array Obj} (d : Array (Int × Int)) : Keeps (fun i => i = g) w (sortWorldK candCells 2 w g 0 n d os) := by
  unfold sortWorldK putRowK
  refine ⟨rfl, rfl, rfl, by simp, fun k hk hne => ?_⟩
  rw [heap_grow_old _ _ (by simpa using hk)]
  have : g ≠ k := fun e => hne e.symm
  simp [putRow, mapBlock, Sort.ahead, Array.getElem?_modify, this]
/-- What the sort leaves of a list without repetitions. -/
theorem sortedC {q : List (Int × Int)} {d' : Array (Int × Int)} (hn : q.Nodup) (hp : PermIn 0 q.toArray.size q.toArray d') (hs : SortedIn (ltOf cmpP) 0 q.toArray.size d') : d'.toList.Pairwise ltC ∧ (∀ c, c ∈ d'.toList ↔ c ∈ q) ∧ d'.toList.length = q.length := by
  obtain ⟨h1, _, h3⟩ := hp
  have hsz : d'.size = q.length := by simpa using h1
  have hperm : d'.toList.Perm q := by
    have e1 : d'.extract 0 q.toArray.size = d' := by rw [← h1]; simp
    have e2 : q.toArray.extract 0 q.toArray.size = q.toArray := by simp
    rw [e1, e2] at h3
    simpa using h3
  refine ⟨?_, fun c => hperm.mem_iff, by simpa using hsz⟩
  rw [List.pairwise_iff_getElem]
  intro i j hi hj hij
  have hi' : i < d'.size := by simpa using hi
  have hj' : j < d'.size := by simpa using hj
  have h := hs i j (Nat.zero_le _) hij (by simpa [hsz] using hj')
  rw [getElem!_pos d' i hi', getElem!_pos d' j hj'] at h
  have h' := mt (ltP _ _).2 (Bool.eq_false_iff.1 h)
  have hne : d'.toList[i] ≠ d'.toList[j] := fun e => by
    have hd := List.pairwise_iff_getElem.1 ((hperm.nodup_iff).2 hn) i j hi hj hij
    exact hd e
  simp only [Array.getElem_toList] at hne ⊢
  unfold ltC at *
  rcases hx : d'[i] with ⟨a, b⟩
  rcases hy : d'[j] with ⟨a', b'⟩
  rw [hx, hy] at h' hne
  dsimp only at *
  have : ¬ (a = a' ∧ b = b') := fun e => hne (by rw [e.1, e.2])
  omega

theorem cmpLays_any (blk off size : Nat) (w : World) : CmpLays Tryz.prog 20 #[] candCells 2 cmpP blk off size w :=
  fun _ _ _ _ x y => comparePairs_any x y _

set_option maxHeartbeats 1000000 in
theorem sortFunc_any (g cap : Nat) (q : List (Int × Int)) (hn : q.Nodup) (w : World) (hH : HoldsK candCells 2 w g 0 q.toArray) (hg : g < w.heap.size) (hq : q.length ≤ 2000000000000) :
    Calls Tryz.prog 93 #[.slice (some ⟨g, 0, none⟩) q.length cap, .func (.func 20) #[] #[]] w fun e w' =>
      e = .returned (.tuple #[]) ∧ ∃ r, Hid (r.Pairwise ltC ∧ (∀ c, c ∈ r ↔ c ∈ q) ∧ r.length = q.length) ∧ PairsAt w' (some ⟨g, 0, none⟩) r ∧ Keeps (fun i => i = g) w w' := by
  have eg : ∀ args w, (callFunc 20 args).run Tryz.prog w = .ok (.enter 20 args) w := enters_of Tryz.func20 (by kernel_rfl) rfl
  have hcon := AnyQ.slices_SortFunc laysSort 2 Tryz.isAgg33 Tryz.sizeOf33 candCells (fun _ => rfl) (fun x v hv => by simp [candCells] at hv; rcases hv with rfl | rfl <;> rfl) cmpP swoP 20 #[] g 0 cap q.toArray w eg (cmpLays_any g 0 _ w) hH hg (by simp; omega)
  rw [List.size_toArray] at hcon
  refine Calls.mono hcon ?_
  rintro e w' ⟨he, d', n, os, hp, hs, rfl⟩
  rw [← List.size_toArray] at hp hs
  obtain ⟨h1, h2, h3⟩ := sortedC hn hp hs
  refine ⟨he, d'.toList, Lib.hid ⟨h1, h2, h3⟩, fun k x hx => ?_, keepsC d'⟩
  have hs' : d'.size = q.toArray.size := hp.1
  have hH' := holdsK_sortWorldK_c candCells 2 w g 0 q.toArray d' n os hH hg hs'
  have hk : k < d'.size := by simpa using (List.getElem?_eq_some_iff.1 hx).1
  have hdx : d'[k]! = x := by
    rw [getElem!_pos d' k hk]
    rw [List.getElem?_eq_getElem (by simpa using hk)] at hx
    simpa using Option.some.inj hx
  have c0 := (hH'.cell (i := k) (c := 0) hk (by omega)).1
  have c1 := (hH'.cell (i := k) (c := 1) hk (by omega)).1
  rw [hdx] at c0 c1
  refine ⟨g, rfl, Nat.lt_of_lt_of_le hg (keepsC (n := n) (os := os) d').size, ?_, ?_⟩
  · simpa [candCells] using c0
  · simpa [candCells] using c1
end Go.Proofs.YtlbehpbhmmppiaaGreatDoor
namespace Go.Proofs.YtlbehpbhmmppiaaGreatDoor
open Go.RowKit Go.Shelf Go.Sort

set_option maxRecDepth 100000 in
set_option maxHeartbeats 1000000 in
theorem collectG_any (Bm b nn : Nat) (hnn : nn ≤ 2000000000000) (cs : List (Int × Int)) (hI : IntsC cs) (w : World) (hBm : Blk w Bm 51 #[.map (some b)]) (hS : SetT 33 w b nn (keysP cs)) :
    Calls Tryz.prog 92 #[.func (.func 94) #[] #[.pointer (some ⟨Bm, 0, none⟩)]] w fun e w' =>
      ∃ v q, e = .returned v ∧ OwnC w' w.heap.size v q ∧ (q.Nodup ∧ ∀ c, c ∈ q ↔ c ∈ cs) ∧ Below w.heap.size w w' := by
  have hA := Lib.hid (appendSeqG_in Bm b nn hnn cs hI w hBm hS)
  clear hS hBm hI
  go_enter Tryz.func92, Tryz.ntmps92
  go_wp2_with fail
  refine hA.out.mono ?_
  rintro e w1 ⟨v, q, rfl, hO, hq, hb⟩
  have HQ := Lib.hid hq
  clear hq
  go_wp2_with fail
  go_ret
  exact ⟨_, q, rfl, hO, HQ.out, hb⟩

/-- SortFunc at what Collect gave. -/
theorem sortOwn_any {base c : Nat} {A : Option Addr} {q : List (Int × Int)} (hn : q.Nodup) (hq : q.length ≤ 2000000000000) (w : World) (hO : OwnC w base (.slice A q.length c) q) :
    Calls Tryz.prog 93 #[.slice A q.length c, .func (.func 20) #[] #[]] w fun e w' =>
      e = .returned (.tuple #[]) ∧ ∃ r, Hid (r.Pairwise ltC ∧ (∀ x, x ∈ r ↔ x ∈ q) ∧ r.length = q.length) ∧ PairsAt w' A r ∧ (base ≤ w.heap.size → Below base w w') := by
  rcases hO.2 with ⟨_, h0⟩ | ⟨g, cap, cur, hv, hb, hg, _, _, _, ht⟩
  · obtain rfl : q = [] := List.eq_nil_of_length_eq_zero h0
    refine (sortFunc_small A 0 c (.inl rfl) _ w).mono ?_
    rintro e w' ⟨rfl, rfl⟩
    exact ⟨rfl, [], Lib.hid ⟨List.Pairwise.nil, fun _ => Iff.rfl, rfl⟩, fun k x hx => by simp at hx, fun _ => Below.refl _ _⟩
  · simp only [Value.slice.injEq] at hv
    obtain ⟨rfl, _, rfl⟩ := hv
    have hgl : g < w.heap.size := (Array.getElem?_eq_some_iff.1 hg).1
    refine (sortFunc_any g c q hn w (holdsC hg ht) hgl hq).mono ?_
    rintro e w' ⟨he, r, hr, hP, hk⟩
    exact ⟨he, r, hr, hP, fun hbz => hk.below (fun k hk e => by omega) hbz⟩

set_option maxRecDepth 100000 in
set_option maxHeartbeats 1000000 in
theorem sortedFuncG_any (Bm b nn : Nat) (hnn : nn ≤ 2000000000000) (cs : List (Int × Int)) (hcs : cs.length ≤ 2000000000000) (hI : IntsC cs) (w : World) (hBm : Blk w Bm 51 #[.map (some b)]) (hS : SetT 33 w b nn (keysP cs)) :
    Calls Tryz.prog 58 #[.func (.func 94) #[] #[.pointer (some ⟨Bm, 0, none⟩)], .func (.func 20) #[] #[]] w fun e w' =>
      ∃ A c r, e = .returned (.slice A r.length c) ∧ PairsAt w' A r ∧ Hid (r.Pairwise ltC ∧ ∀ x, x ∈ r ↔ x ∈ cs) ∧ r.length ≤ cs.length ∧ Below w.heap.size w w' := by
  have hA := Lib.hid (collectG_any Bm b nn hnn cs hI w hBm hS)
  clear hS hBm hI
  go_enter Tryz.func58, Tryz.ntmps58
  go_wp2_with fail
  refine hA.out.mono ?_
  rintro e w1 ⟨v, q, rfl, hO, ⟨hn, hq⟩, hb⟩
  obtain ⟨A, c, rfl⟩ := hO.shape
  have hl : q.length ≤ cs.length := nodup_len hn (fun x hx => (hq x).1 hx)
  have HS := Lib.hid (sortOwn_any hn (by omega) w1 hO)
  have HQ := Lib.hid hq
  clear hO hn hq
  go_wp2_with fail
  refine HS.out.mono ?_
  rintro e w2 ⟨rfl, r, hr, hP, hb2⟩
  have hB2 := hb.trans (hb2 hb.size)
  obtain ⟨h1, h2, h3⟩ := hr.out
  have HL : Hid (r.length = q.length) := Lib.hid h3
  have HR : Hid (r.Pairwise ltC ∧ ∀ x, x ∈ r ↔ x ∈ cs) := Lib.hid ⟨h1, fun x => (h2 x).trans (HQ.out x)⟩
  clear hr h1 h2 h3 HQ hb2
  go_wp2_with fail
  go_ret
  exact ⟨A, c, r, by rw [HL.out]; rfl, hP, HR, by rw [HL.out]; exact hl, hB2⟩

set_option maxRecDepth 100000 in
set_option maxHeartbeats 1000000 in
theorem sortedPairsG_any (W : World) (b nn : Nat) (hnn : nn ≤ 2000000000000) (cs : List (Int × Int)) (hcs : cs.length ≤ 2000000000000) (hI : IntsC cs) (hS : SetT 33 W b nn (keysP cs)) :
    Calls Tryz.prog 33 #[.map (some b)] W fun e w' => ∃ A c r, e = .returned (.slice A r.length c) ∧ PairsAt w' A r ∧ Hid (r.Pairwise ltC ∧ ∀ x, x ∈ r ↔ x ∈ cs) ∧ r.length ≤ cs.length ∧ Below W.heap.size W w' := by
  have hz : W.heap.size ≤ (W.alloc (.cells #[.map (some b)] 51)).heap.size := by simp
  have hA := Lib.hid (sortedFuncG_any W.heap.size b nn hnn cs hcs hI (W.alloc (.cells #[.map (some b)] 51)) (Blk.new W _ _) (hS.alloc _))
  have hK := Lib.hid ((callsIn_wide (n := 5)).1 (keys_any 5 b W))
  clear hS hI
  go_enter Tryz.func33, Tryz.ntmps33
  go_wp2_with fail
  refine hK.out.mono ?_
  rintro e w' ⟨rfl, rfl⟩
  go_wp2_with fail
  refine hA.out.mono ?_
  rintro e w1 ⟨A, c, r, rfl, hP, hr, hl, hb⟩
  go_wp2_with fail
  go_ret
  exact ⟨A, c, r, rfl, hP, hr, hl, ((Below.refl _ W).alloc (Nat.le_refl _) _).trans (hb.mono hz)⟩
end Go.Proofs.YtlbehpbhmmppiaaGreatDoor
