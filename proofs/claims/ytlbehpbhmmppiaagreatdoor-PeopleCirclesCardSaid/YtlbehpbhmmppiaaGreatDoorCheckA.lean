/- Words for maps to bool that a call made: what a lookup returns, and what a store leaves. No conditions. Contracts of the register of package people: newRegister, misses, contradicts, refuses, add. Conditions: the entries before are at most 401, the name's length is a Go length; the last two: the entry is well-formed by itself. The contract of the register's contradicts. Conditions: the entry's ids are from 0 to 1000000. The contracts of the register's refuses and add. Conditions: the name's length is a Go length; for add: the entry was not refused, and the entries before are at most 400. The contract of the register's add. Conditions: the entry's ids are from 0 to 1000000, and the entries before are at most 401. The contract of people.Check. Conditions: the list lies in memory; the names' lengths are Go lengths. -/
import Derived.Test.YtlbehpbhmmppiaaGreatDoorWordsA
import Derived.Maps.OwnIn
import Derived.Maps.Views
import Derived.Test.YtlbehpbhmmppiaaGreatDoorEntryA
namespace Go.Proofs.YtlbehpbhmmppiaaGreatDoor
open Go.RowKit

theorem boolRow : Tryz.prog.underlying 4 = some .bool := by kernel_rfl
theorem intRowS : Tryz.prog.underlying 3 = some (.int .i64) := by kernel_rfl
theorem zeroBool (w : World) : (zeroValue 4).run Tryz.prog w = .ok (.bool false) w := by kernel_rfl

/-- Block b is a map to bool with keys of type K, of at most n entries, that answers p k at the key k. -/
def SetAt (K : TypeId) (w : World) (b n : Nat) (p : Lit → Bool) : Prop :=
  ∃ D : DataW Unit, w.ownsMap Tryz.prog K (plainElem Tryz.prog 4) b n D ∧ Maps.IsMap D ∧ ∀ k, D.atKey k (.lit (.bool false)) = .lit (.bool (p k))

theorem plain_bool_inv {v : Value} {z : DataW Unit × List MemPlace} (h : plainElem Tryz.prog 4 v = some z) : ∃ x, v = .bool x ∧ z = (.lit (.bool x), []) := by
  unfold plainElem at h
  rw [boolRow] at h
  cases v <;> simp at h
  exact ⟨_, rfl, h.symm⟩

section
variable {K : TypeId} {w w' : World} {b n : Nat} {p : Lit → Bool}
theorem SetAt.lt (h : SetAt K w b n p) : b < w.heap.size := by
  obtain ⟨D, h, _⟩ := h; exact h.lt
theorem SetAt.made (K : TypeId) (w : World) : SetAt K (w.alloc (.map #[] 0)) w.heap.size 0 (fun _ => false) :=
  ⟨.map [], World.ownsMap_made w _ K _, Maps.isMap_empty, fun _ => rfl⟩
theorem SetAt.of_block (h : SetAt K w b n p) (hb : w'.heap[b]? = w.heap[b]?) : SetAt K w' b n p := by
  obtain ⟨D, ⟨es, ck, h1, h2⟩, h3⟩ := h
  exact ⟨D, ⟨es, ck, hb.trans h1, h2⟩, h3⟩
theorem SetAt.alloc (h : SetAt K w b n p) (o : Obj) : SetAt K (w.alloc o) b n p := h.of_block (Below.heap_alloc w o b h.lt)
theorem SetAt.drew (h : SetAt K w b n p) : SetAt K w.drew b n p := h.of_block rfl
theorem SetAt.drewN (h : SetAt K w b n p) (m : Nat) : SetAt K (w.drewN m) b n p := h.of_block rfl
theorem SetAt.set (h : SetAt K w b n p) {a : Addr} (ha : b ≠ a.block) (v : Value) : SetAt K (w.setCell a v) b n p := h.of_block (Below.heap_setCell w a v b ha)
theorem SetAt.below {B : Nat} (h : SetAt K w b n p) (hb : Below B w w') (hB : b < B) : SetAt K w' b n p := h.of_block (hb.block b hB)
theorem SetAt.keep {S : Nat → Prop} (h : SetAt K w b n p) (hk : Keeps S w w') (hn : ¬ S b) : SetAt K w' b n p := h.of_block (hk.block b h.lt hn)
theorem SetAt.mono (h : SetAt K w b n p) {n' : Nat} (hn : n ≤ n') : SetAt K w b n' p := by
  obtain ⟨D, h1, h2⟩ := h; exact ⟨D, h1.mono hn, h2⟩
theorem SetAt.congr {q : Lit → Bool} (h : SetAt K w b n p) (hq : ∀ k, q k = p k) : SetAt K w b n q := by
  obtain rfl : q = p := funext hq
  exact h

/-- 'm[k]'. -/
theorem SetAt.look (h : SetAt K w b n p) (law : Maps.Keyed Tryz.prog K) {t : TypeId} (ht : Tryz.prog.underlying t = some (.map K 4)) {key : Value} {kl : Lit} (hkey : keyOf Tryz.prog K key = some kl) :
    (Instr.lookup t (.map (some b)) key false).run Tryz.prog w = .ok (.bool (p kl)) w := by
  obtain ⟨D, h, _, hp⟩ := h
  obtain ⟨v, ps, hrun, hv⟩ := h.lookup law ht (zeroBool w) (plainElem_bool boolRow false) hkey
  obtain ⟨x, rfl, hx⟩ := plain_bool_inv hv
  rw [hrun]
  simp only [Prod.mk.injEq] at hx
  rw [hp kl] at hx
  simp at hx
  rw [hx.1]

/-- 'm[k] = x'. -/
theorem SetAt.store (h : SetAt K w b n p) (law : Maps.Keyed Tryz.prog K) {t : TypeId} (ht : Tryz.prog.underlying t = some (.map K 4)) (hn : n < maxLen) {key : Value} {kl : Lit} (hkey : keyOf Tryz.prog K key = some kl) (x : Bool) :
    ∃ w', (Instr.mapUpdate t (.map (some b)) key (.bool x)).run Tryz.prog w = .ok () w' ∧ (∀ q : Lit → Bool, q kl = x → (∀ k, k ≠ kl → q k = p k) → SetAt K w' b (n + 1) q) ∧ Keeps (fun i => i = b) w w' := by
  obtain ⟨D, h, hm, hp⟩ := h
  obtain ⟨w', hrun, h1, h2⟩ := h.update law ht hn hkey (plainElem_bool boolRow x)
  refine ⟨w', hrun, fun q hq1 hq2 => ⟨_, h1, hm.put _ _, fun k => ?_⟩, Keeps.of_grown h2 (fun k e _ => by cases e; rfl)⟩
  by_cases hk : k = kl
  · subst hk
    rw [Maps.atKey_put_same hm (law.key hkey), hq1]
  · rw [Maps.atKey_put_other hk, hp k, hq2 k hk]
end

theorem lawInt : Maps.Keyed Tryz.prog 3 := Maps.int_keyed intRowS
theorem keyInt {n : Int} (h : -9223372036854775808 ≤ n ∧ n ≤ 9223372036854775807) : keyOf Tryz.prog 3 (.int .i64 n) = some (.int .i64 n) :=
  Maps.keyOf_int_mk intRowS (by have h1 : IntKind.i64.min = -9223372036854775808 := rfl; have h2 : IntKind.i64.max = 9223372036854775807 := rfl; simp [Lit.wf, h1, h2]; omega)
/-- A view of int keys. -/
def onInt (f : Int → Bool) : Lit → Bool
  | .int .i64 n => f n
  | _ => false
theorem onInt_at (f : Int → Bool) (n : Int) : onInt f (.int .i64 n) = f n := rfl
theorem onInt_other {f g : Int → Bool} {m : Int} (h : ∀ n, n ≠ m → f n = g n) (k : Lit) (hk : k ≠ .int .i64 m) : onInt f k = onInt g k := by
  unfold onInt
  split
  · rename_i n
    exact h n (fun e => hk (by rw [e]))
  · rfl
theorem mapIntRow : Tryz.prog.underlying 47 = some (.map 3 4) := by kernel_rfl
end Go.Proofs.YtlbehpbhmmppiaaGreatDoor
namespace Go.Proofs.YtlbehpbhmmppiaaGreatDoor
open Go.RowKit

def namedB (l : List Ent) (n : Int) : Bool := l.any fun x => x.kind == 1 && x.person == n
def diedB (l : List Ent) (n : Int) : Bool := l.any fun x => x.kind == 3 && x.person == n
def orderedB (l : List Ent) (n : Int) : Bool := l.any fun x => x.kind == 5 && x.order == n
def cancelledB (l : List Ent) (n : Int) : Bool := l.any fun x => x.kind == 6 && x.order == n
/-- The day of the last entry. -/
def lastD (l : List Ent) : Int := l.getLast?.elim 0 (·.day)

/-- A register of the entries l at block g: its maps lie from block lo on. -/
def RegAt (w : World) (lo g : Nat) (l : List Ent) : Prop :=
  ∃ b1 b2 b3 b4, lo ≤ g ∧ lo ≤ b1 ∧ lo ≤ b2 ∧ lo ≤ b3 ∧ lo ≤ b4 ∧ b1 ≠ g ∧ b2 ≠ g ∧ b3 ≠ g ∧ b4 ≠ g ∧ b1 ≠ b2 ∧ b1 ≠ b3 ∧ b1 ≠ b4 ∧ b2 ≠ b3 ∧ b2 ≠ b4 ∧ b3 ≠ b4 ∧
    Blk w g 179 #[.int .i64 l.length, .int .i64 (lastD l), .map (some b1), .map (some b2), .map (some b3), .map (some b4)] ∧
    SetAt 3 w b1 l.length (onInt (namedB l)) ∧ SetAt 3 w b2 l.length (onInt (diedB l)) ∧ SetAt 3 w b3 l.length (onInt (orderedB l)) ∧ SetAt 3 w b4 l.length (onInt (cancelledB l))
theorem RegAt.below {w w' : World} {lo g B : Nat} {l : List Ent} (h : RegAt w lo g l) (hb : Below B w w') (hB : w.heap.size ≤ B) : RegAt w' lo g l := by
  obtain ⟨b1, b2, b3, b4, h1, h2, h3, h4, h5, h6, h7, h8, h9, h10, h11, h12, h13, h14, h15, hK, s1, s2, s3, s4⟩ := h
  exact ⟨b1, b2, b3, b4, h1, h2, h3, h4, h5, h6, h7, h8, h9, h10, h11, h12, h13, h14, h15, hK.below hb (Nat.lt_of_lt_of_le hK.lt hB), s1.below hb (Nat.lt_of_lt_of_le s1.lt hB), s2.below hb (Nat.lt_of_lt_of_le s2.lt hB), s3.below hb (Nat.lt_of_lt_of_le s3.lt hB), s4.below hb (Nat.lt_of_lt_of_le s4.lt hB)⟩

set_option maxHeartbeats 1000000 in
theorem newRegister_any (w : World) :
    Calls Tryz.prog 87 #[] w fun e w' => ∃ g, e = .returned (.pointer (some ⟨g, 0, none⟩)) ∧ RegAt w' w.heap.size g [] ∧ Below w.heap.size w w' := by
  have hmm := @run_makeMap Tryz.prog
  go_enter Tryz.func87, Tryz.ntmps87
  go_wp2
  go_ret
  refine ⟨_, rfl, ⟨w.heap.size, w.heap.size + 1, w.heap.size + 1 + 1, w.heap.size + 1 + 1 + 1, by omega, by omega, by omega, by omega, by omega, by omega, by omega, by omega, by omega, by omega, by omega, by omega, by omega, by omega, by omega, ?_, ?_, ?_, ?_, ?_⟩, ?_⟩
  · have := Blk.new ((((w.alloc (.map #[] 0)).alloc (.map #[] 0)).alloc (.map #[] 0)).alloc (.map #[] 0)) 179 #[.int .i64 0, .int .i64 0, .map (some w.heap.size), .map (some (w.heap.size + 1)), .map (some (w.heap.size + 1 + 1)), .map (some (w.heap.size + 1 + 1 + 1))]
    simpa [lastD] using this
  · exact ((((SetAt.made 3 w).alloc _).alloc _).alloc _).alloc _ |>.congr (fun k => by unfold onInt; split <;> rfl)
  · have := (((SetAt.made 3 (w.alloc (.map #[] 0))).alloc (.map #[] 0)).alloc (.map #[] 0)).alloc (.cells #[.int .i64 0, .int .i64 0, .map (some w.heap.size), .map (some (w.heap.size + 1)), .map (some (w.heap.size + 1 + 1)), .map (some (w.heap.size + 1 + 1 + 1))] 179)
    simp at this
    exact this.congr (fun k => by unfold onInt; split <;> rfl)
  · have := ((SetAt.made 3 ((w.alloc (.map #[] 0)).alloc (.map #[] 0))).alloc (.map #[] 0)).alloc (.cells #[.int .i64 0, .int .i64 0, .map (some w.heap.size), .map (some (w.heap.size + 1)), .map (some (w.heap.size + 1 + 1)), .map (some (w.heap.size + 1 + 1 + 1))] 179)
    simp at this
    exact this.congr (fun k => by unfold onInt; split <;> rfl)
  · have := (SetAt.made 3 (((w.alloc (.map #[] 0)).alloc (.map #[] 0)).alloc (.map #[] 0))).alloc (.cells #[.int .i64 0, .int .i64 0, .map (some w.heap.size), .map (some (w.heap.size + 1)), .map (some (w.heap.size + 1 + 1)), .map (some (w.heap.size + 1 + 1 + 1))] 179)
    simp at this
    exact this.congr (fun k => by unfold onInt; split <;> rfl)
  · exact (((((Below.refl _ _).alloc (Nat.le_refl _) _).alloc (by simp) _).alloc (by simp; omega) _).alloc (by simp; omega) _).alloc (by simp; omega) _

set_option maxRecDepth 100000 in
set_option maxHeartbeats 1000000 in
theorem misses_any (lo g : Nat) (l : List Ent) (n : Int) (w : World) (hn : 0 ≤ n ∧ n ≤ 1000000) (hR : RegAt w lo g l) :
    Calls Tryz.prog 114 #[.pointer (some ⟨g, 0, none⟩), .int .i64 n] w fun e w' => e = .returned (.bool (n != 0 && !namedB l n)) ∧ w = w' := by
  obtain ⟨b1, b2, b3, b4, h1, h2, h3, h4, h5, h6, h7, h8, h9, h10, h11, h12, h13, h14, h15, hK, s1, s2, s3, s4⟩ := hR
  have c2 := hK.cell 2
  simp at c2
  have q1 := s1.look lawInt mapIntRow (keyInt (n := n) (by omega))
  rw [onInt_at] at q1
  clear s1 s2 s3 s4 hK h1 h2 h3 h4 h5 h6 h7 h8 h9 h10 h11 h12 h13 h14 h15
  go_enter Tryz.func114, Tryz.ntmps114
  go_wp2
  all_goals
    go_ret
    exact ⟨ret_bool (by simp_all), rfl⟩
end Go.Proofs.YtlbehpbhmmppiaaGreatDoor
namespace Go.Proofs.YtlbehpbhmmppiaaGreatDoor
open Go.RowKit

/-- The error of an entry that depends on others of its person or its order. -/
def contrE (l : List Ent) (x : Ent) : Int :=
  if x.kind = 3 ∧ diedB l x.person = true then 6 else if x.kind = 5 ∧ orderedB l x.order = true then 6
  else if x.kind = 6 ∧ orderedB l x.order = false then 5 else if x.kind = 6 ∧ cancelledB l x.order = true then 6 else 0

theorem drewN_two (w : World) (a b : Nat) : (w.drewN a).drewN b = w.drewN (a + b) := by simp [World.drewN, Nat.add_assoc]
theorem below_draws {B : Nat} {w w1 w2 : World} (h : Below B w w1) (h1 : w2.heap = w1.heap) (h2 : w2.os = w1.os) (h3 : w2.tape = w1.tape) (h4 : w2.output = w1.output) : Below B w w2 :=
  ⟨h2.trans h.os, h3.trans h.tape, h4.trans h.output, by rw [h1]; exact h.size, fun k hk => by rw [h1]; exact h.block k hk⟩

set_option maxRecDepth 100000 in
set_option maxHeartbeats 8000000 in
theorem contradicts_any (lo g : Nat) (l : List Ent) (x : Ent) (w : World) (hp : 0 ≤ x.person ∧ x.person ≤ 1000000) (ho : 0 ≤ x.order ∧ x.order ≤ 1000000) (hR : RegAt w lo g l) :
    Calls Tryz.prog 115 #[.pointer (some ⟨g, 0, none⟩), entVal x] w fun e w' => e = .returned (.int .i64 (contrE l x)) ∧ Below w.heap.size w w' := by
  obtain ⟨b1, b2, b3, b4, h1, h2, h3, h4, h5, h6, h7, h8, h9, h10, h11, h12, h13, h14, h15, hK, s1, s2, s3, s4⟩ := hR
  have hx0 := EntAt.new w x
  have c3 := (hK.alloc (.cells (entCells x).toArray 41)).cell 3
  have c4 := (hK.alloc (.cells (entCells x).toArray 41)).cell 4
  have c5 := (hK.alloc (.cells (entCells x).toArray 41)).cell 5
  simp at c3 c4 c5
  have q2 := fun n => ((s2.alloc (.cells (entCells x).toArray 41)).drewN n).look lawInt mapIntRow (keyInt (n := x.person) (by omega))
  have q3 := fun n => ((s3.alloc (.cells (entCells x).toArray 41)).drewN n).look lawInt mapIntRow (keyInt (n := x.order) (by omega))
  have q4 := fun n => ((s4.alloc (.cells (entCells x).toArray 41)).drewN n).look lawInt mapIntRow (keyInt (n := x.order) (by omega))
  simp only [onInt_at] at q2 q3 q4
  have hB0 : Below w.heap.size w (w.alloc (.cells (entCells x).toArray 41)) := (Below.refl _ _).alloc (Nat.le_refl _) _
  clear s1 s2 s3 s4 hK h1 h2 h3 h4 h5 h6 h7 h8 h9 h10 h11 h12 h13 h14 h15 hp ho
  unfold entVal
  simp only [entCells] at hx0 c3 c4 c5 q2 q3 q4 hB0
  go_enter Tryz.func115, Tryz.ntmps115
  go_upto_region 1 with fail
  generalize w.alloc (.cells _ 41) = W0 at hx0 hB0 c3 c4 c5 q2 q3 q4 ⊢
  obtain ⟨k0, k1, k2, k3, k4, k5, k6, k7, k8, k9, hz⟩ := hx0.cells
  clear hx0 k0 k2 k3 k5 k6 k7 k9
  have r2 : (Instr.lookup 47 (Value.map (some b2)) (Value.int .i64 x.person) false).run Tryz.prog W0.drew = .ok (Value.bool (diedB l x.person)) W0.drew := q2 1
  clear q2
  have q2 := r2
  clear r2
  have V : Hid (contrE l x = if (x.kind == 3 && diedB l x.person) = true then 6 else if (x.kind == 5 && orderedB l x.order) = true then 6 else if (x.kind == 6 && !orderedB l x.order) = true then 5 else if (x.kind == 6 && cancelledB l x.order) = true then 6 else 0) := Lib.hid (by unfold contrE; simp)
  go_cut [5] (fun s wx => s = .bool (x.kind == 3 && diedB l x.person) ∧ ∃ n, wx = W0.drewN n)
  case first =>
    by_cases e : x.kind = 3
    · have E : (x.kind == 3) = true := by simpa using e
      rw [e] at k1
      have HE := Lib.hid E
      clear e E V q3 q4
      go_region_with (fail)
      all_goals go_wp2_with fail
      all_goals go_meet
      all_goals exact ⟨by rw [HE.out, Bool.true_and], _, rfl⟩
    · have E : (x.kind == 3) = false := by simpa using e
      have HE := Lib.hid E
      clear e q2 q3 q4 V
      go_quiet (fail)
      go_wp2_with fail
      go_meet
      exact ⟨by rw [HE.out, Bool.false_and], by first | exact ⟨_, rfl⟩ | exact ⟨_, drewN_two _ _ _⟩⟩
  obtain ⟨rfl, nV3, rfl⟩ := hcut
  cases hv : (x.kind == 3 && diedB l x.person)
  case true =>
    have V3 := Lib.hid hv
    clear hv q2 q3 q4
    go_wp2_with fail
    go_ret
    exact ⟨ret_int (by rw [V.out, if_pos V3.out]), below_draws hB0 rfl rfl rfl rfl⟩
  have V3 := Lib.hid hv
  clear hv
  go_wp2_with fail
  go_cut [18] (fun s wx => s = .bool (x.kind == 5 && orderedB l x.order) ∧ ∃ n, wx = W0.drewN n)
  case first =>
    by_cases e : x.kind = 5
    · have E : (x.kind == 5) = true := by simpa using e
      rw [e] at k1
      have HE := Lib.hid E
      clear e E V q2 q4
      go_region_with (fail)
      all_goals go_wp2_with fail
      all_goals go_meet
      all_goals exact ⟨by rw [HE.out, Bool.true_and], _, rfl⟩
    · have E : (x.kind == 5) = false := by simpa using e
      have HE := Lib.hid E
      clear e q2 q3 q4 V
      go_quiet (fail)
      go_wp2_with fail
      go_meet
      exact ⟨by rw [HE.out, Bool.false_and], by first | exact ⟨_, rfl⟩ | exact ⟨_, drewN_two _ _ _⟩⟩
  obtain ⟨rfl, nV5, rfl⟩ := hcut
  cases hv : (x.kind == 5 && orderedB l x.order)
  case true =>
    have V5 := Lib.hid hv
    clear hv q2 q3 q4
    go_wp2_with fail
    go_ret
    exact ⟨ret_int (by rw [V.out, if_neg (by rw [V3.out]; exact Bool.false_ne_true), if_pos V5.out]), below_draws hB0 rfl rfl rfl rfl⟩
  have V5 := Lib.hid hv
  clear hv
  go_wp2_with fail
  go_cut [31] (fun s wx => s = .bool (x.kind == 6 && !orderedB l x.order) ∧ ∃ n, wx = W0.drewN n)
  case first =>
    by_cases e : x.kind = 6
    · have E : (x.kind == 6) = true := by simpa using e
      rw [e] at k1
      have HE := Lib.hid E
      clear e E V q2 q4
      go_region_with (fail)
      all_goals go_wp2_with fail
      all_goals go_meet
      all_goals exact ⟨by rw [HE.out, Bool.true_and], _, rfl⟩
    · have E : (x.kind == 6) = false := by simpa using e
      have HE := Lib.hid E
      clear e q2 q3 q4 V
      go_quiet (fail)
      go_wp2_with fail
      go_meet
      exact ⟨by rw [HE.out, Bool.false_and], by first | exact ⟨_, rfl⟩ | exact ⟨_, drewN_two _ _ _⟩⟩
  obtain ⟨rfl, nV6, rfl⟩ := hcut
  cases hv : (x.kind == 6 && !orderedB l x.order)
  case true =>
    have V6 := Lib.hid hv
    clear hv q2 q3 q4
    go_wp2_with fail
    go_ret
    exact ⟨ret_int (by rw [V.out, if_neg (by rw [V3.out]; exact Bool.false_ne_true), if_neg (by rw [V5.out]; exact Bool.false_ne_true), if_pos V6.out]), below_draws hB0 rfl rfl rfl rfl⟩
  have V6 := Lib.hid hv
  clear hv
  go_wp2_with fail
  go_cut [45] (fun s wx => s = .bool (x.kind == 6 && cancelledB l x.order) ∧ ∃ n, wx = W0.drewN n)
  case first =>
    by_cases e : x.kind = 6
    · have E : (x.kind == 6) = true := by simpa using e
      rw [e] at k1
      have HE := Lib.hid E
      clear e E V q2 q3
      go_region_with (fail)
      all_goals go_wp2_with fail
      all_goals go_meet
      all_goals exact ⟨by rw [HE.out, Bool.true_and], _, rfl⟩
    · have E : (x.kind == 6) = false := by simpa using e
      have HE := Lib.hid E
      clear e q2 q3 q4 V
      go_quiet (fail)
      go_wp2_with fail
      go_meet
      exact ⟨by rw [HE.out, Bool.false_and], by first | exact ⟨_, rfl⟩ | exact ⟨_, drewN_two _ _ _⟩⟩
  obtain ⟨rfl, nV7, rfl⟩ := hcut
  cases hv : (x.kind == 6 && cancelledB l x.order)
  case true =>
    have V7 := Lib.hid hv
    clear hv q2 q3 q4
    go_wp2_with fail
    go_ret
    exact ⟨ret_int (by rw [V.out, if_neg (by rw [V3.out]; exact Bool.false_ne_true), if_neg (by rw [V5.out]; exact Bool.false_ne_true), if_neg (by rw [V6.out]; exact Bool.false_ne_true), if_pos V7.out]), below_draws hB0 rfl rfl rfl rfl⟩
  have V7 := Lib.hid hv
  clear hv
  go_wp2_with fail
  go_ret
  exact ⟨ret_int (by rw [V.out, if_neg (by rw [V3.out]; exact Bool.false_ne_true), if_neg (by rw [V5.out]; exact Bool.false_ne_true), if_neg (by rw [V6.out]; exact Bool.false_ne_true), if_neg (by rw [V7.out]; exact Bool.false_ne_true)]), below_draws hB0 rfl rfl rfl rfl⟩
end Go.Proofs.YtlbehpbhmmppiaaGreatDoor
namespace Go.Proofs.YtlbehpbhmmppiaaGreatDoor
open Go.RowKit

/-- The error of the next entry. -/
def nextE (l : List Ent) (x : Ent) : Int :=
  if ckE x ≠ 0 then ckE x else if 400 ≤ l.length then 2 else if x.day < lastD l then 7
  else if x.kind ≠ 1 ∧ (x.person ≠ 0 ∧ namedB l x.person = false ∨ x.other ≠ 0 ∧ namedB l x.other = false) then 5 else contrE l x

theorem ok_of_ck (x : Ent) (h : ckE x = 0) : okE x = true := by
  unfold ckE at h
  cases ho : okE x with
  | true => rfl
  | false => rw [ho] at h; simp at h
theorem ok_bounds (x : Ent) (h : okE x = true) : (0 ≤ x.person ∧ x.person ≤ 1000000) ∧ (0 ≤ x.other ∧ x.other ≤ 1000000) ∧ (0 ≤ x.order ∧ x.order ≤ 1000000) ∧ 0 ≤ x.day ∧ x.day ≤ 100000 := by
  unfold okE at h
  simp only [Bool.and_eq_true, decide_eq_true_eq] at h
  obtain ⟨⟨hd, hi⟩, ho⟩ := h
  have hday : 0 ≤ x.day ∧ x.day ≤ 100000 := by
    unfold vDays isDayB at hd; simp at hd; omega
  have h1 := congrArg Ent.person ho
  have h2 := congrArg Ent.other ho
  have h3 := congrArg Ent.order ho
  clear ho hd
  rcases kind_of_vIds x hi with h | h | h | h | h | h | h <;> simp [onlyW, onlyOr, h] at h1 h2 h3 <;> simp [vIds, isIdB, isIdZB, h] at hi <;> omega

theorem RegAt.of_heap {w w' : World} {lo g : Nat} {l : List Ent} (h : RegAt w lo g l) (hh : w'.heap = w.heap) : RegAt w' lo g l := by
  obtain ⟨b1, b2, b3, b4, h1, h2, h3, h4, h5, h6, h7, h8, h9, h10, h11, h12, h13, h14, h15, hK, s1, s2, s3, s4⟩ := h
  exact ⟨b1, b2, b3, b4, h1, h2, h3, h4, h5, h6, h7, h8, h9, h10, h11, h12, h13, h14, h15, by unfold Blk at hK ⊢; rw [hh]; exact hK, s1.of_block (by rw [hh]), s2.of_block (by rw [hh]), s3.of_block (by rw [hh]), s4.of_block (by rw [hh])⟩
theorem RegAt.head {w : World} {lo g : Nat} {l : List Ent} (h : RegAt w lo g l) : w.cell? ⟨g, 0, none⟩ = some (.int .i64 l.length) ∧ w.cell? ⟨g, 1, none⟩ = some (.int .i64 (lastD l)) := by
  obtain ⟨b1, b2, b3, b4, h1, h2, h3, h4, h5, h6, h7, h8, h9, h10, h11, h12, h13, h14, h15, hK, s1, s2, s3, s4⟩ := h
  exact ⟨hK.cell 0, hK.cell 1⟩

set_option maxRecDepth 100000 in
set_option maxHeartbeats 4000000 in
theorem refuses_any (lo g : Nat) (l : List Ent) (x : Ent) (w : World) (hs : x.name.size ≤ maxLen) (hR : RegAt w lo g l) :
    Calls Tryz.prog 88 #[.pointer (some ⟨g, 0, none⟩), entVal x] w fun e w' => e = .returned (.int .i64 (nextE l x)) ∧ Below w.heap.size w w' := by
  have hx0 := EntAt.new w x
  have hB0 : Below w.heap.size w (w.alloc (.cells (entCells x).toArray 41)) := (Below.refl _ _).alloc (Nat.le_refl _) _
  have hR0 := hR.below hB0 (Nat.le_refl _)
  have hz0 : w.heap.size < (w.alloc (.cells (entCells x).toArray 41)).heap.size := by simp
  unfold entVal
  simp only [entCells] at hx0 hB0 hR0 hz0
  go_enter Tryz.func88, Tryz.ntmps88
  go_upto_region 1 with fail
  generalize w.alloc (.cells _ 41) = W0 at hx0 hB0 hR0 hz0 ⊢
  obtain ⟨k0, k1, k2, k3, k4, k5, k6, k7, k8, k9, hz⟩ := hx0.cells
  by_cases hc : ckE x = 0
  · obtain ⟨⟨p1, p2⟩, ⟨o1, o2⟩, ⟨r1, r2⟩, -, -⟩ := ok_bounds x (ok_of_ck x hc)
    have V : Hid (nextE l x = if 400 ≤ l.length then 2 else if x.day < lastD l then 7 else if x.kind ≠ 1 ∧ (x.person ≠ 0 ∧ namedB l x.person = false ∨ x.other ≠ 0 ∧ namedB l x.other = false) then 5 else contrE l x) := Lib.hid (by unfold nextE; rw [if_neg (by simp [hc])])
    have HC := Lib.hid hc
    clear hc
    go_wp2_with fail
    refine (checkEntry_any x _ hs).mono ?_
    rintro e w1 ⟨he, hb1⟩
    rw [HC.out] at he
    subst he
    have hB1 := hB0.trans (hb1.mono hB0.size)
    have hX1 := EntAt.below hx0 hb1 hz
    have hR1 := hR0.below hb1 (Nat.le_refl _)
    clear k0 k1 k2 k3 k4 k5 k6 k7 k8 k9 hx0 hB0 hR0 hb1 hz
    obtain ⟨k0, k1, k2, k3, k4, k5, k6, k7, k8, k9, hz⟩ := hX1.cells
    obtain ⟨c0, c1⟩ := hR1.head
    by_cases h4 : 400 ≤ l.length
    · have h4i : (400 : Int) ≤ (l.length : Int) := by omega
      go_wp2_with fail
      go_ret
      exact ⟨ret_int (by rw [V.out, if_pos h4]), hB1⟩
    · have h4i : (l.length : Int) < 400 := by omega
      by_cases hd : x.day < lastD l
      · go_wp2_with fail
        go_quiet (fail)
        go_wp2_with fail
        go_ret
        exact ⟨ret_int (by rw [V.out, if_neg h4, if_pos hd]), below_draws hB1 rfl rfl rfl rfl⟩
      · have hdi : lastD l ≤ x.day := by omega
        go_wp2_with fail
        go_quiet (fail)
        have hB2 : ∀ n, Below w.heap.size w (w1.drewN n) := fun n => below_draws hB1 rfl rfl rfl rfl
        have hR2 := fun n => hR1.of_heap (w' := w1.drewN n) rfl
        by_cases hk : x.kind = 1
        · have e1 : (x.kind != 1) = false := by simp [hk]
          have HK := Lib.hid hk
          clear hk
          go_wp2_with fail
          refine (contradicts_any lo g l x _ ⟨p1, p2⟩ ⟨r1, r2⟩ (hR2 _)).mono ?_
          rintro e w3 ⟨rfl, hb3⟩
          go_wp2_with fail
          go_ret
          exact ⟨ret_int (by rw [V.out, if_neg h4, if_neg (by omega), if_neg (fun h => h.1 HK.out)]), (hB2 _).trans (hb3.mono (hB2 0).size)⟩
        · have e1 : (x.kind != 1) = true := by simpa using hk
          have HK := Lib.hid hk
          clear hk
          go_wp2_with fail
          refine (misses_any lo g l x.person _ ⟨p1, p2⟩ (hR2 _)).mono ?_
          rintro e w' ⟨rfl, rfl⟩
          cases hA : (x.person != 0 && !namedB l x.person)
          case true =>
            have HA := Lib.hid hA
            clear hA
            go_wp2_with fail
            go_ret
            exact ⟨ret_int (by have h := HA.out; rw [V.out, if_neg h4, if_neg (by omega), if_pos ⟨HK.out, .inl (by simpa using h)⟩]), below_draws hB1 rfl rfl rfl rfl⟩
          have HA := Lib.hid hA
          clear hA
          go_wp2_with fail
          refine (misses_any lo g l x.other _ ⟨o1, o2⟩ (hR2 _)).mono ?_
          rintro e w' ⟨rfl, rfl⟩
          cases hA : (x.other != 0 && !namedB l x.other)
          case true =>
            have HA2 := Lib.hid hA
            clear hA
            go_wp2_with fail
            go_ret
            exact ⟨ret_int (by have h := HA2.out; rw [V.out, if_neg h4, if_neg (by omega), if_pos ⟨HK.out, .inr (by simpa using h)⟩]), below_draws hB1 rfl rfl rfl rfl⟩
          have HA2 := Lib.hid hA
          clear hA
          go_wp2_with fail
          refine (contradicts_any lo g l x _ ⟨p1, p2⟩ ⟨r1, r2⟩ (hR2 _)).mono ?_
          rintro e w3 ⟨rfl, hb3⟩
          go_wp2_with fail
          go_ret
          exact ⟨ret_int (by rw [V.out, if_neg h4, if_neg (by omega), if_neg (fun h => by have h1 := HA.out; have h2 := HA2.out; rcases h.2 with h3 | h3 <;> simp_all)]), (hB2 _).trans (hb3.mono (hB2 0).size)⟩
  · go_wp2_with (go_at_call 83; refine (checkEntry_any x _ hs).mono ?_; rintro e w1 ⟨rfl, hb1⟩)
    go_ret
    exact ⟨ret_int (by unfold nextE; rw [if_pos hc]), hB0.trans (hb1.mono hB0.size)⟩
end Go.Proofs.YtlbehpbhmmppiaaGreatDoor
namespace Go.Proofs.YtlbehpbhmmppiaaGreatDoor
open Go.RowKit

theorem lastD_snoc (l : List Ent) (x : Ent) : lastD (l ++ [x]) = x.day := by simp [lastD]
theorem namedB_snoc (l : List Ent) (x : Ent) (n : Int) : namedB (l ++ [x]) n = (namedB l n || (x.kind == 1 && x.person == n)) := by simp [namedB]
theorem diedB_snoc (l : List Ent) (x : Ent) (n : Int) : diedB (l ++ [x]) n = (diedB l n || (x.kind == 3 && x.person == n)) := by simp [diedB]
theorem orderedB_snoc (l : List Ent) (x : Ent) (n : Int) : orderedB (l ++ [x]) n = (orderedB l n || (x.kind == 5 && x.order == n)) := by simp [orderedB]
theorem cancelledB_snoc (l : List Ent) (x : Ent) (n : Int) : cancelledB (l ++ [x]) n = (cancelledB l n || (x.kind == 6 && x.order == n)) := by simp [cancelledB]

theorem Keeps.heap {S : Nat → Prop} {w w1 w2 : World} (h : Keeps S w w1) (h1 : w2.heap = w1.heap) (h2 : w2.os = w1.os) (h3 : w2.tape = w1.tape) (h4 : w2.output = w1.output) : Keeps S w w2 :=
  ⟨h2.trans h.os, h3.trans h.tape, h4.trans h.output, by rw [h1]; exact h.size, fun k hk hn => by rw [h1]; exact h.block k hk hn⟩

theorem onInt_same {f g : Int → Bool} (h : ∀ n, f n = g n) (k : Lit) : onInt f k = onInt g k := by
  rw [show f = g from funext h]

set_option maxRecDepth 100000 in
set_option maxHeartbeats 4000000 in
theorem add_any (lo g : Nat) (l : List Ent) (x : Ent) (w : World) (hl : l.length ≤ 401) (hp : 0 ≤ x.person ∧ x.person ≤ 1000000) (ho : 0 ≤ x.order ∧ x.order ≤ 1000000) (hR : RegAt w lo g l) :
    Calls Tryz.prog 89 #[.pointer (some ⟨g, 0, none⟩), entVal x] w fun e w' => e = .returned (.tuple #[]) ∧ RegAt w' lo g (l ++ [x]) ∧ Keeps (fun i => lo ≤ i) w w' := by
  obtain ⟨b1, b2, b3, b4, h1, h2, h3, h4, h5, h6, h7, h8, h9, h10, h11, h12, h13, h14, h15, hK, s1, s2, s3, s4⟩ := hR
  have hg := hK.lt
  have hx0 : EntAt (((w.setCell ⟨g, 0, none⟩ (.int .i64 (l.length + 1))).setCell ⟨g, 1, none⟩ (.int .i64 x.day)).alloc (.cells (entCells x).toArray 41)) w.heap.size x := by
    have h := EntAt.new ((w.setCell ⟨g, 0, none⟩ (.int .i64 (l.length + 1))).setCell ⟨g, 1, none⟩ (.int .i64 x.day)) x
    rwa [World.size_setCell, World.size_setCell] at h
  have hK0 := ((hK.set 0 (.int .i64 (l.length + 1))).set 1 (.int .i64 x.day)).alloc (.cells (entCells x).toArray 41)
  have t1 := ((s1.set (a := ⟨g, 0, none⟩) h6 (.int .i64 (l.length + 1))).set (a := ⟨g, 1, none⟩) h6 (.int .i64 x.day)).alloc (.cells (entCells x).toArray 41)
  have t2 := ((s2.set (a := ⟨g, 0, none⟩) h7 (.int .i64 (l.length + 1))).set (a := ⟨g, 1, none⟩) h7 (.int .i64 x.day)).alloc (.cells (entCells x).toArray 41)
  have t3 := ((s3.set (a := ⟨g, 0, none⟩) h8 (.int .i64 (l.length + 1))).set (a := ⟨g, 1, none⟩) h8 (.int .i64 x.day)).alloc (.cells (entCells x).toArray 41)
  have t4 := ((s4.set (a := ⟨g, 0, none⟩) h9 (.int .i64 (l.length + 1))).set (a := ⟨g, 1, none⟩) h9 (.int .i64 x.day)).alloc (.cells (entCells x).toArray 41)
  have hB0 : Keeps (fun i => lo ≤ i) w (((w.setCell ⟨g, 0, none⟩ (.int .i64 (l.length + 1))).setCell ⟨g, 1, none⟩ (.int .i64 x.day)).alloc (.cells (entCells x).toArray 41)) := (((Keeps.refl _ w).setCell (p := ⟨g, 0, none⟩) (fun _ => h1) _).setCell (p := ⟨g, 1, none⟩) (fun _ => h1) _).alloc _
  simp only [List.setIfInBounds_toArray, List.set_cons_zero, List.set_cons_succ] at hK0
  have c0 := hK.cell 0
  have c1 := hK.cell 1
  simp at c0 c1
  have cf0 := hK.frozen 0
  have cf1 := hK.frozen 1
  clear s1 s2 s3 s4 hK
  have hli : (l.length : Int) ≤ 401 := by omega
  unfold entVal
  simp only [entCells] at hx0 hK0 t1 t2 t3 t4 hB0
  go_enter Tryz.func89, Tryz.ntmps89
  go_upto_region 3 with fail
  generalize ((w.setCell ⟨g, 0, none⟩ _).setCell ⟨g, 1, none⟩ _).alloc (.cells _ 41) = W0 at hx0 hK0 t1 t2 t3 t4 hB0 ⊢
  obtain ⟨k0, k1, k2, k3, k4, k5, k6, k7, k8, k9, hz⟩ := hx0.cells
  have d2 := hK0.cell 2
  have d3 := hK0.cell 3
  have d4 := hK0.cell 4
  have d5 := hK0.cell 5
  simp at d2 d3 d4 d5
  clear c0 c1 cf0 cf1
  by_cases e1 : x.kind = 1
  · rw [e1] at k1
    have E := Lib.hid e1
    clear e1
    obtain ⟨w5, hrun, hS, hK5⟩ := (t1.drew).store lawInt mapIntRow (by unfold maxLen; omega) (keyInt (n := x.person) (by omega)) true
    have hend : RegAt w5 lo g (l ++ [x]) ∧ Keeps (fun i => lo ≤ i) w w5 :=
      ⟨⟨b1, b2, b3, b4, h1, h2, h3, h4, h5, h6, h7, h8, h9, h10, h11, h12, h13, h14, h15, by (have h := (hK0.drew).keep hK5 h6.symm; rw [List.length_append, lastD_snoc]; exact h),
        by rw [List.length_append]; exact hS (onInt (namedB (l ++ [x]))) (by rw [onInt_at, namedB_snoc, E.out]; simp) (fun k hk => onInt_other (fun n hn => by rw [namedB_snoc, E.out]; simp; intro h; exact absurd h.symm hn) k hk),
        by rw [List.length_append]; exact ((t2.drew.keep hK5 h10.symm).mono (Nat.le_succ _)).congr (onInt_same (fun n => by rw [diedB_snoc, E.out]; simp)),
        by rw [List.length_append]; exact ((t3.drew.keep hK5 h11.symm).mono (Nat.le_succ _)).congr (onInt_same (fun n => by rw [orderedB_snoc, E.out]; simp)),
        by rw [List.length_append]; exact ((t4.drew.keep hK5 h12.symm).mono (Nat.le_succ _)).congr (onInt_same (fun n => by rw [cancelledB_snoc, E.out]; simp))⟩, (hB0.drew).trans hK5 (fun i _ h => by subst h; exact h2)⟩
    have HE := Lib.hid hend
    clear hend hS hK5 t1 t2 t3 t4 hK0 hx0
    go_wp2_with fail
    go_region_with (fail)
    all_goals go_wp2_with fail
    all_goals go_end0
    all_goals exact ⟨rfl, HE.out⟩
  by_cases e3 : x.kind = 3
  · rw [e3] at k1
    have E := Lib.hid e3
    clear e1 e3
    obtain ⟨w5, hrun, hS, hK5⟩ := (t2.drew).store lawInt mapIntRow (by unfold maxLen; omega) (keyInt (n := x.person) (by omega)) true
    have hend : RegAt w5 lo g (l ++ [x]) ∧ Keeps (fun i => lo ≤ i) w w5 :=
      ⟨⟨b1, b2, b3, b4, h1, h2, h3, h4, h5, h6, h7, h8, h9, h10, h11, h12, h13, h14, h15, by (have h := (hK0.drew).keep hK5 h7.symm; rw [List.length_append, lastD_snoc]; exact h),
        by rw [List.length_append]; exact ((t1.drew.keep hK5 h10).mono (Nat.le_succ _)).congr (onInt_same (fun n => by rw [namedB_snoc, E.out]; simp)),
        by rw [List.length_append]; exact hS (onInt (diedB (l ++ [x]))) (by rw [onInt_at, diedB_snoc, E.out]; simp) (fun k hk => onInt_other (fun n hn => by rw [diedB_snoc, E.out]; simp; intro h; exact absurd h.symm hn) k hk),
        by rw [List.length_append]; exact ((t3.drew.keep hK5 h13.symm).mono (Nat.le_succ _)).congr (onInt_same (fun n => by rw [orderedB_snoc, E.out]; simp)),
        by rw [List.length_append]; exact ((t4.drew.keep hK5 h14.symm).mono (Nat.le_succ _)).congr (onInt_same (fun n => by rw [cancelledB_snoc, E.out]; simp))⟩, (hB0.drew).trans hK5 (fun i _ h => by subst h; exact h3)⟩
    have HE := Lib.hid hend
    clear hend hS hK5 t1 t2 t3 t4 hK0 hx0
    go_wp2_with fail
    go_region_with (fail)
    all_goals go_wp2_with fail
    all_goals go_end0
    all_goals exact ⟨rfl, HE.out⟩
  by_cases e5 : x.kind = 5
  · rw [e5] at k1
    have E := Lib.hid e5
    clear e1 e3 e5
    obtain ⟨w5, hrun, hS, hK5⟩ := (t3.drew).store lawInt mapIntRow (by unfold maxLen; omega) (keyInt (n := x.order) (by omega)) true
    have hend : RegAt w5 lo g (l ++ [x]) ∧ Keeps (fun i => lo ≤ i) w w5 :=
      ⟨⟨b1, b2, b3, b4, h1, h2, h3, h4, h5, h6, h7, h8, h9, h10, h11, h12, h13, h14, h15, by (have h := (hK0.drew).keep hK5 h8.symm; rw [List.length_append, lastD_snoc]; exact h),
        by rw [List.length_append]; exact ((t1.drew.keep hK5 h11).mono (Nat.le_succ _)).congr (onInt_same (fun n => by rw [namedB_snoc, E.out]; simp)),
        by rw [List.length_append]; exact ((t2.drew.keep hK5 h13).mono (Nat.le_succ _)).congr (onInt_same (fun n => by rw [diedB_snoc, E.out]; simp)),
        by rw [List.length_append]; exact hS (onInt (orderedB (l ++ [x]))) (by rw [onInt_at, orderedB_snoc, E.out]; simp) (fun k hk => onInt_other (fun n hn => by rw [orderedB_snoc, E.out]; simp; intro h; exact absurd h.symm hn) k hk),
        by rw [List.length_append]; exact ((t4.drew.keep hK5 h15.symm).mono (Nat.le_succ _)).congr (onInt_same (fun n => by rw [cancelledB_snoc, E.out]; simp))⟩, (hB0.drew).trans hK5 (fun i _ h => by subst h; exact h4)⟩
    have HE := Lib.hid hend
    clear hend hS hK5 t1 t2 t3 t4 hK0 hx0
    go_wp2_with fail
    go_region_with (fail)
    all_goals go_wp2_with fail
    all_goals go_end0
    all_goals exact ⟨rfl, HE.out⟩
  by_cases e6 : x.kind = 6
  · rw [e6] at k1
    have E := Lib.hid e6
    clear e1 e3 e5 e6
    obtain ⟨w5, hrun, hS, hK5⟩ := (t4.drew).store lawInt mapIntRow (by unfold maxLen; omega) (keyInt (n := x.order) (by omega)) true
    have hend : RegAt w5 lo g (l ++ [x]) ∧ Keeps (fun i => lo ≤ i) w w5 :=
      ⟨⟨b1, b2, b3, b4, h1, h2, h3, h4, h5, h6, h7, h8, h9, h10, h11, h12, h13, h14, h15, by (have h := (hK0.drew).keep hK5 h9.symm; rw [List.length_append, lastD_snoc]; exact h),
        by rw [List.length_append]; exact ((t1.drew.keep hK5 h12).mono (Nat.le_succ _)).congr (onInt_same (fun n => by rw [namedB_snoc, E.out]; simp)),
        by rw [List.length_append]; exact ((t2.drew.keep hK5 h14).mono (Nat.le_succ _)).congr (onInt_same (fun n => by rw [diedB_snoc, E.out]; simp)),
        by rw [List.length_append]; exact ((t3.drew.keep hK5 h15).mono (Nat.le_succ _)).congr (onInt_same (fun n => by rw [orderedB_snoc, E.out]; simp)),
        by rw [List.length_append]; exact hS (onInt (cancelledB (l ++ [x]))) (by rw [onInt_at, cancelledB_snoc, E.out]; simp) (fun k hk => onInt_other (fun n hn => by rw [cancelledB_snoc, E.out]; simp; intro h; exact absurd h.symm hn) k hk)⟩, (hB0.drew).trans hK5 (fun i _ h => by subst h; exact h5)⟩
    have HE := Lib.hid hend
    clear hend hS hK5 t1 t2 t3 t4 hK0 hx0
    go_wp2_with fail
    go_region_with (fail)
    all_goals go_wp2_with fail
    all_goals go_end0
    all_goals exact ⟨rfl, HE.out⟩
  · have f1 : (x.kind == 1) = false := by simpa using e1
    have f3 : (x.kind == 3) = false := by simpa using e3
    have f5 : (x.kind == 5) = false := by simpa using e5
    have f6 : (x.kind == 6) = false := by simpa using e6
    have hend : RegAt W0 lo g (l ++ [x]) ∧ Keeps (fun i => lo ≤ i) w W0 :=
      ⟨⟨b1, b2, b3, b4, h1, h2, h3, h4, h5, h6, h7, h8, h9, h10, h11, h12, h13, h14, h15, by (rw [List.length_append, lastD_snoc]; exact hK0),
        by rw [List.length_append]; exact (t1.mono (Nat.le_succ _)).congr (onInt_same (fun n => by rw [namedB_snoc, f1]; simp)),
        by rw [List.length_append]; exact (t2.mono (Nat.le_succ _)).congr (onInt_same (fun n => by rw [diedB_snoc, f3]; simp)),
        by rw [List.length_append]; exact (t3.mono (Nat.le_succ _)).congr (onInt_same (fun n => by rw [orderedB_snoc, f5]; simp)),
        by rw [List.length_append]; exact (t4.mono (Nat.le_succ _)).congr (onInt_same (fun n => by rw [cancelledB_snoc, f6]; simp))⟩, hB0⟩
    have HE := Lib.hid hend
    clear hend t1 t2 t3 t4 hK0 hx0 e1 e3 e5 e6
    go_wp2_with fail
    go_end0
    exact ⟨rfl, HE.out⟩
end Go.Proofs.YtlbehpbhmmppiaaGreatDoor
namespace Go.Proofs.YtlbehpbhmmppiaaGreatDoor
open Go.RowKit

/-- The memory behind the address A shows the entries l, ten cells each, below block B. -/
def EntsLie (w : World) (B : Nat) (A : Option Addr) (l : List Ent) : Prop :=
  l = [] ∨ ∃ b off, A = some ⟨b, off, none⟩ ∧ b < B ∧ ∀ k x, l[k]? = some x → ∀ j v, (entCells x)[j]? = some v → w.cell? ⟨b, off + k * 10 + j, none⟩ = some v
theorem EntsLie.below {w w' : World} {B : Nat} {A : Option Addr} {l : List Ent} (h : EntsLie w B A l) (hb : Below B w w') : EntsLie w' B A l := by
  rcases h with h | ⟨b, off, rfl, hlt, hc⟩
  · exact .inl h
  · exact .inr ⟨b, off, rfl, hlt, fun k x hk j v hv => (hb.cell (p := ⟨b, _, none⟩) hlt).trans (hc k x hk j v hv)⟩
theorem EntsLie.up {w w' : World} {B B' : Nat} {A : Option Addr} {l : List Ent} (h : EntsLie w B A l) (hb : Below B w w') (hB : B ≤ B') : EntsLie w' B' A l := by
  rcases h.below hb with h | ⟨b, off, rfl, hlt, hc⟩
  · exact .inl h
  · exact .inr ⟨b, off, rfl, by omega, hc⟩
theorem EntsLie.at {w : World} {B : Nat} {A : Option Addr} {l : List Ent} (h : EntsLie w B A l) {k : Nat} {x : Ent} (hk : l[k]? = some x) :
    ∃ b off, A = some ⟨b, off, none⟩ ∧ b < B ∧ w.cell? ⟨b, off + k * 10, none⟩ = some (.int .i64 x.day) ∧ w.cell? ⟨b, off + k * 10 + 1, none⟩ = some (.int .u8 x.kind) ∧ w.cell? ⟨b, off + k * 10 + 2, none⟩ = some (.int .i64 x.since) ∧ w.cell? ⟨b, off + k * 10 + 3, none⟩ = some (.int .i64 x.untl) ∧ w.cell? ⟨b, off + k * 10 + 4, none⟩ = some (.int .i64 x.person) ∧ w.cell? ⟨b, off + k * 10 + 5, none⟩ = some (.int .i64 x.place) ∧ w.cell? ⟨b, off + k * 10 + 6, none⟩ = some (.int .i64 x.other) ∧ w.cell? ⟨b, off + k * 10 + 7, none⟩ = some (.int .i64 x.at') ∧ w.cell? ⟨b, off + k * 10 + 8, none⟩ = some (.int .i64 x.order) ∧ w.cell? ⟨b, off + k * 10 + 9, none⟩ = some (.string x.name) := by
  rcases h with h | ⟨b, off, rfl, hlt, hc⟩
  · subst h; simp at hk
  · have h := hc k x hk
    exact ⟨b, off, rfl, hlt, h 0 _ rfl, h 1 _ rfl, h 2 _ rfl, h 3 _ rfl, h 4 _ rfl, h 5 _ rfl, h 6 _ rfl, h 7 _ rfl, h 8 _ rfl, h 9 _ rfl⟩

/-- What Check returns. -/
def chk (pre : List Ent) : List Ent → Int × Int
  | [] => (0, 0)
  | x :: r => if nextE pre x = 0 then chk (pre ++ [x]) r else (pre.length, nextE pre x)

theorem next_len (l : List Ent) (x : Ent) (h : nextE l x = 0) : l.length < 400 ∧ ckE x = 0 := by
  unfold nextE at h
  by_cases hc : ckE x = 0
  · rw [if_neg (by simp [hc])] at h
    by_cases h4 : 400 ≤ l.length
    · rw [if_pos h4] at h; omega
    · exact ⟨by omega, hc⟩
  · rw [if_pos hc] at h; exact absurd h hc

set_option maxRecDepth 100000 in
set_option maxHeartbeats 4000000 in
theorem Check_any (A : Option Addr) (c : Nat) (l : List Ent) (w : World) (hL : EntsLie w w.heap.size A l) (hl : l.length ≤ maxLen) (hs : ∀ x ∈ l, x.name.size ≤ maxLen) (_ : l.length ≤ c) :
    Calls Tryz.prog 55 #[.slice A l.length c] w fun e w' => e = .returned (.tuple #[.int .i64 (chk [] l).1, .int .i64 (chk [] l).2]) ∧ Below w.heap.size w w' := by
  have hl' := hl
  unfold maxLen at hl
  go_enter Tryz.func55, Tryz.ntmps55
  go_wp2_with fail
  refine (newRegister_any w).mono ?_
  rintro e w0 ⟨g, rfl, hR0, hB0⟩
  go_wp2_with fail
  go_loopw [11] (fun i wr => ∃ k : Nat, k ≤ l.length ∧ k ≤ 400 ∧ i = .int .i64 k ∧ Below w.heap.size w wr ∧ RegAt wr w.heap.size g (l.take k) ∧ Hid (chk [] l = chk (l.take k) (l.drop k))) (fun i _ => l.length - (intOf i).toNat)
  case atStart => exact ⟨0, Nat.zero_le _, by omega, rfl, hB0, hR0, Lib.hid rfl⟩
  case round =>
    clear hR0 hB0
    obtain ⟨k, hk, hk4, rfl, hB, hR, H⟩ := hrel
    by_cases hlt : k < l.length
    · obtain ⟨x, hx⟩ : ∃ x, l[k]? = some x := ⟨_, List.getElem?_eq_getElem hlt⟩
      have hT : Hid (l.take (k + 1) = l.take k ++ [x]) := Lib.hid (by rw [List.take_add_one, hx]; rfl)
      have hD : Hid (l.drop k = x :: l.drop (k + 1)) := Lib.hid (by rw [List.drop_eq_getElem_cons hlt]; congr 1; rw [List.getElem?_eq_getElem hlt] at hx; exact Option.some.inj hx)
      have hTL : Hid ((l.take k).length = k) := Lib.hid (by rw [List.length_take]; omega)
      have hxs := hs x (List.mem_of_getElem? hx)
      obtain ⟨b, off, rfl, hb, c0, c1, c2, c3, c4, c5, c6, c7, c8, c9⟩ := (hL.below hB).at hx
      clear hx
      have hE0 := EntAt.new wr x
      simp only [entCells] at hE0
      have hB1 := hB.alloc hB.size (.cells #[.int .i64 x.day, .int .u8 x.kind, .int .i64 x.since, .int .i64 x.untl, .int .i64 x.person, .int .i64 x.place, .int .i64 x.other, .int .i64 x.at', .int .i64 x.order, .string x.name] 41)
      have hR1 := hR.below ((Below.refl wr.heap.size wr).alloc (Nat.le_refl _) (.cells #[.int .i64 x.day, .int .u8 x.kind, .int .i64 x.since, .int .i64 x.untl, .int .i64 x.person, .int .i64 x.place, .int .i64 x.other, .int .i64 x.at', .int .i64 x.order, .string x.name] 41)) (Nat.le_refl _)
      go_wp2_with fail
      generalize wr.alloc (.cells _ 41) = W1 at hE0 hB1 hR1 ⊢
      refine (refuses_any w.heap.size g (l.take k) x _ hxs hR1).mono ?_
      rintro e w2 ⟨he, hb2⟩
      have hB2 := hB1.trans (hb2.mono hB1.size)
      have hE2 := EntAt.below hE0 hb2 (Blk.lt hE0)
      have hR2 := hR1.below hb2 (Nat.le_refl _)
      by_cases hn : nextE (l.take k) x = 0
      · obtain ⟨hn1, hn2⟩ := next_len _ _ hn
        rw [hn] at he
        subst he
        have HN : Hid (chk [] l = chk (l.take (k + 1)) (l.drop (k + 1))) := Lib.hid (by rw [H.out, hD.out, hT.out]; conv => lhs; unfold chk; rw [if_pos hn])
        have hk5 : k < 400 := by have := hTL.out; omega
        obtain ⟨⟨p1, p2⟩, -, ⟨r1, r2⟩, -, -⟩ := ok_bounds x (ok_of_ck x hn2)
        clear hn hn2 hn1
        obtain ⟨k0, k1, k2, k3, k4, k5, k6, k7, k8, k9, hz⟩ := hE2.cells
        go_wp2_with fail
        refine (add_any w.heap.size g (l.take k) x _ (by have := hTL.out; omega) ⟨p1, p2⟩ ⟨r1, r2⟩ hR2).mono ?_
        rintro e w3 ⟨rfl, hR3, hK3⟩
        rw [← hT.out] at hR3
        have hB3 := hB2.trans (hK3.below (B := w.heap.size) (fun i h1 h2 => by omega) hB2.size)
        go_wp2_with fail
        go_roundw
        case rel => exact ⟨k + 1, by omega, by omega, by go_num, hB3, hR3, HN⟩
        case measure => simp [intOf]; omega
      · subst he
        have HN : Hid (chk [] l = ((k : Int), nextE (l.take k) x)) := Lib.hid (by rw [H.out, hD.out]; unfold chk; rw [if_neg hn, hTL.out])
        have hn' : (nextE (l.take k) x != 0) = true := by simpa using hn
        clear hn
        go_wp2_with fail
        go_ret2
        exact ⟨by rw [HN.out]; rfl, hB2⟩
    · have HN : Hid (chk [] l = (0, 0)) := Lib.hid (by rw [H.out, List.drop_of_length_le (by omega)]; rfl)
      go_wp2_with fail
      go_ret2
      exact ⟨by rw [HN.out]; rfl, hB⟩
end Go.Proofs.YtlbehpbhmmppiaaGreatDoor
