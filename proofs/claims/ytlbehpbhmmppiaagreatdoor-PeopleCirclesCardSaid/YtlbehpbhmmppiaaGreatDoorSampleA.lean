/- The list of the chapter's examples, and what the words of the walk are at it. No conditions. The nine lines of the chapter's examples, each with the entry that it is written for. No conditions. The contract of sample: the list of the chapter's examples. Condition: internal/bytealg.MaxLen is an int. -/
import Derived.Test.YtlbehpbhmmppiaaGreatDoorHopA
import Derived.Test.YtlbehpbhmmppiaaGreatDoorOnA
import Derived.Test.YtlbehpbhmmppiaaGreatDoorAppendA
import Derived.Test.YtlbehpbhmmppiaaGreatDoorReadA
namespace Go.Proofs.YtlbehpbhmmppiaaGreatDoor
open Go.RowKit Go.Shelf

/-- Bytes of "ann lee", "bob lee". -/
def annB : ByteArray := ⟨#[97, 110, 110, 32, 108, 101, 101]⟩
def bobB : ByteArray := ⟨#[98, 111, 98, 32, 108, 101, 101]⟩
def sEnts : List Ent :=
  [⟨0, 1, 0, 0, 1, 0, 0, 0, 0, annB⟩, ⟨0, 1, 0, 0, 2, 0, 0, 0, 0, bobB⟩, ⟨0, 2, 0, 50, 1, 7, 0, 0, 0, ⟨#[]⟩⟩, ⟨0, 2, 0, 0, 2, 8, 0, 0, 0, ⟨#[]⟩⟩, ⟨40, 2, 50, 0, 1, 9, 0, 0, 0, ⟨#[]⟩⟩,
    ⟨40, 5, 50, 80, 1, 7, 1, 0, 5, ⟨#[]⟩⟩, ⟨60, 3, 60, 0, 2, 0, 0, 0, 0, ⟨#[]⟩⟩, ⟨60, 4, 60, 0, 2, 0, 1, 0, 0, ⟨#[]⟩⟩, ⟨70, 7, 70, 75, 1, 9, 2, 0, 0, ⟨#[]⟩⟩]
def smallB (x : Ent) : Bool := decide ((-9223372036854775808 ≤ x.person ∧ x.person ≤ 9223372036854775807) ∧ (-9223372036854775808 ≤ x.order ∧ x.order ≤ 9223372036854775807) ∧ (-9223372036854775808 ≤ x.other ∧ x.other ≤ 9223372036854775807) ∧ (-9223372036854775808 ≤ x.place ∧ x.place ≤ 9223372036854775807))
def toO (x : Ent) : Option OEnt := if h : (-9223372036854775808 ≤ x.person ∧ x.person ≤ 9223372036854775807) ∧ (-9223372036854775808 ≤ x.order ∧ x.order ≤ 9223372036854775807) ∧ (-9223372036854775808 ≤ x.other ∧ x.other ≤ 9223372036854775807) ∧ (-9223372036854775808 ≤ x.place ∧ x.place ≤ 9223372036854775807) then some ⟨x, h⟩ else none
def sOs : List OEnt := sEnts.filterMap toO
theorem sOs_ents : sOs.map (·.1) = sEnts := by decide
theorem sOs_len : sOs.length = 9 := by decide
/-- What is asked of the sample. -/
abbrev dd (d : Int) : Int → Bool := deadOf sOs d
abbrev cc (d : Int) : Int → Bool := cancOf sOs d
theorem s_hop1 : hopOf (dd 65) (cc 65) sOs 65 (2, 8) = ((2, (1, 9), 0), true) := by decide
theorem s_ref1 : refusesOf (dd 65) sOs 65 (2, 8) 0 = false := by decide
theorem s_dead1 : dd 65 2 = true := by decide
theorem s_hop2 : hopOf (dd 65) (cc 65) sOs 65 (1, 9) = ((0, (0, 0), 0), false) := by decide
theorem s_ref2 : refusesOf (dd 65) sOs 65 (1, 9) 0 = false := by decide
theorem s_dead2 : dd 65 1 = false := by decide
theorem s_live2 : livesOf (dd 65) sOs 65 (1, 9) = true := by decide
theorem s_hop3 : hopOf (dd 72) (cc 72) sOs 72 (1, 9) = ((0, (0, 0), 0), false) := by decide
theorem s_ref3 : refusesOf (dd 72) sOs 72 (1, 9) 2 = true := by decide
theorem s_dead3 : dd 72 1 = false := by decide
theorem s_hop4 : hopOf (dd 80) (cc 80) sOs 80 (1, 7) = ((0, (0, 0), 0), false) := by decide
theorem s_ref4 : refusesOf (dd 80) sOs 80 (1, 7) 0 = false := by decide
theorem s_dead4 : dd 80 1 = false := by decide
theorem s_live4 : livesOf (dd 80) sOs 80 (1, 7) = false := by decide
/-- Each beginning of the sample can be appended to. -/
theorem s_app : ∀ k < 9, ∀ x, sEnts[k]? = some x → appE (sEnts.take k) x = 0 := by decide
end Go.Proofs.YtlbehpbhmmppiaaGreatDoor
namespace Go.Proofs.YtlbehpbhmmppiaaGreatDoor
open Go.RowKit Go.Shelf

theorem textAt_cut (t : ByteArray) (k : Nat) : textAt (cutZ t) k = textAt t (k + 1) := by
  induction k with
  | zero => rfl
  | succ k ih => show cutZ (textAt (cutZ t) k) = cutZ (textAt t (k + 1)); rw [ih]
def WordsRec : ByteArray → List (Nat × Int) → Prop
  | t, [] => t.size < 4294967281
  | t, p :: ps => t.size < 4294967281 ∧ (cutA t).size ≤ 9223372036854775806 ∧ Lib.atoiAll (cutA t).data.toList = .ok p.2 ∧ WordsRec (cutZ t) ps
theorem WordsRec.are {t : ByteArray} {ps : List (Nat × Int)} (h : WordsRec t ps) : WordsAre t ps := by
  induction ps generalizing t with
  | nil =>
    refine ⟨fun k o v hk => by simp at hk, fun k hk => ?_⟩
    obtain rfl : k = 0 := by simpa using hk
    exact h
  | cons p ps ih =>
    obtain ⟨h1, h2, h3, h4⟩ := h
    obtain ⟨i1, i2⟩ := ih h4
    refine ⟨fun k o v hk => ?_, fun k hk => ?_⟩
    · cases k with
      | zero => simp at hk; subst hk; exact ⟨h2, h3⟩
      | succ k => rw [← textAt_cut]; exact i1 k o v (by simpa using hk)
    · cases k with
      | zero => exact h1
      | succ k => rw [← textAt_cut]; exact i2 k (by simpa using hk)

def line0 : ByteArray := ⟨#[48, 32, 110, 97, 109, 101, 32, 49, 32, 48, 32, 48, 32, 97, 110, 110, 32, 108, 101, 101]⟩
theorem line0_is : LineOf line0 1 [(4, 1), (2, 0), (3, 0)] ⟨0, 1, 0, 0, 1, 0, 0, 0, 0, annB⟩ := {
  kind := by decide
  size := by decide
  size1 := by decide
  daySize := by decide
  dayOk := by kernel_rfl
  word := by kernel_rfl
  offs := by decide
  words := WordsRec.are ⟨by decide, by decide, by kernel_rfl, by decide, by decide, by kernel_rfl, by decide, by decide, by kernel_rfl, (by decide : ByteArray.size _ < 4294967281)⟩
  cells := by kernel_rfl
  kd := rfl
  check := by decide
  day := by decide
  fields := by decide
  name := by decide
  long := by
    rw [show lineB ⟨0, 1, 0, 0, 1, 0, 0, 0, 0, annB⟩ = line0 by kernel_rfl]
    decide
  line := by kernel_rfl }
def line1 : ByteArray := ⟨#[48, 32, 110, 97, 109, 101, 32, 50, 32, 48, 32, 48, 32, 98, 111, 98, 32, 108, 101, 101]⟩
theorem line1_is : LineOf line1 1 [(4, 2), (2, 0), (3, 0)] ⟨0, 1, 0, 0, 2, 0, 0, 0, 0, bobB⟩ := {
  kind := by decide
  size := by decide
  size1 := by decide
  daySize := by decide
  dayOk := by kernel_rfl
  word := by kernel_rfl
  offs := by decide
  words := WordsRec.are ⟨by decide, by decide, by kernel_rfl, by decide, by decide, by kernel_rfl, by decide, by decide, by kernel_rfl, (by decide : ByteArray.size _ < 4294967281)⟩
  cells := by kernel_rfl
  kd := rfl
  check := by decide
  day := by decide
  fields := by decide
  name := by decide
  long := by
    rw [show lineB ⟨0, 1, 0, 0, 2, 0, 0, 0, 0, bobB⟩ = line1 by kernel_rfl]
    decide
  line := by kernel_rfl }
def line2 : ByteArray := ⟨#[48, 32, 108, 105, 118, 101, 32, 49, 32, 55, 32, 48, 32, 53, 48]⟩
theorem line2_is : LineOf line2 2 [(4, 1), (5, 7), (2, 0), (3, 50)] ⟨0, 2, 0, 50, 1, 7, 0, 0, 0, ⟨#[]⟩⟩ := {
  kind := by decide
  size := by decide
  size1 := by decide
  daySize := by decide
  dayOk := by kernel_rfl
  word := by kernel_rfl
  offs := by decide
  words := WordsRec.are ⟨by decide, by decide, by kernel_rfl, by decide, by decide, by kernel_rfl, by decide, by decide, by kernel_rfl, by decide, by decide, by kernel_rfl, (by decide : ByteArray.size _ < 4294967281)⟩
  cells := by kernel_rfl
  kd := rfl
  check := by decide
  day := by decide
  fields := by decide
  name := by decide
  long := by
    rw [show lineB ⟨0, 2, 0, 50, 1, 7, 0, 0, 0, ⟨#[]⟩⟩ = line2 by kernel_rfl]
    decide
  line := by kernel_rfl }
def line3 : ByteArray := ⟨#[48, 32, 108, 105, 118, 101, 32, 50, 32, 56, 32, 48, 32, 48]⟩
theorem line3_is : LineOf line3 2 [(4, 2), (5, 8), (2, 0), (3, 0)] ⟨0, 2, 0, 0, 2, 8, 0, 0, 0, ⟨#[]⟩⟩ := {
  kind := by decide
  size := by decide
  size1 := by decide
  daySize := by decide
  dayOk := by kernel_rfl
  word := by kernel_rfl
  offs := by decide
  words := WordsRec.are ⟨by decide, by decide, by kernel_rfl, by decide, by decide, by kernel_rfl, by decide, by decide, by kernel_rfl, by decide, by decide, by kernel_rfl, (by decide : ByteArray.size _ < 4294967281)⟩
  cells := by kernel_rfl
  kd := rfl
  check := by decide
  day := by decide
  fields := by decide
  name := by decide
  long := by
    rw [show lineB ⟨0, 2, 0, 0, 2, 8, 0, 0, 0, ⟨#[]⟩⟩ = line3 by kernel_rfl]
    decide
  line := by kernel_rfl }
def line4 : ByteArray := ⟨#[52, 48, 32, 108, 105, 118, 101, 32, 49, 32, 57, 32, 53, 48, 32, 48]⟩
theorem line4_is : LineOf line4 2 [(4, 1), (5, 9), (2, 50), (3, 0)] ⟨40, 2, 50, 0, 1, 9, 0, 0, 0, ⟨#[]⟩⟩ := {
  kind := by decide
  size := by decide
  size1 := by decide
  daySize := by decide
  dayOk := by kernel_rfl
  word := by kernel_rfl
  offs := by decide
  words := WordsRec.are ⟨by decide, by decide, by kernel_rfl, by decide, by decide, by kernel_rfl, by decide, by decide, by kernel_rfl, by decide, by decide, by kernel_rfl, (by decide : ByteArray.size _ < 4294967281)⟩
  cells := by kernel_rfl
  kd := rfl
  check := by decide
  day := by decide
  fields := by decide
  name := by decide
  long := by
    rw [show lineB ⟨40, 2, 50, 0, 1, 9, 0, 0, 0, ⟨#[]⟩⟩ = line4 by kernel_rfl]
    decide
  line := by kernel_rfl }
def line5 : ByteArray := ⟨#[52, 48, 32, 114, 101, 100, 105, 114, 101, 99, 116, 32, 53, 32, 49, 32, 55, 32, 49, 32, 48, 32, 53, 48, 32, 56, 48]⟩
theorem line5_is : LineOf line5 5 [(8, 5), (4, 1), (5, 7), (6, 1), (7, 0), (2, 50), (3, 80)] ⟨40, 5, 50, 80, 1, 7, 1, 0, 5, ⟨#[]⟩⟩ := {
  kind := by decide
  size := by decide
  size1 := by decide
  daySize := by decide
  dayOk := by kernel_rfl
  word := by kernel_rfl
  offs := by decide
  words := WordsRec.are ⟨by decide, by decide, by kernel_rfl, by decide, by decide, by kernel_rfl, by decide, by decide, by kernel_rfl, by decide, by decide, by kernel_rfl, by decide, by decide, by kernel_rfl, by decide, by decide, by kernel_rfl, by decide, by decide, by kernel_rfl, (by decide : ByteArray.size _ < 4294967281)⟩
  cells := by kernel_rfl
  kd := rfl
  check := by decide
  day := by decide
  fields := by decide
  name := by decide
  long := by
    rw [show lineB ⟨40, 5, 50, 80, 1, 7, 1, 0, 5, ⟨#[]⟩⟩ = line5 by kernel_rfl]
    decide
  line := by kernel_rfl }
def line6 : ByteArray := ⟨#[54, 48, 32, 100, 101, 97, 116, 104, 32, 50, 32, 54, 48]⟩
theorem line6_is : LineOf line6 3 [(4, 2), (2, 60)] ⟨60, 3, 60, 0, 2, 0, 0, 0, 0, ⟨#[]⟩⟩ := {
  kind := by decide
  size := by decide
  size1 := by decide
  daySize := by decide
  dayOk := by kernel_rfl
  word := by kernel_rfl
  offs := by decide
  words := WordsRec.are ⟨by decide, by decide, by kernel_rfl, by decide, by decide, by kernel_rfl, (by decide : ByteArray.size _ < 4294967281)⟩
  cells := by kernel_rfl
  kd := rfl
  check := by decide
  day := by decide
  fields := by decide
  name := by decide
  long := by
    rw [show lineB ⟨60, 3, 60, 0, 2, 0, 0, 0, 0, ⟨#[]⟩⟩ = line6 by kernel_rfl]
    decide
  line := by kernel_rfl }
def line7 : ByteArray := ⟨#[54, 48, 32, 104, 101, 105, 114, 32, 50, 32, 49, 32, 54, 48, 32, 48]⟩
theorem line7_is : LineOf line7 4 [(4, 2), (6, 1), (2, 60), (3, 0)] ⟨60, 4, 60, 0, 2, 0, 1, 0, 0, ⟨#[]⟩⟩ := {
  kind := by decide
  size := by decide
  size1 := by decide
  daySize := by decide
  dayOk := by kernel_rfl
  word := by kernel_rfl
  offs := by decide
  words := WordsRec.are ⟨by decide, by decide, by kernel_rfl, by decide, by decide, by kernel_rfl, by decide, by decide, by kernel_rfl, by decide, by decide, by kernel_rfl, (by decide : ByteArray.size _ < 4294967281)⟩
  cells := by kernel_rfl
  kd := rfl
  check := by decide
  day := by decide
  fields := by decide
  name := by decide
  long := by
    rw [show lineB ⟨60, 4, 60, 0, 2, 0, 1, 0, 0, ⟨#[]⟩⟩ = line7 by kernel_rfl]
    decide
  line := by kernel_rfl }
def line8 : ByteArray := ⟨#[55, 48, 32, 114, 101, 102, 117, 115, 101, 32, 49, 32, 57, 32, 50, 32, 55, 48, 32, 55, 53]⟩
theorem line8_is : LineOf line8 7 [(4, 1), (5, 9), (6, 2), (2, 70), (3, 75)] ⟨70, 7, 70, 75, 1, 9, 2, 0, 0, ⟨#[]⟩⟩ := {
  kind := by decide
  size := by decide
  size1 := by decide
  daySize := by decide
  dayOk := by kernel_rfl
  word := by kernel_rfl
  offs := by decide
  words := WordsRec.are ⟨by decide, by decide, by kernel_rfl, by decide, by decide, by kernel_rfl, by decide, by decide, by kernel_rfl, by decide, by decide, by kernel_rfl, by decide, by decide, by kernel_rfl, (by decide : ByteArray.size _ < 4294967281)⟩
  cells := by kernel_rfl
  kd := rfl
  check := by decide
  day := by decide
  fields := by decide
  name := by decide
  long := by
    rw [show lineB ⟨70, 7, 70, 75, 1, 9, 2, 0, 0, ⟨#[]⟩⟩ = line8 by kernel_rfl]
    decide
  line := by kernel_rfl }
end Go.Proofs.YtlbehpbhmmppiaaGreatDoor
namespace Go.Proofs.YtlbehpbhmmppiaaGreatDoor
open Go.RowKit Go.Shelf

def linesL : List ByteArray := [line0, line1, line2, line3, line4, line5, line6, line7, line8]
theorem lines_at (k : Nat) (h : k < 9) : ∃ s kd ps x, linesL[k]? = some s ∧ sEnts[k]? = some x ∧ LineOf s kd ps x := by
  have : k = 0 ∨ k = 1 ∨ k = 2 ∨ k = 3 ∨ k = 4 ∨ k = 5 ∨ k = 6 ∨ k = 7 ∨ k = 8 := by omega
  rcases this with rfl | rfl | rfl | rfl | rfl | rfl | rfl | rfl | rfl
  · exact ⟨_, _, _, _, rfl, rfl, line0_is⟩
  · exact ⟨_, _, _, _, rfl, rfl, line1_is⟩
  · exact ⟨_, _, _, _, rfl, rfl, line2_is⟩
  · exact ⟨_, _, _, _, rfl, rfl, line3_is⟩
  · exact ⟨_, _, _, _, rfl, rfl, line4_is⟩
  · exact ⟨_, _, _, _, rfl, rfl, line5_is⟩
  · exact ⟨_, _, _, _, rfl, rfl, line6_is⟩
  · exact ⟨_, _, _, _, rfl, rfl, line7_is⟩
  · exact ⟨_, _, _, _, rfl, rfl, line8_is⟩
theorem names_small : ∀ y ∈ sEnts, y.name.size ≤ maxLen := by decide

set_option maxRecDepth 100000 in
set_option maxHeartbeats 4000000 in
theorem sample_any (w : World) (hm : MaxAt w) :
    Calls Tryz.prog 12 #[] w fun e w' => ∃ A c, e = .returned (.slice A 9 c) ∧ 9 ≤ c ∧ EntsLie w' w'.heap.size A sEnts ∧ Below w.heap.size w w' := by
  have HM := Lib.hid hm
  have hmz := hm.lt
  clear hm
  go_enter Tryz.func12, Tryz.ntmps12
  go_wp2_with fail
  have hS0 : Blk (w.alloc (.cells (linesL.map Value.string).toArray 9)) w.heap.size 9 (linesL.map Value.string).toArray := Blk.new w _ _
  have hB0 : Below w.heap.size w (w.alloc (.cells (linesL.map Value.string).toArray 9)) := (Below.refl _ _).alloc (Nat.le_refl _) _
  simp only [linesL, List.map_cons, List.map_nil, line0, line1, line2, line3, line4, line5, line6, line7, line8] at hS0 hB0
  generalize w.alloc (.cells _ 9) = W0 at hS0 hB0 ⊢
  have hS1 : Blk W0 w.heap.size 9 (linesL.map Value.string).toArray := hS0
  clear hS0
  go_loopw [1, 10] (fun s i wr => ∃ (k : Nat) (A : Option Addr) (c : Nat), k ≤ 9 ∧ i = .int .i64 k ∧ s = .slice A k c ∧ k ≤ c ∧ EntsLie wr wr.heap.size A (sEnts.take k) ∧ Blk wr w.heap.size 9 (linesL.map Value.string).toArray ∧ Below w.heap.size w wr) (fun _ i _ => 9 - (intOf i).toNat)
  case atStart => exact ⟨0, none, 0, by omega, rfl, rfl, Nat.le_refl _, .inl rfl, hS1, hB0⟩
  case round =>
    clear hS1 hB0
    obtain ⟨k, A, c, hk, rfl, rfl, hkc, hL, hS, hB⟩ := hrel
    have hsz := hS.lt
    by_cases hlt : k < 9
    · obtain ⟨s, kd, ps, x, h1, h2, h3⟩ := lines_at k hlt
      have hc := hS.cell k
      have hcs : (linesL.map Value.string).toArray[k]? = some (.string s) := by simp [h1]
      rw [hcs] at hc
      have HRD := Lib.hid (read_any s kd ps x h3 wr (HM.out.below hmz hB))
      have hx : x ∈ sEnts := List.mem_of_getElem? h2
      have hxn := names_small x hx
      have happ := s_app k hlt x h2
      have HT : Hid (sEnts.take (k + 1) = sEnts.take k ++ [x]) := Lib.hid (by rw [List.take_add_one, h2]; rfl)
      have hlen : (sEnts.take k).length = k := by rw [List.length_take]; have : sEnts.length = 9 := rfl; omega
      have HN := Lib.hid hlen
      have HA := Lib.hid happ
      have HX := Lib.hid hxn
      clear h1 h2 h3 hx hxn happ hcs hlen
      unfold entVal at HRD
      go_wp2_with fail
      refine HRD.out.mono ?_
      rintro e w1 ⟨rfl, hb1⟩
      have hL1 := hL.up hb1 hb1.size
      have hS1 := hS.below hb1 hsz
      have hB1 := hB.trans (hb1.mono hB.size)
      clear hL hS hB hb1 hc hsz
      go_wp2_with fail
      have hX2 := Blk.new w1 41 (entCells x).toArray
      have hb2 : Below w1.heap.size w1 (w1.alloc (.cells (entCells x).toArray 41)) := (Below.refl _ _).alloc (Nat.le_refl _) _
      simp only [entCells] at hX2 hb2
      generalize w1.alloc (.cells _ 41) = W2 at hX2 hb2 ⊢
      have hL2 := hL1.up hb2 hb2.size
      have hS2 := hS1.below hb2 hS1.lt
      have hB2 := hB1.trans (hb2.mono hB1.size)
      clear hL1 hS1 hB1
      have hAp := Append_any A c (sEnts.take k) x W2 hL2 (fun y hy => names_small y (List.mem_of_mem_take hy)) HX.out (by rw [HN.out]; omega)
      rw [HN.out] at hAp
      unfold entVal at hAp
      refine hAp.mono ?_
      rintro e w3 ⟨hb3, h1, _⟩
      obtain ⟨v, rfl, hO⟩ := h1 HA.out
      obtain ⟨A3, c3, rfl, hc3, hL3, _⟩ := hO.shape
      have hS3 := hS2.below hb3 hS2.lt
      have hB3 := hB2.trans (hb3.mono hB2.size)
      have hl1 : (sEnts.take k ++ [x]).length = k + 1 := by rw [List.length_append, HN.out]; rfl
      rw [hl1] at hc3 ⊢
      rw [← HT.out] at hL3
      clear hAp hb2 hb3 h1 hO hL2 hS2 hB2 hX2 hl1
      go_wp2_with fail
      go_roundw
      case rel => exact ⟨k + 1, A3, c3, by omega, by go_num, rfl, hc3, hL3, hS3, hB3⟩
      case measure => simp [intOf]; omega
    · obtain rfl : k = 9 := by omega
      go_wp2_with fail
      go_ret
      exact ⟨A, c, rfl, hkc, hL, hB⟩
end Go.Proofs.YtlbehpbhmmppiaaGreatDoor
