/- The contracts of the library's functions that custody's texts use: Itoa, Join, Index, Contains, Builder's WriteString and String, laid. Conditions: lengths; the library's table of powers of ten lies as the program's text lays it. The contract of lineOf: a line of numbers. Conditions: the numbers are not less than 0, and lie in memory; lengths; the library's table of powers of ten lies as the program's text lays it. Numerals, lines and texts as lists of bytes: their lengths, what is found in them, what number a numeral says. The contract of tokenText: the text of a token. Conditions: its Id is a number that is not less than 0; lengths; the library's table of powers of ten lies as the program's text lays it. The contract of message's text. Conditions: its numbers are not less than 0; its tokens lie in memory; lengths; the library's table of powers of ten lies as the program's text lays it. -/
import Derived.Test.YthgfbaekmhpiaaaGreatDoorDiskA
import Derived.Test.YthgfbaekmhpiaaaGreatDoorLays
import Derived.Shelf.Strings.OnBuilder
import Derived.Shelf.Strings.BuilderK
import Derived.Shelf.Strings.Search3
import Derived.Shelf.Strconv.Itoa3
import Derived.Shelf.Strconv.AtoiAll
import Derived.Lib.AtoiErrMem
import Derived.Test.YthgfbaekmhpiaaaGreatDoorTokA
import Derived.Test.YthgfbaekmhpiaaaGreatDoorJouA
import Derived.Lib.AtoiAllCases
import Derived.Lib.IndexBytes
import Derived.Test.YthgfbaekmhpiaaaGreatDoorDiskB
namespace Go.Proofs.YthgfbaekmhpiaaaGreatDoor
open Go.RowKit Go.Shelf Go.Sort
theorem extraJoin : Builder.Extra Tryz.prog laysJoin_ren := {
  sizeBuilder := by kernel_rfl
  liesBuilder := by kernel_rfl
  t5 := by kernel_rfl
  a5 := fun _ => by kernel_rfl
  z5 := fun _ => by kernel_rfl
  v5 := fun _ => by kernel_rfl
  infoByte := by kernel_rfl
  cellsByte := by kernel_rfl
  sizeByte := by kernel_rfl
  neB5 := by decide }
def decB (n : Int) : ByteArray := ⟨(Lib.decDigits n.toNat).toArray⟩
/-- The library's table of powers of ten. -/
def PowAt (w : World) : Prop := Lib.TabIs Tryz.prog w "internal/strconv.uint64pow10" .u64 Lib.pow10Tab
theorem powNamed : (Tryz.prog.globalNamed "internal/strconv.uint64pow10").isSome = true := by kernel_rfl
theorem PowAt.below {w w' : World} (h : PowAt w) (hb : Below w.heap.size w w') : PowAt w' := by
  obtain ⟨g, hg⟩ := Option.isSome_iff_exists.1 powNamed
  unfold PowAt Lib.TabIs World.var? at h ⊢
  rw [hg] at h ⊢
  simp only [Option.bind_some] at h ⊢
  have hlt : g < w.heap.size := by
    rcases Nat.lt_or_ge g w.heap.size with h' | h'
    · exact h'
    · rw [Array.getElem?_eq_none h'] at h; cases h
  rw [hb.block g hlt]
  exact h
theorem itoaP_any (n : Int) (h0 : 0 ≤ n) (h1 : n ≤ 9223372036854775807) (w : World) (hT : PowAt w) :
    Calls Tryz.prog 114 #[.int .i64 n] w fun e w' => e = .returned (.string (decB n)) ∧ Below w.heap.size w w' := by
  have h := Any.strconv_Itoa laysItoaM n (by omega) h1 w hT
  have he : Lib.itoa n = Lib.decDigits n.toNat := by unfold Lib.itoa; rw [if_neg (by omega)]
  rw [he] at h
  exact h.mono fun _ _ ⟨h2, k, os, h3⟩ => ⟨h2, by
    subst h3
    exact ⟨rfl, rfl, rfl, by simp [grow, World.drewN], fun j hj => by simp [grow, World.drewN, Array.getElem?_append, hj]⟩⟩
theorem join_any (bk c : Nat) (xs : List ByteArray) (w : World) (hcells : ∀ (j : Nat) x, xs[j]? = some x → w.cell? ⟨bk, j, none⟩ = some (.string x)) (hbk : bk < w.heap.size) (hN : xs.length ≤ 140737488355328) (hcap : xs.length ≤ c) (hlen : (Lib.join (xs.map (·.data.toList)) [32]).length ≤ 140737488355328) :
    Calls Tryz.prog 115 #[.slice (some ⟨bk, 0, none⟩) xs.length c, .string ⟨#[32]⟩] w fun e w' => e = .returned (.string ⟨(Lib.join (xs.map (·.data.toList)) [32]).toArray⟩) ∧ Below w.heap.size w w' :=
  Any.strings_Join laysJoin extraJoin bk 0 c xs ⟨#[32]⟩ w (fun j x h => by rw [Nat.zero_add]; exact hcells j x h) hbk hN hcap hlen
theorem index_any (s : ByteArray) (c : UInt8) (w : World) :
    Calls Tryz.prog 118 #[.string s, .string ⟨#[c]⟩] w fun e w' => e = .returned (.int .i64 (Lib.indexByte s.data.toList c)) ∧ w = w' :=
  (Any.strings_Index_one laysIndex s c w).mono fun _ _ ⟨h1, h2⟩ => ⟨h1, h2.symm⟩
theorem contains_any (s : ByteArray) (c : UInt8) (w : World) :
    Calls Tryz.prog 117 #[.string s, .string ⟨#[c]⟩] w fun e w' => e = .returned (.bool (decide (0 ≤ Lib.indexByte s.data.toList c))) ∧ w = w' :=
  (Any.strings_Contains_one laysContains s c w).mono fun _ _ ⟨h1, h2⟩ => ⟨h1, h2.symm⟩
/-- Block b is a builder that holds the bytes l; all of it lies from block B on. -/
def BldAt (w : World) (B b : Nat) (l : List UInt8) : Prop := Lib.IsBuilderF (laysJoin_ren.t 72) (laysJoin_ren.t 5) B b (Lib.byteCells l) w
theorem ws_any (B b : Nat) (l : List UInt8) (s : ByteArray) (w : World) (h : BldAt w B b l) (hlen : l.length + s.size ≤ 140737488355328) (hBw : B ≤ w.heap.size) :
    Calls Tryz.prog 92 #[.pointer (some ⟨b, 0, none⟩), .string s] w fun e w' => e = .returned (.tuple #[.int .i64 s.size, .nilIface]) ∧ BldAt w' B b (l ++ s.data.toList) ∧ Below B w w' := by
  refine (Any.Builder_WriteString_k { laysJoin with } extraJoin B b _ s w h (by rw [Lib.byteCells_length]; exact hlen) hBw).mono ?_
  rintro e w' ⟨h1, h2, h3, _⟩
  refine ⟨h1, ?_, h3⟩
  have : Lib.byteCells (l ++ s.data.toList) = Lib.byteCells l ++ Lib.strCells s := by
    unfold Lib.byteCells Lib.strCells
    simp
  unfold BldAt
  rw [this]
  exact .inr h2
theorem bs_any (B b : Nat) (l : List UInt8) (w : World) (h : BldAt w B b l) (hBw : B ≤ w.heap.size) :
    Calls Tryz.prog 95 #[.pointer (some ⟨b, 0, none⟩)] w fun e w' => e = .returned (.string ⟨l.toArray⟩) ∧ Below B w w' := by
  refine (Any.Builder_String_any_k { laysJoin with } extraJoin B b l w h hBw).mono ?_
  rintro e w' ⟨h1, _, h3, _⟩
  exact ⟨h1, h3⟩
end Go.Proofs.YthgfbaekmhpiaaaGreatDoor
namespace Go.Proofs.YthgfbaekmhpiaaaGreatDoor
open Go.RowKit Go.Sort

def decs (ns : List Int) : List ByteArray := ns.map decB
/-- Numbers with blanks between them, and a line feed. -/
def lineB (ns : List Int) : ByteArray := ⟨(Lib.join ((decs ns).map (·.data.toList)) [32]).toArray⟩ ++ ⟨#[10]⟩
/-- v is a slice of the numbers ns in memory. -/
def IntsAt (w : World) (v : Value) (ns : List Int) : Prop := ∃ A c, v = .slice A ns.length c ∧ ns.length ≤ c ∧ Lies w w.heap.size A (ns.map (Value.int .i64))
theorem IntsAt.below {w w' : World} {v : Value} {ns : List Int} (h : IntsAt w v ns) (hb : Below w.heap.size w w') : IntsAt w' v ns := by
  obtain ⟨A, c, h1, h2, h3⟩ := h
  exact ⟨A, c, h1, h2, (h3.below hb).up (Below.refl _ _) hb.size⟩
theorem IntsAt.cell {w : World} {A : Option Addr} {n c : Nat} {ns : List Int} (h : IntsAt w (.slice A n c) ns) {k : Nat} {x : Int} (hk : ns[k]? = some x) : ∃ b o, A = some ⟨b, o, none⟩ ∧ b < w.heap.size ∧ w.cell? ⟨b, o + k, none⟩ = some (.int .i64 x) := by
  obtain ⟨A', c', h1, h2, h3⟩ := h
  cases h1
  obtain ⟨b, o, rfl, hb, hc⟩ := h3.at k (by
    rw [List.length_map]
    exact (List.getElem?_eq_some_iff.1 hk).1)
  exact ⟨b, o, rfl, hb, hc _ _ (by rw [List.getElem?_map, hk]; rfl)⟩
def OkN (ns : List Int) : Prop := ∀ n ∈ ns, 0 ≤ n ∧ n ≤ 9223372036854775807
theorem ownT_lies {w : World} {base g c : Nat} {xs : List ByteArray} (h : OwnT w base (.slice (some ⟨g, 0, none⟩) xs.length c) (xs.map Value.string)) (h0 : xs ≠ []) :
    g < w.heap.size ∧ xs.length ≤ c ∧ ∀ (j : Nat) x, xs[j]? = some x → w.cell? ⟨g, j, none⟩ = some (.string x) := by
  have hj : ∀ (j : Nat) x, xs[j]? = some x → w.cell? ⟨g, j, none⟩ = some (.string x) := fun j x hx => by
    obtain ⟨g', hg', _, hc⟩ := OwnT.cell h (k := j) (x := .string x) (by rw [List.getElem?_map, hx]; rfl)
    cases hg'
    exact hc
  obtain ⟨y, ys, rfl⟩ := List.exists_cons_of_ne_nil h0
  obtain ⟨g', hg', hlt, _⟩ := OwnT.cell h (k := 0) (x := .string y) rfl
  cases hg'
  refine ⟨hlt, ?_, hj⟩
  rcases h.2 with h0 | ⟨g', cap, cur, h1, _, _, hc, _⟩
  · exact absurd h0.1 (by simp)
  · simp only [Value.slice.injEq] at h1
    obtain ⟨_, _, rfl⟩ := h1
    rwa [List.length_map] at hc
set_option maxRecDepth 100000 in
set_option maxHeartbeats 1000000 in
theorem lineOf_any (ns : List Int) (v : Value) (w : World) (hv : IntsAt w v ns) (hP : PowAt w) (h0 : ns ≠ []) (hN : OkN ns) (hl : ns.length ≤ 1000000) (hlen : (Lib.join ((decs ns).map (·.data.toList)) [32]).length ≤ 140737488355328) :
    Calls Tryz.prog 93 #[v] w fun e w' => e = .returned (.string (lineB ns)) ∧ Below w.heap.size w w' := by
  have HV := Lib.hid hv
  obtain ⟨A, c, rfl, hc, _⟩ := hv
  have HP := Lib.hid hP
  have HN := Lib.hid hN
  have HL := Lib.hid hlen
  clear hP hN hlen
  go_enter Tryz.func93, Tryz.ntmps93
  go_wp2_with fail
  go_loopw [3, 8] (fun v i wr => ∃ k : Nat, k ≤ ns.length ∧ i = .int .i64 k ∧ (∃ A c, v = .slice A k c) ∧ OwnT wr w.heap.size v ((decs (ns.take k)).map Value.string) ∧ Below w.heap.size w wr) (fun _ i _ => ns.length - (intOf i).toNat)
  case atStart => exact ⟨0, Nat.zero_le _, rfl, ⟨none, 0, rfl⟩, by unfold OwnT; exact ⟨rfl, .inl ⟨rfl, rfl⟩⟩, Below.refl _ _⟩
  case round =>
    obtain ⟨k, hk, rfl, ⟨A2, c2, rfl⟩, hO, hB⟩ := hrel
    have HO := Lib.hid hO
    have HB := Lib.hid hB
    clear hO hB
    by_cases hlt : k < ns.length
    · have hki : (k : Int) < (ns.length : Int) := by omega
      obtain ⟨x, hx⟩ : ∃ x, ns[k]? = some x := ⟨_, List.getElem?_eq_getElem hlt⟩
      obtain ⟨b, o, rfl, hb, hcx⟩ := (HV.out.below HB.out).cell hx
      have HI := Lib.hid (itoaP_any x (HN.out x (List.mem_of_getElem? hx)).1 (HN.out x (List.mem_of_getElem? hx)).2 wr (HP.out.below HB.out))
      have HTK : Hid (ns.take (k + 1) = ns.take k ++ [x]) := Lib.hid (by rw [List.take_add_one, hx]; rfl)
      have HLT := Lib.hid hlt
      clear hx
      go_wp2_with fail
      refine HI.out.mono ?_
      rintro e w1 ⟨rfl, hb1⟩
      have hO1 := HO.out.below hb1
      have hB1 := HB.out.trans (hb1.mono HB.out.size)
      have hlk : ((decs (ns.take k)).map Value.string).length = k := by unfold decs; rw [List.length_map, List.length_map, List.length_take]; omega
      obtain ⟨A', c', w3, hrun, hO4, hK4, hv4⟩ := append_text hO1 (by rw [hlk]; omega) hB1.size (decB x)
      rw [hlk] at hrun hO4
      have HO5 : Hid (OwnT w3 w.heap.size (.slice A' (k + 1) c') ((decs (ns.take (k + 1))).map Value.string)) := Lib.hid (by
        rw [HTK.out]
        unfold decs at hO4 ⊢
        rw [List.map_append, List.map_append]
        exact hO4)
      have HB5 := Lib.hid (hB1.trans (hK4.below (B := w.heap.size) (fun i hi e => by have := (World.ownsRow.lt hO1 _ e).1; omega) hB1.size))
      clear hO4 hK4 hv4 hO1 hB1 hb1 hcx hb HI HO HB
      go_wp2_with (first | (at_builtin; refine Lib.wpList_append_run _ rfl _ _ _ _ rfl _ _ rfl rfl _ _ hrun ?_))
      go_roundw
      case rel => exact ⟨k + 1, by have := HLT.out; omega, by go_num, ⟨_, _, rfl⟩, HO5.out, HB5.out⟩
      case measure => exact meas_up _ _ HLT.out
    · have hki : ¬ (k : Int) < (ns.length : Int) := by omega
      obtain rfl : k = ns.length := by omega
      have hO := HO.out
      rw [List.take_length] at hO
      have hdl : (decs ns).length = ns.length := List.length_map _
      obtain ⟨g, rfl⟩ : ∃ g, A2 = some ⟨g, 0, none⟩ := by
        obtain ⟨y, ys, hy⟩ := List.exists_cons_of_ne_nil h0
        obtain ⟨g, hg, _⟩ := OwnT.cell hO (k := 0) (x := .string (decB y)) (by rw [hy]; rfl)
        exact ⟨g, hg⟩
      obtain ⟨hg, hcc, hcs⟩ := ownT_lies (xs := decs ns) (by rw [hdl]; exact hO) (by unfold decs; simpa using h0)
      have HJ := join_any g c2 (decs ns) wr hcs hg (by rw [hdl]; omega) hcc HL.out
      rw [hdl] at HJ
      have HJ := Lib.hid HJ
      have hJl : ¬ 9223372036854775807 < (⟨(Lib.join ((decs ns).map (·.data.toList)) [32]).toArray⟩ : ByteArray).size + 1 := by
        have h1 := HL.out
        have h2 : (⟨(Lib.join ((decs ns).map (·.data.toList)) [32]).toArray⟩ : ByteArray).size = (Lib.join ((decs ns).map (·.data.toList)) [32]).length := rfl
        omega
      have HEND : Hid (lineB ns = ⟨(Lib.join ((decs ns).map (·.data.toList)) [32]).toArray⟩ ++ ⟨#[10]⟩) := Lib.hid rfl
      generalize (⟨(Lib.join ((decs ns).map (·.data.toList)) [32]).toArray⟩ : ByteArray) = J at HJ hJl HEND
      clear hO hcs hg hcc hdl HO HV
      go_wp2_with fail
      refine HJ.out.mono ?_
      rintro e w1 ⟨rfl, hb1⟩
      have HB1 := Lib.hid (HB.out.trans (hb1.mono HB.out.size))
      clear hb1 HJ
      go_wp2_with fail
      go_ret
      exact ⟨by rw [HEND.out]; rfl, HB1.out⟩
end Go.Proofs.YthgfbaekmhpiaaaGreatDoor
namespace Go.Proofs.YthgfbaekmhpiaaaGreatDoor
open Go.RowKit Go.Shelf

def ba (l : List UInt8) : ByteArray := ⟨l.toArray⟩
theorem ba_list (l : List UInt8) : (ba l).data.toList = l := by simp [ba]
theorem ba_size (l : List UInt8) : (ba l).size = l.length := rfl
theorem ba_add (a b : List UInt8) : ba a ++ ba b = ba (a ++ b) := by
  apply ByteArray.ext
  simp [ba]
theorem ba_eta (s : ByteArray) : ba s.data.toList = s := by
  apply ByteArray.ext
  simp [ba]
theorem ib_at (c : UInt8) : ∀ (a b : List UInt8), c ∉ a → Lib.indexByte (a ++ c :: b) c = (a.length : Int)
  | [], b, _ => by simp [Lib.indexByte]
  | x :: a, b, h => by
    have hx : (x == c) = false := by
      rw [beq_eq_false_iff_ne]
      exact fun e => h (by simp [e])
    have ih := ib_at c a b (fun hm => h (List.mem_cons_of_mem _ hm))
    have hne : ((a.length : Int) == -1) = false := by rw [beq_eq_false_iff_ne]; omega
    simp [Lib.indexByte, hx, ih]
theorem parse_snoc : ∀ (l : List UInt8) (acc m : Nat) (c : UInt8), Lib.parseUint10 acc l = .ok m → 48 ≤ c.toNat ∧ c.toNat ≤ 57 → m ≤ 100000000000000000 → Lib.parseUint10 acc (l ++ [c]) = .ok (m * 10 + (c.toNat - 48))
  | [], acc, m, c, h, hc, hm => by
    simp only [Lib.parseUint10] at h
    injection h with h
    subst h
    rw [List.nil_append]
    simp only [Lib.parseUint10]
    rw [if_pos hc, if_neg (by omega), if_neg (by omega)]
  | x :: l, acc, m, c, h, hc, hm => by
    rw [List.cons_append]
    simp only [Lib.parseUint10] at h ⊢
    split at h
    · rename_i h1
      rw [if_pos h1]
      split at h
      · cases h
      · rename_i h2
        rw [if_neg h2]
        split at h
        · cases h
        · rename_i h3
          rw [if_neg h3]
          exact parse_snoc l _ m c h hc hm
    · cases h
theorem ofNat_digit {d : Nat} (h : d < 10) : (UInt8.ofNat (48 + d)).toNat = 48 + d := by
  rw [UInt8.toNat_ofNat']
  omega
theorem dec_digit (u : Nat) : ∀ b ∈ Lib.decDigits u, 48 ≤ b.toNat ∧ b.toNat ≤ 57 := by
  induction u using Nat.strongRecOn with
  | ind u ih =>
    intro b hb
    rw [Lib.decDigits] at hb
    split at hb
    · rename_i hu
      rw [List.mem_singleton.1 hb, ofNat_digit hu]
      omega
    · rcases List.mem_append.1 hb with hb | hb
      · exact ih (u / 10) (by omega) b hb
      · rw [List.mem_singleton.1 hb, ofNat_digit (Nat.mod_lt _ (by omega))]
        omega
theorem dec_ne (u : Nat) : Lib.decDigits u ≠ [] := by
  rw [Lib.decDigits]
  split <;> simp
theorem parse_dec (u : Nat) (hu : u ≤ 100000000000000000) : Lib.parseUint10 0 (Lib.decDigits u) = .ok u := by
  induction u using Nat.strongRecOn with
  | ind u ih =>
    rw [Lib.decDigits]
    split
    · rename_i h
      have := parse_snoc [] 0 0 (UInt8.ofNat (48 + u)) rfl (by rw [ofNat_digit h]; omega) (by omega)
      rw [ofNat_digit h] at this
      simpa using this
    · have hd : u % 10 < 10 := Nat.mod_lt _ (by omega)
      have := parse_snoc _ 0 (u / 10) (UInt8.ofNat (48 + u % 10)) (ih (u / 10) (by omega) (by omega)) (by rw [ofNat_digit hd]; omega) (by omega)
      rw [this, ofNat_digit hd]
      congr 1
      omega
theorem atoi_dec (u : Nat) (hu : u ≤ 100000000000000000) : Lib.atoiAll (Lib.decDigits u) = .ok (u : Int) := by
  have hp := parse_dec u hu
  have hd := dec_digit u
  cases hq : Lib.decDigits u with
  | nil => exact absurd hq (dec_ne u)
  | cons c r =>
    rw [hq] at hp hd
    have hc := hd c (List.mem_cons_self ..)
    unfold Lib.atoiAll Lib.parseMag
    dsimp only
    rw [if_neg (show ¬(c.toNat = 43 ∨ c.toNat = 45) by omega), if_neg (List.cons_ne_nil _ _), hp]
    dsimp only
    rw [if_neg (by omega), if_neg (by omega), if_neg (by omega)]
theorem dec_len7 : ∀ (k u : Nat), u < 10 ^ (k + 1) → (Lib.decDigits u).length ≤ k + 1
  | 0, u, h => by
    rw [Lib.decDigits, dif_pos (by simpa using h)]
    simp
  | k + 1, u, h => by
    rw [Lib.decDigits]
    split
    · simp
    · have h1 : u / 10 < 10 ^ (k + 1) := by
        rw [Nat.pow_succ] at h
        omega
      have := dec_len7 k (u / 10) h1
      simp
      omega
def decL (n : Int) : List UInt8 := Lib.decDigits n.toNat
def lineL (ns : List Int) : List UInt8 := Lib.join (ns.map decL) [32] ++ [10]
theorem decB_ba (n : Int) : decB n = ba (decL n) := rfl
theorem decs_list (ns : List Int) : (decs ns).map (·.data.toList) = ns.map decL := by
  unfold decs
  rw [List.map_map]
  apply List.map_congr_left
  intro n _
  exact ba_list _
theorem lineB_ba (ns : List Int) : lineB ns = ba (lineL ns) := by
  unfold lineB lineL
  rw [decs_list, show (⟨(Lib.join (ns.map decL) [32]).toArray⟩ : ByteArray) = ba (Lib.join (ns.map decL) [32]) from rfl, show (⟨#[10]⟩ : ByteArray) = ba [10] from rfl, ba_add]
theorem decL_len {n : Int} (h : n ≤ 9223372036854775807) : (decL n).length ≤ 19 := dec_len7 18 n.toNat (by
  have : (10 : Nat) ^ 19 = 10000000000000000000 := by decide
  omega)
theorem lens_le (m : Nat) : ∀ l : List (List UInt8), (∀ x ∈ l, x.length ≤ m) → Lib.lens l ≤ m * l.length
  | [], _ => by simp [Lib.lens]
  | x :: l, h => by
    have h1 := h x (List.mem_cons_self ..)
    have h2 := lens_le m l (fun y hy => h y (List.mem_cons_of_mem _ hy))
    have h3 : Lib.lens (x :: l) = x.length + Lib.lens l := by simp [Lib.lens]
    rw [h3, List.length_cons, Nat.mul_succ]
    omega
theorem join_le (m : Nat) (l : List (List UInt8)) (h : ∀ x ∈ l, x.length ≤ m) : (Lib.join l [32]).length ≤ (m + 1) * l.length := by
  cases l with
  | nil => simp [Lib.join_nil]
  | cons x r =>
    rw [Lib.join_length]
    have := lens_le m (x :: r) h
    have h2 : (m + 1) * (x :: r).length = m * (x :: r).length + (x :: r).length := Nat.succ_mul ..
    rw [h2]
    simp only [List.length_cons, List.length_nil] at this ⊢
    omega
theorem line_len {ns : List Int} (h : ∀ n ∈ ns, n ≤ 9223372036854775807) : (Lib.join ((decs ns).map (·.data.toList)) [32]).length ≤ 20 * ns.length := by
  rw [decs_list]
  have := join_le 19 (ns.map decL) (fun x hx => by
    obtain ⟨n, hn, rfl⟩ := List.mem_map.1 hx
    exact decL_len (h n hn))
  rwa [List.length_map] at this
/-- The numbers of a new slice of numbers. -/
theorem lineOf_at {g : Nat} (ns : List Int) (w : World) (hB : Blk w g 3 (ns.map (Value.int .i64)).toArray) (hP : PowAt w) (h0 : ns ≠ []) (hN : OkN ns) (hl : ns.length ≤ 1000000) (k : Nat) (hk : k = ns.length) :
    Calls Tryz.prog 93 #[.slice (some ⟨g, 0, none⟩) k k] w fun e w' => e = .returned (.string (lineB ns)) ∧ Below w.heap.size w w' := by
  subst hk
  exact lineOf_any ns _ w ⟨_, _, rfl, Nat.le_refl _, .inr ⟨g, 0, rfl, hB.lt, fun j u hu => by rw [Nat.zero_add, hB.cell, List.getElem?_toArray, hu]⟩⟩ hP h0 hN hl (by
    have := line_len (fun n hn => (hN n hn).2)
    omega)
theorem lineOf_v (ns : List Int) (v : Value) (w : World) (hv : IntsAt w v ns) (hP : PowAt w) (h0 : ns ≠ []) (hN : OkN ns) (hl : ns.length ≤ 1000000) :
    Calls Tryz.prog 93 #[v] w fun e w' => e = .returned (.string (lineB ns)) ∧ Below w.heap.size w w' :=
  lineOf_any ns v w hv hP h0 hN hl (by
    have := line_len (fun n hn => (hN n hn).2)
    omega)
end Go.Proofs.YthgfbaekmhpiaaaGreatDoor
namespace Go.Proofs.YthgfbaekmhpiaaaGreatDoor
open Go.RowKit Go.Sort

def tokL (t : Tok) : List UInt8 := lineL [t.id, (t.body.size : Int)] ++ t.body.data.toList ++ [10]
theorem below_alx {w W : World} (h : Below w.heap.size w W) (o : Obj) : Below w.heap.size w (W.alloc o) := h.alloc h.size o
theorem below_drx {w W : World} (h : Below w.heap.size w W) : Below w.heap.size w W.drew := ⟨h.os, h.tape, h.output, h.size, h.block⟩
theorem below_twox {w w1 w2 : World} (h2 : Below w1.heap.size w1 w2) (h1 : Below w.heap.size w w1) : Below w.heap.size w w2 := h1.trans (h2.mono h1.size)
theorem PowAt.up {w w' : World} (h : PowAt w) (hb : Below w.heap.size w w') : PowAt w' := PowAt.below h hb
theorem line2_len (a b : Int) (ha : a ≤ 9223372036854775807) (hb : b ≤ 9223372036854775807) : (lineB [a, b]).size ≤ 41 := by
  have h1 := line_len (ns := [a, b]) (fun n hn => by
    rcases List.mem_cons.1 hn with rfl | hn
    · exact ha
    · rcases List.mem_cons.1 hn with rfl | hn
      · exact hb
      · simp at hn)
  rw [decs_list] at h1
  rw [lineB_ba, ba_size, lineL, List.length_append]
  simp at h1 ⊢
  omega
set_option maxRecDepth 100000 in
set_option maxHeartbeats 2000000 in
theorem tokenText_any (t : Tok) (w : World) (hP : PowAt w) (hi : 0 ≤ t.id ∧ t.id ≤ 9223372036854775807) (hs : t.body.size ≤ 140737488355328) :
    Calls Tryz.prog 94 #[tokVal t] w fun e w' => e = .returned (.string (ba (tokL t))) ∧ Below w.heap.size w w' := by
  obtain ⟨i, s⟩ := t
  dsimp only at hi hs
  have HP := Lib.hid (fun W (hW : Below w.heap.size w W) => PowAt.below hP hW)
  have HEND : Hid (ba (tokL ⟨i, s⟩) = lineB [i, (s.size : Int)] ++ s ++ ⟨#[10]⟩) := Lib.hid (by
    unfold tokL
    rw [lineB_ba, ← ba_eta s, ba_add, show (⟨#[10]⟩ : ByteArray) = ba [10] from rfl, ba_add, ba_list, ba_size])
  have hll := line2_len i (s.size : Int) hi.2 (by omega)
  have HOK : Hid (OkN [i, (s.size : Int)]) := Lib.hid (fun n hn => by
    rcases List.mem_cons.1 hn with rfl | hn
    · exact hi
    · rcases List.mem_cons.1 hn with rfl | hn
      · exact ⟨by omega, by omega⟩
      · simp at hn)
  have hc1 : ¬ 9223372036854775807 < (lineB [i, (s.size : Int)]).size + s.size := by omega
  have hc2 : ¬ 9223372036854775807 < (lineB [i, (s.size : Int)] ++ s).size + 1 := by rw [ByteArray.size_append]; omega
  have hc3 : ¬ 9223372036854775807 < (lineB [i, (s.size : Int)]).size + s.size + 1 := by omega
  have HLN := Lib.hid (fun W g hB hW => lineOf_at (g := g) [i, (s.size : Int)] W hB (HP.out W hW) (by simp) HOK.out (by simp) 2 rfl)
  generalize lineB [i, (s.size : Int)] = J at HEND HLN hc1 hc2 hc3
  clear hP hi hs hll
  unfold tokVal
  have kB := Blk.new w 50 #[Value.int .i64 i, Value.string s]
  have HB0 : Hid (Below w.heap.size w (w.alloc (.cells #[Value.int .i64 i, Value.string s] 50))) := Lib.hid ((Below.refl _ _).alloc (Nat.le_refl _) _)
  rw [HEND.out]
  go_enter Tryz.func94, Tryz.ntmps94
  go_upto_region 1 with fail
  generalize w.alloc (.cells #[Value.int .i64 i, Value.string s] 50) = w0 at kB HB0 ⊢
  have HKB := Lib.hid kB
  have HS : Hid (∀ W, Below w0.heap.size w0 W → W.cell? ⟨w.heap.size, 0, none⟩ = some (.int .i64 i) ∧ W.cell? ⟨w.heap.size, 1, none⟩ = some (.string s)) := Lib.hid fun W hW => by
    have k := Blk.below HKB.out hW HKB.out.lt
    have c0 := k.cell 0
    have c1 := k.cell 1
    simp at c0 c1
    exact ⟨c0, c1⟩
  have hbl := kB.lt
  clear kB
  have d0 := HS.out _ (Below.refl _ w0).drew
  go_cut [2] (fun r wx => r = .string (J ++ s ++ ⟨#[10]⟩) ∧ Below w.heap.size w wx)
  case first =>
    go_region_held3 (fun W => W.cell? ⟨w.heap.size, 0, none⟩ = some (.int .i64 i) ∧ W.cell? ⟨w.heap.size, 1, none⟩ = some (.string s))
      (exact HS.out _ (by repeat (first | (with_reducible assumption) | (with_reducible refine below_alx ?_ _) | (with_reducible exact Below.refl _ _) | (with_reducible refine below_drx ?_))))
      (first
        | (go_at_call 93; refine (HLN.out _ _ (by exact Blk.new _ _ _) (HB0.out.trans (Below.mono (by repeat (first | (with_reducible assumption) | (with_reducible refine below_alx ?_ _) | (with_reducible exact Below.refl _ _) | (with_reducible refine below_drx ?_))) HB0.out.size))).mono ?_; rintro e wI ⟨rfl, hbI⟩; have hBI := below_twox (w := w0) hbI (by repeat (first | (with_reducible assumption) | (with_reducible refine below_alx ?_ _) | (with_reducible exact Below.refl _ _) | (with_reducible refine below_drx ?_)))))
    all_goals
      go_wp2_with fail
      go_meet
      exact ⟨rfl, HB0.out.trans (hBI.mono HB0.out.size)⟩
  case rest =>
    obtain ⟨rfl, hB⟩ := hcut
    go_wp2_with fail
    go_ret
    exact ⟨rfl, hB⟩
end Go.Proofs.YthgfbaekmhpiaaaGreatDoor
namespace Go.Proofs.YthgfbaekmhpiaaaGreatDoor
open Go.RowKit Go.Sort

theorem BldAt.below {w w' : World} {B b : Nat} {l : List UInt8} (h : BldAt w B b l) (hb : Below w.heap.size w w') : BldAt w' B b l := by
  have key : ∀ p, Lib.BuilderAtF (laysJoin_ren.t 72) (laysJoin_ren.t 5) B b p (Lib.byteCells l) w → Lib.BuilderAtF (laysJoin_ren.t 72) (laysJoin_ren.t 5) B b p (Lib.byteCells l) w' := fun p hp => by
    have hlt := hp.lt
    obtain ⟨hB, v, h1, h2, h3⟩ := hp
    refine ⟨hB, v, (hb.block b hlt).trans h1, ⟨h2.1, ?_⟩, h3⟩
    rcases h2.2 with h0 | ⟨g, cap, cur, fz, hv, hbg, hg, rest⟩
    · exact .inl h0
    · refine .inr ⟨g, cap, cur, fz, hv, hbg, (hb.block g ?_).trans hg, rest⟩
      rcases Nat.lt_or_ge g w.heap.size with h' | h'
      · exact h'
      · rw [Array.getElem?_eq_none h'] at hg; cases hg
  exact h.elim (fun x => .inl (key _ x)) (fun x => .inr (key _ x))
theorem BldAt.new (w : World) {B : Nat} (hB : B ≤ w.heap.size) : BldAt (w.alloc (.cells #[.pointer none, .slice none 0 0] 161)) B w.heap.size [] :=
  .inl ⟨hB, .slice none 0 0, heap_alloc_new w _, ⟨rfl, .inl ⟨rfl, rfl⟩⟩, by simp [Value.ownBlock]⟩
theorem below_aly {B : Nat} {w W : World} (hB : B ≤ w.heap.size) (h : Below B w W) (o : Obj) : Below B w (W.alloc o) := h.alloc (Nat.le_trans hB h.size) o
theorem below_dry {B : Nat} {w W : World} (h : Below B w W) : Below B w W.drew := ⟨h.os, h.tape, h.output, h.size, h.block⟩
theorem below_mony {B : Nat} {w W : World} (hB : B ≤ w.heap.size) (h : Below w.heap.size w W) : Below B w W := h.mono hB
theorem line3_len (a b c : Int) (ha : a ≤ 9223372036854775807) (hb : b ≤ 9223372036854775807) (hc : c ≤ 9223372036854775807) : (lineB [a, b, c]).size ≤ 61 := by
  have h1 := line_len (ns := [a, b, c]) (fun n hn => by
    rcases List.mem_cons.1 hn with rfl | hn
    · exact ha
    · rcases List.mem_cons.1 hn with rfl | hn
      · exact hb
      · rcases List.mem_cons.1 hn with rfl | hn
        · exact hc
        · simp at hn)
  rw [decs_list] at h1
  rw [lineB_ba, ba_size, lineL, List.length_append]
  simp at h1 ⊢
  omega
def msgL (word : List UInt8) (b : BagV) (L : List Tok) : List UInt8 := word ++ [32] ++ lineL [b.src, b.dst, b.seq] ++ L.flatMap tokL
def OkTok (L : List Tok) : Prop := ∀ t ∈ L, 0 ≤ t.id ∧ t.id ≤ 9223372036854775807
theorem flat_take {L : List Tok} {k : Nat} {t : Tok} (h : L[k]? = some t) : (L.take (k + 1)).flatMap tokL = (L.take k).flatMap tokL ++ tokL t := by
  rw [List.take_add_one, h, List.flatMap_append]
  simp
theorem flat_le {L : List Tok} (k : Nat) : ((L.take k).flatMap tokL).length ≤ (L.flatMap tokL).length := by
  conv => rhs; rw [← List.take_append_drop k L, List.flatMap_append, List.length_append]
  omega
theorem tok_le {L : List Tok} {t : Tok} (h : t ∈ L) : t.body.size ≤ (L.flatMap tokL).length := by
  obtain ⟨a, b, rfl⟩ := List.append_of_mem h
  rw [List.flatMap_append, List.flatMap_cons, List.length_append, List.length_append]
  have h2 : (tokL t).length = (lineL [t.id, (t.body.size : Int)]).length + t.body.size + 1 := by
    unfold tokL
    rw [List.length_append, List.length_append]
    simp
  omega
theorem ws_hid {w1 : World} {B gb : Nat} {l : List UInt8} (hD : BldAt w1 B gb l) (hB : B ≤ w1.heap.size) (s : ByteArray) (n0 : Int) (hn : n0 = (s.size : Int)) (r : List UInt8) (hr : l ++ s.data.toList = r) (hlen : l.length + s.size ≤ 140737488355328) (W : World) (h1 : Below w1.heap.size w1 W) :
    Calls Tryz.prog 92 #[.pointer (some ⟨gb, 0, none⟩), .string s] W fun e w' => e = .returned (.tuple #[.int .i64 n0, .nilIface]) ∧ Hid (BldAt w' B gb r ∧ Below B W w') := by
  subst hn hr
  exact (ws_any B gb l s W (hD.below h1) hlen (Nat.le_trans hB h1.size)).mono (fun _ _ h => ⟨h.1, Lib.hid h.2⟩)
set_option maxRecDepth 100000 in
set_option maxHeartbeats 4000000 in
theorem msgText_any (word : ByteArray) (b : BagV) (L : List Tok) (w : World) (hT : TokAt w b.toks L) (hP : PowAt w) (hN : OkN [b.src, b.dst, b.seq]) (hI : OkTok L) (hw : word.size ≤ 1000000) (hLl : L.length ≤ 1000000000) (hlen : (L.flatMap tokL).length ≤ 100000000000000) :
    Calls Tryz.prog 57 #[msgVal word b] w fun e w' => e = .returned (.string (ba (msgL word.data.toList b L))) ∧ Below w.heap.size w w' := by
  obtain ⟨s, d, q, T⟩ := b
  dsimp only at hT hN
  have HT := Lib.hid hT
  obtain ⟨A, c, rfl, hc, _⟩ := hT
  have HP := Lib.hid (fun W (hW : Below w.heap.size w W) => PowAt.below hP hW)
  have HI := Lib.hid hI
  have HLE := Lib.hid hlen
  have hll := line3_len s d q (hN s (by simp)).2 (hN d (by simp)).2 (hN q (by simp)).2
  have hc1 : ¬ 9223372036854775807 < word.size + 1 := by omega
  have hc2 : ¬ 9223372036854775807 < word.size + 1 + (lineB [s, d, q]).size := by omega
  have hc3 : ¬ 9223372036854775807 < (word ++ ⟨#[32]⟩).size + (lineB [s, d, q]).size := by rw [ByteArray.size_append]; show ¬ _ < word.size + 1 + _; omega
  have HLN := Lib.hid (fun W g hB hW => lineOf_at (g := g) [s, d, q] W hB (HP.out W hW) (by simp) hN (by simp) 3 rfl)
  have HJ : Hid ((word ++ ⟨#[32]⟩ ++ lineB [s, d, q]).data.toList = word.data.toList ++ [32] ++ lineL [s, d, q]) := Lib.hid (by
    rw [lineB_ba, ← ba_eta word, show (⟨#[32]⟩ : ByteArray) = ba [32] from rfl, ba_add, ba_add, ba_list, ba_list])
  have HJ2 : Hid ((word ++ ⟨#[32]⟩ ++ lineB [s, d, q]).data.toList = word.data.toList ++ [32] ++ lineL [s, d, q]) := HJ
  have HJs : Hid ((word ++ ⟨#[32]⟩ ++ lineB [s, d, q]).size ≤ 1000100) := Lib.hid (by rw [ByteArray.size_append, ByteArray.size_append]; show word.size + 1 + _ ≤ _; omega)
  generalize lineB [s, d, q] = J at HLN hc2 hc3 HJ HJs HJ2
  clear hP hI hlen hll hN hw
  unfold msgVal
  have kB := Blk.new w 109 #[.string word, .int .i64 s, .int .i64 d, .int .i64 q, .slice A L.length c]
  have HB0 : Hid (Below w.heap.size w (w.alloc (.cells #[.string word, .int .i64 s, .int .i64 d, .int .i64 q, .slice A L.length c] 109))) := Lib.hid ((Below.refl _ _).alloc (Nat.le_refl _) _)
  have hz0 : (w.alloc (.cells #[.string word, .int .i64 s, .int .i64 d, .int .i64 q, .slice A L.length c] 109)).heap.size = w.heap.size + 1 := by simp
  go_enter Tryz.func57, Tryz.ntmps57
  go_upto_region 1 with fail
  generalize w.alloc (.cells _ 109) = w0 at kB HB0 hz0 ⊢
  go_upto_region 2 with fail
  have HK1 := Lib.hid (kB.alloc (.cells #[.pointer none, .slice none 0 0] 161))
  have HB1 := Lib.hid (HB0.out.alloc HB0.out.size (.cells #[.pointer none, .slice none 0 0] 161))
  have HD1 : Hid (BldAt (w0.alloc (.cells #[.pointer none, .slice none 0 0] 161)) (w.heap.size + 1) (w.heap.size + 1) []) := Lib.hid (by
    have h := BldAt.new w0 (B := w.heap.size + 1) (by omega)
    rw [hz0] at h
    exact h)
  have hz1 : (w0.alloc (.cells #[.pointer none, .slice none 0 0] 161)).heap.size = w.heap.size + 2 := by simp [hz0]
  generalize w0.alloc (.cells #[.pointer none, .slice none 0 0] 161) = w1 at HK1 HB1 HD1 hz1 ⊢
  have HZ1 := Lib.hid hz1
  have hB1z : w.heap.size + 1 ≤ w1.heap.size := by omega
  clear kB HB0 hz0
  have HS : Hid (∀ W, Below (w.heap.size + 1) w1 W → W.cell? ⟨w.heap.size, 0, none⟩ = some (.string word) ∧ W.cell? ⟨w.heap.size, 1, none⟩ = some (.int .i64 s) ∧ W.cell? ⟨w.heap.size, 2, none⟩ = some (.int .i64 d) ∧ W.cell? ⟨w.heap.size, 3, none⟩ = some (.int .i64 q)) := Lib.hid fun W hW => by
    have k := Blk.below HK1.out hW (by omega)
    have c0 := k.cell 0
    have c1 := k.cell 1
    have c2 := k.cell 2
    have c3 := k.cell 3
    simp at c0 c1 c2 c3
    exact ⟨c0, c1, c2, c3⟩
  obtain ⟨n0, hn0⟩ : ∃ n0 : Int, n0 = ((word ++ ⟨#[32]⟩ ++ J).size : Int) := ⟨_, rfl⟩
  have HN0 := Lib.hid hn0
  clear hn0
  clear hz1
  have HWS := Lib.hid (ws_hid HD1.out hB1z (word ++ ⟨#[32]⟩ ++ J) n0 HN0.out (word.data.toList ++ [32] ++ lineL [s, d, q]) (by rw [List.nil_append]; exact HJ.out) (by rw [List.length_nil, Nat.zero_add]; exact Nat.le_trans HJs.out (by decide)))
  have d0 := HS.out _ (Below.refl _ w1).drew
  have HBZ := Lib.hid hB1z
  clear hB1z
  have hbl := HK1.out.lt
  go_cut [] (fun wx => BldAt wx (w.heap.size + 1) (w.heap.size + 1) (word.data.toList ++ [32] ++ lineL [s, d, q]) ∧ Below w.heap.size w wx ∧ Blk wx w.heap.size 109 #[.string word, .int .i64 s, .int .i64 d, .int .i64 q, .slice A L.length c])
  case first =>
    go_region_held3 (fun W => W.cell? ⟨w.heap.size, 0, none⟩ = some (.string word) ∧ W.cell? ⟨w.heap.size, 1, none⟩ = some (.int .i64 s) ∧ W.cell? ⟨w.heap.size, 2, none⟩ = some (.int .i64 d) ∧ W.cell? ⟨w.heap.size, 3, none⟩ = some (.int .i64 q))
      (exact HS.out _ (by repeat (first | (with_reducible assumption) | (with_reducible exact Below.refl _ _) | (with_reducible refine below_dry ?_) | (with_reducible refine below_aly HBZ.out ?_ _))))
      (first
        | (go_at_call 93; refine (HLN.out _ _ (by exact Blk.new _ _ _) (HB1.out.trans (Below.mono (by repeat (first | (with_reducible assumption) | (with_reducible refine below_alx ?_ _) | (with_reducible exact Below.refl _ _) | (with_reducible refine below_drx ?_))) HB1.out.size))).mono ?_; rintro e wI ⟨rfl, hbI⟩; have hBI := below_twox (w := w1) hbI (by repeat (first | (with_reducible assumption) | (with_reducible refine below_alx ?_ _) | (with_reducible exact Below.refl _ _) | (with_reducible refine below_drx ?_))); have hBI2 := below_mony HBZ.out hBI)
        | (go_at_call 92; refine (HWS.out _ (by with_reducible assumption)).mono ?_; rintro e wJ ⟨rfl, HBJ⟩; have hBJ2 := hBI2.trans HBJ.out.2))
    all_goals
      go_wp2_with fail
      go_meet
      exact ⟨HBJ.out.1, HB1.out.trans (hBJ2.mono (Nat.le_succ _)), HK1.out.below hBJ2 (Nat.lt_succ_self _)⟩
  case rest =>
    obtain ⟨hD, hB, hK⟩ := hcut
    have HD := Lib.hid hD
    have HB := Lib.hid hB
    have HK := Lib.hid hK
    have b4 := hK.cell 4
    simp at b4
    have hbz := hK.lt
    clear hD hB hK HS HWS HN0 d0 hbl HK1 HB1 HD1 HBZ HZ1 HLN hc1 hc2 hc3 HJ
    clear n0
    generalize hhd : word.data.toList ++ [32] ++ lineL [s, d, q] = hd at HD
    have HHL : Hid (hd.length ≤ 1000100) := Lib.hid (by
      have h1 := HJs.out
      rw [← hhd, ← HJ2.out]
      exact h1)
    have HHD : Hid (msgL word.data.toList ⟨s, d, q, .slice A L.length c⟩ L = hd ++ L.flatMap tokL) := Lib.hid (by rw [← hhd]; rfl)
    clear hhd HJs HJ2
    go_wp2_with fail
    go_loopw [26] (fun i wr => ∃ k : Nat, k ≤ L.length ∧ i = .int .i64 k ∧ BldAt wr (w.heap.size + 1) (w.heap.size + 1) (hd ++ (L.take k).flatMap tokL) ∧ Below w.heap.size w wr ∧ w.heap.size + 1 ≤ wr.heap.size) (fun i _ => L.length - (intOf i).toNat)
    case atStart => exact ⟨0, Nat.zero_le _, rfl, by simpa using HD.out, HB.out, by omega⟩
    case round =>
      clear HD HB HK b4 hbz
      obtain ⟨k, hk, rfl, hD, hB, hwr⟩ := hrel
      have HD := Lib.hid hD
      have HB := Lib.hid hB
      have hTr := HT.out.below hB
      clear hD hB
      by_cases hlt : k < L.length
      · have hki : (k : Int) < (L.length : Int) := by omega
        obtain ⟨t, ht⟩ : ∃ t, L[k]? = some t := ⟨_, List.getElem?_eq_getElem hlt⟩
        obtain ⟨g, o, rfl, hg, c0, c1⟩ := hTr.cells ht
        have HLT := Lib.hid hlt
        have hm := List.mem_of_getElem? ht
        have HTT := Lib.hid (fun W hW => tokenText_any t W (HP.out W hW) (HI.out t hm) (by have := tok_le hm; have := HLE.out; omega))
        have HFT := Lib.hid (flat_take ht)
        have hfl : (hd ++ (L.take k).flatMap tokL).length + (ba (tokL t)).size ≤ 140737488355328 := by
          have h1 := HHL.out
          have h2 := HLE.out
          have h3 := flat_le (L := L) (k + 1)
          rw [HFT.out, List.length_append] at h3
          rw [List.length_append, ba_size]
          omega
        have HFL := Lib.hid hfl
        have HWZ := Lib.hid HD.out
        simp only [tokVal] at HTT
        have HBA := Lib.hid (HB.out.alloc HB.out.size (.cells #[Value.int .i64 t.id, Value.string t.body] 50))
        have HDA := Lib.hid (HD.out.below ((Below.refl _ wr).alloc (Nat.le_refl _) (.cells #[Value.int .i64 t.id, Value.string t.body] 50)))
        clear hm hlt ht hfl hTr
        go_wp2_with fail
        refine (HTT.out _ HBA.out).mono ?_
        rintro e w2 ⟨rfl, hb2⟩
        have HD2 := Lib.hid (HDA.out.below hb2)
        have HB2 := Lib.hid (HBA.out.trans (hb2.mono HBA.out.size))
        have hwb : w.heap.size + 1 ≤ w2.heap.size := Nat.le_trans hwr (Nat.le_trans (by simp) hb2.size)
        have hwb2 := Lib.hid hwb
        have HDT : Hid (tokL t = tokL t) := Lib.hid rfl
        obtain ⟨n0, hn0⟩ : ∃ n0 : Int, n0 = ((ba (tokL t)).size : Int) := ⟨_, rfl⟩
        have HWS := Lib.hid (ws_hid HD2.out hwb (ba (tokL t)) n0 hn0 (hd ++ (L.take (k + 1)).flatMap tokL) (by rw [HFT.out, ba_list, List.append_assoc]) HFL.out w2 (Below.refl _ _))
        clear hn0 hb2 HTT HBA HDA c0 c1 hg hwb
        generalize ba (tokL t) = TT at HWS ⊢
        go_wp2_with fail
        refine HWS.out.mono ?_
        rintro e w3 ⟨rfl, HQ⟩
        have HB3 := Lib.hid (HB2.out.trans (HQ.out.2.mono (Nat.le_succ _)))
        clear HWS
        go_wp2_with fail
        go_roundw
        case rel => exact ⟨k + 1, by have := HLT.out; omega, by go_num, HQ.out.1, HB3.out, Nat.le_trans hwb2.out HQ.out.2.size⟩
        case measure => exact meas_up _ _ HLT.out
      · have hki : ¬ (k : Int) < (L.length : Int) := by omega
        obtain rfl : k = L.length := by omega
        have HDE : Hid (BldAt wr (w.heap.size + 1) (w.heap.size + 1) (hd ++ L.flatMap tokL)) := Lib.hid (by have := HD.out; rwa [List.take_length] at this)
        have HST := Lib.hid (bs_any _ _ _ wr HDE.out hwr)
        have hre : (⟨(hd ++ L.flatMap tokL).toArray⟩ : ByteArray) = ba (msgL word.data.toList ⟨s, d, q, .slice A L.length c⟩ L) := by rw [HHD.out]; rfl
        rw [hre] at HST
        clear hre HD HDE hTr
        go_wp2_with fail
        refine HST.out.mono ?_
        rintro e w3 ⟨rfl, hb3⟩
        have HB3 := Lib.hid (HB.out.trans (hb3.mono (Nat.le_succ _)))
        clear hb3 HST
        go_wp2_with fail
        go_ret
        exact ⟨rfl, HB3.out⟩
end Go.Proofs.YthgfbaekmhpiaaaGreatDoor
