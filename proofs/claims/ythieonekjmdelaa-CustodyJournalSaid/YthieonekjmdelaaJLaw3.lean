/- The operations of the law of CustodyJournal, in the words of the law. Conditions: the disk, the journal and the reference's journal lie in memory. -/
import Derived.Test.YthieonekjmdelaaJLaw2
namespace Go.Proofs.Ythieonekjmdelaa
open Go.RowKit

section
variable {w0 w : World} {jb p mb N : Nat} {R : List (List Int)}
theorem len_js (h : JS w0 w jb p mb N R) : Calls Try.prog 16 #[.pointer (some ⟨jb, 0, none⟩)] w fun e w' => e = .returned (.int .i64 (R.length : Int)) ∧ w' = w := by
  obtain ⟨⟨M, rv, safe, fl, ph, hm, hsf, hM, hmM, hrM, hst⟩, _⟩ := h
  rcases hst with ⟨st, hJ, _⟩ | ⟨X, hJ, _⟩
  · exact (len_live hJ).mono fun _ _ h => And.intro h.1 h.2.symm
  · exact (len_dead hJ).mono fun _ _ h => And.intro h.1 h.2.symm
theorem cell_js (h : JS w0 w jb p mb N R) : ∃ A c, w.cell? ⟨mb, 0, none⟩ = some (.slice A R.length c) ∧ mb < w.heap.size ∧ w.cell? ⟨mb, 1, none⟩ ≠ none := by
  obtain ⟨⟨M, rv, safe, fl, ph, hm, _⟩, _⟩ := h
  obtain ⟨A, c, rfl⟩ := hm.form
  rw [List.length_map] at hm
  have c0 := hm.blk.cell 0
  have c1 := hm.blk.cell 1
  simp at c0 c1
  exact ⟨A, c, c0, hm.blk.lt, by rw [c1]; simp⟩
theorem cells_js (h : JS w0 w jb p mb N R) : ∃ A c s, w.cell? ⟨mb, 0, none⟩ = some (.slice A R.length c) ∧ w.cell? ⟨mb, 1, none⟩ = some (.int .i64 s) ∧ w.frozen? ⟨mb, 1, none⟩ = false ∧ mb < w.heap.size := by
  obtain ⟨⟨M, rv, safe, fl, ph, hm, _⟩, _⟩ := h
  obtain ⟨A, c, rfl⟩ := hm.form
  rw [List.length_map] at hm
  have c0 := hm.blk.cell 0
  have c1 := hm.blk.cell 1
  simp at c0 c1
  exact ⟨A, c, _, c0, c1, hm.blk.frozen 1, hm.blk.lt⟩
theorem cost_js (h : JS w0 w jb p mb N R) (hl : R.length ≤ 100000) : Calls Try.prog 11 #[.pointer (some ⟨mb, 0, none⟩)] w fun e w' => e = .returned (.int .i64 (costR R : Int)) ∧ w' = w := by
  obtain ⟨⟨M, rv, safe, fl, ph, hm, _⟩, _, hr, _⟩ := h
  exact mcost_any hm hl hr
/-- The records that are there are durable. -/
theorem safe_js (h : JS w0 w jb p mb N R) : JS w0 (w.setCell ⟨mb, 1, none⟩ (.int .i64 (R.length : Int))) jb p mb N R := by
  obtain ⟨⟨M, rv, safe, fl, ph, hm, hsf, hM, hmM, hrM, hst⟩, hmb, hr, hB⟩ := h
  have hK := (Keeps.refl (fun i => i = mb) w).setCell (p := ⟨mb, 1, none⟩) (fun _ => rfl) (.int .i64 (R.length : Int))
  refine ⟨⟨M, rv, R.length, fl, ph, ⟨hm.blk.set 1 (.int .i64 (R.length : Int)), hm.own.keep hK (fun i e e2 => hm.ne (by rw [← e2]; exact e)), hm.form, hm.ne⟩, Nat.le_refl _, hM, hmM, hrM, ?_⟩, hmb, hr, hB.trans (hK.below (fun i hi e => by omega) hB.size)⟩
  rcases hst with ⟨s, hJ, hf⟩ | ⟨X, hJ, hf⟩
  · exact .inl ⟨s, hJ.keep hK (fun i e1 e2 => hmM (by rw [← e2]; exact e1)), hf⟩
  · exact .inr ⟨X, hJ.keep hK (fun i e1 e2 => hmM (by rw [← e2]; exact e1)), hf⟩
/-- The disk is down. -/
def DeadJ (w : World) (jb p N : Nat) (R : List (List Int)) : Prop := ∃ M X, JDead M w jb p N R X
theorem deadJ_down (h : DeadJ w jb p N R) : Calls Try.prog 13 #[.pointer (some ⟨p, 0, none⟩)] w fun e w' => e = .returned (.bool true) ∧ w = w' := by
  obtain ⟨M, X, h⟩ := h
  exact down_dead h
theorem grow_same {M : Nat → Prop} {w' : World} {rv : Value} {L : List Value} {safe : Nat} {fl : Bool} {ph : ByteArray} (hm : MAt w mb w0.heap.size rv L safe fl ph) (hmM : ¬ M mb) (hrM : ∀ i, rv.ownBlock = some i → ¬ M i) (hG : Grow M w M w') : MAt w' mb w0.heap.size rv L safe fl ph :=
  hm.keep hG.keep hmM hrM
theorem sync_js (h : JS w0 w jb p mb N R) :
    Calls Try.prog 12 #[.pointer (some ⟨jb, 0, none⟩)] w fun e w' => (e = .returned (.int .i64 0) ∧ JS w0 w' jb p mb N R) ∨ (e = .returned (.int .i64 70) ∧ JS w0 w' jb p mb N R ∧ DeadJ w' jb p N R) := by
  have h0 := h
  obtain ⟨⟨M, rv, safe, fl, ph, hm, hsf, hM, hmM, hrM, hst⟩, hmb, hr, hB⟩ := h
  rcases hst with ⟨st, hJ, rfl⟩ | ⟨X, hJ, hX⟩
  · refine (sync_live hJ).mono ?_
    rintro e w' (⟨rfl, hJ2, hG⟩ | ⟨rfl, _, hJ2, hG⟩)
    · exact .inl ⟨rfl, ⟨M, rv, safe, false, ph, grow_same hm hmM hrM hG, hsf, hM, hmM, hrM, .inl ⟨st, hJ2, rfl⟩⟩, hmb, hr, hB.trans (hG.below hM hB.size).1⟩
    · exact .inr ⟨rfl, ⟨⟨M, rv, safe, false, ph, grow_same hm hmM hrM hG, hsf, hM, hmM, hrM, .inr ⟨none, hJ2, fun r e => by cases e⟩⟩, hmb, hr, hB.trans (hG.below hM hB.size).1⟩, M, none, hJ2⟩
  · refine (sync_dead hJ).mono ?_
    rintro e w' ⟨rfl, rfl⟩
    exact .inr ⟨rfl, h0, M, X, hJ⟩
theorem stop_js (h : JS w0 w jb p mb N R) (n : Int) (hn : n ≤ 9223372036854775807) :
    Calls Try.prog 14 #[.pointer (some ⟨p, 0, none⟩), .int .i64 n] w fun e w' => (∃ v, e = .returned v) ∧ JS w0 w' jb p mb N R := by
  have h0 := h
  obtain ⟨⟨M, rv, safe, fl, ph, hm, hsf, hM, hmM, hrM, hst⟩, hmb, hr, hB⟩ := h
  rcases hst with ⟨st, hJ, rfl⟩ | ⟨X, hJ, hX⟩
  · refine (stop_live hJ n hn).mono ?_
    rintro e w' ⟨he, ⟨st', hJ2⟩, hG⟩
    exact ⟨he, ⟨M, rv, safe, false, ph, grow_same hm hmM hrM hG, hsf, hM, hmM, hrM, .inl ⟨st', hJ2, rfl⟩⟩, hmb, hr, hB.trans (hG.below hM hB.size).1⟩
  · refine (stop_dead hJ n).mono ?_
    rintro e w' ⟨he, rfl⟩
    exact ⟨he, h0⟩
end
/-- A block that is none of the disk's, the journal's or the reference's. -/
def FarB (ob : Option Nat) (o : Obj) (M : Nat → Prop) (mb : Nat) (rv : Value) (w : World) : Prop := ∀ b, ob = some b → ¬ M b ∧ mb ≠ b ∧ rv.ownBlock ≠ some b ∧ b < w.heap.size ∧ w.heap[b]? = some o
/-- Behind a crash: the disk has the records R', the reference knows R. -/
structure CS (w0 w : World) (p mb N : Nat) (R R' : List (List Int)) (ob : Option Nat) (o : Obj) : Prop where
  st : ∃ M rv safe fl ph st, MAt w mb w0.heap.size rv (R.map sJ) safe fl ph ∧ (∀ i, M i → w0.heap.size ≤ i) ∧ ¬ M mb ∧ (∀ i, rv.ownBlock = some i → ¬ M i) ∧ DLive M w p N R' st ∧ MayOk R R' safe fl ph true ∧ FarB ob o M mb rv w
  mb : w0.heap.size ≤ mb
  recs : ∀ r ∈ R', r.length ≤ 60000
  below : Below w0.heap.size w0 w
section
variable {w0 w : World} {jb p mb N : Nat} {R R' : List (List Int)} {ob : Option Nat} {o : Obj}
theorem FarB.grow {M : Nat → Prop} {rv : Value} {w' : World} (h : FarB ob o M mb rv w) (hG : Grow M w M w') : FarB ob o M mb rv w' := fun b hb => by
  obtain ⟨h1, h2, h3, h4, h5⟩ := h b hb
  exact ⟨h1, h2, h3, Nat.lt_of_lt_of_le h4 hG.keep.size, (hG.keep.block b h4 h1).trans h5⟩
theorem dlive_recs {M : Nat → Prop} {st : Bool} (h : DLive M w p N R st) : ∀ r ∈ R, r.length ≤ 60000 := by
  obtain ⟨gs, vp, S, ca, _, _, _, _, hJ, _⟩ := h
  exact fun r hr => (hJ.1 r hr).1
theorem crash_js {wr : World} (h : JS w0 wr jb p mb N R) (hb : Below wr.heap.size wr w) (hob : ∀ b, ob = some b → wr.heap.size ≤ b ∧ b < w.heap.size ∧ w.heap[b]? = some o) (KA : Option Addr) (kc : Nat) (K : List Int) (hKl : K.length ≤ 9223372036854775807) (hKi : ∀ x ∈ K, -9223372036854775808 ≤ x ∧ x ≤ 9223372036854775807) (hK : NumsAt w0 KA K) :
    Calls Try.prog 15 #[.pointer (some ⟨p, 0, none⟩), .slice KA K.length kc] w fun e w' => (∃ v, e = .returned v) ∧ ∃ R', CS w0 w' p mb N R R' ob o ∧ R'.length ≤ R.length + 1 := by
  have hB := (h.same hb).below
  obtain ⟨⟨M, rv, safe, fl, ph, hm, hsf, hM, hmM, hrM, hst⟩, hmb, hr, _⟩ := h
  have hfar : MOk M wr → FarB ob o M mb rv w := fun hok b e => by
    obtain ⟨h1, h2, h3⟩ := hob b e
    refine ⟨fun e => ?_, fun e => ?_, fun e => ?_, h2, h3⟩
    · have := hok b e; omega
    · have := hm.blk.lt; omega
    · have := (World.ownsRow.lt hm.own b e).2; omega
  have hm' := hm.below hb
  rcases hst with ⟨st, hJ, rfl⟩ | ⟨X, hJ, hX⟩
  · have hf := hfar (by obtain ⟨_, _, _, _, _, _, _, hok⟩ := hJ; exact hok)
    refine (crash_dlive (hJ.below hb).disk KA kc K hKl hKi (hK.keepJ hB hM)).mono ?_
    rintro e w' ⟨he, hD, hG⟩
    exact ⟨he, R, ⟨⟨M, rv, safe, false, ph, false, grow_same hm' hmM hrM hG, hM, hmM, hrM, hD, .inr ⟨rfl, hsf, .inl rfl⟩, hf.grow hG⟩, hmb, dlive_recs hD, hB.trans (hG.below hM hB.size).1⟩, by omega⟩
  · have hf := hfar (by obtain ⟨_, _, _, _, _, hok⟩ := hJ; exact hok)
    refine (crash_dead (hJ.below hb) KA kc K hKl hKi (hK.keepJ hB hM)).mono ?_
    rintro e w' ⟨he, hD, hG⟩
    rcases hD with hD | ⟨r, hr2, hD⟩
    · exact ⟨he, R, ⟨⟨M, rv, safe, fl, ph, false, grow_same hm' hmM hrM hG, hM, hmM, hrM, hD, .inr ⟨rfl, hsf, .inl rfl⟩, hf.grow hG⟩, hmb, dlive_recs hD, hB.trans (hG.below hM hB.size).1⟩, by omega⟩
    · exact ⟨he, R ++ [r], ⟨⟨M, rv, safe, fl, ph, false, grow_same hm' hmM hrM hG, hM, hmM, hrM, hD, .inr ⟨rfl, hsf, .inr ⟨r, rfl, hX r hr2⟩⟩, hf.grow hG⟩, hmb, dlive_recs hD, hB.trans (hG.below hM hB.size).1⟩, by rw [List.length_append]; exact Nat.le_refl _⟩
theorem stop_cs (h : CS w0 w p mb N R R' ob o) (n : Int) (hn : n ≤ 9223372036854775807) :
    Calls Try.prog 14 #[.pointer (some ⟨p, 0, none⟩), .int .i64 n] w fun e w' => (∃ v, e = .returned v) ∧ CS w0 w' p mb N R R' ob o := by
  obtain ⟨⟨M, rv, safe, fl, ph, st, hm, hM, hmM, hrM, hD, hok, hf⟩, hmb, hr, hB⟩ := h
  refine (stop_disk hD n hn).mono ?_
  rintro e w' ⟨he, ⟨st', hD2⟩, hG⟩
  exact ⟨he, ⟨M, rv, safe, fl, ph, st', grow_same hm hmM hrM hG, hM, hmM, hrM, hD2, hok, hf.grow hG⟩, hmb, hr, hB.trans (hG.below hM hB.size).1⟩
theorem CS.obj {b : Nat} (h : CS w0 w p mb N R R' (some b) o) : b < w.heap.size ∧ w.heap[b]? = some o := by
  obtain ⟨⟨M, rv, safe, fl, ph, st, _, _, _, _, _, _, hf⟩, _⟩ := h
  obtain ⟨_, _, _, h4, h5⟩ := hf b rfl
  exact ⟨h4, h5⟩
theorem opened_cs (h : CS w0 w p mb N R R' ob o) (hl : R'.length ≤ 10000) :
    Calls Try.prog 9 #[.pointer (some ⟨p, 0, none⟩), .pointer (some ⟨mb, 0, none⟩), .bool true] w fun e w' => ∃ jb, e = .returned (.tuple #[.pointer (some ⟨jb, 0, none⟩), .bool true]) ∧ JS w0 w' jb p mb N R' ∧ ∀ b, ob = some b → b < w'.heap.size ∧ w'.heap[b]? = some o := by
  obtain ⟨⟨M, rv, safe, fl, ph, st, hm, hM, hmM, hrM, hD, hok, hf⟩, hmb, hr, hB⟩ := h
  refine (opened_any hD hm hB.size hM hmb hmM true hok hl).mono ?_
  rintro e w' ⟨jb, M', rv', he, hJ, hm2, h1, h2, h3, hb, hk⟩
  refine ⟨jb, he, ⟨⟨M', rv', _, false, _, hm2, Nat.le_refl _, h1, h2, h3, .inl ⟨st, hJ, rfl⟩⟩, hmb, hr, hB.trans hb⟩, fun b e => ?_⟩
  obtain ⟨f1, f2, f3, f4, f5⟩ := hf b e
  exact ⟨Nat.lt_of_lt_of_le f4 hk.size, (hk.block b f4 (fun e => f2 e.symm)).trans f5⟩
/-- The disk is not down. -/
def LiveJ (w0 w : World) (jb p mb N : Nat) (R : List (List Int)) : Prop := ∃ M rv safe fl ph, MAt w mb w0.heap.size rv (R.map sJ) safe fl ph ∧ (∀ i, M i → w0.heap.size ≤ i) ∧ ¬ M mb ∧ ∃ s, JLive M w jb p N R s
theorem down_js (h : JS w0 w jb p mb N R) : ∃ b, (Calls Try.prog 13 #[.pointer (some ⟨p, 0, none⟩)] w fun e w' => e = .returned (.bool b) ∧ w = w') ∧ (b = false → LiveJ w0 w jb p mb N R) := by
  obtain ⟨⟨M, rv, safe, fl, ph, hm, hsf, hM, hmM, hrM, hst⟩, hmb, hr, hB⟩ := h
  rcases hst with ⟨st, hJ, rfl⟩ | ⟨X, hJ, hX⟩
  · exact ⟨false, down_live hJ.disk, fun _ => ⟨M, rv, safe, _, ph, hm, hM, hmM, st, hJ⟩⟩
  · exact ⟨true, down_dead hJ, fun e => by cases e⟩
theorem opened_js (h : JS w0 w jb p mb N R) (hlv : LiveJ w0 w jb p mb N R) (hl : R.length ≤ 10000) :
    Calls Try.prog 9 #[.pointer (some ⟨p, 0, none⟩), .pointer (some ⟨mb, 0, none⟩), .bool false] w fun e w' => ∃ jb, e = .returned (.tuple #[.pointer (some ⟨jb, 0, none⟩), .bool true]) ∧ JS w0 w' jb p mb N R := by
  obtain ⟨M, rv, safe, fl, ph, hm, hM, hmM, st, hJ⟩ := hlv
  refine (opened_any hJ.disk hm h.below.size hM h.mb hmM false (.inl ⟨rfl, rfl⟩) hl).mono ?_
  rintro e w' ⟨jb', M', rv', he, hJ, hm2, h1, h2, h3, hb, _⟩
  exact ⟨jb', he, ⟨M', rv', _, false, _, hm2, Nat.le_refl _, h1, h2, h3, .inl ⟨st, hJ, rfl⟩⟩, h.mb, h.recs, h.below.trans hb⟩
end
/-- An operation of a script, and where its numbers lie. -/
structure JOp where
  kind : Int
  data : ByteArray
  n : Int
  kA : Option Addr
  kc : Nat
  keep : List Int
def jopCells (o : JOp) : List Value := [.int .u8 o.kind, .string o.data, .int .i64 o.n, .slice o.kA o.keep.length o.kc]
/-- A script lies in memory. -/
def OpsJ (w : World) (A : Option Addr) (l : List JOp) : Prop := ∀ k x, l[k]? = some x → ∃ b off, A = some ⟨b, off, none⟩ ∧ b < w.heap.size ∧ ∀ j v, (jopCells x)[j]? = some v → w.cell? ⟨b, off + k * 4 + j, none⟩ = some v
theorem OpsJ.at {w : World} {A : Option Addr} {l : List JOp} (h : OpsJ w A l) {k : Nat} {x : JOp} (hx : l[k]? = some x) : ∃ b off, A = some ⟨b, off, none⟩ ∧ b < w.heap.size ∧ w.cell? ⟨b, off + k * 4, none⟩ = some (.int .u8 x.kind) ∧ w.cell? ⟨b, off + k * 4 + 1, none⟩ = some (.string x.data) ∧ w.cell? ⟨b, off + k * 4 + 2, none⟩ = some (.int .i64 x.n) ∧ w.cell? ⟨b, off + k * 4 + 3, none⟩ = some (.slice x.kA x.keep.length x.kc) := by
  obtain ⟨b, off, h1, h2, h3⟩ := h k x hx
  exact ⟨b, off, h1, h2, h3 0 _ rfl, h3 1 _ rfl, h3 2 _ rfl, h3 3 _ rfl⟩
/-- What a script that is light has. -/
def LightJ (l : List JOp) : Prop := l.length ≤ 200 ∧ ∀ x ∈ l, x.data.size ≤ 61000 ∧ x.keep.length ≤ 200
def LightTo (l : List JOp) (w : World) (e : Ending) (w' : World) : Prop := ∃ b, e = .returned (.bool b) ∧ (b = true → LightJ l) ∧ w = w'
theorem light_no (l : List JOp) (w : World) : LightTo l w (.returned (.bool false)) w := ⟨false, rfl, (fun e => by cases e), rfl⟩
theorem light_yes {l : List JOp} (w : World) (h : LightJ l) : LightTo l w (.returned (.bool true)) w := ⟨true, rfl, fun _ => h, rfl⟩
set_option maxRecDepth 100000 in
set_option maxHeartbeats 1000000 in
theorem light_any (A : Option Addr) (c : Nat) (l : List JOp) (hl : l.length ≤ 9223372036854775807) (hd : ∀ x ∈ l, x.data.size ≤ 9223372036854775807 ∧ x.keep.length ≤ 9223372036854775807) (w : World) (h : OpsJ w A l) :
    Calls Try.prog 6 #[.slice A l.length c] w (LightTo l w) := by
  have HH := Lib.hid h
  clear h
  go_enter Try.func6, Try.ntmps6
  go_wp2_with fail
  go_loopw [3, 4] (fun n i wr => ∃ k tot : Nat, k ≤ l.length ∧ k ≤ 201 ∧ tot ≤ 61000 * k ∧ i = .int .i64 k ∧ n = .int .i64 tot ∧ (∀ x ∈ l.take k, x.data.size ≤ 61000 ∧ x.keep.length ≤ 200) ∧ w = wr) (fun _ i _ => l.length - (intOf i).toNat)
  case atStart => exact ⟨0, 0, Nat.zero_le _, by omega, by omega, rfl, rfl, fun x hx => by simp at hx, rfl⟩
  case round =>
    obtain ⟨k, tot, hk, hk2, htot, rfl, rfl, hall, rfl⟩ := hrel
    have HALL := Lib.hid hall
    clear hall
    by_cases hlt : k < l.length ∧ k ≤ 200
    · obtain ⟨hlt, hle⟩ := hlt
      have hki : (k : Int) < (l.length : Int) := by omega
      have hki2 : (k : Int) ≤ 200 := by omega
      obtain ⟨x, hx⟩ : ∃ x, l[k]? = some x := ⟨_, List.getElem?_eq_getElem hlt⟩
      obtain ⟨hd1, hd2⟩ := hd x (List.mem_of_getElem? hx)
      obtain ⟨b, off, rfl, hb, q0, q1, q2, q3⟩ := HH.out.at hx
      have HX := Lib.hid hx
      clear hx
      by_cases s1 : x.data.size ≤ 61000
      · have s1i : ¬ (61000 : Int) < (x.data.size : Int) := by omega
        by_cases s2 : x.keep.length ≤ 200
        · have s2i : ¬ (200 : Int) < (x.keep.length : Int) := by omega
          go_wp2_with fail
          go_roundw
          case rel =>
            refine ⟨k + 1, tot + x.data.size, by omega, by omega, by omega, by go_num, by go_num, fun y hy => ?_, by trivial⟩
            rw [List.take_add_one, HX.out] at hy
            rcases List.mem_append.1 hy with hy | hy
            · exact HALL.out y hy
            · simp at hy
              rw [hy]
              exact ⟨s1, s2⟩
          case measure => simp [intOf]; omega
        · have s2i : (200 : Int) < (x.keep.length : Int) := by omega
          go_wp2_with fail
          go_ret
          exact light_no l w
      · have s1i : (61000 : Int) < (x.data.size : Int) := by omega
        go_wp2_with fail
        go_ret
        exact light_no l w
    · by_cases hk3 : k < l.length
      · have e1 : (k : Int) < (l.length : Int) := by omega
        have e2 : ¬ (k : Int) ≤ 200 := by omega
        have e3 : ¬ (l.length : Int) ≤ 200 := by omega
        go_wp2_with fail
        go_ret
        exact light_no l w
      · have e1 : ¬ (k : Int) < (l.length : Int) := by omega
        by_cases c1 : l.length ≤ 200
        · have e2 : (l.length : Int) ≤ 200 := by omega
          have HL : Hid (LightJ l) := Lib.hid ⟨c1, fun x hx => HALL.out x (by rw [List.take_of_length_le (by omega)]; exact hx)⟩
          by_cases c2 : tot ≤ 200000
          · have e3 : (tot : Int) ≤ 200000 := by omega
            go_wp2_with fail
            go_ret
            exact light_yes w HL.out
          · have e3 : ¬ (tot : Int) ≤ 200000 := by omega
            go_wp2_with fail
            go_ret
            exact light_no l w
        · have e2 : ¬ (l.length : Int) ≤ 200 := by omega
          go_wp2_with fail
          go_ret
          exact light_no l w
end Go.Proofs.Ythieonekjmdelaa
