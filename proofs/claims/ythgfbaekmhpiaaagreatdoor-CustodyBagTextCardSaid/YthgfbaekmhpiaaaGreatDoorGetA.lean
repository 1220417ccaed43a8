/- The contracts of PutBag and GetBag at any bag and any text. Conditions: lengths; the library's table of powers of ten and its two errors lie as the program's text lays them. The contracts of huge, and of the reference's SameTokens and SameBag at equal bags. Conditions: the tokens lie in memory. -/
import Derived.Test.YthgfbaekmhpiaaaGreatDoorAnyA
import Derived.Defers
import Derived.Recover
namespace Go.Proofs.YthgfbaekmhpiaaaGreatDoor
open Go.RowKit Go.Shelf Go.Sort

def bagT : TypeId := 41
theorem getBag_idle (p q : Addr) (w : World) :
    CallsD Tryz.prog 60 #[.pointer (some p), .pointer (some q)] .returning w fun e u' w' => e = .returned (.tuple #[]) ∧ u' = .returning ∧ w' = w := by
  refine callsD_of_wpS Tryz.func60 rfl fun c₀ cs hu => ?_
  apply wpS_seq
  apply wpS_region
  simp [wpOpsS, go_sem, recoverD, hu, Tryz.ntmps60, Exit.thenS]
  refine wpS_cond (t := false) (by simp [Act.eval, Array.replicate]) ?_
  simp only [Bool.false_eq_true, if_false]
  refine wpS_of_wp (wp_skip ?_)
  cases c₀
  simp_all [bodyPostS, results, Tryz.results60]
theorem getBag_catch (p q : Nat) (v0 v1 v2 v3 : Value) (x : Int) (w : World) (hp : Blk w p 41 #[v0, v1, v2, v3]) (hq : Blk w q 24 #[.int .i64 x]) (hne : p ≠ q) :
    CallsD Tryz.prog 60 #[.pointer (some ⟨p, 0, none⟩), .pointer (some ⟨q, 0, none⟩)] (.panicking [badE]) w fun e u' w' =>
      e = .returned (.tuple #[]) ∧ u' = .panicking [{ badE with recovered := true }] ∧ w' = ((((w.setCell ⟨p, 0, none⟩ (.int .i64 0)).setCell ⟨p, 1, none⟩ (.int .i64 0)).setCell ⟨p, 2, none⟩ (.int .i64 0)).setCell ⟨p, 3, none⟩ (.slice none 0 0)).setCell ⟨q, 0, none⟩ (.int .i64 4) := by
  have c0 := hp.cell 0
  have f0 := hp.frozen 0
  have h1 := hp.set 0 (.int .i64 0)
  have c1 := h1.cell 1
  have f1 := h1.frozen 1
  have h2 := h1.set 1 (.int .i64 0)
  have c2 := h2.cell 2
  have f2 := h2.frozen 2
  have h3 := h2.set 2 (.int .i64 0)
  have c3 := h3.cell 3
  have f3 := h3.frozen 3
  have q1 := hq.far (p := ⟨p, 0, none⟩) hne.symm (.int .i64 0)
  have q2 := q1.far (p := ⟨p, 1, none⟩) hne.symm (.int .i64 0)
  have q3 := q2.far (p := ⟨p, 2, none⟩) hne.symm (.int .i64 0)
  have q4 := q3.far (p := ⟨p, 3, none⟩) hne.symm (.slice none 0 0)
  have d0 := q4.cell 0
  have g0 := q4.frozen 0
  simp at c0 c1 c2 c3 d0
  have hbd : ∀ W, (Instr.build 41 #[]).run Tryz.prog W = .ok (.agg #[.int .i64 0, .int .i64 0, .int .i64 0, .slice none 0 0]) W := fun W => by kernel_rfl
  unfold badE
  refine callsD_of_wpS Tryz.func60 rfl fun c₀ cs hu => ?_
  apply wpS_seq
  apply wpS_region
  simp [wpOpsS, go_sem, recoverD, hu, Tryz.ntmps60, Exit.thenS]
  refine wpS_cond (t := true) (by simp [Act.eval, Array.replicate]) ?_
  simp only [if_true]
  apply wpS_region
  simp [wpOpsS, go_sem, hbd, c0, f0, c1, f1, c2, f2, c3, f3, d0, g0, bodyPostS, results, Tryz.results60]
/-- What the stores of a bag and of an error leave. -/
theorem bag_stores {W : World} {p q : Nat} {cs : Array Value} {x : Value} (hp : Blk W p 41 cs) (hcs : cs.size = 4) (hq : Blk W q 24 #[x]) (hne : q ≠ p) (a b c d e : Value) :
    ∃ W5, W5 = ((((W.setCell ⟨p, 0, none⟩ a).setCell ⟨p, 1, none⟩ b).setCell ⟨p, 2, none⟩ c).setCell ⟨p, 3, none⟩ d).setCell ⟨q, 0, none⟩ e ∧ W5.cell? ⟨p, 0, none⟩ = some a ∧ W5.cell? ⟨p, 1, none⟩ = some b ∧ W5.cell? ⟨p, 2, none⟩ = some c ∧ W5.cell? ⟨p, 3, none⟩ = some d ∧ W5.cell? ⟨q, 0, none⟩ = some e ∧ Keeps (fun i => i = p ∨ i = q) W W5 := by
  have h4 := (((((hp.set 0 a).set 1 b).set 2 c).set 3 d).far (p := ⟨q, 0, none⟩) (fun h => hne h.symm) e)
  have h5 := (((((hq.far (p := ⟨p, 0, none⟩) hne a).far (p := ⟨p, 1, none⟩) hne b).far (p := ⟨p, 2, none⟩) hne c).far (p := ⟨p, 3, none⟩) hne d).set 0 e)
  obtain ⟨l⟩ := cs
  match l, hcs with
  | [c0, c1, c2, c3], _ =>
    have y0 := h4.cell 0
    have y1 := h4.cell 1
    have y2 := h4.cell 2
    have y3 := h4.cell 3
    have z0 := h5.cell 0
    simp at y0 y1 y2 y3 z0
    refine ⟨_, rfl, y0, y1, y2, y3, z0, ?_⟩
    exact (((((Keeps.refl (fun i => i = p ∨ i = q) W).setCell (p := ⟨p, 0, none⟩) (fun _ => .inl rfl) _).setCell (p := ⟨p, 1, none⟩) (fun _ => .inl rfl) _).setCell (p := ⟨p, 2, none⟩) (fun _ => .inl rfl) _).setCell (p := ⟨p, 3, none⟩) (fun _ => .inl rfl) _).setCell (p := ⟨q, 0, none⟩) (fun _ => .inr rfl) _
/-- A valid bag with its tokens. -/
def GoodBag (s d q : Int) (L : List Tok) : Prop := isBagB ⟨s, d, q, .slice none 0 0⟩ L = true
/-- The text of a bag. -/
def bagText (s d q : Int) (L : List Tok) : ByteArray := ba (msgL bagW.data.toList ⟨s, d, q, .slice none 0 0⟩ L)
/-- What readMessage does, as far as GetBag asks. -/
def RdOr (w : World) (m : ByteArray) (e : Ending) (w' : World) : Prop :=
  ((∃ (s d q : Int) (V : Value) (L : List Tok), e = .returned (msgVal bagW ⟨s, d, q, V⟩) ∧ TokOwn w' w.heap.size V L ∧ GoodBag s d q L ∧ bagText s d q L = m) ∨
    ((∃ (wd : ByteArray) (s d q : Int) (A : Option Addr) (n c : Nat), e = .returned (msgVal wd ⟨s, d, q, .slice A n c⟩) ∧ wd ≠ bagW) ∧ ∀ s d q L, GoodBag s d q L → bagText s d q L ≠ m) ∨
    (e = .panicked [badE] ∧ ∀ s d q L, GoodBag s d q L → bagText s d q L ≠ m)) ∧ Below w.heap.size w w'
theorem goodBag_valid {s d q : Int} {L : List Tok} (h : GoodBag s d q L) : validB (ba bagW.data.toList) ⟨s, d, q, .slice none 0 0⟩ L = true := by
  rw [ba_eta]
  unfold validB
  rw [if_pos rfl]
  exact h
theorem readMessage_bag (m : ByteArray) (w : World) (hP : PowAt w) (hE : ErrsAt w) (hm : m.size ≤ 1000000000) :
    Calls Tryz.prog 61 #[.string m] w (RdOr w m) := by
  by_cases hx : ∃ s d q L, GoodBag s d q L ∧ bagText s d q L = m
  · obtain ⟨s, d, q, L, hg, ht⟩ := hx
    obtain ⟨hw, hl, hL⟩ := bag_facts hg
    have hf := way_facts hw
    have hv := goodBag_valid hg
    obtain ⟨_, _, _, hl8, hfl⟩ := valid_facts hv
    subst ht
    refine (readMessage_ok bagW.data.toList s d q L w hP (by decide) (by dsimp only at hf; omega) (by dsimp only at hf; omega) (by dsimp only at hf; omega) (fun t ht => by have := (hL t ht).1; omega) hv (by decide) (by omega) (Nat.le_trans hfl (by decide))).mono ?_
    rintro e w' ⟨V, rfl, hT, hb⟩
    exact ⟨.inl ⟨s, d, q, V, L, by rw [ba_eta], hT, hg, rfl⟩, hb⟩
  · have hno : ∀ s d q L, GoodBag s d q L → bagText s d q L ≠ m := fun s d q L h1 h2 => hx ⟨s, d, q, L, h1, h2⟩
    refine (readMessage_or m w hP hE hm).mono ?_
    rintro e w' ⟨⟨wd, s, d, q, V, L, rfl, hT, hv, ht⟩ | rfl, hb⟩
    · obtain ⟨A, c, hV, _⟩ := hT.at_
      refine ⟨.inr (.inl ⟨⟨wd, s, d, q, A, L.length, c, by rw [hV], fun e => ?_⟩, hno⟩), hb⟩
      subst e
      refine hno s d q L ?_ ht
      unfold validB at hv
      rw [if_pos rfl] at hv
      exact hv
    · exact ⟨.inr (.inr ⟨rfl, hno⟩), hb⟩
/-- What GetBag returns. -/
def GetOr (w : World) (m : ByteArray) (e : Ending) (w' : World) : Prop :=
  ((∃ (s d q : Int) (V : Value) (L : List Tok), e = .returned (.tuple #[bagVal ⟨s, d, q, V⟩, .int .i64 0]) ∧ TokOwn w' w.heap.size V L ∧ GoodBag s d q L ∧ bagText s d q L = m) ∨
    (e = .returned (.tuple #[bagVal ⟨0, 0, 0, .slice none 0 0⟩, .int .i64 4]) ∧ ∀ s d q L, GoodBag s d q L → bagText s d q L ≠ m)) ∧ Below w.heap.size w w'
set_option maxRecDepth 100000 in
set_option maxHeartbeats 4000000 in
theorem getBag_any (m : ByteArray) (w : World) (hP : PowAt w) (hE : ErrsAt w) (hm : m.size ≤ 1000000000) :
    Calls Tryz.prog 22 #[.string m] w (GetOr w m) := by
  have hmf : ∀ (fn : Fn) (first cap : Array Value) (w : World), (Instr.makeFunc fn first cap).run Tryz.prog w = .ok (.func fn first cap) w := fun _ _ _ _ => rfl
  have HR := Lib.hid (fun W (hW : Below w.heap.size w W) => readMessage_bag m W (hP.up hW) (hE.below hW) hm)
  have HB1 := Lib.hid (((Below.refl _ w).alloc (Nat.le_refl _) (.cells #[.int .i64 0, .int .i64 0, .int .i64 0, .slice none 0 0] 41)).alloc (by simp) (.cells #[.int .i64 0] 24))
  have hC0 := (Blk.new w 41 #[.int .i64 0, .int .i64 0, .int .i64 0, .slice none 0 0]).alloc (.cells #[.int .i64 0] 24)
  have hE0 : Blk ((w.alloc (.cells #[.int .i64 0, .int .i64 0, .int .i64 0, .slice none 0 0] 41)).alloc (.cells #[.int .i64 0] 24)) (w.heap.size + 1) 24 #[.int .i64 0] := by
    have := Blk.new (w.alloc (.cells #[.int .i64 0, .int .i64 0, .int .i64 0, .slice none 0 0] 41)) 24 #[.int .i64 0]
    simpa using this
  clear hP hE hm
  go_enter_defers Tryz.func22, Tryz.ntmps22
  go_wp2_with fail
  generalize (w.alloc _).alloc _ = w1 at HB1 hC0 hE0 ⊢
  have hS0 := hE0.lt
  have hS1 : w.heap.size ≤ w1.heap.size := HB1.out.size
  refine (HR.out w1 HB1.out).mono ?_
  rintro e w2 ⟨h3, hb2⟩
  have hC2 := hC0.below hb2 hC0.lt
  have hE2 := hE0.below hb2 hE0.lt
  have HB2 := Lib.hid (HB1.out.trans (hb2.mono HB1.out.size))
  have hzc := hC0.lt
  have hze := hE0.lt
  clear hC0 hE0 HR HB1 hb2
  rcases h3 with ⟨s, d, q, V, L, rfl, hT, hg, ht⟩ | ⟨⟨wd, s, d, q, A, n, c, rfl, hne⟩, hno⟩ | ⟨rfl, hno⟩
  · obtain ⟨A, c, hV, _⟩ := hT.at_
    subst hV
    have HT := Lib.hid hT
    have HG := Lib.hid hg
    have HTX := Lib.hid ht
    unfold msgVal
    simp only [bagW]
    have hX3 := Blk.new w2 109 #[.string ⟨#[98, 97, 103]⟩, .int .i64 s, .int .i64 d, .int .i64 q, .slice A L.length c]
    have hal : Below w2.heap.size w2 (w2.alloc (.cells #[.string ⟨#[98, 97, 103]⟩, .int .i64 s, .int .i64 d, .int .i64 q, .slice A L.length c] 109)) := (Below.refl _ _).alloc (Nat.le_refl _) _
    have HC3 := Lib.hid (hC2.below hal hC2.lt)
    have HE3 := Lib.hid (hE2.below hal hE2.lt)
    have HB3 := Lib.hid (HB2.out.trans (hal.mono HB2.out.size))
    have HT3 := Lib.hid (HT.out.below hal)
    have HX3 := Lib.hid hX3
    have hXZ : w.heap.size + 1 < w2.heap.size := hE2.lt
    clear hT hg ht hX3 hal hC2 hE2 HB2
    go_upto_region 3 with fail
    obtain ⟨X, hX⟩ : ∃ X, X = w2.heap.size := ⟨_, rfl⟩
    rw [← hX] at HX3 ⊢
    rw [← hX] at hXZ
    clear hX HT
    generalize w2.alloc _ = w3 at HC3 HE3 HB3 HT3 HX3 ⊢
    have x0 := HX3.out.cell 0
    have x1 := HX3.out.cell 1
    have x2 := HX3.out.cell 2
    have x3 := HX3.out.cell 3
    have x4 := HX3.out.cell 4
    have xz := HX3.out.lt
    have c0 := HC3.out.cell 0
    have c1 := HC3.out.cell 1
    have c2 := HC3.out.cell 2
    have c3 := HC3.out.cell 3
    have f0 := HC3.out.frozen 0
    have f1 := HC3.out.frozen 1
    have f2 := HC3.out.frozen 2
    have f3 := HC3.out.frozen 3
    have cz := HC3.out.lt
    have e0 := HE3.out.cell 0
    have ef := HE3.out.frozen 0
    have ez := HE3.out.lt
    simp at x0 x1 x2 x3 x4 c0 c1 c2 c3 e0
    obtain ⟨W5, hW5, y0, y1, y2, y3, z0, hK⟩ := bag_stores HC3.out rfl HE3.out (by omega) (.int .i64 s) (.int .i64 d) (.int .i64 q) (.slice A L.length c) (.int .i64 0)
    have hT5 : TokOwn W5 w1.heap.size (.slice A L.length c) L := HT3.out.keep hK (fun i hi e => by
      have h1 := (World.ownsRow.lt HT3.out i hi).1
      omega)
    have HT5 : Hid (TokOwn W5 w.heap.size (.slice A L.length c) L) := Lib.hid (Go.Joins.ownsRow_le hT5 hS1)
    clear hT5
    have HB5 := Lib.hid (HB3.out.trans (hK.below (B := w.heap.size) (fun k hk e => by omega) HB3.out.size))
    have HW5 := Lib.hid hW5
    clear hW5 hK
    go_wp2_with fail
    rw [← HW5.out]
    refine leaves_cons (f := 60) (args := #[.pointer (some ⟨w.heap.size, 0, none⟩), .pointer (some ⟨w.heap.size + 1, 0, none⟩)]) (by simp) (by simp [go_sem]) ?_
    refine (getBag_idle ⟨w.heap.size, 0, none⟩ ⟨w.heap.size + 1, 0, none⟩ _).mono ?_
    rintro e u' w'' ⟨rfl, rfl, rfl⟩
    refine ⟨.tuple #[bagVal ⟨s, d, q, .slice A L.length c⟩, .int .i64 0], ?_, .inl ⟨s, d, q, _, L, rfl, HT5.out, HG.out, HTX.out⟩, HB5.out⟩
    simp [results, Tryz.results22, go_sem, y0, y1, y2, y3, z0, bagVal]
  · have HN := Lib.hid hno
    unfold msgVal
    dsimp only
    have hX3 := Blk.new w2 109 #[.string wd, .int .i64 s, .int .i64 d, .int .i64 q, .slice A n c]
    have hal : Below w2.heap.size w2 (w2.alloc (.cells #[.string wd, .int .i64 s, .int .i64 d, .int .i64 q, .slice A n c] 109)) := (Below.refl _ _).alloc (Nat.le_refl _) _
    have HC3 := Lib.hid (hC2.below hal hC2.lt)
    have HE3 := Lib.hid (hE2.below hal hE2.lt)
    have HB3 := Lib.hid (HB2.out.trans (hal.mono HB2.out.size))
    have HX3 := Lib.hid hX3
    have hw := ne_lit (l := [98, 97, 103]) hne
    clear hno hX3 hal hC2 hE2 HB2 hne
    go_upto_region 3 with fail
    obtain ⟨X, hX⟩ : ∃ X, X = w2.heap.size := ⟨_, rfl⟩
    rw [← hX] at HX3 ⊢
    clear hX
    generalize w2.alloc _ = w3 at HC3 HE3 HB3 HX3 ⊢
    have x0 := HX3.out.cell 0
    have x1 := HX3.out.cell 1
    have x2 := HX3.out.cell 2
    have x3 := HX3.out.cell 3
    have x4 := HX3.out.cell 4
    have xz := HX3.out.lt
    have c0 := HC3.out.cell 0
    have c1 := HC3.out.cell 1
    have c2 := HC3.out.cell 2
    have c3 := HC3.out.cell 3
    have f0 := HC3.out.frozen 0
    have f1 := HC3.out.frozen 1
    have f2 := HC3.out.frozen 2
    have f3 := HC3.out.frozen 3
    have cz := HC3.out.lt
    have e0 := HE3.out.cell 0
    have ef := HE3.out.frozen 0
    have ez := HE3.out.lt
    simp at x0 x1 x2 x3 x4 c0 c1 c2 c3 e0
    obtain ⟨W5, hW5, y0, y1, y2, y3, z0, hK⟩ := bag_stores HC3.out rfl HE3.out (by omega) (.int .i64 0) (.int .i64 0) (.int .i64 0) (.slice none 0 0) (.int .i64 4)
    have HB5 := Lib.hid (HB3.out.trans (hK.below (B := w.heap.size) (fun k hk e => by omega) HB3.out.size))
    have HW5 := Lib.hid hW5
    clear hW5 hK
    go_wp2_with fail
    rw [← HW5.out]
    refine leaves_cons (f := 60) (args := #[.pointer (some ⟨w.heap.size, 0, none⟩), .pointer (some ⟨w.heap.size + 1, 0, none⟩)]) (by simp) (by simp [go_sem]) ?_
    refine (getBag_idle ⟨w.heap.size, 0, none⟩ ⟨w.heap.size + 1, 0, none⟩ _).mono ?_
    rintro e u' w'' ⟨rfl, rfl, rfl⟩
    refine ⟨.tuple #[bagVal ⟨0, 0, 0, .slice none 0 0⟩, .int .i64 4], ?_, .inr ⟨rfl, HN.out⟩, HB5.out⟩
    simp [results, Tryz.results22, go_sem, y0, y1, y2, y3, z0, bagVal]
  · have HN := Lib.hid hno
    clear hno
    go_wp2_with fail
    refine leaves_cons (f := 60) (args := #[.pointer (some ⟨w.heap.size, 0, none⟩), .pointer (some ⟨w.heap.size + 1, 0, none⟩)]) (by simp) (by simp [go_sem]) ?_
    refine (getBag_catch w.heap.size (w.heap.size + 1) _ _ _ _ 0 w2 hC2 hE2 (by omega)).mono ?_
    rintro e u' w'' ⟨rfl, rfl, hw''⟩
    obtain ⟨W5, hW5, y0, y1, y2, y3, z0, hK⟩ := bag_stores hC2 rfl hE2 (by omega) (.int .i64 0) (.int .i64 0) (.int .i64 0) (.slice none 0 0) (.int .i64 4)
    rw [← hW5] at hw''
    subst hw''
    have HB5 := Lib.hid (HB2.out.trans (hK.below (B := w.heap.size) (fun k hk e => by omega) HB2.out.size))
    clear hW5 hK
    simp [Leaves, settle, results, Tryz.results22, go_sem, y0, y1, y2, y3, z0]
    exact ⟨.inr ⟨rfl, HN.out⟩, HB5.out⟩
end Go.Proofs.YthgfbaekmhpiaaaGreatDoor
namespace Go.Proofs.YthgfbaekmhpiaaaGreatDoor
open Go.RowKit Go.Shelf Go.Sort

def bigTok (t : Tok) : Bool := decide (10000 < t.body.size)
def hugeB (L : List Tok) : Bool := decide (20 < L.length) || L.any bigTok
set_option maxRecDepth 100000 in
set_option maxHeartbeats 1000000 in
theorem huge_any (b : BagV) (L : List Tok) (w : World) (hT : TokAt w b.toks L) (hl : L.length ≤ 9223372036854775807) :
    Calls Tryz.prog 19 #[bagVal b] w fun e w' => e = .returned (.bool (hugeB L)) ∧ Below w.heap.size w w' := by
  obtain ⟨s, d, q, V⟩ := b
  dsimp only at hT
  obtain ⟨A, c, rfl, hlc, hL⟩ := hT
  have HT : Hid (TokAt w (.slice A L.length c) L) := Lib.hid ⟨A, c, rfl, hlc, hL⟩
  unfold bagVal
  dsimp only
  have HX := Lib.hid (Blk.new w 41 #[.int .i64 s, .int .i64 d, .int .i64 q, .slice A L.length c])
  have HB := Lib.hid ((Below.refl _ w).alloc (Nat.le_refl _) (.cells #[.int .i64 s, .int .i64 d, .int .i64 q, .slice A L.length c] 41))
  clear hL hlc
  go_enter Tryz.func19, Tryz.ntmps19
  go_upto_region 1 with fail
  generalize w.alloc _ = W at HX HB ⊢
  have x3 := HX.out.cell 3
  have xz := HX.out.lt
  simp at x3
  have HTW := Lib.hid (HT.out.below HB.out)
  by_cases h20 : 20 < L.length
  · have h20i : (20 : Int) < (L.length : Int) := by omega
    have HH : Hid (hugeB L = true) := Lib.hid (by unfold hugeB; rw [decide_eq_true h20]; rfl)
    clear h20
    go_wp2_with fail
    go_ret
    exact ⟨by rw [HH.out]; rfl, HB.out⟩
  · have h20i : ¬ (20 : Int) < (L.length : Int) := by omega
    go_wp2_with fail
    go_loopw [3] (fun i wr => ∃ k : Nat, k ≤ L.length ∧ i = .int .i64 (k : Int) ∧ wr = W ∧ (L.take k).any bigTok = false) (fun i _ => L.length - (intOf i).toNat)
    case atStart => exact ⟨0, Nat.zero_le _, rfl, rfl, rfl⟩
    case round =>
      obtain ⟨k, hk, rfl, rfl, hall⟩ := hrel
      have HA := Lib.hid hall
      clear hall
      by_cases hlt : k < L.length
      · obtain ⟨t, ht⟩ : ∃ t, L[k]? = some t := ⟨_, List.getElem?_eq_getElem hlt⟩
        obtain ⟨g, o, rfl, hg, c0, c1⟩ := HTW.out.cells ht
        have HM := Lib.hid (List.mem_of_getElem? ht)
        have HTK : Hid ((L.take (k + 1)).any bigTok = ((L.take k).any bigTok || bigTok t)) := Lib.hid (by rw [List.take_add_one, ht, List.any_append]; simp)
        have hki : (k : Int) < (L.length : Int) := by omega
        have HLT := Lib.hid hlt
        clear ht hlt
        by_cases hb : (10000 : Int) < (t.body.size : Int)
        · have HH : Hid (hugeB L = true) := Lib.hid (by
            unfold hugeB
            rw [Bool.or_eq_true]
            right
            rw [List.any_eq_true]
            exact ⟨t, HM.out, by unfold bigTok; rw [decide_eq_true (by omega)]⟩)
          go_wp2_with fail
          go_ret
          exact ⟨by rw [HH.out]; rfl, HB.out⟩
        · have HH : Hid (bigTok t = false) := Lib.hid (by unfold bigTok; rw [decide_eq_false (by omega)])
          go_wp2_with fail
          go_roundw
          case rel => exact ⟨k + 1, by have := HLT.out; omega, by go_num, trivial, by rw [HTK.out, HA.out, HH.out]; rfl⟩
          case measure => exact meas_up _ _ HLT.out
      · have hki : ¬ (k : Int) < (L.length : Int) := by omega
        have HH : Hid (hugeB L = false) := Lib.hid (by
          have h1 := HA.out
          rw [List.take_of_length_le (by omega)] at h1
          unfold hugeB
          rw [h1, decide_eq_false h20]
          rfl)
        clear hlt
        go_wp2_with fail
        go_ret
        exact ⟨by rw [HH.out]; rfl, HB.out⟩
set_option maxRecDepth 100000 in
set_option maxHeartbeats 1000000 in
theorem sameToks_eq (L : List Tok) (u v : Value) (w : World) (hu : TokAt w u L) (hv : TokAt w v L) (hl : L.length ≤ 9223372036854775807) :
    Calls Tryz.prog 63 #[u, v] w fun e w' => e = .returned (.bool true) ∧ Below w.heap.size w w' := by
  have HU := Lib.hid hu
  have HV := Lib.hid hv
  obtain ⟨A, c, rfl, _, _⟩ := hu
  obtain ⟨A', c', rfl, _, _⟩ := hv
  go_enter Tryz.func63, Tryz.ntmps63
  go_wp2_with fail
  go_loopw [5] (fun i wr => ∃ k : Nat, k ≤ L.length ∧ i = .int .i64 (k : Int) ∧ Below w.heap.size w wr) (fun i _ => L.length - (intOf i).toNat)
  case atStart => exact ⟨0, Nat.zero_le _, rfl, Below.refl _ _⟩
  case round =>
    obtain ⟨k, hk, rfl, hb⟩ := hrel
    have HB := Lib.hid hb
    clear hb
    by_cases hlt : k < L.length
    · obtain ⟨t, ht⟩ : ∃ t, L[k]? = some t := ⟨_, List.getElem?_eq_getElem hlt⟩
      obtain ⟨g, o, rfl, hg, c0, c1⟩ := (HU.out.below HB.out).cells ht
      obtain ⟨g', o', rfl, hg', c0', c1'⟩ := (HV.out.below HB.out).cells ht
      have hki : (k : Int) < (L.length : Int) := by omega
      have HLT := Lib.hid hlt
      obtain ⟨ti, tb⟩ := t
      dsimp only at c0 c1 c0' c1'
      clear ht hlt
      go_wp2_with fail
      go_quiet (fail)
      go_wp2_with fail
      go_roundw
      case rel => exact ⟨k + 1, by have := HLT.out; omega, by go_num, below_dr HB.out _⟩
      case measure => exact meas_up _ _ HLT.out
    · have hki : ¬ (k : Int) < (L.length : Int) := by omega
      go_wp2_with fail
      go_ret
      exact ⟨rfl, HB.out⟩
set_option maxRecDepth 100000 in
set_option maxHeartbeats 1000000 in
theorem sameBag_eq (s d q : Int) (L : List Tok) (u v : Value) (w : World) (hu : TokAt w u L) (hv : TokAt w v L) (hl : L.length ≤ 9223372036854775807) :
    Calls Tryz.prog 24 #[bagVal ⟨s, d, q, u⟩, bagVal ⟨s, d, q, v⟩] w fun e w' => e = .returned (.bool true) ∧ Below w.heap.size w w' := by
  have HS := Lib.hid (fun W (hW : Below w.heap.size w W) => sameToks_eq L u v W (hu.below hW) (hv.below hW) hl)
  obtain ⟨A, c, rfl, _, _⟩ := hu
  obtain ⟨A', c', rfl, _, _⟩ := hv
  have HX := Lib.hid ((Blk.new w 41 #[.int .i64 s, .int .i64 d, .int .i64 q, .slice A L.length c]).alloc (.cells #[.int .i64 s, .int .i64 d, .int .i64 q, .slice A' L.length c'] 41))
  have HY : Hid (Blk ((w.alloc (.cells #[.int .i64 s, .int .i64 d, .int .i64 q, .slice A L.length c] 41)).alloc (.cells #[.int .i64 s, .int .i64 d, .int .i64 q, .slice A' L.length c'] 41)) (w.heap.size + 1) 41 #[.int .i64 s, .int .i64 d, .int .i64 q, .slice A' L.length c']) := Lib.hid (by
    have := Blk.new (w.alloc (.cells #[.int .i64 s, .int .i64 d, .int .i64 q, .slice A L.length c] 41)) 41 #[.int .i64 s, .int .i64 d, .int .i64 q, .slice A' L.length c']
    rwa [World.size_alloc] at this)
  have HB := Lib.hid (((Below.refl _ w).alloc (Nat.le_refl _) (.cells #[.int .i64 s, .int .i64 d, .int .i64 q, .slice A L.length c] 41)).alloc (by simp) (.cells #[.int .i64 s, .int .i64 d, .int .i64 q, .slice A' L.length c'] 41))
  unfold bagVal
  dsimp only
  go_enter Tryz.func24, Tryz.ntmps24
  go_upto_region 1 with fail
  generalize (w.alloc _).alloc _ = W at HX HY HB ⊢
  have x0 := HX.out.cell 0
  have x1 := HX.out.cell 1
  have x2 := HX.out.cell 2
  have x3 := HX.out.cell 3
  have xz := HX.out.lt
  have y0 := HY.out.cell 0
  have y1 := HY.out.cell 1
  have y2 := HY.out.cell 2
  have y3 := HY.out.cell 3
  have yz := HY.out.lt
  simp at x0 x1 x2 x3 y0 y1 y2 y3
  go_wp2_with fail
  refine (HS.out W HB.out).mono ?_
  rintro e w2 ⟨rfl, hb⟩
  have HBE := Lib.hid (HB.out.trans (hb.mono HB.out.size))
  clear hb
  go_wp2_with fail
  go_ret
  exact ⟨rfl, HBE.out⟩
/-- What PutBag returns. -/
def putTx (b : BagV) (L : List Tok) : ByteArray := if isBagB b L = true then bagText b.src b.dst b.seq L else ⟨#[]⟩
def putE (b : BagV) (L : List Tok) : Int := if isBagB b L = true then 0 else 1
set_option maxRecDepth 100000 in
set_option maxHeartbeats 1000000 in
theorem putBag_any (b : BagV) (L : List Tok) (w : World) (hT : TokAt w b.toks L) (hP : PowAt w) (hl : L.length ≤ 9223372036854775807) :
    Calls Tryz.prog 20 #[bagVal b] w fun e w' => e = .returned (.tuple #[.string (putTx b L), .int .i64 (putE b L)]) ∧ Below w.heap.size w w' := by
  have HI := Lib.hid (fun W (hW : Below w.heap.size w W) => isBag_any b L W (hT.below hW) (by omega))
  obtain ⟨s, d, q, V⟩ := b
  dsimp only at hT
  have HT := Lib.hid hT
  have HP := Lib.hid hP
  obtain ⟨A, c, rfl, hlc, hL⟩ := hT
  have HX := Lib.hid (Blk.new w 41 #[.int .i64 s, .int .i64 d, .int .i64 q, .slice A L.length c])
  have HB := Lib.hid ((Below.refl _ w).alloc (Nat.le_refl _) (.cells #[.int .i64 s, .int .i64 d, .int .i64 q, .slice A L.length c] 41))
  clear hL hlc hP
  rcases hv : isBagB ⟨s, d, q, .slice A L.length c⟩ L with _ | _
  · rw [hv] at HI
    rw [show putTx ⟨s, d, q, .slice A L.length c⟩ L = ⟨#[]⟩ by unfold putTx; rw [if_neg (by rw [hv]; decide)], show putE ⟨s, d, q, .slice A L.length c⟩ L = 1 by unfold putE; rw [if_neg (by rw [hv]; decide)]]
    unfold bagVal at HI ⊢
    dsimp only at HI ⊢
    clear hv
    go_enter Tryz.func20, Tryz.ntmps20
    go_upto_region 1 with fail
    generalize w.alloc _ = W at HX HB ⊢
    have x0 := HX.out.cell 0
    have x1 := HX.out.cell 1
    have x2 := HX.out.cell 2
    have x3 := HX.out.cell 3
    have xz := HX.out.lt
    simp at x0 x1 x2 x3
    go_wp2_with fail
    refine (HI.out W HB.out).mono ?_
    rintro e w2 ⟨rfl, hb⟩
    have HBE := Lib.hid (HB.out.trans (hb.mono HB.out.size))
    clear hb
    go_wp2_with fail
    go_ret2
    exact ⟨rfl, HBE.out⟩
  · have hg : GoodBag s d q L := hv
    obtain ⟨hf1, hf2, hf3, hf4, hf5⟩ := valid_facts (goodBag_valid hg)
    have HMT := Lib.hid (fun W (hW : Below w.heap.size w W) => msgText_any bagW ⟨s, d, q, .slice A L.length c⟩ L W (HT.out.below hW) (HP.out.up hW) hf2 hf3 (by decide) (by omega) (Nat.le_trans hf5 (by decide)))
    rw [show ba (msgL bagW.data.toList ⟨s, d, q, .slice A L.length c⟩ L) = bagText s d q L from rfl] at HMT
    rw [show putTx ⟨s, d, q, .slice A L.length c⟩ L = bagText s d q L by unfold putTx; rw [if_pos hv], show putE ⟨s, d, q, .slice A L.length c⟩ L = 0 by unfold putE; rw [if_pos hv]]
    rw [hv] at HI
    unfold bagVal at HI ⊢
    unfold msgVal at HMT
    dsimp only at HI HMT ⊢
    simp only [bagW] at HMT
    generalize bagText s d q L = tx at HMT ⊢
    clear hv hg hf1 hf2 hf3 hf4 hf5
    go_enter Tryz.func20, Tryz.ntmps20
    go_upto_region 1 with fail
    generalize w.alloc _ = W at HX HB ⊢
    have x0 := HX.out.cell 0
    have x1 := HX.out.cell 1
    have x2 := HX.out.cell 2
    have x3 := HX.out.cell 3
    have xz := HX.out.lt
    simp at x0 x1 x2 x3
    go_wp2_with fail
    refine (HI.out W HB.out).mono ?_
    rintro e w2 ⟨rfl, hb⟩
    have HX2 := Lib.hid (HX.out.below hb HX.out.lt)
    have HB2 := Lib.hid (HB.out.trans (hb.mono HB.out.size))
    clear hb x0 x1 x2 x3 xz
    have x0 := HX2.out.cell 0
    have x1 := HX2.out.cell 1
    have x2 := HX2.out.cell 2
    have x3 := HX2.out.cell 3
    have xz := HX2.out.lt
    simp at x0 x1 x2 x3
    go_wp2_with fail
    refine (HMT.out w2 HB2.out).mono ?_
    rintro e w3 ⟨rfl, hb⟩
    have HBE := Lib.hid (HB2.out.trans (hb.mono HB2.out.size))
    clear hb
    go_wp2_with fail
    go_ret2
    exact ⟨rfl, HBE.out⟩
end Go.Proofs.YthgfbaekmhpiaaaGreatDoor
