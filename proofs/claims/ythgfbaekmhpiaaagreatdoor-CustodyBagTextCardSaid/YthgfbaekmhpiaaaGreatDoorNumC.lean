/- The contract of the reference's GetBag at any text. Conditions: its length. The contract of the reference's GetBag at any text: the walk. Conditions: its length. -/
import Derived.Test.YthgfbaekmhpiaaaGreatDoorNumB
namespace Go.Proofs.YthgfbaekmhpiaaaGreatDoor
open Go.RowKit Go.Shelf Go.Sort

/-- The variables of the reference's GetBag: its result, its reader, its bag. -/
structure RG (w wr : World) (p X : Nat) (m : ByteArray) (a : Nat) (bad : Bool) (f t q : Int) (V : Value) (T : List Tok) : Prop where
  kB : Below w.heap.size w wr
  kR : Blk wr w.heap.size 41 #[.int .i64 0, .int .i64 0, .int .i64 0, .slice none 0 0]
  kC : CutN wr p m a bad
  kX : Blk wr X 41 #[.int .i64 f, .int .i64 t, .int .i64 q, V]
  kO : TokOwn wr w.heap.size V T
  r1 : w.heap.size ≠ p
  r2 : w.heap.size ≠ X
  r3 : p ≠ X
  r4 : w.heap.size ≤ p
  r5 : w.heap.size ≤ X
theorem RG.below {w wr w' : World} {p X : Nat} {m : ByteArray} {a : Nat} {bad : Bool} {f t q : Int} {V : Value} {T : List Tok} (h : RG w wr p X m a bad f t q V T) (hb : Below wr.heap.size wr w') : RG w w' p X m a bad f t q V T :=
  ⟨h.kB.trans (hb.mono h.kB.size), h.kR.below hb h.kR.lt, Blk.below h.kC hb (Blk.lt h.kC), h.kX.below hb h.kX.lt, h.kO.below hb, h.r1, h.r2, h.r3, h.r4, h.r5⟩
theorem RG.num {w wr w' : World} {p X : Nat} {m : ByteArray} {a a' : Nat} {bad bad' : Bool} {f t q : Int} {V : Value} {T : List Tok} (h : RG w wr p X m a bad f t q V T) (hC : CutN w' p m a' bad') (hK : Keeps (fun i => i = p) wr w') : RG w w' p X m a' bad' f t q V T :=
  ⟨h.kB.trans (hK.below (B := w.heap.size) (fun k hk e => by have := h.r4; have := h.r1; omega) h.kB.size), h.kR.keep hK h.r1, hC, h.kX.keep hK (fun e => h.r3 e.symm), h.kO.keep hK (fun i hi e => by subst e; exact row_ne h.kO h.kC (by decide) hi), h.r1, h.r2, h.r3, h.r4, h.r5⟩
theorem RG.upX {w wr w' : World} {p X : Nat} {m : ByteArray} {a : Nat} {bad : Bool} {f t q f' t' q' : Int} {V V' : Value} {T T' : List Tok} (h : RG w wr p X m a bad f t q V T) (hK : Keeps (fun i => i = X) wr w') (hX : Blk w' X 41 #[.int .i64 f', .int .i64 t', .int .i64 q', V']) (hO : TokOwn w' w.heap.size V' T') : RG w w' p X m a bad f' t' q' V' T' :=
  ⟨h.kB.trans (hK.below (B := w.heap.size) (fun k hk e => by have := h.r5; have := h.r2; omega) h.kB.size), h.kR.keep hK h.r2, Blk.keep h.kC hK h.r3, hX, hO, h.r1, h.r2, h.r3, h.r4, h.r5⟩
theorem RG.ownX {w wr w' : World} {p X : Nat} {m : ByteArray} {a : Nat} {bad : Bool} {f t q : Int} {V : Value} {T : List Tok} (h : RG w wr p X m a bad f t q V T) (hK : Keeps (fun i => i = X) wr w') : TokOwn w' w.heap.size V T :=
  h.kO.keep hK (fun i hi e => by subst e; exact row_ne h.kO h.kX (by decide) hi)
theorem RG.set0 {w wr : World} {p X : Nat} {m : ByteArray} {a : Nat} {bad : Bool} {f t q : Int} {V : Value} {T : List Tok} (h : RG w wr p X m a bad f t q V T) (x : Int) : RG w (wr.setCell ⟨X, 0, none⟩ (.int .i64 x)) p X m a bad x t q V T :=
  have hK := (Keeps.refl (fun i => i = X) wr).setCell (p := ⟨X, 0, none⟩) (fun _ => rfl) (.int .i64 x)
  h.upX hK (h.kX.set 0 (.int .i64 x)) (h.ownX hK)
theorem RG.set1 {w wr : World} {p X : Nat} {m : ByteArray} {a : Nat} {bad : Bool} {f t q : Int} {V : Value} {T : List Tok} (h : RG w wr p X m a bad f t q V T) (x : Int) : RG w (wr.setCell ⟨X, 1, none⟩ (.int .i64 x)) p X m a bad f x q V T :=
  have hK := (Keeps.refl (fun i => i = X) wr).setCell (p := ⟨X, 1, none⟩) (fun _ => rfl) (.int .i64 x)
  h.upX hK (h.kX.set 1 (.int .i64 x)) (h.ownX hK)
theorem RG.set2 {w wr : World} {p X : Nat} {m : ByteArray} {a : Nat} {bad : Bool} {f t q : Int} {V : Value} {T : List Tok} (h : RG w wr p X m a bad f t q V T) (x : Int) : RG w (wr.setCell ⟨X, 2, none⟩ (.int .i64 x)) p X m a bad f t x V T :=
  have hK := (Keeps.refl (fun i => i = X) wr).setCell (p := ⟨X, 2, none⟩) (fun _ => rfl) (.int .i64 x)
  h.upX hK (h.kX.set 2 (.int .i64 x)) (h.ownX hK)
def lenX (w : World) (X : Nat) : Nat := match w.cell? ⟨X, 3, none⟩ with | some (.slice _ n _) => n | _ => 0
theorem RG.lenX {w wr : World} {p X : Nat} {m : ByteArray} {a : Nat} {bad : Bool} {f t q : Int} {V : Value} {T : List Tok} (h : RG w wr p X m a bad f t q V T) : lenX wr X = T.length := by
  obtain ⟨A, c, hV, _⟩ := h.kO.at_
  have c3 := h.kX.cell 3
  simp at c3
  unfold Go.Proofs.YthgfbaekmhpiaaaGreatDoor.lenX
  rw [c3, hV]
/-- What the stores of a bag into the result leave. -/
theorem bag_store1 {W : World} {p : Nat} {cs : Array Value} (hp : Blk W p 41 cs) (hcs : cs.size = 4) (a b c d : Value) :
    ∃ W4, W4 = (((W.setCell ⟨p, 0, none⟩ a).setCell ⟨p, 1, none⟩ b).setCell ⟨p, 2, none⟩ c).setCell ⟨p, 3, none⟩ d ∧ W4.cell? ⟨p, 0, none⟩ = some a ∧ W4.cell? ⟨p, 1, none⟩ = some b ∧ W4.cell? ⟨p, 2, none⟩ = some c ∧ W4.cell? ⟨p, 3, none⟩ = some d ∧ Keeps (fun i => i = p) W W4 := by
  have h4 := (((hp.set 0 a).set 1 b).set 2 c).set 3 d
  obtain ⟨l⟩ := cs
  match l, hcs with
  | [c0, c1, c2, c3], _ =>
    have y0 := h4.cell 0
    have y1 := h4.cell 1
    have y2 := h4.cell 2
    have y3 := h4.cell 3
    simp at y0 y1 y2 y3
    refine ⟨_, rfl, y0, y1, y2, y3, ?_⟩
    exact ((((Keeps.refl (fun i => i = p) W).setCell (p := ⟨p, 0, none⟩) (fun _ => rfl) _).setCell (p := ⟨p, 1, none⟩) (fun _ => rfl) _).setCell (p := ⟨p, 2, none⟩) (fun _ => rfl) _).setCell (p := ⟨p, 3, none⟩) (fun _ => rfl) _
/-- A text that says a bag. -/
def GoodIs (m : ByteArray) (s d q : Int) (L : List Tok) : Prop := GoodBag s d q L ∧ bagText s d q L = m
theorem GoodIs.list {m : ByteArray} {s d q : Int} {L : List Tok} (h : GoodIs m s d q L) : m.data.toList = 98 :: 97 :: 103 :: 32 :: (Lib.decDigits s.toNat ++ 32 :: (Lib.decDigits d.toNat ++ 32 :: (Lib.decDigits q.toNat ++ 10 :: L.flatMap tokL))) := by
  rw [← h.2]
  unfold bagText msgL
  rw [ba_list, line_three]
  simp [bagW, decL]
theorem GoodIs.nums {m : ByteArray} {s d q : Int} {L : List Tok} (h : GoodIs m s d q L) : (0 ≤ s ∧ s ≤ 7) ∧ (0 ≤ d ∧ d ≤ 7) ∧ (1 ≤ q ∧ q ≤ 1000000) ∧ L.length ≤ 8 ∧ ∀ t ∈ L, (0 ≤ t.id ∧ t.id ≤ 1000000) ∧ t.body.size ≤ 6000 := by
  obtain ⟨h1, h2, h3⟩ := bag_facts h.1
  have h4 := way_facts h1
  dsimp only at h4
  exact ⟨h4.1, h4.2.1, h4.2.2.1, h2.2, h3⟩
/-- Where the reader stands when it has read the head and k tokens. -/
def GoodAt (m : ByteArray) (a : Nat) (bad : Bool) (f t q : Int) (T : List Tok) : Prop := ∀ s d q' L, GoodIs m s d q' L → bad = false ∧ f = s ∧ t = d ∧ q = q' ∧ ∃ k, k ≤ L.length ∧ T = L.take k ∧ m.data.toList.drop a = (L.drop k).flatMap tokL
theorem GoodAt.end_ {m : ByteArray} {a : Nat} {bad : Bool} {f t q : Int} {T : List Tok} (h : GoodAt m a bad f t q T) (ha : m.size ≤ a) (s d q' : Int) (L : List Tok) (hg : GoodIs m s d q' L) : f = s ∧ t = d ∧ q = q' ∧ T = L := by
  obtain ⟨_, h1, h2, h3, k, hk, hT, hd⟩ := h s d q' L hg
  refine ⟨h1, h2, h3, ?_⟩
  rw [List.drop_eq_nil_of_le (by rw [size_list]; exact ha)] at hd
  have : L.drop k = [] := by
    cases hx : L.drop k with
    | nil => rfl
    | cons x r =>
      rw [hx, List.flatMap_cons] at hd
      have h4 := congrArg List.length hd
      have h5 := tokL_pos x
      simp only [List.length_nil, List.length_append] at h4
      omega
  have hkl := congrArg List.length this
  rw [List.length_drop, List.length_nil] at hkl
  rw [hT, List.take_of_length_le (by omega)]
theorem GoodAt.full {m : ByteArray} {a : Nat} {bad : Bool} {f t q : Int} {T : List Tok} (h : GoodAt m a bad f t q T) (ha : 8 < T.length) (s d q' : Int) (L : List Tok) (hg : GoodIs m s d q' L) : False := by
  obtain ⟨_, _, _, _, k, hk, hT, hd⟩ := h s d q' L hg
  have := hg.nums.2.2.2.1
  rw [hT, List.length_take] at ha
  omega
/-- The next token. -/
theorem GoodAt.next {m : ByteArray} {a : Nat} {bad : Bool} {f t q : Int} {T : List Tok} (h : GoodAt m a bad f t q T) (ha : a < m.size) (s d q' : Int) (L : List Tok) (hg : GoodIs m s d q' L) :
    ∃ k x, L[k]? = some x ∧ T = L.take k ∧ bad = false ∧ f = s ∧ t = d ∧ q = q' ∧ (0 ≤ x.id ∧ x.id ≤ 1000000) ∧ x.body.size ≤ 6000 ∧ m.data.toList.drop a = Lib.decDigits x.id.toNat ++ 32 :: (Lib.decDigits x.body.size ++ 10 :: (x.body.data.toList ++ 10 :: (L.drop (k + 1)).flatMap tokL)) := by
  obtain ⟨hb, h1, h2, h3, k, hk, hT, hd⟩ := h s d q' L hg
  have hlt : k < L.length := by
    rcases Nat.lt_or_ge k L.length with h | h
    · exact h
    · rw [List.drop_eq_nil_of_le h] at hd
      have h4 := congrArg List.length hd
      rw [List.length_drop, size_list] at h4
      simp at h4
      omega
  have hx : L[k]? = some L[k] := List.getElem?_eq_getElem hlt
  have hn := hg.nums.2.2.2.2 L[k] (List.getElem_mem hlt)
  refine ⟨k, L[k], hx, hT, hb, h1, h2, h3, hn.1, hn.2, ?_⟩
  rw [hd, List.drop_eq_getElem_cons hlt, List.flatMap_cons, tokL_eq]
  unfold decL
  rw [Int.toNat_natCast]
end Go.Proofs.YthgfbaekmhpiaaaGreatDoor
namespace Go.Proofs.YthgfbaekmhpiaaaGreatDoor
open Go.RowKit Go.Shelf Go.Sort

theorem dropLen {m : ByteArray} {a : Nat} {l : List UInt8} (h : m.data.toList.drop a = l) : m.size - a = l.length := by
  rw [← h, List.length_drop, size_list]
theorem extBody {m x : ByteArray} {a : Nat} {r : List UInt8} (h : m.data.toList.drop a = x.data.toList ++ 10 :: r) : m.extract a (a + x.size) = x ∧ m.data.toList.drop (a + x.size + 1) = r := by
  have h1 : m.extract a (a + x.size) = x := by
    have e := ext_ba m.data.toList a (a + x.size)
    rw [ba_eta] at e
    rw [e, List.drop_take, h, Nat.add_sub_cancel_left, show x.data.toList ++ 10 :: r = x.data.toList ++ (10 :: r) from rfl, ← size_list x, List.take_left, ba_eta]
  refine ⟨h1, ?_⟩
  rw [show a + x.size + 1 = a + (x.size + 1) by omega, ← List.drop_drop, h, ← size_list x, show x.data.toList ++ 10 :: r = (x.data.toList ++ [10]) ++ r by simp, show x.data.toList.length + 1 = (x.data.toList ++ [10]).length by simp, List.drop_left]
set_option maxRecDepth 100000 in
set_option maxHeartbeats 4000000 in
theorem refGet_any (m : ByteArray) (w : World) (hm : m.size ≤ 1000000000) :
    Calls Tryz.prog 23 #[.string m] w (GetOr w m) := by
  have hbd : ∀ W, (Instr.build 41 #[]).run Tryz.prog W = .ok (.agg #[.int .i64 0, .int .i64 0, .int .i64 0, .slice none 0 0]) W := fun W => by kernel_rfl
  have HM := Lib.hid hm
  have HB0 := Lib.hid ((Below.refl _ w).alloc (Nat.le_refl _) (.cells #[.int .i64 0, .int .i64 0, .int .i64 0, .slice none 0 0] 41))
  have HR0 := Lib.hid (Blk.new w 41 #[.int .i64 0, .int .i64 0, .int .i64 0, .slice none 0 0])
  clear hm
  go_enter Tryz.func23, Tryz.ntmps23
  go_upto_region 1 with fail
  generalize w.alloc _ = w1 at HB0 HR0 ⊢
  obtain ⟨W4, hW4, y0, y1, y2, y3, hK4⟩ := bag_store1 HR0.out rfl (.int .i64 0) (.int .i64 0) (.int .i64 0) (.slice none 0 0)
  have HBE := Lib.hid (HB0.out.trans (hK4.below (B := w.heap.size) (fun k hk e => by omega) HB0.out.size))
  have HW4 := Lib.hid hW4
  have x0 := HR0.out.cell 0
  have x1 := HR0.out.cell 1
  have x2 := HR0.out.cell 2
  have x3 := HR0.out.cell 3
  have f0 := HR0.out.frozen 0
  have f1 := HR0.out.frozen 1
  have f2 := HR0.out.frozen 2
  have f3 := HR0.out.frozen 3
  have xz := HR0.out.lt
  simp at x0 x1 x2 x3
  clear hW4 hK4
  by_cases hs4 : (m.size : Int) < 4
  · go_wp2_with fail
    rw [← HW4.out]
    refine bodyPost_ret (v := .tuple #[bagVal ⟨0, 0, 0, .slice none 0 0⟩, .int .i64 4]) (by simp [results, Tryz.results23, go_sem, y0, y1, y2, y3, bagVal]) rfl ⟨.inr ⟨rfl, fun s d q' L h1 h2 => ?_⟩, HBE.out⟩
    have h := congrArg List.length (GoodIs.list (m := m) ⟨h1, h2⟩)
    rw [size_list] at h
    simp at h
    omega
  rcases hb4 : ((m.extract 0 4).toList == [98, 97, 103, 32]) with _ | _
  · go_wp2_with fail
    rw [← HW4.out]
    refine bodyPost_ret (v := .tuple #[bagVal ⟨0, 0, 0, .slice none 0 0⟩, .int .i64 4]) (by simp [results, Tryz.results23, go_sem, y0, y1, y2, y3, bagVal]) rfl ⟨.inr ⟨rfl, fun s d q' L h1 h2 => ?_⟩, HBE.out⟩
    have h := GoodIs.list (m := m) ⟨h1, h2⟩
    have e := ext_ba m.data.toList 0 4
    rw [ba_eta, List.drop_zero, h] at e
    rw [e] at hb4
    simp [ba, List.take] at hb4
  clear x0 x1 x2 x3 f0 f1 f2 f3 xz y0 y1 y2 y3 HBE HW4 W4
  go_upto_region 5 with fail
  have HG0 : Hid (GoodIs m = GoodIs m ∧ ∀ s d q' L, GoodIs m s d q' L → (false : Bool) = false ∧ m.data.toList.drop 4 = Lib.decDigits s.toNat ++ 32 :: (Lib.decDigits d.toNat ++ 32 :: (Lib.decDigits q'.toNat ++ 10 :: L.flatMap tokL))) := Lib.hid ⟨rfl, fun s d q' L h => ⟨rfl, by rw [h.list]; rfl⟩⟩
  have HS0 : Hid (∃ p X, p = w1.heap.size ∧ X = w1.heap.size + 1 ∧ RG w ((w1.alloc (.cells #[.string m, .int .i64 4, .bool false] 115)).alloc (.cells #[.int .i64 0, .int .i64 0, .int .i64 0, .slice none 0 0] 41)) p X m 4 false 0 0 0 (.slice none 0 0) []) := Lib.hid (by
    have hb := HB0.out.size
    have hl := HR0.out.lt
    refine ⟨_, _, rfl, rfl, (HB0.out.alloc hb _).alloc (by simp; omega) _, (HR0.out.alloc _).alloc _, Blk.alloc (Blk.new w1 115 #[.string m, .int .i64 4, .bool false]) _, ?_, TokOwn.nil _ _, by omega, by omega, by omega, by omega, by omega⟩
    have := Blk.new (w1.alloc (.cells #[.string m, .int .i64 4, .bool false] 115)) 41 #[.int .i64 0, .int .i64 0, .int .i64 0, .slice none 0 0]
    simpa using this)
  obtain ⟨p, X, hp, hX, hS⟩ := HS0.out
  rw [← hX, ← hp]
  have HS := Lib.hid hS
  have hm4 : 4 ≤ m.size := by omega
  clear hS HS0 hp hX HR0 HB0 hb4 hs4
  generalize (w1.alloc _).alloc _ = w2 at HS ⊢
  have hxl := HS.out.kX.lt
  go_wp2_with fail
  refine (refNum_any p m 4 false 32 32 rfl (by decide) w2 HS.out.kC hm4 HM.out).mono ?_
  rintro e wI1 ⟨v1, a1, bad1, rfl, hle1, ha1, hv1, hC1, hK1, hG1⟩
  have HN1 := Lib.hid hG1
  have HS1 := Lib.hid (HS.out.num hC1 hK1)
  have z0 := HS1.out.kX.cell 0
  have z0f := HS1.out.kX.frozen 0
  have z0l := HS1.out.kX.lt
  simp at z0
  have HS := Lib.hid (HS1.out.set0 (v1 : Int))
  have HG1 : Hid (∀ s d q' L, GoodIs m s d q' L → bad1 = false ∧ (v1 : Int) = s ∧ m.data.toList.drop a1 = Lib.decDigits d.toNat ++ 32 :: (Lib.decDigits q'.toNat ++ 10 :: L.flatMap tokL)) := Lib.hid (fun s d q' L h => by
    have hn := h.nums
    have h2 := HN1.out s.toNat _ (by omega) (HG0.out.2 s d q' L h).2
    exact ⟨h2.2.1, by omega, h2.2.2⟩)
  clear hG1 hC1 hK1 HN1 HG0 HS1 hm4
  go_wp2_with fail
  generalize wI1.setCell _ _ = w3 at HS ⊢
  clear z0 z0f z0l hxl
  have hxl := HS.out.kX.lt
  refine (refNum_any p m a1 bad1 32 32 rfl (by decide) w3 HS.out.kC ha1 HM.out).mono ?_
  rintro e wI2 ⟨v2, a2, bad2, rfl, hle2, ha2, hv2, hC2, hK2, hG2⟩
  have HN2 := Lib.hid hG2
  have HS1 := Lib.hid (HS.out.num hC2 hK2)
  have z0 := HS1.out.kX.cell 1
  have z0f := HS1.out.kX.frozen 1
  have z0l := HS1.out.kX.lt
  simp at z0
  have HS := Lib.hid (HS1.out.set1 (v2 : Int))
  have HG2 : Hid (∀ s d q' L, GoodIs m s d q' L → bad2 = false ∧ (v1 : Int) = s ∧ (v2 : Int) = d ∧ m.data.toList.drop a2 = Lib.decDigits q'.toNat ++ 10 :: L.flatMap tokL) := Lib.hid (fun s d q' L h => by
    have hn := h.nums
    have h1 := HG1.out s d q' L h
    have h2 := HN2.out d.toNat _ (by omega) h1.2.2
    exact ⟨h2.2.1.trans h1.1, h1.2.1, by omega, h2.2.2⟩)
  clear hG2 hC2 hK2 HN2 HG1 HS1
  go_wp2_with fail
  generalize wI2.setCell _ _ = w4 at HS ⊢
  clear z0 z0f z0l hxl
  have hxl := HS.out.kX.lt
  refine (refNum_any p m a2 bad2 10 10 rfl (by decide) w4 HS.out.kC ha2 HM.out).mono ?_
  rintro e wI3 ⟨v3, a3, bad3, rfl, hle3, ha3, hv3, hC3, hK3, hG3⟩
  have HN3 := Lib.hid hG3
  have HS1 := Lib.hid (HS.out.num hC3 hK3)
  have z0 := HS1.out.kX.cell 2
  have z0f := HS1.out.kX.frozen 2
  have z0l := HS1.out.kX.lt
  simp at z0
  have HS := Lib.hid (HS1.out.set2 (v3 : Int))
  have HG3 : Hid (GoodAt m a3 bad3 (v1 : Int) (v2 : Int) (v3 : Int) []) := Lib.hid (fun s d q' L h => by
    have hn := h.nums
    have h1 := HG2.out s d q' L h
    have h2 := HN3.out q'.toNat _ (by omega) h1.2.2.2
    exact ⟨h2.2.1.trans h1.1, h1.2.1, h1.2.2.1, by omega, 0, Nat.zero_le _, rfl, h2.2.2⟩)
  clear hG3 hC3 hK3 HN3 HG2 HS1
  go_wp2_with fail
  generalize wI3.setCell _ _ = w5 at HS ⊢
  clear z0 z0f z0l hxl hle1 hle2 hle3 ha1 ha2 hv1 hv2 hv3
  obtain ⟨vf, hvf⟩ : ∃ vf : Int, vf = (v1 : Int) := ⟨_, rfl⟩
  obtain ⟨vt, hvt⟩ : ∃ vt : Int, vt = (v2 : Int) := ⟨_, rfl⟩
  obtain ⟨vq, hvq⟩ : ∃ vq : Int, vq = (v3 : Int) := ⟨_, rfl⟩
  rw [← hvf, ← hvt, ← hvq] at HS HG3
  clear hvf hvt hvq
  go_loopw [] (fun wr => ∃ (a : Nat) (bad : Bool) (V : Value) (T : List Tok), a ≤ m.size ∧ T.length ≤ 9 ∧ GoodAt m a bad vf vt vq T ∧ RG w wr p X m a bad vf vt vq V T) (fun wr => 9 - lenX wr X)
  case atStart => exact ⟨a3, bad3, _, [], ha3, by simp, HG3.out, HS.out⟩
  case round =>
    clear HS HG3 ha3
    obtain ⟨a, bad, V, T, hams, hT9, hGA, hS⟩ := hrel
    have HGA := Lib.hid hGA
    have HS := Lib.hid hS
    have HAM := Lib.hid hams
    have hAt := hS.kO.at_
    obtain ⟨A, c, rfl, hcc, _⟩ := hAt
    have HT := Lib.hid hS.kO.at_
    have hCt := hS.kC
    unfold CutN at hCt
    have c0 := hCt.cell 0
    have c1 := hCt.cell 1
    have c2 := hCt.cell 2
    have cf1 := hCt.frozen 1
    have cl := hCt.lt
    have z0 := hS.kX.cell 0
    have z1 := hS.kX.cell 1
    have z2 := hS.kX.cell 2
    have z3 := hS.kX.cell 3
    have zl := hS.kX.lt
    simp at c0 c1 c2 z0 z1 z2 z3
    have HPT := Lib.hid (refPut_any ⟨vf, vt, vq, .slice A T.length c⟩ T wr hS.kO.at_ (by omega))
    simp only [bagVal] at HPT
    clear hGA hCt hS
    cases bad
    rotate_left
    · have HNG : Hid (∀ s d q' L, ¬ GoodIs m s d q' L) := Lib.hid (fun s d q' L h => by cases (HGA.out s d q' L h).1)
      obtain ⟨tx, htx⟩ : ∃ tx, tx = putTx ⟨vf, vt, vq, .slice A T.length c⟩ T := ⟨_, rfl⟩
      obtain ⟨te, hte⟩ : ∃ te, te = putE ⟨vf, vt, vq, .slice A T.length c⟩ T := ⟨_, rfl⟩
      rw [← htx, ← hte] at HPT
      have HTX := Lib.hid htx
      have HTE := Lib.hid hte
      clear htx hte
      go_wp2_with fail
      refine HPT.out.mono ?_
      rintro e w6 ⟨rfl, hb6⟩
      have HS6 := Lib.hid (HS.out.below hb6)
      have HT6 := Lib.hid (HS.out.kO.below hb6)
      clear HPT hb6 c0 c1 c2 cf1 cl z0 z1 z2 z3 zl HS
      have hC6 := HS6.out.kC
      unfold CutN at hC6
      have c2 := hC6.cell 2
      have cl := hC6.lt
      simp at c2
      clear hC6
      obtain ⟨W4, hW4, y0, y1, y2, y3, hK4⟩ := bag_store1 HS6.out.kR rfl (.int .i64 0) (.int .i64 0) (.int .i64 0) (.slice none 0 0)
      have HBE := Lib.hid (HS6.out.kB.trans (hK4.below (B := w.heap.size) (fun k hk e => by omega) HS6.out.kB.size))
      have HW4 := Lib.hid hW4
      have x0 := HS6.out.kR.cell 0
      have x1 := HS6.out.kR.cell 1
      have x2 := HS6.out.kR.cell 2
      have x3 := HS6.out.kR.cell 3
      have f0 := HS6.out.kR.frozen 0
      have f1 := HS6.out.kR.frozen 1
      have f2 := HS6.out.kR.frozen 2
      have f3 := HS6.out.kR.frozen 3
      have xz := HS6.out.kR.lt
      simp at x0 x1 x2 x3
      clear hW4 hK4
      go_wp2_with fail
      rw [← HW4.out]
      refine bodyPost_ret (v := .tuple #[bagVal ⟨0, 0, 0, .slice none 0 0⟩, .int .i64 4]) (by simp [results, Tryz.results23, go_sem, y0, y1, y2, y3, bagVal]) rfl ⟨.inr ⟨rfl, fun s d q' L h1 h2 => ?_⟩, HBE.out⟩
      exact HNG.out s d q' L ⟨h1, h2⟩
    by_cases haz : (a : Int) < (m.size : Int)
    rotate_left
    · have HEXG : Hid (∀ s d q' L, GoodIs m s d q' L → vf = s ∧ vt = d ∧ vq = q' ∧ T = L) := Lib.hid (fun s d q' L h => HGA.out.end_ (by omega) s d q' L h)
      obtain ⟨tx, htx⟩ : ∃ tx, tx = putTx ⟨vf, vt, vq, .slice A T.length c⟩ T := ⟨_, rfl⟩
      obtain ⟨te, hte⟩ : ∃ te, te = putE ⟨vf, vt, vq, .slice A T.length c⟩ T := ⟨_, rfl⟩
      rw [← htx, ← hte] at HPT
      have HTX := Lib.hid htx
      have HTE := Lib.hid hte
      clear htx hte
      go_wp2_with fail
      refine HPT.out.mono ?_
      rintro e w6 ⟨rfl, hb6⟩
      have HS6 := Lib.hid (HS.out.below hb6)
      have HT6 := Lib.hid (HS.out.kO.below hb6)
      clear HPT hb6 c0 c1 c2 cf1 cl z0 z1 z2 z3 zl HS
      have hC6 := HS6.out.kC
      unfold CutN at hC6
      have c2 := hC6.cell 2
      have cl := hC6.lt
      simp at c2
      clear hC6
      rcases hv : isBagB ⟨vf, vt, vq, .slice A T.length c⟩ T with _ | _
      · have hte : te = 1 := by rw [HTE.out]; unfold putE; rw [if_neg (by rw [hv]; decide)]
        subst hte
        have HV := Lib.hid hv
        clear hv
        obtain ⟨W4, hW4, y0, y1, y2, y3, hK4⟩ := bag_store1 HS6.out.kR rfl (.int .i64 0) (.int .i64 0) (.int .i64 0) (.slice none 0 0)
        have HBE := Lib.hid (HS6.out.kB.trans (hK4.below (B := w.heap.size) (fun k hk e => by omega) HS6.out.kB.size))
        have HW4 := Lib.hid hW4
        have x0 := HS6.out.kR.cell 0
        have x1 := HS6.out.kR.cell 1
        have x2 := HS6.out.kR.cell 2
        have x3 := HS6.out.kR.cell 3
        have f0 := HS6.out.kR.frozen 0
        have f1 := HS6.out.kR.frozen 1
        have f2 := HS6.out.kR.frozen 2
        have f3 := HS6.out.kR.frozen 3
        have xz := HS6.out.kR.lt
        simp at x0 x1 x2 x3
        clear hW4 hK4
        go_wp2_with fail
        rw [← HW4.out]
        refine bodyPost_ret (v := .tuple #[bagVal ⟨0, 0, 0, .slice none 0 0⟩, .int .i64 4]) (by simp [results, Tryz.results23, go_sem, y0, y1, y2, y3, bagVal]) rfl ⟨.inr ⟨rfl, fun s d q' L h1 h2 => ?_⟩, HBE.out⟩
        obtain ⟨rfl, rfl, rfl, rfl⟩ := HEXG.out s d q' L ⟨h1, h2⟩
        have h3 : isBagB ⟨vf, vt, vq, .slice A T.length c⟩ T = true := h1
        rw [HV.out] at h3
        cases h3
      have hte : te = 0 := by rw [HTE.out]; unfold putE; rw [if_pos hv]
      subst hte
      have HV : Hid (GoodBag vf vt vq T) := Lib.hid hv
      have HTB : Hid (tx = bagText vf vt vq T) := Lib.hid (by rw [HTX.out]; unfold putTx; rw [if_pos hv])
      clear hv
      rcases htm : (tx.toList == m.toList) with _ | _
      · have HTM := Lib.hid htm
        obtain ⟨W4, hW4, y0, y1, y2, y3, hK4⟩ := bag_store1 HS6.out.kR rfl (.int .i64 0) (.int .i64 0) (.int .i64 0) (.slice none 0 0)
        have HBE := Lib.hid (HS6.out.kB.trans (hK4.below (B := w.heap.size) (fun k hk e => by omega) HS6.out.kB.size))
        have HW4 := Lib.hid hW4
        have x0 := HS6.out.kR.cell 0
        have x1 := HS6.out.kR.cell 1
        have x2 := HS6.out.kR.cell 2
        have x3 := HS6.out.kR.cell 3
        have f0 := HS6.out.kR.frozen 0
        have f1 := HS6.out.kR.frozen 1
        have f2 := HS6.out.kR.frozen 2
        have f3 := HS6.out.kR.frozen 3
        have xz := HS6.out.kR.lt
        simp at x0 x1 x2 x3
        clear hW4 hK4
        go_wp2_with fail
        rw [← HW4.out]
        refine bodyPost_ret (v := .tuple #[bagVal ⟨0, 0, 0, .slice none 0 0⟩, .int .i64 4]) (by simp [results, Tryz.results23, go_sem, y0, y1, y2, y3, bagVal]) rfl ⟨.inr ⟨rfl, fun s d q' L h1 h2 => ?_⟩, HBE.out⟩
        obtain ⟨rfl, rfl, rfl, rfl⟩ := HEXG.out s d q' L ⟨h1, h2⟩
        have h3 := HTM.out
        rw [HTB.out, h2] at h3
        simp at h3
      have HTM : Hid (bagText vf vt vq T = m) := Lib.hid (by
        rw [← HTB.out]
        rw [beq_iff_eq, Lib.toList_data, Lib.toList_data] at htm
        exact ByteArray.ext (Array.toList_inj.1 htm))
      obtain ⟨W4, hW4, y0, y1, y2, y3, hK4⟩ := bag_store1 HS6.out.kR rfl (.int .i64 vf) (.int .i64 vt) (.int .i64 vq) (.slice A T.length c)
      have HBE := Lib.hid (HS6.out.kB.trans (hK4.below (B := w.heap.size) (fun k hk e => by omega) HS6.out.kB.size))
      have HW4 := Lib.hid hW4
      have x0 := HS6.out.kR.cell 0
      have x1 := HS6.out.kR.cell 1
      have x2 := HS6.out.kR.cell 2
      have x3 := HS6.out.kR.cell 3
      have f0 := HS6.out.kR.frozen 0
      have f1 := HS6.out.kR.frozen 1
      have f2 := HS6.out.kR.frozen 2
      have f3 := HS6.out.kR.frozen 3
      have xz := HS6.out.kR.lt
      simp at x0 x1 x2 x3
      have HTF : Hid (TokOwn W4 w.heap.size (.slice A T.length c) T) := Lib.hid (HT6.out.keep hK4 (fun i hi e => by subst e; exact row_ne HT6.out HS6.out.kR (by decide) hi))
      clear hW4 hK4
      have q0 := HS6.out.kX.cell 0
      have q1 := HS6.out.kX.cell 1
      have q2 := HS6.out.kX.cell 2
      have q3 := HS6.out.kX.cell 3
      have ql := HS6.out.kX.lt
      simp at q0 q1 q2 q3
      go_wp2_with fail
      rw [← HW4.out]
      exact bodyPost_ret (v := .tuple #[bagVal ⟨vf, vt, vq, .slice A T.length c⟩, .int .i64 0]) (by simp [results, Tryz.results23, go_sem, y0, y1, y2, y3, bagVal]) rfl ⟨.inl ⟨vf, vt, vq, _, T, rfl, HTF.out, HV.out, HTM.out⟩, HBE.out⟩
    by_cases hT8 : (T.length : Int) ≤ 8
    rotate_left
    · have HEXG : Hid (∀ s d q' L, GoodIs m s d q' L → vf = s ∧ vt = d ∧ vq = q' ∧ T = L) := Lib.hid (fun s d q' L h => (HGA.out.full (by omega) s d q' L h).elim)
      obtain ⟨tx, htx⟩ : ∃ tx, tx = putTx ⟨vf, vt, vq, .slice A T.length c⟩ T := ⟨_, rfl⟩
      obtain ⟨te, hte⟩ : ∃ te, te = putE ⟨vf, vt, vq, .slice A T.length c⟩ T := ⟨_, rfl⟩
      rw [← htx, ← hte] at HPT
      have HTX := Lib.hid htx
      have HTE := Lib.hid hte
      clear htx hte
      go_wp2_with fail
      refine HPT.out.mono ?_
      rintro e w6 ⟨rfl, hb6⟩
      have HS6 := Lib.hid (HS.out.below hb6)
      have HT6 := Lib.hid (HS.out.kO.below hb6)
      clear HPT hb6 c0 c1 c2 cf1 cl z0 z1 z2 z3 zl HS
      have hC6 := HS6.out.kC
      unfold CutN at hC6
      have c2 := hC6.cell 2
      have cl := hC6.lt
      simp at c2
      clear hC6
      rcases hv : isBagB ⟨vf, vt, vq, .slice A T.length c⟩ T with _ | _
      · have hte : te = 1 := by rw [HTE.out]; unfold putE; rw [if_neg (by rw [hv]; decide)]
        subst hte
        have HV := Lib.hid hv
        clear hv
        obtain ⟨W4, hW4, y0, y1, y2, y3, hK4⟩ := bag_store1 HS6.out.kR rfl (.int .i64 0) (.int .i64 0) (.int .i64 0) (.slice none 0 0)
        have HBE := Lib.hid (HS6.out.kB.trans (hK4.below (B := w.heap.size) (fun k hk e => by omega) HS6.out.kB.size))
        have HW4 := Lib.hid hW4
        have x0 := HS6.out.kR.cell 0
        have x1 := HS6.out.kR.cell 1
        have x2 := HS6.out.kR.cell 2
        have x3 := HS6.out.kR.cell 3
        have f0 := HS6.out.kR.frozen 0
        have f1 := HS6.out.kR.frozen 1
        have f2 := HS6.out.kR.frozen 2
        have f3 := HS6.out.kR.frozen 3
        have xz := HS6.out.kR.lt
        simp at x0 x1 x2 x3
        clear hW4 hK4
        go_wp2_with fail
        rw [← HW4.out]
        refine bodyPost_ret (v := .tuple #[bagVal ⟨0, 0, 0, .slice none 0 0⟩, .int .i64 4]) (by simp [results, Tryz.results23, go_sem, y0, y1, y2, y3, bagVal]) rfl ⟨.inr ⟨rfl, fun s d q' L h1 h2 => ?_⟩, HBE.out⟩
        obtain ⟨rfl, rfl, rfl, rfl⟩ := HEXG.out s d q' L ⟨h1, h2⟩
        have h3 : isBagB ⟨vf, vt, vq, .slice A T.length c⟩ T = true := h1
        rw [HV.out] at h3
        cases h3
      have hte : te = 0 := by rw [HTE.out]; unfold putE; rw [if_pos hv]
      subst hte
      have HV : Hid (GoodBag vf vt vq T) := Lib.hid hv
      have HTB : Hid (tx = bagText vf vt vq T) := Lib.hid (by rw [HTX.out]; unfold putTx; rw [if_pos hv])
      clear hv
      rcases htm : (tx.toList == m.toList) with _ | _
      · have HTM := Lib.hid htm
        obtain ⟨W4, hW4, y0, y1, y2, y3, hK4⟩ := bag_store1 HS6.out.kR rfl (.int .i64 0) (.int .i64 0) (.int .i64 0) (.slice none 0 0)
        have HBE := Lib.hid (HS6.out.kB.trans (hK4.below (B := w.heap.size) (fun k hk e => by omega) HS6.out.kB.size))
        have HW4 := Lib.hid hW4
        have x0 := HS6.out.kR.cell 0
        have x1 := HS6.out.kR.cell 1
        have x2 := HS6.out.kR.cell 2
        have x3 := HS6.out.kR.cell 3
        have f0 := HS6.out.kR.frozen 0
        have f1 := HS6.out.kR.frozen 1
        have f2 := HS6.out.kR.frozen 2
        have f3 := HS6.out.kR.frozen 3
        have xz := HS6.out.kR.lt
        simp at x0 x1 x2 x3
        clear hW4 hK4
        go_wp2_with fail
        rw [← HW4.out]
        refine bodyPost_ret (v := .tuple #[bagVal ⟨0, 0, 0, .slice none 0 0⟩, .int .i64 4]) (by simp [results, Tryz.results23, go_sem, y0, y1, y2, y3, bagVal]) rfl ⟨.inr ⟨rfl, fun s d q' L h1 h2 => ?_⟩, HBE.out⟩
        obtain ⟨rfl, rfl, rfl, rfl⟩ := HEXG.out s d q' L ⟨h1, h2⟩
        have h3 := HTM.out
        rw [HTB.out, h2] at h3
        simp at h3
      have HTM : Hid (bagText vf vt vq T = m) := Lib.hid (by
        rw [← HTB.out]
        rw [beq_iff_eq, Lib.toList_data, Lib.toList_data] at htm
        exact ByteArray.ext (Array.toList_inj.1 htm))
      obtain ⟨W4, hW4, y0, y1, y2, y3, hK4⟩ := bag_store1 HS6.out.kR rfl (.int .i64 vf) (.int .i64 vt) (.int .i64 vq) (.slice A T.length c)
      have HBE := Lib.hid (HS6.out.kB.trans (hK4.below (B := w.heap.size) (fun k hk e => by omega) HS6.out.kB.size))
      have HW4 := Lib.hid hW4
      have x0 := HS6.out.kR.cell 0
      have x1 := HS6.out.kR.cell 1
      have x2 := HS6.out.kR.cell 2
      have x3 := HS6.out.kR.cell 3
      have f0 := HS6.out.kR.frozen 0
      have f1 := HS6.out.kR.frozen 1
      have f2 := HS6.out.kR.frozen 2
      have f3 := HS6.out.kR.frozen 3
      have xz := HS6.out.kR.lt
      simp at x0 x1 x2 x3
      have HTF : Hid (TokOwn W4 w.heap.size (.slice A T.length c) T) := Lib.hid (HT6.out.keep hK4 (fun i hi e => by subst e; exact row_ne HT6.out HS6.out.kR (by decide) hi))
      clear hW4 hK4
      have q0 := HS6.out.kX.cell 0
      have q1 := HS6.out.kX.cell 1
      have q2 := HS6.out.kX.cell 2
      have q3 := HS6.out.kX.cell 3
      have ql := HS6.out.kX.lt
      simp at q0 q1 q2 q3
      go_wp2_with fail
      rw [← HW4.out]
      exact bodyPost_ret (v := .tuple #[bagVal ⟨vf, vt, vq, .slice A T.length c⟩, .int .i64 0]) (by simp [results, Tryz.results23, go_sem, y0, y1, y2, y3, bagVal]) rfl ⟨.inl ⟨vf, vt, vq, _, T, rfl, HTF.out, HV.out, HTM.out⟩, HBE.out⟩
    have hTle : T.length ≤ 8 := by omega
    have hal : a < m.size := by omega
    clear HPT hams hT9 haz z0 z1 z2
    go_wp2_with fail
    refine (refNum_any p m a false 32 32 rfl (by decide) wr HS.out.kC HAM.out HM.out).mono ?_
    rintro e wI4 ⟨v4, a4, bad4, rfl, hle4, ha4, hv4, hC4, hK4, hG4⟩
    have HN4 := Lib.hid hG4
    have HS1 := Lib.hid (HS.out.num hC4 hK4)
    have HG4 : Hid (∀ s d q' L, GoodIs m s d q' L → ∃ k x, L[k]? = some x ∧ T = L.take k ∧ bad4 = false ∧ vf = s ∧ vt = d ∧ vq = q' ∧ (v4 : Int) = x.id ∧ x.body.size ≤ 6000 ∧ m.data.toList.drop a4 = Lib.decDigits x.body.size ++ 10 :: (x.body.data.toList ++ 10 :: (L.drop (k + 1)).flatMap tokL)) := Lib.hid (fun s d q' L h => by
      obtain ⟨k, x, hx, hT, _, g1, g2, g3, g4, g5, hd⟩ := HGA.out.next hal s d q' L h
      have h2 := HN4.out x.id.toNat _ (by omega) hd
      exact ⟨k, x, hx, hT, h2.2.1, g1, g2, g3, by omega, g5, h2.2.2⟩)
    have HMS := Lib.hid HS.out.lenX
    clear hG4 hC4 hK4 HN4 HGA HS c0 c1 c2 cf1 cl z3 zl hle4 hal HAM
    go_wp2_with fail
    refine (refNum_any p m a4 bad4 10 10 rfl (by decide) wI4 HS1.out.kC ha4 HM.out).mono ?_
    rintro e wI5 ⟨v5, a5, bad5, rfl, hle5, ha5, hv5, hC5, hK5, hG5⟩
    have HN5 := Lib.hid hG5
    have HS := Lib.hid (HS1.out.num hC5 hK5)
    have HG5 : Hid (∀ s d q' L, GoodIs m s d q' L → ∃ k x, L[k]? = some x ∧ T = L.take k ∧ bad5 = false ∧ vf = s ∧ vt = d ∧ vq = q' ∧ (v4 : Int) = x.id ∧ v5 = x.body.size ∧ m.data.toList.drop a5 = x.body.data.toList ++ 10 :: (L.drop (k + 1)).flatMap tokL) := Lib.hid (fun s d q' L h => by
      obtain ⟨k, x, hx, hT, gb, g1, g2, g3, g4, g5, hd⟩ := HG4.out s d q' L h
      have h2 := HN5.out x.body.size _ (by omega) hd
      exact ⟨k, x, hx, hT, h2.2.1.trans gb, g1, g2, g3, g4, h2.1, h2.2.2⟩)
    clear hG5 hC5 hK5 HN5 HG4 HS1 hle5 ha4 hv4
    have hCt := HS.out.kC
    unfold CutN at hCt
    have c0 := hCt.cell 0
    have c1 := hCt.cell 1
    have c2 := hCt.cell 2
    have cf1 := hCt.frozen 1
    have cl := hCt.lt
    simp at c0 c1 c2
    clear hCt
    have hm9 : m.size ≤ 1000000000 := HM.out
    obtain ⟨rm, hrm⟩ : ∃ rm : Nat, rm = m.size - a5 := ⟨_, rfl⟩
    have hwr : IntKind.i64.wrap ((m.size : Int) - (a5 : Int)) = (rm : Int) := by rw [wrap_id _ (by omega) (by omega)]; omega
    have HRM := Lib.hid hrm
    clear hrm
    cases bad5
    rotate_left
    · have HNG : Hid (∀ s d q' L, ¬ GoodIs m s d q' L) := Lib.hid (fun s d q' L h => by
        obtain ⟨k, x, _, _, gb, _⟩ := HG5.out s d q' L h
        cases gb)
      obtain ⟨W4, hW4, y0, y1, y2, y3, hK4⟩ := bag_store1 HS.out.kR rfl (.int .i64 0) (.int .i64 0) (.int .i64 0) (.slice none 0 0)
      have HBE := Lib.hid (HS.out.kB.trans (hK4.below (B := w.heap.size) (fun k hk e => by omega) HS.out.kB.size))
      have HW4 := Lib.hid hW4
      have x0 := HS.out.kR.cell 0
      have x1 := HS.out.kR.cell 1
      have x2 := HS.out.kR.cell 2
      have x3 := HS.out.kR.cell 3
      have f0 := HS.out.kR.frozen 0
      have f1 := HS.out.kR.frozen 1
      have f2 := HS.out.kR.frozen 2
      have f3 := HS.out.kR.frozen 3
      have xz := HS.out.kR.lt
      simp at x0 x1 x2 x3
      clear hW4 hK4
      go_wp2_with fail
      rw [← HW4.out]
      refine bodyPost_ret (v := .tuple #[bagVal ⟨0, 0, 0, .slice none 0 0⟩, .int .i64 4]) (by simp [results, Tryz.results23, go_sem, y0, y1, y2, y3, bagVal]) rfl ⟨.inr ⟨rfl, fun s d q' L h1 h2 => ?_⟩, HBE.out⟩
      exact HNG.out s d q' L ⟨h1, h2⟩
    by_cases hge : (rm : Int) ≤ (v5 : Int)
    · have HNG : Hid (∀ s d q' L, ¬ GoodIs m s d q' L) := Lib.hid (fun s d q' L h => by
        obtain ⟨k, x, _, _, _, _, _, _, _, g5, hd⟩ := HG5.out s d q' L h
        have h1 := dropLen hd
        rw [List.length_append, List.length_cons, size_list] at h1
        have := HRM.out
        omega)
      obtain ⟨W4, hW4, y0, y1, y2, y3, hK4⟩ := bag_store1 HS.out.kR rfl (.int .i64 0) (.int .i64 0) (.int .i64 0) (.slice none 0 0)
      have HBE := Lib.hid (HS.out.kB.trans (hK4.below (B := w.heap.size) (fun k hk e => by omega) HS.out.kB.size))
      have HW4 := Lib.hid hW4
      have x0 := HS.out.kR.cell 0
      have x1 := HS.out.kR.cell 1
      have x2 := HS.out.kR.cell 2
      have x3 := HS.out.kR.cell 3
      have f0 := HS.out.kR.frozen 0
      have f1 := HS.out.kR.frozen 1
      have f2 := HS.out.kR.frozen 2
      have f3 := HS.out.kR.frozen 3
      have xz := HS.out.kR.lt
      simp at x0 x1 x2 x3
      clear hW4 hK4
      go_wp2_with fail
      rw [← HW4.out]
      refine bodyPost_ret (v := .tuple #[bagVal ⟨0, 0, 0, .slice none 0 0⟩, .int .i64 4]) (by simp [results, Tryz.results23, go_sem, y0, y1, y2, y3, bagVal]) rfl ⟨.inr ⟨rfl, fun s d q' L h1 h2 => ?_⟩, HBE.out⟩
      exact HNG.out s d q' L ⟨h1, h2⟩
    have hb5 : a5 + v5 < m.size := by have := HRM.out; omega
    have z3 := HS.out.kX.cell 3
    have zl := HS.out.kX.lt
    simp at z3
    go_upto_region 13 with fail
    have HSd := Lib.hid (HS.out.below (Below.refl _ wI5).drew)
    obtain ⟨ex, hex⟩ : ∃ ex, ex = m.extract a5 (a5 + v5) := ⟨_, rfl⟩
    obtain ⟨A2, cc2, w7, hrun, hO7, hK7, hv7⟩ := append_tok HSd.out.kO (by omega) HSd.out.kB.size ⟨(v4 : Int), ex⟩
    have hwv : IntKind.i64.wrap ((a5 : Int) + (v5 : Int)) = (a5 : Int) + (v5 : Int) := wrap_id _ (by omega) (by omega)
    have hs1 : (0 : Int) ≤ (a5 : Int) := by omega
    have hs2 : (a5 : Int) ≤ (a5 : Int) + (v5 : Int) := by omega
    have hs3 : (a5 : Int) + (v5 : Int) ≤ (m.size : Int) := by omega
    rw [hex] at hrun
    have HX7 := Lib.hid (HSd.out.kX.keep hK7 (row_ne HSd.out.kO HSd.out.kX (by decide)))
    have z7 := HX7.out.cell 3
    have z7f := HX7.out.frozen 3
    have z7l := HX7.out.lt
    have hXl : X < (wI5.drew.alloc (.cells #[.int .i64 (v4 : Int), .string (m.extract a5 (a5 + v5))] 50)).heap.size := by rw [World.size_alloc]; exact Nat.lt_succ_of_lt zl
    have z3d : wI5.drew.cell? ⟨X, 3, none⟩ = some (.slice A T.length c) := z3
    have c1d : wI5.drew.cell? ⟨p, 1, none⟩ = some (.int .i64 (a5 : Int)) := c1
    simp at z7
    have HS8 : Hid (RG w (w7.setCell ⟨X, 3, none⟩ (.slice A2 (T.length + 1) cc2)) p X m a5 false vf vt vq (.slice A2 (T.length + 1) cc2) (T ++ [⟨(v4 : Int), m.extract a5 (a5 + v5)⟩])) := Lib.hid (by
      have hR := HSd.out.kR.keep hK7 (row_ne HSd.out.kO HSd.out.kR (by decide))
      have hC := Blk.keep HSd.out.kC hK7 (row_ne HSd.out.kO HSd.out.kC (by decide))
      have hB := HSd.out.kB.trans (hK7.below (B := w.heap.size) (fun i hi e => by have := (World.ownsRow.lt HSd.out.kO i e).1; omega) HSd.out.kB.size)
      have hKX := (Keeps.refl (fun i => i = X) w7).setCell (p := ⟨X, 3, none⟩) (fun _ => rfl) (.slice A2 (T.length + 1) cc2)
      rw [hex] at hO7
      exact ⟨hB.trans (hKX.below (B := w.heap.size) (fun k hk e => by have := HSd.out.r5; have := HSd.out.r2; omega) hB.size), hR.keep hKX HSd.out.r2, Blk.keep hC hKX HSd.out.r3, HX7.out.set 3 _, hO7.keep hKX (fun i hi e => by subst e; exact row_ne hO7 HX7.out (by decide) hi), HSd.out.r1, HSd.out.r2, HSd.out.r3, HSd.out.r4, HSd.out.r5⟩)
    have HG8 : Hid (GoodAt m (a5 + v5 + 1) false vf vt vq (T ++ [⟨(v4 : Int), m.extract a5 (a5 + v5)⟩])) := Lib.hid (fun s d q' L h => by
      obtain ⟨k, x, hx, hT, _, g1, g2, g3, g4, g5, hd⟩ := HG5.out s d q' L h
      have he := extBody hd
      rw [← g5] at he
      have hk := (List.getElem?_eq_some_iff.1 hx).1
      refine ⟨rfl, g1, g2, g3, k + 1, by omega, ?_, he.2⟩
      rw [List.take_add_one, hx, ← hT, he.1, g4]
      rfl)
    have hML : wr.cell? ⟨X, 3, none⟩ = wr.cell? ⟨X, 3, none⟩ := rfl
    clear hO7 hK7 hv7 HSd HS HG5 hML hge HRM hwr hex
    go_region_law (first
      | (refine Lib.wp_append_run _ _ _ _ _ rfl _ _ rfl rfl _ _ hrun ?_)
      | (rw [if_pos (by rfl)]; refine Lib.wp_append_run _ _ _ _ _ rfl _ _ rfl rfl _ _ hrun ?_))
    all_goals
      clear z7 z7f z7l hXl z3d c1d z3 zl c0 c1 c2 cf1 cl hrun hs1 hs2 hs3 hwv
      generalize w7.setCell _ _ = w8 at HS8 ⊢
      have hCt := HS8.out.kC
      unfold CutN at hCt
      have c1 := hCt.cell 1
      have cf1 := hCt.frozen 1
      have cl := hCt.lt
      simp at c1
      clear hCt
      have HS9 : Hid (RG w (w8.setCell ⟨p, 1, none⟩ (.int .i64 ((a5 : Int) + (v5 : Int) + 1))) p X m (a5 + v5 + 1) false vf vt vq (.slice A2 (T.length + 1) cc2) (T ++ [⟨(v4 : Int), m.extract a5 (a5 + v5)⟩])) := Lib.hid (HS8.out.num (by
        unfold CutN
        rw [show ((a5 + v5 + 1 : Nat) : Int) = (a5 : Int) + (v5 : Int) + 1 by omega]
        exact Blk.set HS8.out.kC 1 _) ((Keeps.refl (fun i => i = p) w8).setCell (p := ⟨p, 1, none⟩) (fun _ => rfl) _))
      go_wp2_with fail
      go_roundw
      case rel => exact ⟨a5 + v5 + 1, false, _, _, by omega, by rw [List.length_append, List.length_singleton]; omega, HG8.out, HS9.out⟩
      case measure =>
        rw [HS9.out.lenX, HMS.out, List.length_append, List.length_singleton]
        omega
end Go.Proofs.YthgfbaekmhpiaaaGreatDoor
