/- The contract of disks. Conditions: none. -/
import Derived.Test.YtoglkeinhpcboaaDk5
import Derived.Lib.SmallJoins
import Derived.Laws.BytesArg
namespace Go.Proofs.Ytoglkeinhpcboaa
open Go.RowKit

theorem crashed_one (S : List (List Int)) (k : Nat) (o nw : List Int) (n : Int) (hk : k < S.length) : crashed S [(k, o, nw)] [n] = S.set k (mix n o nw) := by
  have h : (S.set k o)[k]? = some o := by rw [List.getElem?_set_self (by simpa using hk)]
  unfold crashed keepS undo revs
  simp [List.getD_eq_getElem?_getD, h]
theorem mix_len (n : Int) {o nw : List Int} (h1 : o.length = 64) (h2 : nw.length = 64) : (mix n o nw).length = 64 := by
  have := kept_range n
  unfold mix
  simp only [List.length_append, List.length_take, List.length_drop, h1, h2]
  omega

theorem range_new (w : World) (s : List Int) (fr : Nat × Nat) : (w.alloc (.cells (cellsB s).toArray 5 fr)).rangeAt w.heap.size 0 (cellsB s) := fun j v hv => by
  rw [Nat.zero_add, World.cell?_alloc_mark w (cellsB s).toArray 5 fr j, List.getElem?_toArray, hv]
theorem u8Int : Try.prog.underlying 5 = some (.int .u8) := by kernel_rfl
theorem strDesc : Try.prog.underlying 9 = some .string := by kernel_rfl

/-- What is done to the disk's own blocks leaves what is older. -/
theorem kB_of {w : World} {p gs : Nat} (hp : w.heap.size ≤ p) (hg : w.heap.size ≤ gs) (W W' : World) (hK : Keeps (ownD p gs (.slice none 0 0)) W W') (hB : Below w.heap.size w W) : Below w.heap.size w W' := hB.trans (hK.below (fun i hi e => by
  rcases e with e | e | e
  · omega
  · omega
  · simp [Value.ownBlock] at e) hB.size)
theorem OwnU.room {w : World} {base : Nat} {A : Option Addr} {c : Nat} {l : List Int} (h : OwnU w base (.slice A l.length c) l) (hp : 0 < l.length) : l.length ≤ c := by
  unfold OwnU at h
  rcases h.2 with ⟨h1, h2⟩ | ⟨g, cap, cur, h1, _, _, hr, _⟩
  · omega
  · simp only [Value.slice.injEq] at h1
    obtain ⟨_, _, rfl⟩ := h1
    exact hr

set_option maxRecDepth 100000 in
set_option maxHeartbeats 4000000 in
theorem disks_any (w : World) : Calls Try.prog 6 #[] w fun e w' => e = .returned (.bool true) ∧ Below w.heap.size w w' := by
  go_enter Try.func6, Try.ntmps6
  go_wp2_with fail
  refine (newDisk_bad 15 (by rfl) _).mono ?_
  rintro e w0 ⟨rfl, rfl⟩
  go_wp2_with fail
  refine (newDisk_ok 16 (by decide) (by decide) _).mono ?_
  rintro e w1 ⟨rfl, hD1, hB1⟩
  obtain ⟨S, hS⟩ : ∃ S, S = List.replicate 16 zeroS := ⟨_, rfl⟩
  have hSl : S.length = 16 := by rw [hS]; exact List.length_replicate ..
  have hS0 : S[0]? = some zeroS := by rw [hS]; rfl
  rw [← hS] at hD1
  clear hS
  obtain ⟨p, hp⟩ : ∃ p, p = w.heap.size + 1 := ⟨_, rfl⟩
  rw [← hp] at hD1 ⊢
  obtain ⟨gs, hgs⟩ : ∃ gs, gs = w.heap.size := ⟨_, rfl⟩
  rw [← hgs] at hD1
  have hpl : w.heap.size ≤ p := by omega
  have hgl0 : w.heap.size ≤ gs := by omega
  have kB := Lib.hid (kB_of (w := w) hpl hgl0)
  have HB1 := Lib.hid (hB1.alloc hB1.size (.cells #[.int .u8 97, .int .u8 98, .int .u8 99] 5 (3, 4)))
  clear hp hgs hB1 hpl hgl0
  have hcv := Joins.run_convert_bytes_const_at (P := Try.prog) w1 33 5 #[.int .u8 97, .int .u8 98, .int .u8 99] 3 3 w1.heap.size rfl rowU8 u8Int
  go_wp2_with fail
  have hD2 := hD1.below (below_al (Below.refl _ _) (.cells #[.int .u8 97, .int .u8 98, .int .u8 99] 5 (3, 4)))
  have hr2 : ∀ g, g = w1.heap.size → (w1.alloc (.cells #[.int .u8 97, .int .u8 98, .int .u8 99] 5 (3, 4))).rangeAt g 0 (cellsB [97, 98, 99]) := fun g e => by subst e; exact range_new w1 [97, 98, 99] (3, 4)
  have z1 := hD1.blk.lt
  have z2 := hD1.sec.lt
  refine (write_ok hD2 (by decide) (by simp) (by omega) (by simp) 0 zeroS hS0 (some ⟨w1.heap.size, 0, none⟩) 3 [97, 98, 99] (by decide) (fun _ => ⟨_, 0, rfl, hr2 _ rfl, ?_⟩)).mono ?_
  · rintro (e | e | e) <;> first | omega | (simp [Value.ownBlock] at e)
  rintro e w2 ⟨rfl, ⟨v2, hD3, _⟩, hK2⟩
  have HB2 := Lib.hid (kB.out _ _ hK2 HB1.out)
  clear hD1 hD2 hr2 z1 z2 hK2 HB1
  go_wp2_with fail
  refine (flush_ok hD3 (by decide) (by simp)).mono ?_
  rintro e w3 ⟨rfl, hD4, hK3⟩
  have hB3 := kB.out _ _ (hK3.mono (fun i _ e => .inl e)) HB2.out
  have HB3 := Lib.hid (hB3.alloc hB3.size (.cells #[.int .u8 120, .int .u8 121, .int .u8 122] 5 (3, 4)))
  clear hB3 hK3 HB2
  have hSc : (S.set 0 (padB [97, 98, 99]))[0]? = some (padB [97, 98, 99]) := List.getElem?_set_self (by omega)
  have hcv2 := Joins.run_convert_bytes_const_at (P := Try.prog) w3 33 5 #[.int .u8 120, .int .u8 121, .int .u8 122] 3 3 w3.heap.size rfl rowU8 u8Int
  clear hD3 hcv
  go_wp2_with fail
  have hD5 := hD4.below (below_al (Below.refl _ _) (.cells #[.int .u8 120, .int .u8 121, .int .u8 122] 5 (3, 4)))
  have hr3 : ∀ g, g = w3.heap.size → (w3.alloc (.cells #[.int .u8 120, .int .u8 121, .int .u8 122] 5 (3, 4))).rangeAt g 0 (cellsB [120, 121, 122]) := fun g e => by subst e; exact range_new w3 [120, 121, 122] (3, 4)
  have z1 := hD4.blk.lt
  have z2 := hD4.sec.lt
  refine (write_ok hD5 (by decide) (by simp) (by rw [List.length_set]; omega) (by simp) 0 _ hSc (some ⟨w3.heap.size, 0, none⟩) 3 [120, 121, 122] (by decide) (fun _ => ⟨_, 0, rfl, hr3 _ rfl, ?_⟩)).mono ?_
  · rintro (e | e | e) <;> first | omega | (simp [Value.ownBlock] at e)
  rintro e w4 ⟨rfl, ⟨v4, hD6, _⟩, hK4⟩
  have hB4 := kB.out _ _ hK4 HB3.out
  have HB4 := Lib.hid (hB4.alloc hB4.size (.cells #[.int .i64 1] 3))
  clear hD4 hD5 hr3 z1 z2 hcv2 hK4 hB4 HB3
  go_wp2_with fail
  have hD7 := hD6.below (below_al (Below.refl _ _) (.cells #[.int .i64 1] 3))
  have z1 := hD6.blk.lt
  have z2 := hD6.sec.lt
  have hl6 := World.ownsRow.lt hD6.pend
  refine (crash_any hD7 (by simp only [List.length_set]; omega) (by simp) (some ⟨w4.heap.size, 0, none⟩) 1 [1] (by decide) (by decide) (fun _ => ⟨_, 0, rfl, fun i x hx => ?_, ?_⟩)).mono ?_
  · rw [(Blk.new w4 3 #[.int .i64 1]).cell]
    rcases i with _ | i
    · cases hx
      rfl
    · simp at hx
  · rintro (e | e | e)
    · omega
    · omega
    · have := (hl6 _ e).2
      omega
  rintro e w5 ⟨⟨v, rfl⟩, hD8, hK8⟩
  have HB5 := Lib.hid (kB.out _ _ (hK8.mono (fun i _ e => by rcases e with e | e <;> first | exact .inl e | exact .inr (.inl e))) HB4.out)
  clear hK8 HB4 kB
  rw [List.nil_append, crashed_one _ _ _ _ _ (by simp only [List.length_set]; omega)] at hD8
  simp only [List.set_set] at hD8
  have hSm : (S.set 0 (mix 1 (padB [97, 98, 99]) (padB [120, 121, 122])))[0]? = some (mix 1 (padB [97, 98, 99]) (padB [120, 121, 122])) := List.getElem?_set_self (by omega)
  have hml : (mix 1 (padB [97, 98, 99]) (padB [120, 121, 122])).length = 64 := by rfl
  have hm0 : (mix 1 (padB [97, 98, 99]) (padB [120, 121, 122])).take 4 = [120, 98, 99, 0] := by rfl
  clear hD6 hD7 hl6 z1 z2
  go_wp2_with fail
  refine (read_ok hD8 (by rw [List.length_set]; omega) 0 _ hSm).mono ?_
  rintro e w6 ⟨A, c, rfl, hO, hB6⟩
  have HB6 := Lib.hid (HB5.out.trans (hB6.mono HB5.out.size))
  clear hB6 HB5
  generalize mix 1 (padB [97, 98, 99]) (padB [120, 121, 122]) = M at hml hm0 hO
  rw [← hml] at hO
  have hroom := hO.room (by omega)
  obtain ⟨g, rfl, _, hgl, hc⟩ := hO.at (by omega)
  have hcs := run_convert_bytes_arg (P := Try.prog) w6 33 5 rowU8 u8Int g 0 4 c [120, 98, 99, 0] rfl (fun i hi => by
    have h1 : M[i]? = [120, 98, 99, 0][i]? := by rw [← hm0, List.getElem?_take, if_pos hi]
    rw [Nat.zero_add]
    refine hc i _ ?_
    rw [h1]
    match i, hi with
    | 0, _ => rfl
    | 1, _ => rfl
    | 2, _ => rfl
    | 3, _ => rfl) 9 strDesc
  have hc4 : (4 : Int) ≤ (c : Int) := by omega
  rw [show strOfNums [120, 98, 99, 0] = ⟨#[120, 98, 99, 0]⟩ from by kernel_rfl] at hcs
  clear hD8 hSm hO hc
  go_wp2_with fail
  go_ret
  exact ⟨rfl, HB6.out⟩
end Go.Proofs.Ytoglkeinhpcboaa
