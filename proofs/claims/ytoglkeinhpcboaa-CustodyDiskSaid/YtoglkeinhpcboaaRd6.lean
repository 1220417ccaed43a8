/- The contract of the reference's NewDisk. Conditions: none. -/
import Derived.Test.YtoglkeinhpcboaaRd4
import Derived.Deep.RegionLaw
namespace Go.Proofs.Ytoglkeinhpcboaa
open Go.RowKit

theorem infoStr : (Try.prog.info? 9).map (fun i => (i.zero, i.size, i.bytes)) = some (some (.string ⟨#[]⟩), 1, 16) := by kernel_rfl
theorem rowStrs : Try.prog.underlying 37 = some (.slice 9) := by kernel_rfl
section
variable {w : World} {p : Nat} {vD : Value} {D : List (List Int)} {L : Int} {dn : Bool}
/-- A further sector. -/
theorem append_sec (h : RefAt w p vD (.slice none 0 0) D [] L dn) (hD : D.length ≤ 100000) (s : List Int) (hs : s.length = 64) (ty : TypeId) :
    ∃ v' w', (Builtin.append_ #[37, 37] ty #[vD, .slice (some ⟨w.heap.size, 0, none⟩) 1 1]).run Try.prog (w.alloc (.cells #[.string (strOfNums s)] 9)) = .ok v' w' ∧ w'.cell? ⟨p, 0, none⟩ = some vD ∧ w'.frozen? ⟨p, 0, none⟩ = false ∧
      RefAt (w'.setCell ⟨p, 0, none⟩ v') p v' (.slice none 0 0) (D ++ [s]) [] L dn ∧ Keeps (ownR p vD (.slice none 0 0)) w (w'.setCell ⟨p, 0, none⟩ v') ∧ (v'.ownBlock = vD.ownBlock ∨ ∀ i, v'.ownBlock = some i → w.heap.size ≤ i) ∧ ∃ A c, v' = .slice A (D.length + 1) c := by
  obtain ⟨i0, hi, hz0, hz1, hz2⟩ := info_parts infoStr
  have hA : RefAt (w.alloc (.cells #[.string (strOfNums s)] 9)) p vD (.slice none 0 0) D [] L dn := h.below ((Below.refl _ _).alloc (Nat.le_refl _) _)
  have kN := Blk.new w 9 #[.string (strOfNums s)]
  obtain ⟨v', w', hrun, hO, hg, _, hv⟩ := run_append_own_at (P := Try.prog) (w.alloc (.cells #[.string (strOfNums s)] 9)) 0 37 ty 9 i0 _ 1 16 rowStrs hi hz0 hz1 hz2 rfl (by decide) vD D.length _ hA.dur ⟨w.heap.size, 0, none⟩ 1 1 [sStr s] rfl (fun j u hj => by
      rw [Addr.add_mid, Nat.zero_add, kN.cell j]
      have hj2 : ([.string (strOfNums s)] : List Value)[j]? = some u := hj
      rw [← hj2]
      exact List.getElem?_toArray) (fun u hu => by
      unfold sStr at hu
      simp at hu
      subst hu
      rfl) (by unfold maxLen; omega) (by omega) (Nat.zero_le _)
  have hk : Keeps (fun i => vD.ownBlock = some i) (w.alloc (.cells #[.string (strOfNums s)] 9)) w' := Keeps.of_grown hg (fun k hk _ => hk)
  have hB := hA.blk.keep hk h.ne1
  have hvp : v'.ownBlock ≠ some p := by
    have := h.blk.lt
    rcases hv with e | e
    · rw [e]; exact h.ne1
    · rw [e]; simp; omega
  have hkp : Keeps (fun i => i = p) w' (w'.setCell ⟨p, 0, none⟩ v') := (Keeps.refl (fun k => k = p) w').setCell (p := ⟨p, 0, none⟩) (fun _ => rfl) v'
  refine ⟨v', w', hrun, by rw [hB.cell 0]; rfl, hB.frozen 0, ⟨hB.set 0 v', ?_, World.ownsRow_nil _ _ _ _, fun y hy => ?_, fun x hx => by simp at hx, hvp, by simp [Value.ownBlock], fun i _ => by simp [Value.ownBlock]⟩, ?_, ?_, ?_⟩
  · rw [List.length_append, List.map_append, List.map_cons, List.map_nil]
    exact ownsRow_kept hO hkp (fun j e e' => hvp (by rw [e, e']))
  · rcases List.mem_append.1 hy with hy | hy
    · exact h.all y hy
    · rw [List.mem_singleton.1 hy]; exact hs
  · exact ((((Keeps.refl _ _).alloc _).trans hk (fun i _ e => .inr (.inl e))).setCell (p := ⟨p, 0, none⟩) (fun _ => .inl rfl) v')
  · rcases hv with e | e
    · exact .inl e
    · refine .inr (fun i hi => ?_)
      rw [e] at hi
      simp at hi
      omega
  · rcases hO.2 with ⟨_, h1⟩ | ⟨g', cap, cur, rfl, _⟩
    · omega
    · exact ⟨_, cap, rfl⟩
end
set_option maxRecDepth 100000 in
set_option maxHeartbeats 2000000 in
theorem rnewDisk_ok (n : Nat) (h1 : 16 ≤ n) (h2 : n ≤ 65536) (w : World) :
    Calls Try.prog 16 #[.int .i64 (n : Int)] w fun e w' => e = .returned (.tuple #[.pointer (some ⟨w.heap.size, 0, none⟩), .int .i64 0]) ∧ (∃ vD, RefAt w' w.heap.size vD (.slice none 0 0) (List.replicate n zeroS) [] (-1) false ∧ ∀ i, vD.ownBlock = some i → w.heap.size ≤ i) ∧ Below w.heap.size w w' := by
  have k1 : ¬ (n : Int) < 16 := by omega
  have k2 : ¬ (65536 : Int) < (n : Int) := by omega
  have HP := Lib.hid (fun W => padded_any [] (by decide) W)
  unfold sStr at HP
  rw [show strOfNums [] = ⟨#[]⟩ from by kernel_rfl] at HP
  go_enter Try.func16, Try.ntmps16
  go_wp2_with fail
  go_loopw [5] (fun i wr => ∃ (k : Nat) (vD : Value), k ≤ n ∧ i = .int .i64 k ∧ RefAt wr w.heap.size vD (.slice none 0 0) (List.replicate k zeroS) [] (-1) false ∧ (∀ i, vD.ownBlock = some i → w.heap.size ≤ i) ∧ Below w.heap.size w wr) (fun i _ => n - (intOf i).toNat)
  case atStart =>
    refine ⟨0, .slice none 0 0, Nat.zero_le _, rfl, ⟨Blk.new w _ _, World.ownsRow_nil _ _ _ _, World.ownsRow_nil _ _ _ _, fun s hs => by simp at hs, fun x hx => by simp at hx, by simp [Value.ownBlock], by simp [Value.ownBlock], fun i _ => by simp [Value.ownBlock]⟩, by simp [Value.ownBlock], (Below.refl _ _).alloc (Nat.le_refl _) _⟩
  case round =>
    obtain ⟨k, vD, hk, rfl, hR, hv, hB⟩ := hrel
    by_cases hlt : k < n
    · have hki : (k : Int) < (n : Int) := by omega
      have hdr : RefAt wr.drew w.heap.size vD _ (List.replicate k zeroS) [] (-1) false := hR.below (Below.refl _ _).drew
      obtain ⟨v', w2, hrun, f1, z1, hR2, hK2, hv2, A5, c5, rfl⟩ := append_sec hdr (by rw [List.length_replicate]; omega) (padB []) (by decide) 37
      obtain ⟨⟨A, c, rfl⟩, _⟩ := hR.shapes
      rw [List.length_replicate] at hrun hR2 hv2 f1 hK2
      have e0 := hR.blk.cell 0
      have zp := hR.blk.lt
      rw [List.length_replicate] at e0
      have e0a : (wr.alloc (.cells #[.string (strOfNums (padB []))] 9)).cell? ⟨w.heap.size, 0, none⟩ = some (.slice A k c) := by
        rw [(Blk.alloc hR.blk _).cell 0, List.length_replicate]
        rfl
      simp at e0
      have hrun2 : (Builtin.append_ #[37, 37] 37 #[.slice A k c, .slice (some ⟨wr.heap.size, 0, none⟩) 1 1]).run Try.prog (wr.alloc (.cells #[.string (strOfNums (padB []))] 9)).drew = .ok (.slice A5 (k + 1) c5) w2 := hrun
      have HR2 := Lib.hid hR2
      have HB2 := Lib.hid (hB.drew.trans (hK2.below (fun i hi e => by
        rcases e with e | e | e
        · omega
        · have := hv i (by rw [List.length_replicate]; exact e); omega
        · simp [Value.ownBlock] at e) hB.size))
      have HV2 : Hid (∀ i, (Value.slice A5 (k + 1) c5).ownBlock = some i → w.heap.size ≤ i) := Lib.hid (fun i hi => by
        rcases hv2 with e | e
        · rw [e] at hi
          exact hv i (by rw [List.length_replicate]; exact hi)
        · have := e i hi
          have := hB.size
          have h5 : wr.drew.heap.size = wr.heap.size := rfl
          omega)
      clear hdr hR hR2 hK2 hv2 hv hB hrun
      go_upto_region 7 with fail
      go_region_law (first
        | (refine Lib.wp_append_run _ _ _ _ _ rfl _ _ rfl rfl _ _ hrun2 ?_)
        | (rw [if_pos (by rfl)]; refine Lib.wp_append_run _ _ _ _ _ rfl _ _ rfl rfl _ _ hrun2 ?_)
        | (go_simp; go_at_call 28; refine (HP.out _).mono ?_; rintro e wP ⟨rfl, rfl⟩; dsimp only))
      all_goals
        go_wp2_with fail
        go_roundw
        case rel => exact ⟨k + 1, _, by omega, by go_num, by have := HR2.out; rw [show padB [] = zeroS from rfl, ← List.replicate_succ'] at this; exact this, HV2.out, HB2.out⟩
        case measure => simp [intOf]; omega
    · have hkn : k = n := by omega
      subst hkn
      have HR2 := Lib.hid hR
      have HV2 := Lib.hid hv
      have HB2 := Lib.hid hB
      clear hR hv hB
      go_wp2_with fail
      go_ret2
      exact ⟨rfl, ⟨_, HR2.out, HV2.out⟩, HB2.out⟩
end Go.Proofs.Ytoglkeinhpcboaa
