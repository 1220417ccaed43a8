/- A region that draws its order, inside a round of a range over a function: no call, many operations that leave the world, then a tail in one order. Conditions: none. -/
import Derived.Test.YthieonekjmdelaaBack
import Derived.StillTail
import Derived.OrdersIn
namespace Go.Proofs.Ythieonekjmdelaa
open Go.RowKit Go.Shelf

/-- The operations of which is known here that they neither enter nor ask for anything. -/
def mild : Op → Bool
  | .move _ | .load .. | .store .. | .nilCheck _ | .fieldAddr .. | .indexAddr .. => true
  | _ => false
theorem mild_call {o : Op} (h : mild o = true) : (∀ c, o ≠ .call c) ∧ (∀ c, o ≠ .defer c) := by
  constructor <;> (intro c e; rw [e] at h; cases h)
/-- What such an operation ends in. -/
def Ends : Result Next → Prop
  | .ok (.value _) _ => True
  | .ok .skip _ => True
  | .ok _ _ => False
  | .halt _ _ => True
theorem ends_value (s : Sem Value) (P : Program) (w : World) : Ends ((do pure (Next.value (← s)) : Sem Next).run P w) := by
  rw [Sem.run_bind]
  cases s.run P w <;> trivial
theorem ends_unit (s : Sem Unit) (P : Program) (w : World) : Ends ((do s; pure Next.skip : Sem Next).run P w) := by
  rw [Sem.run_bind]
  cases s.run P w <;> trivial
theorem ends_bind {α : Type} (s : Sem α) (f : α → Sem Next) (P : Program) (w : World) (h : ∀ v w', Ends ((f v).run P w')) : Ends ((s >>= f).run P w) := by
  rw [Sem.run_bind]
  cases s.run P w with
  | halt h w' => trivial
  | ok p w1 => exact h p w1
theorem ends_panic (P : Program) (w : World) : Ends ((runtimePanic .nilDeref : Sem Next).run P w) := by
  unfold runtimePanic
  refine ends_bind _ _ _ _ fun v w' => ?_
  trivial
theorem mild_ends {o : Oper} (h : mild o.op = true) (ρ : Operand → Value) (P : Program) (w : World) : Ends ((execOp ρ o).run P w) := by
  cases ho : o.op <;> rw [ho] at h <;> try (cases h)
  · simp only [execOp, ho]; trivial
  · simp only [execOp, ho]; exact ends_value _ _ _
  · simp only [execOp, ho]; exact ends_unit _ _ _
  · rename_i x
    simp only [execOp, ho]
    split
    · exact ends_panic _ _
    · exact ends_panic _ _
    · exact ends_panic _ _
    · split
      · exact ends_panic _ _
      · refine ends_bind _ _ _ _ fun v w' => ends_bind _ _ _ _ fun v w' => ?_
        split
        · exact ends_bind _ _ _ _ fun v w' => trivial
        · trivial
      · trivial
    · trivial
  · simp only [execOp, ho]; exact ends_value _ _ _
  · simp only [execOp, ho]; exact ends_value _ _ _
theorem mild_wpIn {F : Fence} {n : Nat} {P : Program} {o : Oper} {a : Act} {w : World} {K : Act → World → Prop} {Q : Exit → Act → World → Prop} (hm : mild o.op = true) (h : o.wp P a w K Q) : o.wpIn F n P a w K Q := by
  obtain ⟨hc, hd⟩ := mild_call hm
  refine ⟨fun f hf => ?_, ?_⟩
  · unfold Oper.about at hf
    split at hf
    · rename_i c hcc
      exact absurd hcc (hc c)
    · cases hf
  · rw [Oper.semAt_plain F _ _ hd]
    have he := mild_ends hm a.eval P w
    unfold Oper.wp at h
    generalize (execOp a.eval o).run P w = r at h he
    cases r with
    | ok x w' => cases x <;> first | exact h | cases he
    | halt x w' => cases x <;> first | exact h | cases h
theorem mild_opsIn {F : Fence} {n : Nat} {P : Program} {ops : Array Oper} {Q : Exit → Act → World → Prop} (hm : ∀ (i : Nat) (o : Oper), ops[i]? = some o → mild o.op = true) (hQ : ¬ LetsOut Q) :
    ∀ (l : List Nat) (a : Act) (w : World), wpOps P ops Q l a w → wpOpsIn F n P ops Q l a w
  | [], _, _, h => h
  | i :: rest, a, w, h => by
    unfold wpOpsIn
    unfold wpOps at h
    cases ho : ops[i]? with
    | none =>
      simp only [ho] at h ⊢
      exact mild_opsIn hm hQ rest a w h
    | some o =>
      simp only [ho] at h ⊢
      by_cases hw : Region.wanted o (yielded ops a.tmps) = true
      · rw [if_pos hw] at h ⊢
        rcases h with h | h
        · exact mild_wpIn (hm i o ho) (Oper.wp_mono (fun a' w' h' => mild_opsIn hm hQ rest a' w' h') h)
        · exact absurd h.2 hQ
      · rw [if_neg hw] at h ⊢
        refine ⟨fun f hf => ?_, mild_opsIn hm hQ rest _ w h⟩
        obtain ⟨hc, _⟩ := mild_call (hm i o ho)
        unfold Oper.about at hf
        split at hf
        · rename_i c hcc
          exact absurd hcc (hc c)
        · cases hf
/-- Many operations that leave the world, then a tail in one order, inside a round. -/
theorem wpIn_still_tail {F : Fence} {m : Nat} {P : Program} {id : Nat} {Q : Exit → Act → World → Prop} {a : Act} {w : World} {l : List Oper} (n : Nat) (hm : P.follows .mixedOrders = true) (hB : Region.lexTailB .any l.toArray n = true) (hM : l.all (fun o => mild o.op) = true) (hQ : ¬ LetsOut Q)
    (h : wpStill P l.toArray { w with drawn := w.drawn + 1 } (fun a' => wpList P l.toArray Q (l.drop n) a' { w with drawn := w.drawn + 1 }) (l.take n) a) : (Code.region id l.toArray true).wpIn F m P Q a w := by
  refine wpIn_region_draw fun t => mild_opsIn (fun i o ho => ?_) hQ _ _ _ ?_
  · rw [List.getElem?_toArray] at ho
    exact List.all_eq_true.1 hM o (List.mem_of_getElem? ho)
  simp only [Region.schedule, hm, Bool.true_or, if_true]
  refine wpAny_sound _ _ _ _ _ ?_
  simp only [Region.lexTailB, Bool.and_eq_true, decide_eq_true_eq] at hB
  obtain ⟨⟨⟨⟨h1, h2⟩, h3⟩, h4⟩, h5⟩ := hB
  have e1 : (l.take n).length = n := by
    have : n < l.length := by simpa using h2
    simp; omega
  have e2 : (l.drop n).length = l.toArray.size - n := by simp
  have hh := wpAnyL_lex (md := .any) (g := l.toArray.size - n) h1 h3 h4 h2 (l.take n) 0 (Array.replicate l.toArray.size false) a (fun j hj => by
    rw [e1] at hj
    simp [hj]) (by omega) ⟨by simp, fun j oj _ hl => (by rw [getD_replicate_false] at hl; cases hl), fun t _ ht => getD_in (by simpa using ht) (getD_replicate_false _ _)⟩ (by rw [e1]; exact h5) h
  have hr := wpAny_of_head (Q' := Q) (g := l.toArray.size - n) (fun ls a' hL => by
    have hs := wpAny_of_seq (md := .any) (Q' := Q) (l.drop n) n ls a' { w with drawn := w.drawn + 1 } (fun j => by simp [List.getElem?_drop]) (by rw [e2]; exact hL.1) hL.2
    rwa [e2] at hs) _ _ _ hh
  rwa [e1, show n + (l.toArray.size - n) = l.toArray.size by have : n < l.toArray.size := h2; omega] at hr
end Go.Proofs.Ythieonekjmdelaa
