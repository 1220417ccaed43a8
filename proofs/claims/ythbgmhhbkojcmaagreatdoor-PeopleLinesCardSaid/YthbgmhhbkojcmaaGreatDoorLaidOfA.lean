/- What the listed package variables of the library hold, by the rows' own conditions; an entry that is an argument. No conditions. -/
import Derived.Test.YthbgmhhbkojcmaaGreatDoorAliveA
import Derived.Test.YthbgmhhbkojcmaaGreatDoorNumbA
import Derived.Test.YthbgmhhbkojcmaaGreatDoorItoaA
import Derived.Test.YthbgmhhbkojcmaaGreatDoorOpenA
import Derived.ChangeMaps5
import Derived.MakeChecks
import Derived.Stop.LaidErr
import Derived.Lib.LaidTab
import Derived.SizedLaws
namespace Go.Proofs.YthbgmhhbkojcmaaGreatDoor
open Go.ChangeShapes Go.WideShapes Go.ChangeAt Go.RowKit

theorem errName : Tryz.prog.typeName? 3 220 = some "*errors.errorString" := by kernel_rfl
theorem errStar : "*" ++ "errors.errorString" = "*errors.errorString" := by decide
theorem errRow (u : TypeId) (h : Tryz.prog.typeName? 3 u = some "*errors.errorString") : u = 220 :=
  typeName_ptr_named (nm := "errors.errorString") (by rw [errStar]; kernel_rfl) (by kernel_rfl) (by decide) u (by rw [errStar]; exact h)
theorem errIn_of {n : String} {g : Nat} {W : World} {text : List UInt8} {r : List (String × DataW Unit)} (hg : Tryz.prog.globalNamed n = some g) (ht : (Tryz.prog.globals[g]?).map (·.type) = some 104)
    (h : laidMet Tryz.prog ((n, .iface "*errors.errorString" (.ptr (.agg [.lit (.string text)]))) :: r) W) : ErrIn g W := by
  obtain ⟨a, s, hv, _⟩ := laid_sentinel h hg ht Tryz.underlying104 errRow Tryz.underlying220 Tryz.underlying222 rfl rfl Tryz.underlying9 (by kernel_rfl) (by kernel_rfl)
  exact ⟨_, World.var?_cell hg hv 0, .inr ⟨_, _, rfl⟩⟩
theorem lines_laid {W : World} (h : laidMetH Tryz.prog Rows.peopleLinesRow.laid W) : PowAt W ∧ ErrsAt W := by
  rw [Go.MakeChecks.laidMetH_plain _ _ _ (by kernel_rfl)] at h
  have h1 : laidMet Tryz.prog [("math/bits.deBruijn32tab", Rows.laid_math_bits_deBruijn32tab), ("math/bits.deBruijn64tab", Rows.laid_math_bits_deBruijn64tab), ("internal/strconv.uint64pow10", Rows.laid_internal_strconv_uint64pow10), ("strconv.ErrRange", Rows.laid_strconv_ErrRange), ("strconv.ErrSyntax", Rows.laid_strconv_ErrSyntax)] W := h
  have h2 := h1.tail.tail
  have h3 := h2.tail
  have h4 := h3.tail
  refine ⟨Lib.tabIs_of_head (g := 1) (by kernel_rfl) (by kernel_rfl) Tryz.underlying202 Tryz.underlying160 (by kernel_rfl) (by kernel_rfl) h2, ?_, ?_⟩
  · exact errIn_of (n := "strconv.ErrSyntax") (by kernel_rfl) (by kernel_rfl) h4
  · exact errIn_of (n := "strconv.ErrRange") (by kernel_rfl) (by kernel_rfl) h3
set_option maxRecDepth 100000 in
theorem ent_of_ok {H : Type} {enc : TypeId × Value → H} {W : World} {base : Nat} {v : Value} {d : DataW H} {ps : List MemPlace} (hv : Value.okWide Tryz.prog W .any base 23 v) (h : DataW.Trod enc Tryz.prog W 0 (fun _ => true) true 23 v d ps) : ∃ e : Ent, v = entVal e ∧ goEnt e := by
  obtain ⟨cs, rfl, hsz⟩ := okWide_struct entStruct hv
  obtain ⟨fuel, hf⟩ := h
  obtain ⟨e, he, hg⟩ := open_ent hf
  refine ⟨e, ?_, hg⟩
  have h2 : cs.toList = entCells e := by simpa [Value.cells] using he
  obtain ⟨l⟩ := cs
  subst h2
  rfl
set_option maxRecDepth 100000 in
theorem ent_readable : Tryz.prog.readableRec 23 = true ∧ (23 : TypeId) < Tryz.prog.types.size := ⟨by kernel_rfl, of_decide_eq_true (by kernel_rfl)⟩
theorem string_readable : Tryz.prog.readableRec 9 = true ∧ (9 : TypeId) < Tryz.prog.types.size := ⟨by kernel_rfl, of_decide_eq_true (by kernel_rfl)⟩
end Go.Proofs.YthbgmhhbkojcmaaGreatDoor
