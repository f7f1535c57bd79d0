
/- Arguments as they come in: numbers by themselves. -/
import Derived.Test.YtjhjgncnadhbhaaV0
set_option linter.unusedSimpArgs false
set_option linter.unusedVariables false
set_option maxRecDepth 20000
namespace Go.Proofs.Ytjhjgncnadhbhaa
open Go.ChangeShapes Go.WideShapes Go.ChangeAt Go.RowKit

theorem okWide_num {W : World} {r : Reach} {b : Nat} {v : Value} (h : Value.okWide Try.prog W r b 64 v) : ∃ cs, v = .agg cs := by
  unfold Value.okWide at h
  rw [Try.underlying64] at h
  obtain ⟨cs, e, -⟩ := h
  exact ⟨cs, e⟩

theorem num_in {H : Type} {enc : TypeId × Value → H} {W w : World} {base b : Nat} {r : Reach} {spare : Nat → Bool} {held : Bool} {v : Value} {x : DataW H × List MemPlace} (hv : Value.okWide Try.prog W r b 64 v) (h : ∃ fuel, DataW.trod enc Try.prog w base spare held fuel 64 v.cells.toList = some x) :
    ∃ a b c d : Int, v = .agg #[.int .u64 a, .int .u64 b, .int .u64 c, .int .u64 d] ∧ Lim a b c d := by
  obtain ⟨cs, rfl⟩ := okWide_num hv
  obtain ⟨fuel, h⟩ := h
  obtain ⟨a, b, c, d, e, hl⟩ := num_of_cells h
  refine ⟨a, b, c, d, ?_, hl⟩
  cases cs
  simp [Value.cells] at e
  rw [e]
end Go.Proofs.Ytjhjgncnadhbhaa
