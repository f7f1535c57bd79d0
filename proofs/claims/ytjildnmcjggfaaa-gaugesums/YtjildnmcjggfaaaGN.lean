
/- Arguments as they come in: pairs of numbers; words. -/
import Derived.Test.YtjildnmcjggfaaaV1
set_option linter.unusedSimpArgs false
set_option linter.unusedVariables false
namespace Go.Proofs.Ytjildnmcjggfaaa
open Go.ChangeShapes Go.WideShapes Go.ChangeAt Go.RowKit
variable {H : Type} {enc : TypeId × Value → H} {w : World} {base : Nat} {spare : Nat → Bool} {held : Bool} {fuel : Nat} {cs : List Value} {x : DataW H × List MemPlace}

theorem Try.cellsTwo : Try.prog.cellsOf 48 = 8 := by kernel_rfl
theorem two_of_cells (h : DataW.trod enc Try.prog w base spare held fuel 48 cs = some x) : ∃ a0 a1 a2 a3 b0 b1 b2 b3 : Int, cs = [.int .u64 a0, .int .u64 a1, .int .u64 a2, .int .u64 a3, .int .u64 b0, .int .u64 b1, .int .u64 b2, .int .u64 b3] ∧ Lim a0 a1 a2 a3 ∧ Lim b0 b1 b2 b3 := by
  obtain ⟨xs, m, -, -, hl, hx, hi⟩ := DataW.trod_struct Try.underlying48 h
  rw [Try.cellsTwo] at hl
  have f0 : DataW.trod enc Try.prog w base spare held m 24 ((cs.drop 0).take (Try.prog.cellsOf 24)) = xs[0]? := hi 0 _ rfl
  have f1 : DataW.trod enc Try.prog w base spare held m 24 ((cs.drop 4).take (Try.prog.cellsOf 24)) = xs[1]? := hi 1 _ rfl
  rw [Try.cellsNum] at f0 f1
  match cs, hl with
  | [c0, c1, c2, c3, c4, c5, c6, c7], _ =>
    have hx2 : xs.length = 2 := hx
    obtain ⟨a0, a1, a2, a3, ea, hla⟩ := num_of_cells (f0.trans (List.getElem?_eq_getElem (by omega)))
    obtain ⟨b0, b1, b2, b3, eb, hlb⟩ := num_of_cells (f1.trans (List.getElem?_eq_getElem (by omega)))
    simp at ea eb
    obtain ⟨rfl, rfl, rfl, rfl⟩ := ea
    obtain ⟨rfl, rfl, rfl, rfl⟩ := eb
    exact ⟨a0, a1, a2, a3, b0, b1, b2, b3, rfl, hla, hlb⟩
theorem okWide_two {W : World} {r : Reach} {b : Nat} {v : Value} (h : Value.okWide Try.prog W r b 48 v) : ∃ cs, v = .agg cs := by
  unfold Value.okWide at h
  rw [Try.underlying48] at h
  obtain ⟨cs, e, -⟩ := h
  exact ⟨cs, e⟩
theorem two_in {W : World} {b : Nat} {r : Reach} {v : Value} (hv : Value.okWide Try.prog W r b 48 v) (h : ∃ fuel, DataW.trod enc Try.prog w base spare held fuel 48 v.cells.toList = some x) :
    ∃ a0 a1 a2 a3 b0 b1 b2 b3 : Int, v = .agg #[.int .u64 a0, .int .u64 a1, .int .u64 a2, .int .u64 a3, .int .u64 b0, .int .u64 b1, .int .u64 b2, .int .u64 b3] ∧ Lim a0 a1 a2 a3 ∧ Lim b0 b1 b2 b3 := by
  obtain ⟨cs, rfl⟩ := okWide_two hv
  obtain ⟨fuel, h⟩ := h
  obtain ⟨a0, a1, a2, a3, b0, b1, b2, b3, e, hl⟩ := two_of_cells h
  refine ⟨a0, a1, a2, a3, b0, b1, b2, b3, ?_, hl⟩
  cases cs
  simp [Value.cells] at e
  rw [e]
theorem u64_in {n : Int} (h : DataW.trod enc Try.prog w base spare held fuel 22 [.int .u64 n] = some x) : 0 ≤ n ∧ n < 18446744073709551616 := by
  obtain ⟨d, ed, -, wd⟩ := DataW.trod_int Try.underlying22 h
  simp at ed
  subst ed
  have := bounds_u64 wd
  omega
end Go.Proofs.Ytjildnmcjggfaaa
