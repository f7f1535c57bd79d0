
/- Arguments as they come in: numbers. -/
import Derived.Test.YtjhjgncnadhbhaaV6
import Derived.Test.YtjhjgncnadhbhaaB
import Derived.BigQuiet
import Derived.Deep.QuietTactic
import Derived.ProofKit
import Derived.OpenShut
import Derived.ShutString
import Derived.ChangeOld
import Derived.Deep.Slices
set_option linter.unusedSimpArgs false
set_option linter.unusedVariables false
set_option maxRecDepth 20000
namespace Go.Proofs.Ytjhjgncnadhbhaa
open Go.ChangeShapes Go.WideShapes Go.ChangeAt Go.RowKit
variable {H : Type} {enc : TypeId × Value → H} {w : World} {base : Nat} {spare : Nat → Bool} {held : Bool} {fuel : Nat} {cs : List Value} {x : DataW H × List MemPlace}

theorem ret_bool {a b : Bool} (h : a = b) : Ending.returned (.bool a) = .returned (.bool b) := by rw [h]

theorem Try.cellsNum : Try.prog.cellsOf 64 = 4 := by kernel_rfl
theorem Try.cellsU64 : Try.prog.cellsOf 28 = 1 := by kernel_rfl

theorem wf_u64 {n : Int} (h : (Lit.int .u64 n).wf = true) : 0 ≤ n ∧ n < 18446744073709551616 := by
  have := bounds_u64 h; omega
theorem num_of_cells (h : DataW.trod enc Try.prog w base spare held fuel 64 cs = some x) : ∃ a b c d : Int, cs = [.int .u64 a, .int .u64 b, .int .u64 c, .int .u64 d] ∧ Lim a b c d := by
  obtain ⟨xs, m, -, -, hl, hx, hi⟩ := DataW.trod_array Try.underlying64 h
  rw [Try.cellsNum] at hl
  simp only [Try.cellsU64, Nat.mul_one] at hi
  match cs, hl with
  | [c0, c1, c2, c3], _ =>
    have get : ∀ i, i < 4 → ∃ y, DataW.trod enc Try.prog w base spare held m 28 (([c0, c1, c2, c3].drop i).take 1) = some y := fun i hlt => ⟨xs[i]'(by omega), by rw [hi i hlt]; simp [hx, hlt]⟩
    obtain ⟨y0, e0⟩ := get 0 (by omega)
    obtain ⟨y1, e1⟩ := get 1 (by omega)
    obtain ⟨y2, e2⟩ := get 2 (by omega)
    obtain ⟨y3, e3⟩ := get 3 (by omega)
    obtain ⟨a, ea, -, wa⟩ := DataW.trod_int Try.underlying28 e0
    obtain ⟨b, eb, -, wb⟩ := DataW.trod_int Try.underlying28 e1
    obtain ⟨c, ec, -, wc⟩ := DataW.trod_int Try.underlying28 e2
    obtain ⟨d, ed, -, wd⟩ := DataW.trod_int Try.underlying28 e3
    simp at ea eb ec ed
    subst ea eb ec ed
    exact ⟨a, b, c, d, rfl, wf_u64 wa, wf_u64 wb, wf_u64 wc, wf_u64 wd⟩

end Go.Proofs.Ytjhjgncnadhbhaa
