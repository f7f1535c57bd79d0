
/- The reference's Bytes. -/
import Derived.Test.YtgphdioolcfmmaaM1
set_option linter.unusedSimpArgs false
set_option linter.unusedVariables false
set_option maxRecDepth 20000
namespace Go.Proofs.Ytgphdioolcfmmaa
open Go.RowKit

theorem byte_0 {x0 x1 x2 x3 : Int} (hx : Lim x0 x1 x2 x3) {j : Nat} (hj : j < 16) : dg x0 x1 x2 x3 j % 256 = val x0 x1 x2 x3 / 256 ^ (2 * j) % 256 := by
  rw [dg_val hx hj, Int.pow_mul]
  show _ = val x0 x1 x2 x3 / 65536 ^ j % 256
  omega
theorem byte_1 {x0 x1 x2 x3 : Int} (hx : Lim x0 x1 x2 x3) {j : Nat} (hj : j < 16) : dg x0 x1 x2 x3 j / 256 % 256 = val x0 x1 x2 x3 / 256 ^ (2 * j + 1) % 256 := by
  have e : val x0 x1 x2 x3 / 256 ^ (2 * j + 1) = val x0 x1 x2 x3 / 65536 ^ j / 256 := by
    rw [Int.pow_succ, Int.pow_mul]
    show _ / ((65536 : Int) ^ j * 256) = _
    first
      | exact (Int.ediv_ediv_eq_ediv_mul _ (Int.pow_nonneg (by decide))).symm
      | exact (Int.ediv_ediv (Int.pow_nonneg (by decide))).symm
      | exact (Int.ediv_ediv_of_nonneg (Int.pow_nonneg (by decide))).symm
  rw [dg_val hx hj, e]
  generalize val x0 x1 x2 x3 / 65536 ^ j = q
  omega

theorem dg_lim' {x0 x1 x2 x3 : Int} (k : Nat) : 0 ≤ dg x0 x1 x2 x3 k ∧ dg x0 x1 x2 x3 k < 65536 := by unfold dg; omega

end Go.Proofs.Ytgphdioolcfmmaa
