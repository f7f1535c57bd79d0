
/- The contracts of num as they are used where the answer is known. -/
import Derived.Test.YtpdokkhpeoeebaaB3
import Derived.Test.YtpdokkhpeoeebaaH
set_option linter.unusedSimpArgs false
set_option linter.unusedVariables false
set_option maxRecDepth 20000
namespace Go.Proofs.Ytpdokkhpeoeebaa
open Go.RowKit

theorem eq4_self (a b c d : Int) : eq4 a b c d a b c d = true := eq4_true.2 ⟨rfl, rfl, rfl, rfl⟩
theorem limbs_of {n : Int} (h0 : 0 ≤ n) (h1 : n < 115792089237316195423570985008687907853269984665640564039457584007913129639936) : ∃ z0 z1 z2 z3 : Int, Lim z0 z1 z2 z3 ∧ val z0 z1 z2 z3 = n :=
  ⟨n % 18446744073709551616, n / 18446744073709551616 % 18446744073709551616, n / 340282366920938463463374607431768211456 % 18446744073709551616, n / 6277101735386680763835789423207666416102355444464034512896, by unfold Lim; omega, by unfold val; omega⟩

theorem cmp_ge {x y : Int} (h : y ≤ x) : 0 ≤ cmpI x y := by
  unfold cmpI; rw [if_neg (by omega)]; split <;> decide
end Go.Proofs.Ytpdokkhpeoeebaa
