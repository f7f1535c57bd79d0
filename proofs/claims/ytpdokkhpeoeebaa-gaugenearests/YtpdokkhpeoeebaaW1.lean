
/- math/bits.Div64 whole; num.dividePart. -/
import Derived.Test.YtpdokkhpeoeebaaQ
set_option linter.unusedSimpArgs false
set_option linter.unusedVariables false
set_option maxRecDepth 20000
namespace Go.Proofs.Ytpdokkhpeoeebaa
open Go.RowKit

/-- The guess of a part isn't too small. -/
theorem guess_ok {n r0 r1 r2 r3 c0 c1 c2 c3 g t : Int} (hr : Lim r0 r1 r2 r3) (hc : Lim c0 c1 c2 c3) (hn : 0 ≤ n ∧ n < 18446744073709551616) (hC : 9223372036854775808 ≤ c3) (hlt : val r0 r1 r2 r3 < val c0 c1 c2 c3)
    (hg : (r3 < c3 ∧ r3 * 18446744073709551616 + r2 = g * c3 + t ∧ 0 ≤ t ∧ t < c3 ∧ 0 ≤ g) ∨ (c3 ≤ r3 ∧ g = 18446744073709551615)) :
    val r0 r1 r2 r3 * 18446744073709551616 + n < (g + 1) * val c0 c1 c2 c3 := by
  rcases hg with ⟨h1, h2, h3, h4, h5⟩ | ⟨h1, rfl⟩
  · have e1 : c3 * 6277101735386680763835789423207666416102355444464034512896 ≤ val c0 c1 c2 c3 := by unfold val; unfold Lim at hc; omega
    have e2 : (g + 1) * (c3 * 6277101735386680763835789423207666416102355444464034512896) ≤ (g + 1) * val c0 c1 c2 c3 := Int.mul_le_mul_of_nonneg_left e1 (by omega)
    have e3 : (g + 1) * (c3 * 6277101735386680763835789423207666416102355444464034512896) = (g * c3 + c3) * 6277101735386680763835789423207666416102355444464034512896 := by grind
    rw [e3] at e2
    unfold Lim at hr
    unfold val at *
    generalize g * c3 = G at *
    omega
  · have e1 : (18446744073709551615 + 1) * val c0 c1 c2 c3 = val c0 c1 c2 c3 * 18446744073709551616 := by omega
    rw [e1]; omega
end Go.Proofs.Ytpdokkhpeoeebaa
