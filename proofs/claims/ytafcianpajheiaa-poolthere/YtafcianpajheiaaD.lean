
/- Walks of num.product, Mul. -/
import Derived.Test.YtafcianpajheiaaC
set_option linter.unusedSimpArgs false
set_option linter.unusedVariables false
set_option maxRecDepth 20000
namespace Go.Proofs.Ytafcianpajheiaa
open Go.RowKit

theorem product_step {X y H R t s0 s1 s2 s3 c : Int} (hX : 0 ≤ X ∧ X < 115792089237316195423570985008687907853269984665640564039457584007913129639936) (hy : 0 ≤ y ∧ y < 18446744073709551616) (hH : 0 ≤ H ∧ H < 115792089237316195423570985008687907853269984665640564039457584007913129639936)
    (ht : 0 ≤ t ∧ t < 18446744073709551616) (hs : Lim s0 s1 s2 s3) (c0 : 0 ≤ c) (c1 : c ≤ 1)
    (e1 : Hid (X * y + 0 = R + t * 115792089237316195423570985008687907853269984665640564039457584007913129639936)) (e2 : Hid (R + H = val s0 s1 s2 s3 + c * 115792089237316195423570985008687907853269984665640564039457584007913129639936)) :
    (0 ≤ t + c ∧ t + c < 18446744073709551616) ∧ Lim s1 s2 s3 (t + c) ∧ Hid (X * y + H = val s1 s2 s3 (t + c) * 18446744073709551616 + s0) := by
  have e1 := e1.out; have e2 := e2.out
  have hp : X * y ≤ 115792089237316195423570985008687907853269984665640564039457584007913129639935 * 18446744073709551615 := Int.mul_le_mul (by omega) (by omega) (by omega) (by omega)
  generalize X * y = p at *
  unfold Lim at hs
  unfold val at e2
  have k : 0 ≤ t + c ∧ t + c < 18446744073709551616 := by omega
  refine ⟨k, ⟨hs.2.1, hs.2.2.1, hs.2.2.2, k⟩, show _ = _ from ?_⟩
  unfold val; omega

theorem product_sum {X y0 y1 y2 y3 H1 H2 H3 H4 a0 a1 a2 a3 : Int} (e0 : Hid (X * y0 + 0 = H1 * 18446744073709551616 + a0)) (e1 : Hid (X * y1 + H1 = H2 * 18446744073709551616 + a1)) (e2 : Hid (X * y2 + H2 = H3 * 18446744073709551616 + a2)) (e3 : Hid (X * y3 + H3 = H4 * 18446744073709551616 + a3)) :
    X * val y0 y1 y2 y3 = H4 * 115792089237316195423570985008687907853269984665640564039457584007913129639936 + val a0 a1 a2 a3 := by
  have e0 := e0.out; have e1 := e1.out; have e2 := e2.out; have e3 := e3.out
  have e : X * val y0 y1 y2 y3 = X * y0 + X * y1 * 18446744073709551616 + X * y2 * 340282366920938463463374607431768211456 + X * y3 * 6277101735386680763835789423207666416102355444464034512896 := by
    unfold val; simp only [Int.mul_add, Int.mul_assoc]
  rw [e]; unfold val
  generalize X * y0 = p0 at *; generalize X * y1 = p1 at *; generalize X * y2 = p2 at *; generalize X * y3 = p3 at *
  omega

end Go.Proofs.Ytafcianpajheiaa
