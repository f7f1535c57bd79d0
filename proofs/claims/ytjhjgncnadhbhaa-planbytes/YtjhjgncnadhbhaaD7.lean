
/- The reference's Rest. -/
import Derived.Test.YtjhjgncnadhbhaaD6
set_option linter.unusedSimpArgs false
set_option linter.unusedVariables false
set_option maxRecDepth 20000
namespace Go.Proofs.Ytjhjgncnadhbhaa
open Go.RowKit

theorem cmpI_le {x y : Int} (h : x ≤ y) : cmpI x y ≤ 0 := by unfold cmpI; split <;> (try split) <;> omega
theorem cmpI_gt {x y : Int} (h : y < x) : ¬ cmpI x y ≤ 0 := by rw [cmp_gt h]; omega
theorem sm_lim {dl : Nat → Int} (n : Nat) (h : ∀ i, i < n → 0 ≤ dl i ∧ dl i < 65536) : 0 ≤ sm dl n ∧ sm dl n < 65536 ^ n := by
  induction n with
  | zero => simp [sm]
  | succ n ih =>
    have h1 := ih (fun i hi => h i (by omega))
    have h2 := h n (by omega)
    simp only [sm, Int.pow_succ]
    have h3 : 0 ≤ (65536 : Int) ^ n := Int.pow_nonneg (by decide)
    generalize (65536 : Int) ^ n = B at *
    have h4 : 0 ≤ dl n * B := Int.mul_nonneg h2.1 h3
    have h5 : dl n * B ≤ 65535 * B := Int.mul_le_mul_of_nonneg_right (by omega) h3
    omega

end Go.Proofs.Ytjhjgncnadhbhaa
