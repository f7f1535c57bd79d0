
/- law01.wide: is a product at most another one? num.MulDiv where the answer is known. -/
import Derived.Test.YtpdokkhpeoeebaaD9
set_option linter.unusedSimpArgs false
set_option linter.unusedVariables false
set_option maxRecDepth 20000
namespace Go.Proofs.Ytpdokkhpeoeebaa
open Go.RowKit

theorem sm_below {a b : Nat → Int} {k : Nat} (hk : a k < b k) (ha : ∀ i, i < k → 0 ≤ a i ∧ a i < 65536) (hb : ∀ i, i < k → 0 ≤ b i ∧ b i < 65536) : ∀ d, (∀ j, k < j → j < k + 1 + d → a j = b j) → sm a (k + 1 + d) < sm b (k + 1 + d)
  | 0, _ => by
    have h1 := sm_lim k ha
    have h2 := sm_lim k hb
    show sm a (k + 1) < sm b (k + 1)
    rw [sm_succ, sm_succ]
    generalize (65536 : Int) ^ k = B at *
    have h3 : (a k + 1) * B ≤ b k * B := Int.mul_le_mul_of_nonneg_right (by omega) (by omega)
    rw [Int.add_mul] at h3
    omega
  | d + 1, h => by
    have h1 := sm_below hk ha hb d (fun j h1 h2 => h j h1 (by omega))
    show sm a (k + 1 + d + 1) < sm b (k + 1 + d + 1)
    rw [sm_succ, sm_succ, h (k + 1 + d) (by omega) (by omega)]
    omega
theorem sm_less {a b : Nat → Int} {n k : Nat} (hn : k < n) (hk : a k < b k) (ha : ∀ i, i < n → 0 ≤ a i ∧ a i < 65536) (hb : ∀ i, i < n → 0 ≤ b i ∧ b i < 65536) (h : ∀ j, k < j → j < n → a j = b j) : sm a n < sm b n := by
  obtain ⟨d, rfl⟩ := Nat.exists_eq_add_of_le (show k + 1 ≤ n by omega)
  exact sm_below hk (fun i hi => ha i (by omega)) (fun i hi => hb i (by omega)) d h

theorem qr_one {a c q r q' r' : Int} (h1 : a = q * c + r) (h2 : a = q' * c + r') (hr : 0 ≤ r ∧ r < c) (hr' : 0 ≤ r' ∧ r' < c) : q = q' ∧ r = r' := by
  have hc : 0 < c := by omega
  have e : (q - q') * c = r' - r := by rw [Int.sub_mul]; omega
  have hlt : q - q' < 1 := Int.lt_of_mul_lt_mul_right (a := c) (by omega) (by omega)
  have hge : -1 < q - q' := Int.lt_of_mul_lt_mul_right (a := c) (by omega) (by omega)
  have : q = q' := by omega
  subst this
  omega
end Go.Proofs.Ytpdokkhpeoeebaa
