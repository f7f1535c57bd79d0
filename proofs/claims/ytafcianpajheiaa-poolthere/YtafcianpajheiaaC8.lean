
/- coins.Within, Same: forAll's closure, whatever question it holds. -/
import Derived.Test.YtafcianpajheiaaC7
set_option linter.unusedSimpArgs false
set_option linter.unusedVariables false
set_option maxRecDepth 20000
namespace Go.Proofs.Ytafcianpajheiaa
open Go.RowKit

def allB (B : Int → Int → Bool) (la lb : List Cn) : Nat → Bool
  | 0 => true
  | k + 1 => allB B la lb k && B (vl (amt la k)) (vl (amt lb k))
theorem allB_false {B : Int → Int → Bool} {la lb : List Cn} {k : Nat} (h : B (vl (amt la k)) (vl (amt lb k)) = false) : ∀ n, k < n → allB B la lb n = false
  | 0, hn => by omega
  | n + 1, hn => by
    by_cases e : k = n
    · subst e; simp [allB, h]
    · simp [allB, allB_false h n (by omega)]

def leB (x y : Int) : Bool := decide (x ≤ y)
def eqB (x y : Int) : Bool := decide (x = y)
theorem allB_full {B : Int → Int → Bool} {z y : Nat → Cn} (hz : Purse z) (hy : Purse y) (h : ∀ d, d < 8 → B (vl (z d)) (vl (y d)) = true) : ∀ k, k ≤ 8 → allB B (lst z 8) (lst y 8) k = true
  | 0, _ => rfl
  | k + 1, hk => by
    simp only [allB]
    rw [allB_full hz hy h k (by omega), amt_full hz (by omega), amt_full hy (by omega), h k (by omega)]
    rfl
theorem allB_not {B : Int → Int → Bool} {z y : Nat → Cn} (hz : Purse z) (hy : Purse y) (h : ∃ d, d < 8 ∧ B (vl (z d)) (vl (y d)) = false) : allB B (lst z 8) (lst y 8) 8 = false := by
  obtain ⟨d, hd, hf⟩ := h
  refine allB_false (k := d) ?_ 8 hd
  rw [amt_full hz hd, amt_full hy hd]; exact hf

end Go.Proofs.Ytafcianpajheiaa
