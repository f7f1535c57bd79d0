
/- The reference's Add of coins where the answer is known; lists that are purses' may be. -/
import Derived.Test.YtjhjgncnadhbhaaC10
import Derived.Test.YtjhjgncnadhbhaaC11
import Derived.Test.YtjhjgncnadhbhaaC12
import Derived.Test.YtjhjgncnadhbhaaC13
set_option linter.unusedSimpArgs false
set_option linter.unusedVariables false
set_option maxRecDepth 20000
namespace Go.Proofs.Ytjhjgncnadhbhaa
open Go.RowKit

theorem addRC_fit {va vb : Value} {z y : Nat → Cn} (hz : Purse z) (hy : Purse y) (h : ∀ d, d < 8 → vl (z d) + vl (y d) < 115792089237316195423570985008687907853269984665640564039457584007913129639936) (w : World) (hA : IsCoins w va (lst z 8)) (hB : IsCoins w vb (lst y 8)) :
    Calls Try.prog 33 #[va, vb] w fun e w' => ∃ u, e = .returned (.tuple #[u, .bool true]) ∧ IsCoins w' u (lst (opP (· + ·) z y) 8) ∧ Below w.heap.size w w' := by
  refine (addRC_any hz hy w hA hB).mono ?_
  rintro e w' (⟨-, h1⟩ | ⟨⟨d, hd, h1⟩, -⟩)
  · exact h1
  · have := h d hd; omega
theorem addRC_no {va vb : Value} {z y : Nat → Cn} (hz : Purse z) (hy : Purse y) (h : ∃ d, d < 8 ∧ 115792089237316195423570985008687907853269984665640564039457584007913129639936 ≤ vl (z d) + vl (y d)) (w : World) (hA : IsCoins w va (lst z 8)) (hB : IsCoins w vb (lst y 8)) :
    Calls Try.prog 33 #[va, vb] w fun e w' => e = .returned (.tuple #[.slice none 0 0, .bool false]) ∧ Below w.heap.size w w' := by
  refine (addRC_any hz hy w hA hB).mono ?_
  rintro e w' (⟨h1, -⟩ | ⟨-, h1⟩)
  · obtain ⟨d, hd, h2⟩ := h
    have := h1 d hd; omega
  · exact h1
end Go.Proofs.Ytjhjgncnadhbhaa
