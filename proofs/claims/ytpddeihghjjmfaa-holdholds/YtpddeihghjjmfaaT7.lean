
/- Plain facts for the laws of hold. -/
import Derived.Test.YtpddeihghjjmfaaT4
import Derived.Test.YtpddeihghjjmfaaT5
import Derived.Test.YtpddeihghjjmfaaT6
set_option linter.unusedSimpArgs false
set_option linter.unusedVariables false
namespace Go.Proofs.Ytpddeihghjjmfaa
open Go.RowKit

theorem rest_le {a b : Int} (ha : 0 ≤ a) (hb : 0 ≤ b) : 0 ≤ restI a b ∧ restI a b ≤ a := by unfold restI; split <;> omega
theorem restI_of_le {a b : Int} (h : b ≤ a) : restI a b = a - b := by unfold restI; rw [if_pos h]
theorem restI_of_ge {a b : Int} (h : a ≤ b) : restI a b = 0 := by unfold restI; split <;> omega
theorem cmp_le0 {x y : Int} (h : x ≤ y) : cmpI x y ≤ 0 := by unfold cmpI; split; decide; rw [if_neg (by omega)]; decide
theorem cmp_pos {x y : Int} (h : y < x) : 0 < cmpI x y := by rw [cmp_gt h]; decide
theorem rest_ex {x0 x1 x2 x3 y0 y1 y2 y3 : Int} (hx : Lim x0 x1 x2 x3) (hy : Lim y0 y1 y2 y3) : ∃ z0 z1 z2 z3 : Int, Lim z0 z1 z2 z3 ∧ val z0 z1 z2 z3 = restI (val x0 x1 x2 x3) (val y0 y1 y2 y3) := by
  have h := rest_le (val_lo hx) (val_lo hy)
  have := val_hi hx
  exact limbs_of h.1 (by omega)
end Go.Proofs.Ytpddeihghjjmfaa
