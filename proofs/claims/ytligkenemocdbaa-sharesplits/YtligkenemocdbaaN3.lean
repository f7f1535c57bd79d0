
/- Plain facts on what is left and on order. -/
import Derived.Test.YtligkenemocdbaaF2
set_option linter.unusedSimpArgs false
set_option linter.unusedVariables false
namespace Go.Proofs.Ytligkenemocdbaa
open Go.RowKit

theorem rest_le {a b : Int} (ha : 0 ≤ a) (hb : 0 ≤ b) : 0 ≤ restI a b ∧ restI a b ≤ a := by unfold restI; split <;> omega
theorem restI_of_le {a b : Int} (h : b ≤ a) : restI a b = a - b := by unfold restI; rw [if_pos h]
theorem restI_of_ge {a b : Int} (h : a ≤ b) : restI a b = 0 := by unfold restI; split <;> omega
theorem cmp_le0 {x y : Int} (h : x ≤ y) : cmpI x y ≤ 0 := by unfold cmpI; split; decide; rw [if_neg (by omega)]; decide
theorem cmp_pos {x y : Int} (h : y < x) : 0 < cmpI x y := by rw [cmp_gt h]; decide
theorem rest_ex {x0 x1 x2 x3 y0 y1 y2 y3 : Int} (hx : Lim x0 x1 x2 x3) (hy : Lim y0 y1 y2 y3) : ∃ z0 z1 z2 z3 : Int, Lim z0 z1 z2 z3 ∧ val z0 z1 z2 z3 = restI (val x0 x1 x2 x3) (val y0 y1 y2 y3) := by
  have h := rest_le (val_lo hx) (val_lo hy)
  have := val_hi hx
  exact limbs_of h.1 (by omega)
theorem cmp_nneg {x y : Int} (h : y ≤ x) : decide (cmpI x y < 0) = false := by
  simp only [decide_eq_false_iff_not]; unfold cmpI; split; omega; split <;> omega
theorem cmp_negd {x y : Int} (h : x < y) : decide (cmpI x y < 0) = true := by
  simp only [decide_eq_true_eq]; unfold cmpI; rw [if_pos h]; omega
theorem cmp_ged {x y : Int} (h : y ≤ x) : decide (0 ≤ cmpI x y) = true := by
  simp only [decide_eq_true_eq]; unfold cmpI; split; omega; split <;> omega
theorem below_drewN {n : Nat} {W : World} (k : Nat) : Below n W (W.drewN k) := by
  constructor <;> intros <;> first | rfl | simp [World.drewN]
theorem restI_eq (a b : Int) : restI a b = if b ≤ a then a - b else 0 := rfl
end Go.Proofs.Ytligkenemocdbaa
