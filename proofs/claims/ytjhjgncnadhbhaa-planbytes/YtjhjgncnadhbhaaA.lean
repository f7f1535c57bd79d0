
/- Plain facts on numbers of four parts of 64 bits: nothing of the program. -/
import Derived.RowKit3
set_option linter.unusedSimpArgs false
set_option linter.unusedVariables false
set_option maxRecDepth 20000
namespace Go.Proofs.Ytjhjgncnadhbhaa

def Lim (a b c d : Int) : Prop := (0 ≤ a ∧ a < 18446744073709551616) ∧ (0 ≤ b ∧ b < 18446744073709551616) ∧ (0 ≤ c ∧ c < 18446744073709551616) ∧ (0 ≤ d ∧ d < 18446744073709551616)

def val (a b c d : Int) : Int := a + b * 18446744073709551616 + c * 340282366920938463463374607431768211456 + d * 6277101735386680763835789423207666416102355444464034512896

theorem val_lo {a b c d : Int} (h : Lim a b c d) : 0 ≤ val a b c d := by unfold Lim at h; unfold val; omega
theorem val_hi {a b c d : Int} (h : Lim a b c d) : val a b c d < 115792089237316195423570985008687907853269984665640564039457584007913129639936 := by unfold Lim at h; unfold val; omega
theorem val_inj {a b c d x y z u : Int} (h : Lim a b c d) (k : Lim x y z u) (e : val a b c d = val x y z u) : a = x ∧ b = y ∧ c = z ∧ d = u := by
  unfold Lim at h k; unfold val at e; omega
theorem val_zero {a b c d : Int} (h : Lim a b c d) : val a b c d = 0 ↔ (a = 0 ∧ b = 0 ∧ c = 0 ∧ d = 0) := by
  unfold Lim at h; unfold val; omega
theorem lim_zero : Lim 0 0 0 0 := by unfold Lim; omega
theorem val_of (a : Int) : val a 0 0 0 = a := by unfold val; omega
theorem val0 : val 0 0 0 0 = 0 := by unfold val; omega
/-- Are two numbers the same, part by part? -/
def eq4 (a b c d x y z u : Int) : Bool := a == x && b == y && c == z && d == u
theorem eq4_true {a b c d x y z u : Int} : eq4 a b c d x y z u = true ↔ (a = x ∧ b = y ∧ c = z ∧ d = u) := by
  simp [eq4, and_assoc]
theorem eq4_val {a b c d x y z u : Int} (h : Lim a b c d) (k : Lim x y z u) : eq4 a b c d x y z u = decide (val a b c d = val x y z u) := by
  rw [Bool.eq_iff_iff, eq4_true, decide_eq_true_iff]
  constructor
  · rintro ⟨rfl, rfl, rfl, rfl⟩; rfl
  · exact val_inj h k
theorem eq4_zero {a b c d : Int} (h : Lim a b c d) : eq4 a b c d 0 0 0 0 = decide (val a b c d = 0) := by
  rw [eq4_val h lim_zero, val0]
def AddS (x y z c : Int) : Prop := (x + y < 115792089237316195423570985008687907853269984665640564039457584007913129639936 ∧ c = 0 ∧ z = x + y) ∨ (115792089237316195423570985008687907853269984665640564039457584007913129639936 ≤ x + y ∧ c = 2 ∧ z = 0)
def SubS (x y z c : Int) : Prop := (y ≤ x ∧ c = 0 ∧ z = x - y) ∨ (x < y ∧ c = 3 ∧ z = 0)
def restI (x y : Int) : Int := if y ≤ x then x - y else 0
def leastI (x y : Int) : Int := if x < y then x else y
def MulS (p z c : Int) : Prop := (p < 115792089237316195423570985008687907853269984665640564039457584007913129639936 ∧ c = 0 ∧ z = p) ∨ (115792089237316195423570985008687907853269984665640564039457584007913129639936 ≤ p ∧ c = 2 ∧ z = 0)
end Go.Proofs.Ytjhjgncnadhbhaa
