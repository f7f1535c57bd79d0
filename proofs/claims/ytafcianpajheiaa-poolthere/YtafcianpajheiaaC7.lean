
/- coins.Add, Sub, Least, Rest by purses. -/
import Derived.Test.YtafcianpajheiaaC6
set_option linter.unusedSimpArgs false
set_option linter.unusedVariables false
set_option maxRecDepth 20000
namespace Go.Proofs.Ytafcianpajheiaa
open Go.RowKit

/-- The coin of a denomination and a number. -/
def cnOf (d : Nat) (n : Int) : Cn := ⟨d, n % 18446744073709551616, n / 18446744073709551616 % 18446744073709551616, n / 340282366920938463463374607431768211456 % 18446744073709551616, n / 6277101735386680763835789423207666416102355444464034512896⟩
theorem cnOf_lim {d : Nat} {n : Int} (h0 : 0 ≤ n) (h1 : n < 115792089237316195423570985008687907853269984665640564039457584007913129639936) : LimC (cnOf d n) := by unfold LimC cnOf Lim; simp only; omega
theorem cnOf_vl {d : Nat} {n : Int} : vl (cnOf d n) = n := by unfold vl cnOf val; simp only; omega
theorem cn_one {x : Cn} {d : Nat} {n : Int} (hx : LimC x) (hd : x.d = d) (hv : vl x = n) : x = cnOf d n := by
  have hx' := hx
  unfold LimC Lim at hx'
  have hb := cnOf_vl (d := d) (n := n)
  have h0 : 0 ≤ n := by rw [← hv]; exact val_lo hx
  have h1 : n < 115792089237316195423570985008687907853269984665640564039457584007913129639936 := by rw [← hv]; exact val_hi hx
  obtain ⟨e0, e1, e2, e3⟩ := val_inj hx (cnOf_lim (d := d) h0 h1) (show vl x = vl (cnOf d n) by rw [hb, hv])
  cases x with | mk d' a b c e => simp only at hd e0 e1 e2 e3; rw [hd, e0, e1, e2, e3]; rfl
def opP (f : Int → Int → Int) (z y : Nat → Cn) : Nat → Cn := fun d => cnOf d (f (vl (z d)) (vl (y d)))
theorem purse_op {f : Int → Int → Int} {z y : Nat → Cn} (h : ∀ d, d < 8 → 0 ≤ f (vl (z d)) (vl (y d)) ∧ f (vl (z d)) (vl (y d)) < 115792089237316195423570985008687907853269984665640564039457584007913129639936) : Purse (opP f z y) :=
  fun d hd => ⟨cnOf_lim (h d hd).1 (h d hd).2, rfl⟩
theorem vl_lo {z : Nat → Cn} (hz : Purse z) {d : Nat} (hd : d < 8) : 0 ≤ vl (z d) ∧ vl (z d) < 115792089237316195423570985008687907853269984665640564039457584007913129639936 := ⟨val_lo (hz d hd).1, val_hi (hz d hd).1⟩
theorem lst_op {f : Int → Int → Int} {z y s : Nat → Cn} (h : ∀ d, d < 8 → LimC (s d) ∧ (s d).d = d ∧ vl (s d) = f (vl (z d)) (vl (y d))) : lst s 8 = lst (opP f z y) 8 :=
  lst_congr 8 (fun d hd => cn_one (h d hd).1 (h d hd).2.1 (h d hd).2.2)
theorem purse_rest {z y : Nat → Cn} (hz : Purse z) (hy : Purse y) : Purse (opP restI z y) := purse_op (fun d hd => by
  have h1 := vl_lo hz hd; have h2 := vl_lo hy hd; unfold restI; split <;> omega)
theorem purse_least {z y : Nat → Cn} (hz : Purse z) (hy : Purse y) : Purse (opP leastI z y) := purse_op (fun d hd => by
  have h1 := vl_lo hz hd; have h2 := vl_lo hy hd; unfold leastI; split <;> omega)
theorem purse_sum {z y : Nat → Cn} (hz : Purse z) (hy : Purse y) (h : ∀ d, d < 8 → vl (z d) + vl (y d) < 115792089237316195423570985008687907853269984665640564039457584007913129639936) : Purse (opP (· + ·) z y) := purse_op (fun d hd => by
  have h1 := vl_lo hz hd; have h2 := vl_lo hy hd; have h3 := h d hd; exact ⟨by omega, by omega⟩)

end Go.Proofs.Ytafcianpajheiaa
