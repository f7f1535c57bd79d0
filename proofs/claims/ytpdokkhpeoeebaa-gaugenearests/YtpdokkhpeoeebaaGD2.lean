
/- ldexp. -/
import Derived.Test.YtpdokkhpeoeebaaGD
import Derived.Deep.CutRange
set_option linter.unusedSimpArgs false
set_option linter.unusedVariables false
set_option maxRecDepth 20000
namespace Go.Proofs.Ytpdokkhpeoeebaa
open Go.RowKit
theorem mul_one' {r : Nat} (h : Nrm r) : Ieee.double.mul 4607182418800017408 r = some r := by
  have h1 := h.1
  have h2 := h.2
  have e : (4607182418800017408 : Nat) = (1023 + 0) * 4503599627370496 := by decide
  rw [mul_swap, e, mul_pow (r := r) (k := 0) h1 (by omega) (by omega), Nat.zero_mul, Nat.add_zero]
set_option maxRecDepth 100000 in
set_option maxHeartbeats 1000000 in
theorem ldexp_any {r k : Nat} (h : Nrm r) (hk : Nrm (r + k * 4503599627370496)) (w : World) : Calls Try.prog 35 #[.float .f64 r, .int .i64 (k : Int)] w fun e w' => e = .returned (.float .f64 (r + k * 4503599627370496)) ∧ w' = w := by
  have r1 := h.1
  have r2 := h.2
  have k2 := hk.2
  have k1 : k < 2048 := by omega
  have h1 : (FloatKind.f64.format.order r 0 == some Ordering.eq) = false := by
    rw [order_low (by omega) (by omega), if_neg (by omega), if_neg (by omega)]; rfl
  have hmul : floatBits .mul .f64 4607182418800017408 (r + k * 4503599627370496) = some (r + k * 4503599627370496) := mul_one' hk
  have hb := f64_bits r
  have hd1 : 1 ≤ r / 4503599627370496 := (Nat.le_div_iff_mul_le (by decide)).2 (by omega)
  have hdm := Nat.div_add_mod r 4503599627370496
  have hm := Nat.mod_lt r (show 0 < 4503599627370496 by decide)
  have ha := and_exp (r := r) (by omega)
  have hdv : ((r : Int) / 4503599627370496) = ((r / 4503599627370496 : Nat) : Int) := by omega
  generalize r / 4503599627370496 = d at *
  generalize r % 4503599627370496 = m at *
  generalize hz : r + k * 4503599627370496 = z at *
  have hf := f64_from z
  have he : bits .and .i64 (d : Int) 2047 = (d : Int) := by rw [i64_and2047]; omega
  have hw0 : IntKind.i64.wrap (d : Int) = (d : Int) := by rw [IntKind.wrap_i64]; omega
  have hw1 : IntKind.i64.wrap ((k : Int) + 0) = (k : Int) := by rw [IntKind.wrap_i64]; omega
  have hw1' : IntKind.i64.wrap (k : Int) = (k : Int) := by rw [IntKind.wrap_i64]; omega
  have hw2 : IntKind.i64.wrap ((d : Int) - 1023) = (d : Int) - 1023 := by rw [IntKind.wrap_i64]; omega
  have hw3 : IntKind.i64.wrap ((k : Int) + ((d : Int) - 1023)) = (k : Int) + ((d : Int) - 1023) := by rw [IntKind.wrap_i64]; omega
  have hw4 : IntKind.i64.wrap ((k : Int) + ((d : Int) - 1023) + 1023) = (k : Int) + (d : Int) := by rw [IntKind.wrap_i64]; omega
  have hw5 : IntKind.u64.wrap ((k : Int) + (d : Int)) = (k : Int) + (d : Int) := by rw [IntKind.wrap_u64]; omega
  have hw6 : IntKind.u64.wrap (((k : Int) + (d : Int)) * 4503599627370496) = ((k : Int) + (d : Int)) * 4503599627370496 := by rw [IntKind.wrap_u64]; omega
  have hor : bits .or .u64 (m : Int) (((k : Int) + (d : Int)) * 4503599627370496) = (z : Int) := by
    have hc : bits .or .u64 (m : Int) (((k : Int) + (d : Int)) * 4503599627370496) = bits .or .u64 (((k : Int) + (d : Int)) * 4503599627370496) (m : Int) := by simp only [bits, BitVec.or_comm]
    rw [hc, bits_join .u64 64 (by decide) (fun n h0 h1 => by rw [IntKind.wrap_u64]; omega) 52 _ _ (by omega) (by omega) (by omega) (by omega) (by omega) (by omega)]
    omega
  have hmr : ∀ (w : World), (binOp .mul 26 (.float .f64 4607182418800017408) (.float .f64 z)).run Try.prog w = .ok (.float .f64 z) w := fun w => run_float_arith w _ _ _ _ _ _ hmul
  have hl1 : decide ((k : Int) + ((d : Int) - 1023) < -1075) = false := by simp; omega
  have hl2 : decide (1023 < (k : Int) + ((d : Int) - 1023)) = false := by simp; omega
  have hl3 : decide ((k : Int) + ((d : Int) - 1023) < -1022) = false := by simp; omega
  clear hdm hmul hd1 hm hz
  go_enter Try.func35, Try.ntmps35
  go_wp2_with (first
    | (go_at_call 37; refine (isInf_any h _).mono ?_; rintro e w' ⟨rfl, rfl⟩)
    | (go_at_call 38; refine (isNaN_any h _).mono ?_; rintro e w' ⟨rfl, rfl⟩)
    | (go_at_call 39; refine (normal_any h _).mono ?_; rintro e w' ⟨rfl, rfl⟩))
  go_ret
  exact ⟨rfl, rfl⟩
end Go.Proofs.Ytpdokkhpeoeebaa
