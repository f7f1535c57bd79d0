
/- math's functions on floats that are no less than the least normal one: Abs, IsInf, IsNaN, normalize, Ldexp. -/
import Derived.Test.YtpdokkhpeoeebaaGC
import Derived.Test.YtpdokkhpeoeebaaB
import Derived.Laws.BitsAllLaws
import Derived.Laws.ComplexArith
set_option linter.unusedSimpArgs false
set_option linter.unusedVariables false
set_option maxRecDepth 20000
namespace Go.Proofs.Ytpdokkhpeoeebaa
open Go.RowKit

theorem f64_bits (n : Nat) (w : World) : (callFunc 40 #[.float .f64 n]).run Try.prog w = .ok (.value (.int .u64 n)) w := by
  rw [run_callFunc_extern Try.func40 (by kernel_rfl) (by kernel_rfl) (by kernel_rfl) (e := Extern.MathFloatBits.float64bits) (by rfl)]
  rfl
theorem f64_from (n : Nat) (w : World) : (callFunc 43 #[.int .u64 (n : Int)]).run Try.prog w = .ok (.value (.float .f64 n)) w := by
  rw [run_callFunc_extern Try.func43 (by kernel_rfl) (by kernel_rfl) (by kernel_rfl) (e := Extern.MathFloatBits.float64frombits) (by rfl)]
  rfl
theorem and_63 {r : Nat} (h : r < 9223372036854775808) : bits .andNot .u64 (r : Int) 9223372036854775808 = (r : Int) := by
  have h1 := u64_andNot_nat r 9223372036854775808 (by omega) (by decide)
  rw [show (18446744073709551615 - 9223372036854775808 : Nat) = 2 ^ 63 - 1 by decide, Nat.and_two_pow_sub_one_eq_mod, Nat.mod_eq_of_lt (by omega)] at h1
  exact h1
theorem and_exp {r : Nat} (h : r < 9223372036854775808) : bits .andNot .u64 (r : Int) 9218868437227405312 = ((r % 4503599627370496 : Nat) : Int) := by
  have h1 := u64_andNot_nat r 9218868437227405312 (by omega) (by decide)
  have e : r &&& (18446744073709551615 - 9218868437227405312) = r % 4503599627370496 := by
    have e1 : r = r &&& (2 ^ 63 - 1) := by rw [Nat.and_two_pow_sub_one_eq_mod, Nat.mod_eq_of_lt (by omega)]
    calc r &&& (18446744073709551615 - 9218868437227405312) = (r &&& (2 ^ 63 - 1)) &&& (18446744073709551615 - 9218868437227405312) := by rw [← e1]
      _ = r &&& ((2 ^ 63 - 1) &&& (18446744073709551615 - 9218868437227405312)) := Nat.and_assoc _ _ _
      _ = r &&& (2 ^ 52 - 1) := by rw [show (2 ^ 63 - 1) &&& (18446744073709551615 - 9218868437227405312) = 2 ^ 52 - 1 by decide]
      _ = r % 4503599627370496 := by rw [Nat.and_two_pow_sub_one_eq_mod]
  rw [e] at h1
  exact h1
theorem i64_and2047 (n : Int) : bits .and .i64 n 2047 = n % 2048 := by
  have h127 : (BitVec.ofInt 64 2047).toNat = 2 ^ 11 - 1 := by decide
  have key : (BitVec.ofInt 64 n &&& BitVec.ofInt 64 2047).toNat = (n % ((2 ^ 64 : Nat) : Int)).toNat % 2 ^ 11 := by
    rw [BitVec.toNat_and, BitVec.toNat_ofInt, h127, Nat.and_two_pow_sub_one_eq_mod]
  show IntKind.i64.wrap ((BitVec.ofInt 64 n &&& BitVec.ofInt 64 2047).toNat : Nat) = n % 2048
  rw [key, IntKind.wrap_i64]
  omega
theorem i64_and3 (n : Int) : bits .and .i64 n 3 = n % 4 := by
  have h127 : (BitVec.ofInt 64 3).toNat = 2 ^ 2 - 1 := by decide
  have key : (BitVec.ofInt 64 n &&& BitVec.ofInt 64 3).toNat = (n % ((2 ^ 64 : Nat) : Int)).toNat % 2 ^ 2 := by
    rw [BitVec.toNat_and, BitVec.toNat_ofInt, h127, Nat.and_two_pow_sub_one_eq_mod]
  show IntKind.i64.wrap ((BitVec.ofInt 64 n &&& BitVec.ofInt 64 3).toNat : Nat) = n % 4
  rw [key, IntKind.wrap_i64]
  omega
/-- A normal float above nothing, as a rung. -/
def Nrm (r : Nat) : Prop := 4503599627370496 ≤ r ∧ r < 9218868437227405312
theorem nrm_fin {r : Nat} (h : Nrm r) : Fin' r ∧ key r = r := by
  have h1 := h.1; have h2 := h.2
  have e : r / 9223372036854775808 = 0 := Nat.div_eq_of_lt (by omega)
  have hs : sgn r = false := by unfold sgn; rw [e]; rfl
  have hr : rung r = r := by unfold rung; exact Nat.mod_eq_of_lt (by omega)
  refine ⟨⟨by omega, by have : r % 9223372036854775808 = r := hr; omega⟩, ?_⟩
  unfold key; rw [hs, hr]; rfl
theorem low_fin {r : Nat} (h : r ≤ 9218868437227405312) : Fin' r ∧ key r = r := by
  have e : r / 9223372036854775808 = 0 := Nat.div_eq_of_lt (by omega)
  have hs : sgn r = false := by unfold sgn; rw [e]; rfl
  have hr : rung r = r := by unfold rung; exact Nat.mod_eq_of_lt (by omega)
  refine ⟨⟨by omega, by have : r % 9223372036854775808 = r := hr; omega⟩, ?_⟩
  unfold key; rw [hs, hr]; rfl
theorem order_low {r q : Nat} (h : r ≤ 9218868437227405312) (k : q ≤ 9218868437227405312) : FloatKind.f64.format.order r q = some (if r < q then .lt else if r = q then .eq else .gt) := by
  show Ieee.double.order r q = _
  obtain ⟨f1, e1⟩ := low_fin h
  obtain ⟨f2, e2⟩ := low_fin k
  rw [order_key f1 f2, e1, e2, cmp_nat_int]
  congr 1
  by_cases c1 : r < q
  · rw [if_pos (by omega), if_pos c1]
  · rw [if_neg (by omega), if_neg c1]
    by_cases c2 : r = q
    · rw [if_pos (by omega), if_pos c2]
    · rw [if_neg (by omega), if_neg c2]
set_option maxHeartbeats 400000 in
theorem abs_any {r : Nat} (h : r < 9223372036854775808) (w : World) : Calls Try.prog 44 #[.float .f64 r] w fun e w' => e = .returned (.float .f64 r) ∧ w' = w := by
  have h1 := and_63 h
  have h2 := f64_bits r
  have h3 := f64_from r
  go_enter Try.func44, Try.ntmps44
  go_wp2
  go_ret
  exact ⟨rfl, rfl⟩
set_option maxHeartbeats 400000 in
theorem isNaN_any {r : Nat} (h : Nrm r) (w : World) : Calls Try.prog 38 #[.float .f64 r] w fun e w' => e = .returned (.bool false) ∧ w' = w := by
  have h1 : (FloatKind.f64.format.order r r != some Ordering.eq) = false := by
    rw [order_low (by have := h.2; omega) (by have := h.2; omega), if_neg (by omega), if_pos rfl]; rfl
  go_enter Try.func38, Try.ntmps38
  go_wp2
  go_ret
  exact ⟨rfl, rfl⟩
set_option maxHeartbeats 400000 in
theorem isInf_any {r : Nat} (h : Nrm r) (w : World) : Calls Try.prog 37 #[.float .f64 r, .int .i64 0] w fun e w' => e = .returned (.bool false) ∧ w' = w := by
  have h1 : (FloatKind.f64.format.order r 9218868437227405311 == some Ordering.gt) = false := by
    rw [order_low (by have := h.2; omega) (by omega)]
    by_cases c1 : r < 9218868437227405311
    · rw [if_pos c1]; rfl
    · rw [if_neg c1, if_pos (by have := h.2; omega)]; rfl
  go_enter Try.func37, Try.ntmps37
  go_wp2_with (go_at_call 44; refine (abs_any (by have := h.2; omega) _).mono ?_; rintro e w' ⟨rfl, rfl⟩)
  go_ret
  exact ⟨rfl, rfl⟩
set_option maxHeartbeats 400000 in
theorem normal_any {r : Nat} (h : Nrm r) (w : World) : Calls Try.prog 39 #[.float .f64 r] w fun e w' => e = .returned (.tuple #[.float .f64 r, .int .i64 0]) ∧ w' = w := by
  have h1 : (FloatKind.f64.format.order r 4503599627370496 == some Ordering.lt) = false := by
    rw [order_low (by have := h.2; omega) (by omega), if_neg (by have := h.1; omega)]
    split <;> rfl
  go_enter Try.func39, Try.ntmps39
  go_wp2_with (go_at_call 44; refine (abs_any (by have := h.2; omega) _).mono ?_; rintro e w' ⟨rfl, rfl⟩)
  refine bodyPost_ret (v := .tuple #[.float .f64 r, .int .i64 0]) (by simp only [results, Try.results39]; go_simp) rfl ⟨rfl, rfl⟩
set_option maxHeartbeats 400000 in
theorem ldexp_zero (k : Int) (w : World) : Calls Try.prog 35 #[.float .f64 0, .int .i64 k] w fun e w' => e = .returned (.float .f64 0) ∧ w' = w := by
  have h1 : (FloatKind.f64.format.order 0 0 == some Ordering.eq) = true := by decide
  go_enter Try.func35, Try.ntmps35
  go_wp2
  go_ret
  exact ⟨rfl, rfl⟩
end Go.Proofs.Ytpdokkhpeoeebaa
