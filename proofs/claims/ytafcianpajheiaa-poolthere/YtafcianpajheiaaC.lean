
/- Walks of bits.Mul64, num.scale, product, Mul. -/
import Derived.Test.YtafcianpajheiaaB
import Derived.Lib.Mul64
import Derived.Laws.Bits64b
set_option linter.unusedSimpArgs false
set_option linter.unusedVariables false
set_option maxRecDepth 20000
namespace Go.Proofs.Ytafcianpajheiaa
open Go.RowKit

theorem forget {P : Program} {c : Code} {Q : Exit → Act → World → Prop} {n : Nat} {a : Act} {W : World} (F : World → Prop) (hF : F W) (h : ∀ w', F w' → Code.rounds P c Q n a w') : Code.rounds P c Q n a W := h W hF
theorem forgetWp {P : Program} {c : Code} {Q : Exit → Act → World → Prop} {a : Act} {W : World} (F : World → Prop) (hF : F W) (h : ∀ w', F w' → Code.wp P c Q a w') : Code.wp P c Q a W := h W hF

theorem maskN (a : Nat) (ha : a < 18446744073709551616) : bits .and .u64 (a : Int) 4294967295 = ((a % 4294967296 : Nat) : Int) := by
  have h := bits_and_u64_nat a 4294967295 ha (by omega)
  rw [show a &&& 4294967295 = a % 4294967296 from Nat.and_two_pow_sub_one_eq_mod a 32] at h
  exact h
theorem wrapN (a : Nat) (ha : a < 18446744073709551616) : IntKind.u64.wrap (a : Int) = (a : Int) := by rw [IntKind.wrap_u64]; omega
theorem wrapM (a : Nat) : IntKind.u64.wrap (a : Int) = ((a % 18446744073709551616 : Nat) : Int) := by rw [IntKind.wrap_u64]; omega
theorem divN (a : Nat) : (a : Int) / 4294967296 = ((a / 4294967296 : Nat) : Int) := by omega
theorem mulN (a b : Nat) : (a : Int) * (b : Int) = ((a * b : Nat) : Int) := (Int.natCast_mul a b).symm
theorem addN (a b : Nat) : (a : Int) + (b : Int) = ((a + b : Nat) : Int) := (Int.natCast_add a b).symm

theorem scale_step {X Y o h l s c : Int} (hX : 0 ≤ X ∧ X < 18446744073709551616) (hY : 0 ≤ Y ∧ Y < 18446744073709551616) (ho : 0 ≤ o ∧ o < 18446744073709551616) (hh : 0 ≤ h ∧ h < 18446744073709551616) (hs : 0 ≤ s ∧ s < 18446744073709551616) (c0 : 0 ≤ c) (c1 : c ≤ 1)
    (e1 : Hid (X * Y = h * 18446744073709551616 + l)) (e2 : Hid (l + o + 0 = s + c * 18446744073709551616)) : (0 ≤ h + c ∧ h + c < 18446744073709551616) ∧ Hid (X * Y + o = (h + c) * 18446744073709551616 + s) := by
  have e1 := e1.out; have e2 := e2.out
  have hp : X * Y ≤ 18446744073709551615 * 18446744073709551615 := Int.mul_le_mul (by omega) (by omega) (by omega) (by omega)
  generalize X * Y = p at *
  refine ⟨⟨by omega, by omega⟩, show _ = _ by omega⟩

theorem scale_sum {x0 x1 x2 x3 y m o1 o2 o3 o4 s0 s1 s2 s3 : Int} (e0 : Hid (x0 * y + m = o1 * 18446744073709551616 + s0)) (e1 : Hid (x1 * y + o1 = o2 * 18446744073709551616 + s1)) (e2 : Hid (x2 * y + o2 = o3 * 18446744073709551616 + s2)) (e3 : Hid (x3 * y + o3 = o4 * 18446744073709551616 + s3)) :
    val x0 x1 x2 x3 * y + m = val s0 s1 s2 s3 + o4 * 115792089237316195423570985008687907853269984665640564039457584007913129639936 := by
  have e0 := e0.out; have e1 := e1.out; have e2 := e2.out; have e3 := e3.out
  have e : val x0 x1 x2 x3 * y = x0 * y + x1 * y * 18446744073709551616 + x2 * y * 340282366920938463463374607431768211456 + x3 * y * 6277101735386680763835789423207666416102355444464034512896 := by
    unfold val; simp only [Int.add_mul, Int.mul_right_comm]
  rw [e]; unfold val
  generalize x0 * y = p0 at *; generalize x1 * y = p1 at *; generalize x2 * y = p2 at *; generalize x3 * y = p3 at *
  omega

theorem ix_num (a b c d : Value) (w : World) : (Instr.index 41 (.agg #[a, b, c, d]) (.int .i64 0)).run Try.prog w = .ok a w ∧ (Instr.index 41 (.agg #[a, b, c, d]) (.int .i64 1)).run Try.prog w = .ok b w ∧
    (Instr.index 41 (.agg #[a, b, c, d]) (.int .i64 2)).run Try.prog w = .ok c w ∧ (Instr.index 41 (.agg #[a, b, c, d]) (.int .i64 3)).run Try.prog w = .ok d w := by
  refine ⟨?_, ?_, ?_, ?_⟩ <;> kernel_rfl

end Go.Proofs.Ytafcianpajheiaa
