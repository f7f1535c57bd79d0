
/- The reference's less, of lists of digits; plain facts on digits. -/
import Derived.Test.YtpdokkhpeoeebaaN1
set_option linter.unusedSimpArgs false
set_option linter.unusedVariables false
set_option maxRecDepth 20000
namespace Go.Proofs.Ytpdokkhpeoeebaa
open Go.RowKit

theorem sm_high {dl : Nat → Int} (j : Nat) : ∀ d, ∃ X : Int, sm dl (j + 1 + d) = sm dl j + (dl j + 65536 * X) * 65536 ^ j
  | 0 => ⟨0, by show sm dl (j + 1) = _; rw [sm_succ, Int.mul_zero, Int.add_zero]⟩
  | d + 1 => by
    obtain ⟨X, h⟩ := sm_high (dl := dl) j d
    refine ⟨X + dl (j + 1 + d) * 65536 ^ d, ?_⟩
    show sm dl (j + 1 + d + 1) = _
    rw [sm_succ, h, show j + 1 + d = j + (1 + d) by omega, Int.pow_add, Int.pow_add, show (65536 : Int) ^ 1 = 65536 by decide]
    generalize (65536 : Int) ^ j = P
    generalize (65536 : Int) ^ d = Q
    grind
theorem sm_dig {dl : Nat → Int} {n j : Nat} (hj : j < n) (hl : ∀ i, i < n → 0 ≤ dl i ∧ dl i < 65536) : sm dl n / 65536 ^ j % 65536 = dl j := by
  obtain ⟨d, rfl⟩ := Nat.exists_eq_add_of_le (show j + 1 ≤ n by omega)
  obtain ⟨X, h⟩ := sm_high (dl := dl) j d
  have h0 := sm_lim j (fun i hi => hl i (by omega))
  have h1 := hl j (by omega)
  have hp : (0 : Int) < 65536 ^ j := Int.pow_pos (by decide)
  rw [h, Int.add_mul_ediv_right _ _ (by omega), Int.ediv_eq_zero_of_lt h0.1 h0.2]
  omega
theorem pow_16 (j s : Nat) : (2 : Int) ^ (16 * j + s) = 65536 ^ j * 2 ^ s := by
  rw [Int.pow_add, Int.pow_mul]; rfl
theorem ediv_pow (P : Int) (j s : Nat) : P / 2 ^ (16 * j + s) = P / 65536 ^ j / 2 ^ s := by
  rw [pow_16]
  first
    | exact (Int.ediv_ediv_eq_ediv_mul _ (Int.pow_nonneg (by decide))).symm
    | exact (Int.ediv_ediv (Int.pow_nonneg (by decide))).symm
    | exact (Int.ediv_ediv_of_nonneg (Int.pow_nonneg (by decide))).symm
theorem ediv_half (P : Int) (k : Nat) : P / 2 ^ k = 2 * (P / 2 ^ (k + 1)) + P / 2 ^ k % 2 := by
  have e : P / 2 ^ (k + 1) = P / 2 ^ k / 2 := by
    rw [Int.pow_succ]
    first
      | exact (Int.ediv_ediv_eq_ediv_mul _ (Int.pow_nonneg (by decide))).symm
      | exact (Int.ediv_ediv (Int.pow_nonneg (by decide))).symm
      | exact (Int.ediv_ediv_of_nonneg (Int.pow_nonneg (by decide))).symm
  rw [e]
  generalize P / 2 ^ k = q
  omega
def Z17 : Array Value := #[.int .u64 0, .int .u64 0, .int .u64 0, .int .u64 0, .int .u64 0, .int .u64 0, .int .u64 0, .int .u64 0, .int .u64 0, .int .u64 0, .int .u64 0, .int .u64 0, .int .u64 0, .int .u64 0, .int .u64 0, .int .u64 0, .int .u64 0]
theorem make17 (w : World) : (Instr.makeSlice 62 (.int .i64 17) (.int .i64 17)).run Try.prog w = .ok (.slice (some ⟨w.heap.size, 0, none⟩) 17 17) (w.alloc (.cells Z17 22)) := by kernel_rfl
theorem row17 (w : World) : (w.alloc (.cells Z17 22)).ownsRow w.heap.size 22 1 (.slice (some ⟨w.heap.size, 0, none⟩) 17 17) 17 (encU (fl (fun _ => 0) 17)) := by
  refine ⟨by simp [encU, fl], .inr ⟨w.heap.size, 17, Z17, rfl, Nat.le_refl _, World.alloc_heap_new w _, by omega, ?_⟩⟩
  exact ⟨by decide, by rfl, by rfl⟩
end Go.Proofs.Ytpdokkhpeoeebaa
