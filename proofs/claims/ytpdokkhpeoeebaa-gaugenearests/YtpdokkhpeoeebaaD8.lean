
/- The reference's Wide: the product's digits. -/
import Derived.Test.YtpdokkhpeoeebaaD7
set_option linter.unusedSimpArgs false
set_option linter.unusedVariables false
set_option maxRecDepth 20000
namespace Go.Proofs.Ytpdokkhpeoeebaa
open Go.RowKit

def Z32 : Array Value := #[.int .u64 0, .int .u64 0, .int .u64 0, .int .u64 0, .int .u64 0, .int .u64 0, .int .u64 0, .int .u64 0, .int .u64 0, .int .u64 0, .int .u64 0, .int .u64 0, .int .u64 0, .int .u64 0, .int .u64 0, .int .u64 0, .int .u64 0, .int .u64 0, .int .u64 0, .int .u64 0, .int .u64 0, .int .u64 0, .int .u64 0, .int .u64 0, .int .u64 0, .int .u64 0, .int .u64 0, .int .u64 0, .int .u64 0, .int .u64 0, .int .u64 0, .int .u64 0]
theorem make32 (w : World) : (Instr.makeSlice 62 (.int .i64 32) (.int .i64 32)).run Try.prog w = .ok (.slice (some ⟨w.heap.size, 0, none⟩) 32 32) (w.alloc (.cells Z32 22)) := by kernel_rfl
theorem row32 (w : World) : (w.alloc (.cells Z32 22)).ownsRow w.heap.size 22 1 (.slice (some ⟨w.heap.size, 0, none⟩) 32 32) 32 (encU (fl (fun _ => 0) 32)) := by
  refine ⟨by simp [encU, fl], .inr ⟨w.heap.size, 32, Z32, rfl, Nat.le_refl _, World.alloc_heap_new w _, by omega, ?_⟩⟩
  exact ⟨by decide, by rfl, by rfl⟩
theorem sm_succ (dl : Nat → Int) (k : Nat) : sm dl (k + 1) = sm dl k + dl k * 65536 ^ k := rfl
theorem sm_zero (n : Nat) : sm (fun _ => 0) n = 0 := by
  induction n with
  | zero => rfl
  | succ n ih => simp [sm, ih]
theorem sm_upd_above {dl : Nat → Int} {n k : Nat} {u : Int} (h : n ≤ k) : sm (upd dl k u) n = sm dl n :=
  sm_congr n (fun i hi => by unfold upd; rw [if_neg (by omega)])
theorem upd_at (dl : Nat → Int) (k : Nat) (u : Int) : upd dl k u k = u := if_pos rfl
theorem upd_ne {dl : Nat → Int} {k j : Nat} {u : Int} (h : j ≠ k) : upd dl k u j = dl j := if_neg h
theorem sm_stop {dl : Nat → Int} {m : Nat} (n : Nat) (h : ∀ j, m ≤ j → j < m + n → dl j = 0) : sm dl (m + n) = sm dl m := by
  induction n with
  | zero => rfl
  | succ n ih => rw [← Nat.add_assoc]; simp only [sm]; rw [ih (fun j h1 h2 => h j h1 (by omega)), h (m + n) (by omega) (by omega)]; omega

theorem mul_lim {a b : Int} (ha : 0 ≤ a ∧ a < 65536) (hb : 0 ≤ b ∧ b < 65536) : 0 ≤ a * b ∧ a * b ≤ 4294836225 := by
  refine ⟨Int.mul_nonneg ha.1 hb.1, ?_⟩
  have h1 : a * b ≤ 65535 * b := Int.mul_le_mul_of_nonneg_right (by omega) hb.1
  omega

end Go.Proofs.Ytpdokkhpeoeebaa
