
/- num.Read and the reference's Read. -/
import Derived.Test.YtgphdioolcfmmaaM1
set_option linter.unusedSimpArgs false
set_option linter.unusedVariables false
set_option maxRecDepth 20000
namespace Go.Proofs.Ytgphdioolcfmmaa
open Go.RowKit

theorem or_byte {a b : Int} {s : Nat} (hs : s ≤ 56) (ha : 0 ≤ a ∧ a < 18446744073709551616) (hm : a % 2 ^ (s + 8) = 0) (hb : 0 ≤ b ∧ b ≤ 255) : bits .or .u64 a (b * 2 ^ s) = a + b * 2 ^ s := by
  have h0 : (0 : Int) < 2 ^ s := Int.pow_pos (by decide)
  have h1 : b * 2 ^ s ≤ 255 * 2 ^ s := Int.mul_le_mul_of_nonneg_right hb.2 (by omega)
  have h2 : (2 : Int) ^ (s + 8) = 2 ^ s * 256 := by rw [Int.pow_add]; rfl
  have h3 : (2 : Int) ^ s ≤ 2 ^ 56 := by exact_mod_cast Nat.pow_le_pow_right (by omega) hs
  have h4 : (2 : Int) ^ 56 = 72057594037927936 := by decide
  refine bits_join .u64 64 (by decide) (fun n h0 h1 => by rw [IntKind.wrap_u64]; omega) (s + 8) a (b * 2 ^ s) ha.1 hm (by simpa using ha.2) (Int.mul_nonneg hb.1 (by omega)) (by omega) ?_
  have e : (2 : Int) ^ 64 = 18446744073709551616 := by decide
  omega
theorem rd_at {a0 a1 a2 a3 b R : Int} {pl : Nat} (hpl : pl < 32) (ha : Lim a0 a1 a2 a3) (hb : 0 ≤ b ∧ b ≤ 255) (hv : val a0 a1 a2 a3 = R * 256 ^ (pl + 1)) :
    IntKind.u64.wrap (b * 2 ^ (8 * (pl % 8))) = b * 2 ^ (8 * (pl % 8)) ∧ (pl / 8 = 0 → a0 % 2 ^ (8 * (pl % 8) + 8) = 0 ∧ IntKind.u64.wrap (a0 + b * 2 ^ (8 * (pl % 8))) = a0 + b * 2 ^ (8 * (pl % 8)) ∧ Lim (a0 + b * 2 ^ (8 * (pl % 8))) a1 a2 a3 ∧ val (a0 + b * 2 ^ (8 * (pl % 8))) a1 a2 a3 = (R * 256 + b) * 256 ^ pl) ∧ (pl / 8 = 1 → a1 % 2 ^ (8 * (pl % 8) + 8) = 0 ∧ IntKind.u64.wrap (a1 + b * 2 ^ (8 * (pl % 8))) = a1 + b * 2 ^ (8 * (pl % 8)) ∧ Lim a0 (a1 + b * 2 ^ (8 * (pl % 8))) a2 a3 ∧ val a0 (a1 + b * 2 ^ (8 * (pl % 8))) a2 a3 = (R * 256 + b) * 256 ^ pl) ∧ (pl / 8 = 2 → a2 % 2 ^ (8 * (pl % 8) + 8) = 0 ∧ IntKind.u64.wrap (a2 + b * 2 ^ (8 * (pl % 8))) = a2 + b * 2 ^ (8 * (pl % 8)) ∧ Lim a0 a1 (a2 + b * 2 ^ (8 * (pl % 8))) a3 ∧ val a0 a1 (a2 + b * 2 ^ (8 * (pl % 8))) a3 = (R * 256 + b) * 256 ^ pl) ∧ (pl / 8 = 3 → a3 % 2 ^ (8 * (pl % 8) + 8) = 0 ∧ IntKind.u64.wrap (a3 + b * 2 ^ (8 * (pl % 8))) = a3 + b * 2 ^ (8 * (pl % 8)) ∧ Lim a0 a1 a2 (a3 + b * 2 ^ (8 * (pl % 8))) ∧ val a0 a1 a2 (a3 + b * 2 ^ (8 * (pl % 8))) = (R * 256 + b) * 256 ^ pl) := by
  unfold Lim at *
  unfold val at *
  simp only [IntKind.wrap_u64]
  rcases (show pl = 0 ∨ pl = 1 ∨ pl = 2 ∨ pl = 3 ∨ pl = 4 ∨ pl = 5 ∨ pl = 6 ∨ pl = 7 ∨ pl = 8 ∨ pl = 9 ∨ pl = 10 ∨ pl = 11 ∨ pl = 12 ∨ pl = 13 ∨ pl = 14 ∨ pl = 15 ∨ pl = 16 ∨ pl = 17 ∨ pl = 18 ∨ pl = 19 ∨ pl = 20 ∨ pl = 21 ∨ pl = 22 ∨ pl = 23 ∨ pl = 24 ∨ pl = 25 ∨ pl = 26 ∨ pl = 27 ∨ pl = 28 ∨ pl = 29 ∨ pl = 30 ∨ pl = 31 by omega) with rfl | rfl | rfl | rfl | rfl | rfl | rfl | rfl | rfl | rfl | rfl | rfl | rfl | rfl | rfl | rfl | rfl | rfl | rfl | rfl | rfl | rfl | rfl | rfl | rfl | rfl | rfl | rfl | rfl | rfl | rfl | rfl
  all_goals
    simp only [Nat.reduceAdd, Nat.reduceMod, Nat.reduceMul, Nat.reduceDiv, Int.reducePow, Int.mul_one] at *
    refine ⟨by omega, ?_, ?_, ?_, ?_⟩
    all_goals first | (intro h; exact absurd h (by decide)) | (intro _; refine ⟨by omega, by omega, by omega, by omega⟩)
end Go.Proofs.Ytgphdioolcfmmaa
