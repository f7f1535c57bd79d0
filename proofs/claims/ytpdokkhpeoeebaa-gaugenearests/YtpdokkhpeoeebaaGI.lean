
/- The reference's Float. -/
import Derived.Test.YtpdokkhpeoeebaaGH
import Derived.Test.YtpdokkhpeoeebaaF2
import Derived.Test.YtpdokkhpeoeebaaE2
set_option linter.unusedSimpArgs false
set_option linter.unusedVariables false
set_option maxRecDepth 20000
namespace Go.Proofs.Ytpdokkhpeoeebaa
open Go.RowKit

/-- A bit of a digit is a bit of the number. -/
theorem dg_bit {x0 x1 x2 x3 : Int} (hx : Lim x0 x1 x2 x3) {M j s : Nat} (hM : val x0 x1 x2 x3 = (M : Int)) (hj : j < 16) (hs : s < 16) : dg x0 x1 x2 x3 j / 2 ^ s % 2 = ((M / 2 ^ (16 * j + s) % 2 : Nat) : Int) := by
  have e : ((M / 2 ^ (16 * j + s) % 2 : Nat) : Int) = (M : Int) / 2 ^ (16 * j + s) % 2 := by
    rw [Int.natCast_emod, Int.natCast_ediv, Int.natCast_pow]; rfl
  rw [e, ediv_pow, dg_val hx hj, hM]
  generalize (M : Int) / 65536 ^ j = Z
  rcases (show s = 0 ∨ s = 1 ∨ s = 2 ∨ s = 3 ∨ s = 4 ∨ s = 5 ∨ s = 6 ∨ s = 7 ∨ s = 8 ∨ s = 9 ∨ s = 10 ∨ s = 11 ∨ s = 12 ∨ s = 13 ∨ s = 14 ∨ s = 15 by omega) with rfl | rfl | rfl | rfl | rfl | rfl | rfl | rfl | rfl | rfl | rfl | rfl | rfl | rfl | rfl | rfl <;> (simp only [Int.reducePow]; omega)
theorem bit_step (M k : Nat) : M / 2 ^ k = 2 * (M / 2 ^ (k + 1)) + M / 2 ^ k % 2 := by
  rw [Nat.pow_succ, ← Nat.div_div_eq_div_mul]; omega
/-- What the second loop holds when the bits from m on (of n in all) are read. -/
def BitS (M n m : Nat) (tv bv : Int) (sv : Bool) : Prop :=
  (n - m ≤ 53 ∧ tv = ((M / 2 ^ m : Nat) : Int) ∧ bv = 0 ∧ sv = false) ∨
  (53 < n - m ∧ tv = ((M / 2 ^ (n - 53) : Nat) : Int) ∧ bv = ((M / 2 ^ (n - 54) % 2 : Nat) : Int) ∧ (sv = true ↔ M / 2 ^ m % 2 ^ (n - 54 - m) ≠ 0))
theorem bit_lim {M n m : Nat} (hM : M < 2 ^ n) (hm : m ≤ n) (h : n - m ≤ 53) : M / 2 ^ m < 9007199254740992 := by
  have hp := Nat.two_pow_pos m
  apply (Nat.div_lt_iff_lt_mul hp).2
  have h1 : (9007199254740992 : Nat) = 2 ^ 53 := by decide
  rw [h1, ← Nat.pow_add]
  exact Nat.lt_of_lt_of_le hM (pw_mono (by omega))
theorem bitS_top {M n j : Nat} {tv bv b : Int} {sv : Bool} (h : BitS M n (j + 1) tv bv sv) (hb : b = ((M / 2 ^ j % 2 : Nat) : Int)) (hc : n - j ≤ 53) (hj : j < n) : BitS M n j (2 * tv + b) bv sv := by
  rcases h with ⟨h1, h2, h3, h4⟩ | ⟨h1, -⟩
  · refine .inl ⟨hc, ?_, h3, h4⟩
    have := bit_step M j
    rw [h2, hb]; omega
  · omega
theorem bitS_half {M n j : Nat} {tv bv b : Int} {sv : Bool} (h : BitS M n (j + 1) tv bv sv) (hb : b = ((M / 2 ^ j % 2 : Nat) : Int)) (hc : n - j = 54) : BitS M n j tv b sv := by
  rcases h with ⟨h1, h2, h3, h4⟩ | ⟨h1, -⟩
  · refine .inr ⟨by omega, ?_, ?_, ?_⟩
    · rw [h2, show n - 53 = j + 1 by omega]
    · rw [hb, show n - 54 = j by omega]
    · rw [h4, show n - 54 - j = 0 by omega]; simp [Nat.mod_one]
  · omega
theorem bitS_more {M n j : Nat} {tv bv b : Int} {sv : Bool} (h : BitS M n (j + 1) tv bv sv) (hb : b = ((M / 2 ^ j % 2 : Nat) : Int)) (hc : 54 < n - j) : BitS M n j tv bv (sv || (b == 1)) := by
  rcases h with ⟨h1, h2, h3, h4⟩ | ⟨h1, h2, h3, h4⟩
  · omega
  · refine .inr ⟨by omega, h2, h3, ?_⟩
    have e1 : n - 54 - j = (n - 54 - (j + 1)) + 1 := by omega
    have e2 : M / 2 ^ j % 2 ^ (n - 54 - j) = 2 * (M / 2 ^ (j + 1) % 2 ^ (n - 54 - (j + 1))) + M / 2 ^ j % 2 := by
      rw [e1, Nat.pow_succ, Nat.mul_comm (2 ^ _) 2, Nat.mod_mul, Nat.div_div_eq_div_mul, ← Nat.pow_succ, Nat.succ_eq_add_one]; omega
    rw [e2]
    have hbb : M / 2 ^ j % 2 < 2 := Nat.mod_lt _ (by decide)
    rw [Bool.or_eq_true, h4, beq_iff_eq, hb]
    omega
/-- What comes of it. -/
theorem bitS_end {M n : Nat} {tv bv : Int} {sv : Bool} (h : BitS M n 0 tv bv sv) (hM : M < 2 ^ n) (hn : n = if M = 0 then 0 else M.log2 + 1) (tw : Int) (htw : tw = if bv = 1 ∧ (sv = true ∨ tv % 2 = 1) then tv + 1 else tv) : ∃ T : Nat, tw = (T : Int) ∧ T ≤ 9007199254740992 ∧ (n ≤ 53 → fN T = fN M) ∧ (53 < n → 4503599627370496 ≤ T ∧ fN T + (n - 53) * 4503599627370496 = fN M) := by
  rcases h with ⟨h1, h2, h3, h4⟩ | ⟨h1, h2, h3, h4⟩
  · refine ⟨M, ?_, ?_, fun _ => rfl, fun h => by omega⟩
    · rw [htw, if_neg (by omega), h2]; simp
    · have := bit_lim hM (Nat.zero_le _) h1; simp at this; omega
  · have hM0 : M ≠ 0 := by intro h; rw [if_pos h] at hn; omega
    rw [if_neg hM0] at hn
    have hd : 0 < n - 53 := by omega
    have er := rne_bits (n := M) hd
    have e54 : n - 53 - 1 = n - 54 := by omega
    rw [e54] at er
    have hs := sig_lim hM0
    have es : sig M = rne M (n - 53) := by unfold sig; rw [if_neg (by omega), show M.log2 - 52 = n - 53 by omega]
    have et : tw = ((rne M (n - 53) : Nat) : Int) := by
      rw [er, htw, h2, h3]
      have h4' : sv = true ↔ M % 2 ^ (n - 54) ≠ 0 := by simpa using h4
      generalize M / 2 ^ (n - 53) = A at *
      generalize M / 2 ^ (n - 54) % 2 = B at *
      have hc : (((B : Int) = 1 ∧ (sv = true ∨ (A : Int) % 2 = 1)) ↔ (B = 1 ∧ (M % 2 ^ (n - 54) ≠ 0 ∨ A % 2 = 1))) := by
        rw [h4']
        constructor
        · rintro ⟨a, b⟩; exact ⟨by omega, b.imp id (fun h => by omega)⟩
        · rintro ⟨a, b⟩; exact ⟨by omega, b.imp id (fun h => by omega)⟩
      by_cases c : B = 1 ∧ (M % 2 ^ (n - 54) ≠ 0 ∨ A % 2 = 1)
      · rw [if_pos c, if_pos (hc.2 c)]; omega
      · rw [if_neg c, if_neg (fun h => c (hc.1 h))]; omega
    refine ⟨rne M (n - 53), et, by omega, fun h => by omega, fun _ => ⟨by omega, ?_⟩⟩
    rw [fN_mid (by omega) (by omega)]
    unfold fN
    rw [if_neg hM0, es]
    omega
end Go.Proofs.Ytpdokkhpeoeebaa
