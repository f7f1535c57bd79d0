
/- The highest 64 bits of a number: plain facts. -/
import Derived.Test.YtpdokkhpeoeebaaGD2
import Derived.Test.YtpdokkhpeoeebaaI
import Derived.Test.YtpdokkhpeoeebaaJ
set_option linter.unusedSimpArgs false
set_option linter.unusedVariables false
set_option maxRecDepth 20000
namespace Go.Proofs.Ytpdokkhpeoeebaa
open Go.RowKit

theorem or_one {a : Int} (h : 0 ≤ a ∧ a < 18446744073709551616) : bits .or .u64 a 1 = a / 2 * 2 + 1 := by
  obtain ⟨A, rfl⟩ := Int.eq_ofNat_of_zero_le h.1
  have h1 := u64_or_nat A 1 (by omega) (by decide)
  have e : A ||| 1 = A / 2 * 2 + 1 := by
    have e1 : A = A / 2 * 2 ||| A % 2 := by
      have := nat_join 1 (A / 2 * 2) (A % 2) (by omega) (by omega)
      omega
    have e2 : A % 2 ||| 1 = 1 := by
      rcases Nat.mod_two_eq_zero_or_one A with h | h <;> rw [h] <;> rfl
    calc A ||| 1 = (A / 2 * 2 ||| A % 2) ||| 1 := by rw [← e1]
      _ = A / 2 * 2 ||| (A % 2 ||| 1) := Nat.or_assoc _ _ _
      _ = A / 2 * 2 ||| 1 := by rw [e2]
      _ = A / 2 * 2 + 1 := nat_join 1 (A / 2 * 2) 1 (by omega) (by omega)
  rw [e] at h1
  exact h1.trans (by omega)
theorem or_zero {a b : Int} (h : 0 ≤ a ∧ a < 18446744073709551616) (k : 0 ≤ b ∧ b < 18446744073709551616) : ∃ c, bits .or .u64 a b = c ∧ (0 ≤ c ∧ c < 18446744073709551616) ∧ Hid (c = 0 ↔ a = 0 ∧ b = 0) := by
  obtain ⟨A, rfl⟩ := Int.eq_ofNat_of_zero_le h.1
  obtain ⟨B, rfl⟩ := Int.eq_ofNat_of_zero_le k.1
  have h1 := u64_or_nat A B (by omega) (by omega)
  have hlt : A ||| B < 2 ^ 64 := Nat.or_lt_two_pow (by omega) (by omega)
  refine ⟨_, h1, by omega, ?_⟩
  show _ ↔ _
  have := @Nat.or_eq_zero_iff A B
  omega
theorem le_of_block {B C : Nat} (Z A : Nat) (h : B ≤ C) : B * A ≤ C * A + Z := by
  have h1 := Nat.mul_le_mul_right A h
  omega
theorem lt_of_block {B C A Z : Nat} (h : B + 1 ≤ C) (hZ : Z < A) : B * A + Z < C * A := by
  have h1 := Nat.mul_le_mul_right A h
  have e := Nat.add_mul B 1 A
  rw [Nat.one_mul] at e
  omega
/-- x is the highest part that isn't nothing, y the next one, z what is below: s noughts ahead of x. -/
theorem high_facts {X Y Z at1 s t h l : Nat} (hX0 : X ≠ 0) (hX : X < 18446744073709551616) (hY : Y < 18446744073709551616) (hZ : Z < 2 ^ (64 * at1)) (hs : s = 63 - X.log2) (hl : Y * 2 ^ s = h * 18446744073709551616 + l) (hl2 : l < 18446744073709551616) (ht : t = X * 2 ^ s + h) :
    X * 2 ^ s < 18446744073709551616 ∧ 9223372036854775808 ≤ X * 2 ^ s ∧ s ≤ 63 ∧ ∀ top, (top = if l = 0 ∧ Z = 0 then t else t / 2 * 2 + 1) → fN ((X * 18446744073709551616 + Y) * 2 ^ (64 * at1) + Z) = fN top + (64 * (at1 + 1) - s) * 4503599627370496 := by
  have hL : X.log2 < 64 := (Nat.log2_lt hX0).2 hX
  have g1 := log_le hX0
  have g2 := log_gt X
  have eL : X.log2 = 63 - s := by omega
  have hs63 : s ≤ 63 := by omega
  have ps := Nat.two_pow_pos s
  have e64 : 2 ^ (64 - s) * 2 ^ s = 18446744073709551616 := by rw [← Nat.pow_add, show 64 - s + s = 64 by omega]
  have e63 : 2 ^ (63 - s) * 2 ^ s = 9223372036854775808 := by rw [← Nat.pow_add, show 63 - s + s = 63 by omega]
  have a1 : X * 2 ^ s < 18446744073709551616 := by
    rw [← e64]; exact Nat.mul_lt_mul_of_pos_right (by rw [eL] at g2; rwa [show 63 - s + 1 = 64 - s by omega] at g2) ps
  have a2 : 9223372036854775808 ≤ X * 2 ^ s := by
    rw [← e63]; exact Nat.mul_le_mul_right _ (by rw [eL] at g1; exact g1)
  refine ⟨a1, a2, hs63, fun top htop => ?_⟩
  have pU := Nat.two_pow_pos (64 - s)
  have pA := Nat.two_pow_pos (64 * at1)
  have pow64 : (18446744073709551616 : Nat) = 2 ^ 64 := by decide
  -- the whole number
  have hn0 : (X * 18446744073709551616 + Y) * 2 ^ (64 * at1) + Z ≠ 0 := by
    have : 0 < (X * 18446744073709551616 + Y) * 2 ^ (64 * at1) := Nat.mul_pos (by omega) pA
    omega
  have hlog : ((X * 18446744073709551616 + Y) * 2 ^ (64 * at1) + Z).log2 = (64 * (at1 + 1) - s) + 63 := by
    apply log_eq
    · have : 2 ^ (64 * (at1 + 1) - s + 63) = 2 ^ (63 - s) * 18446744073709551616 * 2 ^ (64 * at1) := by
        rw [pow64, ← Nat.pow_add, ← Nat.pow_add]; congr 1; omega
      rw [this]
      have b1 : 2 ^ (63 - s) * 18446744073709551616 ≤ X * 18446744073709551616 + Y := by
        exact le_of_block Y _ (show 2 ^ (63 - s) ≤ X by rw [← eL]; exact g1)
      exact le_of_block Z _ b1
    · have : 2 ^ (64 * (at1 + 1) - s + 63 + 1) = 2 ^ (64 - s) * 18446744073709551616 * 2 ^ (64 * at1) := by
        rw [pow64, ← Nat.pow_add, ← Nat.pow_add]; congr 1; omega
      rw [this]
      have b1 : X * 18446744073709551616 + Y + 1 ≤ 2 ^ (64 - s) * 18446744073709551616 := by
        have : X + 1 ≤ 2 ^ (64 - s) := by rw [eL] at g2; rwa [show 63 - s + 1 = 64 - s by omega] at g2
        exact lt_of_block this hY
      exact lt_of_block b1 hZ
  have ek : 2 ^ (64 * (at1 + 1) - s) = 2 ^ (64 * at1) * 2 ^ (64 - s) := by rw [← Nat.pow_add]; congr 1; omega
  have ediv : ((X * 18446744073709551616 + Y) * 2 ^ (64 * at1) + Z) / 2 ^ (64 * at1) = X * 18446744073709551616 + Y := by
    rw [Nat.mul_comm, Nat.mul_add_div pA, Nat.div_eq_of_lt hZ, Nat.add_zero]
  have emod : ((X * 18446744073709551616 + Y) * 2 ^ (64 * at1) + Z) % 2 ^ (64 * at1) = Z := by
    rw [Nat.mul_comm, Nat.mul_add_mod, Nat.mod_eq_of_lt hZ]
  -- Y's two parts
  have hY2 : Y = h * 2 ^ (64 - s) + Y % 2 ^ (64 - s) ∧ (l = 0 ↔ Y % 2 ^ (64 - s) = 0) ∧ h = Y / 2 ^ (64 - s) := by
    have d := Nat.div_add_mod Y (2 ^ (64 - s))
    have m := Nat.mod_lt Y pU
    have e1 : Y * 2 ^ s = Y / 2 ^ (64 - s) * 18446744073709551616 + Y % 2 ^ (64 - s) * 2 ^ s := by
      conv => lhs; rw [← d]
      rw [Nat.add_mul, Nat.mul_comm (2 ^ (64 - s)), Nat.mul_assoc, e64]
    have m2 : Y % 2 ^ (64 - s) * 2 ^ s < 18446744073709551616 := by rw [← e64]; exact Nat.mul_lt_mul_of_pos_right m ps
    have hh : h = Y / 2 ^ (64 - s) := by
      rw [hl] at e1
      generalize Y / 2 ^ (64 - s) = A at *
      generalize Y % 2 ^ (64 - s) * 2 ^ s = B at *
      omega
    have hll : l = Y % 2 ^ (64 - s) * 2 ^ s := by rw [hl, hh] at e1; omega
    refine ⟨by rw [hh, Nat.mul_comm]; exact d.symm, ?_, hh⟩
    rw [hll]
    constructor
    · intro h; rcases Nat.mul_eq_zero.1 h with h | h
      · exact h
      · omega
    · intro h; rw [h]; simp
  have e64' : (18446744073709551616 : Nat) = 2 ^ (64 - s) * 2 ^ s := e64.symm
  have exy : X * 18446744073709551616 + Y = 2 ^ (64 - s) * (X * 2 ^ s) + Y := by
    have : X * 18446744073709551616 = 2 ^ (64 - s) * (X * 2 ^ s) := by rw [← e64, ← Nat.mul_assoc, Nat.mul_comm X, Nat.mul_assoc]
    rw [this]
  have et : t = ((X * 18446744073709551616 + Y) * 2 ^ (64 * at1) + Z) / 2 ^ (64 * (at1 + 1) - s) := by
    rw [ek, ← Nat.div_div_eq_div_mul, ediv, exy, Nat.mul_add_div pU, ← hY2.2.2, ht]
  have em : ((X * 18446744073709551616 + Y) * 2 ^ (64 * at1) + Z) % 2 ^ (64 * (at1 + 1) - s) = 0 ↔ l = 0 ∧ Z = 0 := by
    rw [ek, Nat.mod_mul, ediv, emod, exy, Nat.mul_add_mod, hY2.2.1]
    constructor
    · intro h
      have h1 : Z = 0 := by omega
      have h2 : 2 ^ (64 * at1) * (Y % 2 ^ (64 - s)) = 0 := by omega
      rcases Nat.mul_eq_zero.1 h2 with h | h
      · omega
      · exact ⟨h, h1⟩
    · rintro ⟨h1, h2⟩; rw [h1, h2]; simp
  refine fN_sticky hlog hn0 et ?_
  rw [htop]
  by_cases c : l = 0 ∧ Z = 0
  · rw [if_pos c, if_pos (em.2 c)]
  · rw [if_neg c, if_neg (fun h => c (em.1 h))]
end Go.Proofs.Ytpdokkhpeoeebaa
