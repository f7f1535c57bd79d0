
/- num.shiftLeft, shiftRight. -/
import Derived.Test.YtpdokkhpeoeebaaC
set_option linter.unusedSimpArgs false
set_option linter.unusedVariables false
set_option maxRecDepth 20000
namespace Go.Proofs.Ytpdokkhpeoeebaa
open Go.RowKit

theorem pow_split (t : Nat) (ht : t ≤ 63) : (2 : Int) ^ t * 2 ^ (64 - t) = 18446744073709551616 ∧ (0 : Int) < 2 ^ t ∧ (0 : Int) < 2 ^ (64 - t) ∧ (2 : Int) ^ t ≤ 9223372036854775808 := by
  refine ⟨?_, Int.pow_pos (by omega), Int.pow_pos (by omega), ?_⟩
  · rw [← Int.pow_add, show t + (64 - t) = 64 by omega]; rfl
  · calc (2 : Int) ^ t ≤ 2 ^ 63 := by exact_mod_cast Nat.pow_le_pow_right (by omega) ht
      _ = 9223372036854775808 := by rfl

/-- A part to the left: what stays, and what goes out of it. -/
theorem shl_part (x r : Int) (hx : 0 ≤ x ∧ x < 18446744073709551616) (hr : 0 ≤ r ∧ r < 64) :
    ∃ h l : Int, IntKind.u64.wrap (x * 2 ^ r.toNat) = l ∧ x / 2 ^ (64 - r).toNat = h ∧ Hid (x * 2 ^ r.toNat = h * 18446744073709551616 + l) ∧ (0 ≤ l ∧ l < 18446744073709551616) ∧ Hid (l % 2 ^ r.toNat = 0) ∧ 0 ≤ h ∧ Hid (h < 2 ^ r.toNat) ∧ h < 9223372036854775808 := by
  obtain ⟨t, rfl⟩ := Int.eq_ofNat_of_zero_le hr.1
  have ht : t ≤ 63 := by omega
  have e64 : ((64 : Int) - (t : Int)).toNat = 64 - t := by omega
  obtain ⟨hTU, hT, hU, hT2⟩ := pow_split t ht
  rw [e64, Int.toNat_natCast, IntKind.wrap_u64]
  generalize hTe : (2 : Int) ^ t = T at *
  generalize hUe : (2 : Int) ^ (64 - t) = U at *
  have hd := Int.emod_add_mul_ediv x U
  have hm0 := Int.emod_nonneg x (show U ≠ 0 by omega)
  have hm1 := Int.emod_lt_of_pos x hU
  have hq0 : 0 ≤ x / U := Int.ediv_nonneg hx.1 (by omega)
  have hq1 : x / U < T := by
    apply Int.ediv_lt_of_lt_mul hU
    rw [hTU]; exact hx.2
  generalize x / U = h at *
  generalize x % U = l at *
  have e1 : x * T = h * 18446744073709551616 + l * T := by
    rw [← hd, Int.add_mul, Int.mul_right_comm, Int.mul_comm U T, hTU]
    rw [Int.mul_comm 18446744073709551616 h]; omega
  have e2 : 0 ≤ l * T := Int.mul_nonneg hm0 (by omega)
  have e3 : l * T < 18446744073709551616 := by
    rw [← hTU, Int.mul_comm T U]
    exact Int.mul_lt_mul_of_pos_right hm1 hT
  refine ⟨h, l * T, ?_, rfl, e1, ⟨e2, e3⟩, show _ = _ from Int.mul_emod_left l T, hq0, hq1, by omega⟩
  rw [e1]
  omega

theorem shl_or {a b r : Int} (hr : 0 ≤ r ∧ r < 64) (ha : 0 ≤ a ∧ a < 18446744073709551616) (hm : Hid (a % 2 ^ r.toNat = 0)) (hb : 0 ≤ b) (hb1 : Hid (b < 2 ^ r.toNat)) (hb2 : b < 9223372036854775808) : bits .or .u64 a b = a + b ∧ a + b < 18446744073709551616 := by
  have h1 : bits .or .u64 a b = a + b := bits_join .u64 64 (by decide) (fun n h0 h1 => by rw [IntKind.wrap_u64]; omega) r.toNat a b ha.1 hm.out (by simpa using ha.2) hb hb1.out (by simp; omega)
  refine ⟨h1, ?_⟩
  obtain ⟨t, rfl⟩ := Int.eq_ofNat_of_zero_le hr.1
  have ht : t ≤ 63 := by omega
  obtain ⟨hTU, hT, hU, hT2⟩ := pow_split t ht
  have hm := hm.out; have hb1 := hb1.out
  rw [Int.toNat_natCast] at hm hb1
  generalize hTe : (2 : Int) ^ t = T at *
  generalize hUe : (2 : Int) ^ (64 - t) = U at *
  obtain ⟨q, rfl⟩ := Int.dvd_of_emod_eq_zero hm
  have hq : q < U := by
    apply Int.lt_of_mul_lt_mul_left (a := T) _ (by omega)
    rw [hTU]; exact ha.2
  have : T * (q + 1) ≤ T * U := Int.mul_le_mul_of_nonneg_left (by omega) (by omega)
  rw [hTU, Int.mul_add] at this
  omega

/-- What a shift to the left leaves, as a whole number. -/
def ShlS (x k z : Int) : Prop := ∃ q : Int, 0 ≤ q ∧ x * 2 ^ k.toNat = z + q * 115792089237316195423570985008687907853269984665640564039457584007913129639936

end Go.Proofs.Ytpdokkhpeoeebaa
