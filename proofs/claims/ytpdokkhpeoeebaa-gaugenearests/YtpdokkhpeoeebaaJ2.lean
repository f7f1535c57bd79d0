
/- num.shiftRight. -/
import Derived.Test.YtpdokkhpeoeebaaJ
set_option linter.unusedSimpArgs false
set_option linter.unusedVariables false
set_option maxRecDepth 20000
namespace Go.Proofs.Ytpdokkhpeoeebaa
open Go.RowKit

/-- A part to the right: what stays, and what comes into the one below. -/
theorem shr_part (x r : Int) (hx : 0 ≤ x ∧ x < 18446744073709551616) (hr : 0 ≤ r ∧ r < 64) :
    ∃ h l g : Int, x / 2 ^ r.toNat = h ∧ IntKind.u64.wrap (x * 2 ^ (64 - r).toNat) = g ∧ Hid (x = h * 2 ^ r.toNat + l) ∧ 0 ≤ l ∧ Hid (l < 2 ^ r.toNat) ∧ Hid (g * 2 ^ r.toNat = l * 18446744073709551616) ∧ (0 ≤ g ∧ g < 18446744073709551616) ∧ (0 ≤ h ∧ h < 18446744073709551616) ∧ Hid (g % 2 ^ (64 - r).toNat = 0) ∧ Hid (h < 2 ^ (64 - r).toNat) := by
  obtain ⟨t, rfl⟩ := Int.eq_ofNat_of_zero_le hr.1
  have ht : t ≤ 63 := by omega
  have e64 : ((64 : Int) - (t : Int)).toNat = 64 - t := by omega
  obtain ⟨hTU, hT, hU, hT2⟩ := pow_split t ht
  rw [e64, Int.toNat_natCast, IntKind.wrap_u64]
  generalize hTe : (2 : Int) ^ t = T at *
  generalize hUe : (2 : Int) ^ (64 - t) = U at *
  have hd := Int.emod_add_mul_ediv x T
  have hm0 := Int.emod_nonneg x (show T ≠ 0 by omega)
  have hm1 := Int.emod_lt_of_pos x hT
  have hq0 : 0 ≤ x / T := Int.ediv_nonneg hx.1 (by omega)
  have hq1 : x / T < U := by
    apply Int.ediv_lt_of_lt_mul hT
    rw [Int.mul_comm, hTU]; exact hx.2
  have hq2 : x / T < 18446744073709551616 := by
    have : x / T ≤ x := Int.ediv_le_self _ hx.1
    omega
  generalize x / T = h at *
  generalize x % T = l at *
  have e1 : x * U = h * 18446744073709551616 + l * U := by
    rw [← hd, Int.add_mul, Int.mul_right_comm, hTU]
    rw [Int.mul_comm 18446744073709551616 h]; omega
  have e2 : 0 ≤ l * U := Int.mul_nonneg hm0 (by omega)
  have e3 : l * U < 18446744073709551616 := by
    rw [← hTU]
    exact Int.mul_lt_mul_of_pos_right hm1 hU
  have e4 : l * U * T = l * 18446744073709551616 := by rw [Int.mul_assoc, Int.mul_comm U T, hTU]
  refine ⟨h, l, l * U, rfl, ?_, ?_, hm0, hm1, e4, ⟨e2, e3⟩, ⟨hq0, hq2⟩, show _ = _ from Int.mul_emod_left l U, hq1⟩
  · rw [e1]; omega
  · show x = h * T + l
    rw [← hd, Int.mul_comm T h]; omega

theorem shr_or {a b r : Int} (hr : 0 ≤ r ∧ r < 64) (ha : 0 ≤ a ∧ a < 18446744073709551616) (hm : Hid (a % 2 ^ (64 - r).toNat = 0)) (hb : 0 ≤ b ∧ b < 18446744073709551616) (hb1 : Hid (b < 2 ^ (64 - r).toNat)) : bits .or .u64 b a = b + a ∧ b + a < 18446744073709551616 := by
  have hc : bits .or .u64 b a = bits .or .u64 a b := by simp only [bits, BitVec.or_comm]
  have h1 : bits .or .u64 a b = a + b := bits_join .u64 64 (by decide) (fun n h0 h1 => by rw [IntKind.wrap_u64]; omega) (64 - r).toNat a b ha.1 hm.out (by simpa using ha.2) hb.1 hb1.out (by simp; omega)
  refine ⟨by rw [hc, h1]; omega, ?_⟩
  obtain ⟨t, rfl⟩ := Int.eq_ofNat_of_zero_le hr.1
  have ht : t ≤ 63 := by omega
  have e64 : ((64 : Int) - (t : Int)).toNat = 64 - t := by omega
  obtain ⟨hTU, hT, hU, hT2⟩ := pow_split t ht
  have hm := hm.out; have hb1 := hb1.out
  rw [e64] at hm hb1
  generalize hTe : (2 : Int) ^ t = T at *
  generalize hUe : (2 : Int) ^ (64 - t) = U at *
  obtain ⟨q, rfl⟩ := Int.dvd_of_emod_eq_zero hm
  have hq : q < T := by
    apply Int.lt_of_mul_lt_mul_left (a := U) _ (by omega)
    rw [Int.mul_comm U T, hTU]; exact ha.2
  have : U * (q + 1) ≤ U * T := Int.mul_le_mul_of_nonneg_left (by omega) (by omega)
  rw [Int.mul_comm U T, hTU, Int.mul_add] at this
  omega

/-- What a shift to the right leaves, as a whole number. -/
def ShrS (x k z : Int) : Prop := ∃ m : Int, 0 ≤ m ∧ m < 2 ^ k.toNat ∧ x = z * 2 ^ k.toNat + m

end Go.Proofs.Ytpdokkhpeoeebaa
