
/- math/bits.Len64, LeadingZeros64. -/
import Derived.Test.YtgphdioolcfmmaaB
import Derived.Deep.Light
set_option linter.unusedSimpArgs false
set_option linter.unusedVariables false
set_option maxRecDepth 20000
namespace Go.Proofs.Ytgphdioolcfmmaa
open Go.RowKit

theorem ret_int {k : IntKind} {a b : Int} (h : a = b) : Ending.returned (.int k a) = .returned (.int k b) := by rw [h]

theorem len_fin (s : Nat) (x y : Int) (hx : 0 ≤ x) (e : y = x / (2 ^ s : Nat)) (h1 : y < 256) (h2 : s = 0 ∨ 1 ≤ y) (hs : s ≤ 56) : wrap64 ((s : Int) + wrap64 (bitLen y.toNat : Int)) = (bitLen x.toNat : Int) := by
  have hy : 0 ≤ y := by rw [e]; exact Int.ediv_nonneg hx (Int.natCast_nonneg _)
  have hb : bitLen y.toNat ≤ 8 := bitLen_le8 _ (by omega)
  have key : bitLen x.toNat = s + bitLen y.toNat := by
    rcases h2 with rfl | h2
    · have : y = x := by rw [e]; simp
      rw [this]; omega
    · have ey : y.toNat = x.toNat / 2 ^ s := by
        obtain ⟨n, rfl⟩ := Int.eq_ofNat_of_zero_le hx
        have : y = ((n / 2 ^ s : Nat) : Int) := by rw [e]; simp
        rw [this]; exact Int.toNat_natCast _
      rw [ey]
      exact bitLen_shift _ _ (by rw [← ey]; omega)
  unfold wrap64
  omega

theorem bitLen_le64 {x : Int} (h1 : 0 ≤ x) (h2 : x < 18446744073709551616) : bitLen x.toNat ≤ 64 := by
  unfold bitLen
  split
  · omega
  · rename_i h0
    have := (Nat.log2_lt h0).2 (show x.toNat < 2 ^ 64 by omega)
    omega

end Go.Proofs.Ytgphdioolcfmmaa
