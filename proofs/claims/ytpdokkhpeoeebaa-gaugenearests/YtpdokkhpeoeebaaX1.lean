
/- num.noughts. -/
import Derived.Test.YtpdokkhpeoeebaaG
import Derived.Test.YtpdokkhpeoeebaaQ
set_option linter.unusedSimpArgs false
set_option linter.unusedVariables false
set_option maxRecDepth 20000
namespace Go.Proofs.Ytpdokkhpeoeebaa
open Go.RowKit Go.Shelf
attribute [local go_sem] Oper.semAt_some

theorem kp_set {B : Nat} {W : World} {b o : Nat} {v : Value} (h : B ≠ b) : KpB B W (W.setCell ⟨b, o, none⟩ v).drew :=
  Below.heap_setCell W ⟨b, o, none⟩ v B h

theorem nought_T {x s : Int} (h5 : 0 ≤ s) (h6 : s < 64) (h7 : 9223372036854775808 ≤ x * 2 ^ s.toNat ∧ x * 2 ^ s.toNat < 18446744073709551616) : x * 2 ^ s.toNat + 2 ^ s.toNat ≤ 18446744073709551616 ∧ (0 : Int) < 2 ^ s.toNat := by
  obtain ⟨t, rfl⟩ := Int.eq_ofNat_of_zero_le h5
  rw [Int.toNat_natCast] at *
  obtain ⟨hTU, hT, hU, hT2⟩ := pow_split t (by omega)
  generalize (2 : Int) ^ t = T at *
  generalize (2 : Int) ^ (64 - t) = U at *
  have h1 : x < U := by
    apply Int.lt_of_mul_lt_mul_right (a := T) _ (by omega)
    rw [Int.mul_comm U T, hTU]; exact h7.2
  have h2 : (x + 1) * T ≤ U * T := Int.mul_le_mul_of_nonneg_right (by omega) (by omega)
  rw [Int.mul_comm U T, hTU, Int.add_mul] at h2
  exact ⟨by omega, hT⟩

theorem nought_0 {V x t s : Int} (h5 : 0 ≤ s) (h6 : s < 64) (h7 : 9223372036854775808 ≤ x * 2 ^ s.toNat ∧ x * 2 ^ s.toNat < 18446744073709551616) (hV : V = x * 6277101735386680763835789423207666416102355444464034512896 + t) (ht : 0 ≤ t ∧ t < 6277101735386680763835789423207666416102355444464034512896) :
    57896044618658097711785492504343953926634992332820282019728792003956564819968 ≤ V * 2 ^ (0 + s).toNat ∧ V * 2 ^ (0 + s).toNat < 115792089237316195423570985008687907853269984665640564039457584007913129639936 := by
  obtain ⟨g1, g2⟩ := nought_T h5 h6 h7
  have e : (2 : Int) ^ (0 + s).toNat = 1 * 2 ^ s.toNat := by
    rw [show (0 + s).toNat = 0 + s.toNat by omega, Int.pow_add]; rfl
  rw [e]
  generalize (2 : Int) ^ s.toNat = T at *
  have e1 : V * (1 * T) = x * T * 6277101735386680763835789423207666416102355444464034512896 + t * T * 1 := by rw [hV]; grind
  have e2 : t * T ≤ 6277101735386680763835789423207666416102355444464034512895 * T := Int.mul_le_mul_of_nonneg_right (by omega) (by omega)
  have e3 : 0 ≤ t * T := Int.mul_nonneg ht.1 (by omega)
  rw [e1]
  generalize t * T = A at *
  generalize x * T = B at *
  omega

theorem nought_1 {V x t s : Int} (h5 : 0 ≤ s) (h6 : s < 64) (h7 : 9223372036854775808 ≤ x * 2 ^ s.toNat ∧ x * 2 ^ s.toNat < 18446744073709551616) (hV : V = x * 340282366920938463463374607431768211456 + t) (ht : 0 ≤ t ∧ t < 340282366920938463463374607431768211456) :
    57896044618658097711785492504343953926634992332820282019728792003956564819968 ≤ V * 2 ^ (64 + s).toNat ∧ V * 2 ^ (64 + s).toNat < 115792089237316195423570985008687907853269984665640564039457584007913129639936 := by
  obtain ⟨g1, g2⟩ := nought_T h5 h6 h7
  have e : (2 : Int) ^ (64 + s).toNat = 18446744073709551616 * 2 ^ s.toNat := by
    rw [show (64 + s).toNat = 64 + s.toNat by omega, Int.pow_add]; rfl
  rw [e]
  generalize (2 : Int) ^ s.toNat = T at *
  have e1 : V * (18446744073709551616 * T) = x * T * 6277101735386680763835789423207666416102355444464034512896 + t * T * 18446744073709551616 := by rw [hV]; grind
  have e2 : t * T ≤ 340282366920938463463374607431768211455 * T := Int.mul_le_mul_of_nonneg_right (by omega) (by omega)
  have e3 : 0 ≤ t * T := Int.mul_nonneg ht.1 (by omega)
  rw [e1]
  generalize t * T = A at *
  generalize x * T = B at *
  omega

theorem nought_2 {V x t s : Int} (h5 : 0 ≤ s) (h6 : s < 64) (h7 : 9223372036854775808 ≤ x * 2 ^ s.toNat ∧ x * 2 ^ s.toNat < 18446744073709551616) (hV : V = x * 18446744073709551616 + t) (ht : 0 ≤ t ∧ t < 18446744073709551616) :
    57896044618658097711785492504343953926634992332820282019728792003956564819968 ≤ V * 2 ^ (128 + s).toNat ∧ V * 2 ^ (128 + s).toNat < 115792089237316195423570985008687907853269984665640564039457584007913129639936 := by
  obtain ⟨g1, g2⟩ := nought_T h5 h6 h7
  have e : (2 : Int) ^ (128 + s).toNat = 340282366920938463463374607431768211456 * 2 ^ s.toNat := by
    rw [show (128 + s).toNat = 128 + s.toNat by omega, Int.pow_add]; rfl
  rw [e]
  generalize (2 : Int) ^ s.toNat = T at *
  have e1 : V * (340282366920938463463374607431768211456 * T) = x * T * 6277101735386680763835789423207666416102355444464034512896 + t * T * 340282366920938463463374607431768211456 := by rw [hV]; grind
  have e2 : t * T ≤ 18446744073709551615 * T := Int.mul_le_mul_of_nonneg_right (by omega) (by omega)
  have e3 : 0 ≤ t * T := Int.mul_nonneg ht.1 (by omega)
  rw [e1]
  generalize t * T = A at *
  generalize x * T = B at *
  omega

theorem nought_3 {V x t s : Int} (h5 : 0 ≤ s) (h6 : s < 64) (h7 : 9223372036854775808 ≤ x * 2 ^ s.toNat ∧ x * 2 ^ s.toNat < 18446744073709551616) (hV : V = x * 1 + t) (ht : 0 ≤ t ∧ t < 1) :
    57896044618658097711785492504343953926634992332820282019728792003956564819968 ≤ V * 2 ^ (192 + s).toNat ∧ V * 2 ^ (192 + s).toNat < 115792089237316195423570985008687907853269984665640564039457584007913129639936 := by
  obtain ⟨g1, g2⟩ := nought_T h5 h6 h7
  have e : (2 : Int) ^ (192 + s).toNat = 6277101735386680763835789423207666416102355444464034512896 * 2 ^ s.toNat := by
    rw [show (192 + s).toNat = 192 + s.toNat by omega, Int.pow_add]; rfl
  rw [e]
  generalize (2 : Int) ^ s.toNat = T at *
  have e1 : V * (6277101735386680763835789423207666416102355444464034512896 * T) = x * T * 6277101735386680763835789423207666416102355444464034512896 + t * T * 6277101735386680763835789423207666416102355444464034512896 := by rw [hV]; grind
  have e2 : t * T ≤ 0 * T := Int.mul_le_mul_of_nonneg_right (by omega) (by omega)
  have e3 : 0 ≤ t * T := Int.mul_nonneg ht.1 (by omega)
  rw [e1]
  generalize t * T = A at *
  generalize x * T = B at *
  omega

theorem nought_val {x0 x1 x2 x3 s : Int} (hx : Lim x0 x1 x2 x3) {init : List Limb} {x : Limb} (hp : init ++ [x] <+: limbsDown hx) (h3 : ∀ p ∈ init, p.1.2 = 0) (h5 : 0 ≤ s) (h6 : s < 64)
    (h7 : Hid (9223372036854775808 ≤ x.1.2 * 2 ^ s.toNat ∧ x.1.2 * 2 ^ s.toNat < 18446744073709551616)) :
    Hid (57896044618658097711785492504343953926634992332820282019728792003956564819968 ≤ val x0 x1 x2 x3 * 2 ^ (64 * (init.length : Int) + s).toNat ∧ val x0 x1 x2 x3 * 2 ^ (64 * (init.length : Int) + s).toNat < 115792089237316195423570985008687907853269984665640564039457584007913129639936) := by
  have h7 := h7.out
  unfold Hid
  obtain ⟨t, ht⟩ := hp
  unfold limbsDown at ht
  unfold Lim at hx
  match init, h3, ht with
  | [], h3, ht =>
    simp at ht
    obtain ⟨rfl, -⟩ := ht
    exact nought_0 (t := x0 + x1 * 18446744073709551616 + x2 * 340282366920938463463374607431768211456) h5 h6 h7 (by unfold val; simp only [limb]; omega) ⟨by omega, by omega⟩
  | [a], h3, ht =>
    simp at ht h3
    obtain ⟨rfl, rfl, -⟩ := ht
    simp only [limb] at h3
    exact nought_1 (t := x0 + x1 * 18446744073709551616) h5 h6 h7 (by unfold val; simp only [limb]; omega) ⟨by omega, by omega⟩
  | [a, b], h3, ht =>
    simp at ht h3
    obtain ⟨rfl, rfl, rfl, -⟩ := ht
    simp only [limb] at h3
    exact nought_2 (t := x0) h5 h6 h7 (by unfold val; simp only [limb]; omega) ⟨by omega, by omega⟩
  | [a, b, c], h3, ht =>
    simp at ht h3
    obtain ⟨rfl, rfl, rfl, rfl, -⟩ := ht
    simp only [limb] at h3
    exact nought_3 (t := 0) h5 h6 h7 (by unfold val; simp only [limb]; omega) ⟨by omega, by omega⟩
  | a :: b :: c :: d :: r, h3, ht =>
    have := congrArg List.length ht
    simp at this

end Go.Proofs.Ytpdokkhpeoeebaa
