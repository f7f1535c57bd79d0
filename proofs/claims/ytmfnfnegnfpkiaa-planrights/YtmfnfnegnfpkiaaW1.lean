
/- math/bits.Div64 whole; num.dividePart. -/
import Derived.Test.YtmfnfnegnfpkiaaQ
set_option linter.unusedSimpArgs false
set_option linter.unusedVariables false
set_option maxRecDepth 20000
namespace Go.Proofs.Ytmfnfnegnfpkiaa
open Go.RowKit

set_option maxHeartbeats 1000000 in
theorem div64_lo (lo y : Int) (h1 : 0 < y) (hy : y < 18446744073709551616) (hlo : 0 ≤ lo ∧ lo < 18446744073709551616) (w : World) :
    Calls Try.prog 129 #[.int .u64 0, .int .u64 lo, .int .u64 y] w fun e w' => ∃ q r : Int, e = .returned (.tuple #[.int .u64 q, .int .u64 r]) ∧ (0 ≤ q ∧ q < 18446744073709551616) ∧ (0 ≤ r ∧ r < y) ∧ Hid (0 * 18446744073709551616 + lo = q * y + r) ∧ Below w.heap.size w w' := by
  have hy0 : ¬ y = 0 := by omega
  have hyb : (y == 0) = false := by simp; omega
  have hyle : ¬ y ≤ 0 := by omega
  have e1 := Int.emod_add_mul_ediv lo y
  have e2 := Int.emod_nonneg lo hy0
  have e3 := Int.emod_lt_of_pos lo h1
  have e4 : 0 ≤ lo / y := Int.ediv_nonneg hlo.1 (by omega)
  have e5 : lo / y ≤ lo := Int.ediv_le_self _ hlo.1
  obtain ⟨q, hq⟩ : ∃ q, lo / y = q := ⟨_, rfl⟩
  obtain ⟨r, hr⟩ : ∃ r, lo % y = r := ⟨_, rfl⟩
  have hd : Hid (0 * 18446744073709551616 + lo = q * y + r) := by
    show _ = _
    rw [hq, hr, Int.mul_comm] at e1; omega
  rw [hq] at e4 e5; rw [hr] at e2 e3
  clear e1
  go_enter Try.func129, Try.ntmps129
  go_wp2
  go_region
  all_goals go_wp2
  all_goals go_ret2
  all_goals exact ⟨q, r, by first | rfl | (simp [hq, hr]; done), ⟨e4, by omega⟩, ⟨e2, e3⟩, hd, by (repeat (first | (with_reducible exact Below.refl _ _) | (with_reducible assumption) | (with_reducible apply bd) | (with_reducible apply ba) | (with_reducible refine bp ?_ (by first | omega | (simp [pad_size]; done) | (simp [pad_size]; omega)) _ _) | (with_reducible refine bs ?_ (by first | omega | (simp [pad_size]; done) | (simp [pad_size]; omega)) _) | (with_reducible refine bt ?_ (by assumption))))⟩

theorem div64_any (hi lo y : Int) (h0 : 0 ≤ hi) (h1 : hi < y) (hy : y < 18446744073709551616) (hlo : 0 ≤ lo ∧ lo < 18446744073709551616) (w : World) :
    Calls Try.prog 129 #[.int .u64 hi, .int .u64 lo, .int .u64 y] w fun e w' => ∃ q r : Int, e = .returned (.tuple #[.int .u64 q, .int .u64 r]) ∧ (0 ≤ q ∧ q < 18446744073709551616) ∧ (0 ≤ r ∧ r < y) ∧ Hid (hi * 18446744073709551616 + lo = q * y + r) ∧ Below w.heap.size w w' := by
  by_cases e : hi = 0
  · subst e; exact div64_lo lo y h1 hy hlo w
  · exact div64_hi hi lo y (by omega) h1 hy hlo w

/-- The guess of a part isn't too small. -/
theorem guess_ok {n r0 r1 r2 r3 c0 c1 c2 c3 g t : Int} (hr : Lim r0 r1 r2 r3) (hc : Lim c0 c1 c2 c3) (hn : 0 ≤ n ∧ n < 18446744073709551616) (hC : 9223372036854775808 ≤ c3) (hlt : val r0 r1 r2 r3 < val c0 c1 c2 c3)
    (hg : (r3 < c3 ∧ r3 * 18446744073709551616 + r2 = g * c3 + t ∧ 0 ≤ t ∧ t < c3 ∧ 0 ≤ g) ∨ (c3 ≤ r3 ∧ g = 18446744073709551615)) :
    val r0 r1 r2 r3 * 18446744073709551616 + n < (g + 1) * val c0 c1 c2 c3 := by
  rcases hg with ⟨h1, h2, h3, h4, h5⟩ | ⟨h1, rfl⟩
  · have e1 : c3 * 6277101735386680763835789423207666416102355444464034512896 ≤ val c0 c1 c2 c3 := by unfold val; unfold Lim at hc; omega
    have e2 : (g + 1) * (c3 * 6277101735386680763835789423207666416102355444464034512896) ≤ (g + 1) * val c0 c1 c2 c3 := Int.mul_le_mul_of_nonneg_left e1 (by omega)
    have e3 : (g + 1) * (c3 * 6277101735386680763835789423207666416102355444464034512896) = (g * c3 + c3) * 6277101735386680763835789423207666416102355444464034512896 := by grind
    rw [e3] at e2
    unfold Lim at hr
    unfold val at *
    generalize g * c3 = G at *
    omega
  · have e1 : (18446744073709551615 + 1) * val c0 c1 c2 c3 = val c0 c1 c2 c3 * 18446744073709551616 := by omega
    rw [e1]; omega
end Go.Proofs.Ytmfnfnegnfpkiaa
