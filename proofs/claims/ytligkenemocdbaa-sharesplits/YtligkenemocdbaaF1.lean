
/- The contracts of num as they are used where the answer is known. -/
import Derived.Test.YtligkenemocdbaaB3
import Derived.Test.YtligkenemocdbaaH
set_option linter.unusedSimpArgs false
set_option linter.unusedVariables false
namespace Go.Proofs.Ytligkenemocdbaa
open Go.RowKit

theorem eq4_self (a b c d : Int) : eq4 a b c d a b c d = true := eq4_true.2 ⟨rfl, rfl, rfl, rfl⟩
theorem limbs_of {n : Int} (h0 : 0 ≤ n) (h1 : n < 115792089237316195423570985008687907853269984665640564039457584007913129639936) : ∃ z0 z1 z2 z3 : Int, Lim z0 z1 z2 z3 ∧ val z0 z1 z2 z3 = n :=
  ⟨n % 18446744073709551616, n / 18446744073709551616 % 18446744073709551616, n / 340282366920938463463374607431768211456 % 18446744073709551616, n / 6277101735386680763835789423207666416102355444464034512896, by unfold Lim; omega, by unfold val; omega⟩

theorem add_fit {x0 x1 x2 x3 y0 y1 y2 y3 z0 z1 z2 z3 : Int} (hx : Lim x0 x1 x2 x3) (hy : Lim y0 y1 y2 y3) (hz : Lim z0 z1 z2 z3) (he : Hid (val z0 z1 z2 z3 = val x0 x1 x2 x3 + val y0 y1 y2 y3)) (w : World) :
    Calls Try.prog 34 #[.agg #[.int .u64 x0, .int .u64 x1, .int .u64 x2, .int .u64 x3], .agg #[.int .u64 y0, .int .u64 y1, .int .u64 y2, .int .u64 y3]] w fun e w' => e = .returned (.tuple #[.agg #[.int .u64 z0, .int .u64 z1, .int .u64 z2, .int .u64 z3], .int .i64 0]) ∧ Below w.heap.size w w' := by
  refine (add_any _ _ _ _ _ _ _ _ hx hy w).mono ?_
  rintro e w' ⟨u0, u1, u2, u3, c, rfl, hu, hs, hb⟩
  have h1 := val_hi hz
  have he := he.out
  rcases hs with ⟨-, rfl, h⟩ | ⟨h, -⟩
  · obtain ⟨rfl, rfl, rfl, rfl⟩ := val_inj hu hz (h.trans he.symm)
    exact ⟨rfl, hb⟩
  · omega
theorem add_over {x0 x1 x2 x3 y0 y1 y2 y3 : Int} (hx : Lim x0 x1 x2 x3) (hy : Lim y0 y1 y2 y3) (he : Hid (115792089237316195423570985008687907853269984665640564039457584007913129639936 ≤ val x0 x1 x2 x3 + val y0 y1 y2 y3)) (w : World) :
    Calls Try.prog 34 #[.agg #[.int .u64 x0, .int .u64 x1, .int .u64 x2, .int .u64 x3], .agg #[.int .u64 y0, .int .u64 y1, .int .u64 y2, .int .u64 y3]] w fun e w' => e = .returned (.tuple #[.agg #[.int .u64 0, .int .u64 0, .int .u64 0, .int .u64 0], .int .i64 2]) ∧ Below w.heap.size w w' := by
  refine (add_any _ _ _ _ _ _ _ _ hx hy w).mono ?_
  rintro e w' ⟨u0, u1, u2, u3, c, rfl, hu, hs, hb⟩
  have he := he.out
  rcases hs with ⟨h, -⟩ | ⟨-, rfl, h⟩
  · omega
  · obtain ⟨rfl, rfl, rfl, rfl⟩ := (val_zero hu).1 h
    exact ⟨rfl, hb⟩
theorem cmp_ge {x y : Int} (h : y ≤ x) : 0 ≤ cmpI x y := by
  unfold cmpI; rw [if_neg (by omega)]; split <;> decide
theorem md_whole {x0 x1 x2 x3 y0 y1 y2 y3 : Int} (up : Bool) (hx : Lim x0 x1 x2 x3) (hy : Lim y0 y1 y2 y3) (hq : eq4 y0 y1 y2 y3 0 0 0 0 = false) (w : World) :
    Calls Try.prog 22 #[.agg #[.int .u64 x0, .int .u64 x1, .int .u64 x2, .int .u64 x3], .agg #[.int .u64 y0, .int .u64 y1, .int .u64 y2, .int .u64 y3], .agg #[.int .u64 y0, .int .u64 y1, .int .u64 y2, .int .u64 y3], .bool up] w fun e w' => e = .returned (.tuple #[.agg #[.int .u64 x0, .int .u64 x1, .int .u64 x2, .int .u64 x3], .int .i64 0]) ∧ Below w.heap.size w w' := by
  refine (muldiv_any _ _ _ _ _ _ _ _ _ _ _ _ up hx hy hy w).mono ?_
  rintro e w' ⟨z0, z1, z2, z3, c, rfl, hz, hs, hb⟩
  rw [eq4_zero hy, decide_eq_false_iff_not] at hq
  have h0 := val_lo hx
  have h1 := val_hi hx
  rcases hs with ⟨h, -⟩ | ⟨hc, q, r, h2, h3, h4, h5, h6⟩
  · exact absurd h hq
  · have hr : r = 0 ∧ q = val x0 x1 x2 x3 := by
      generalize val x0 x1 x2 x3 = a at *
      generalize val y0 y1 y2 y3 = b at *
      have e : r = (a - q) * b := by rw [Int.sub_mul]; omega
      have hlt : a - q < 1 := Int.lt_of_mul_lt_mul_right (a := b) (by omega) (by omega)
      have hge : -1 < a - q := Int.lt_of_mul_lt_mul_right (a := b) (by omega) (by omega)
      have : a - q = 0 := by omega
      rw [this] at e
      omega
    obtain ⟨rfl, rfl⟩ := hr
    have hu : upI up (val x0 x1 x2 x3) 0 = val x0 x1 x2 x3 := by unfold upI; rw [if_neg (by simp)]
    rw [hu] at h6
    rcases h6 with ⟨-, rfl, h⟩ | ⟨h, -⟩
    · obtain ⟨rfl, rfl, rfl, rfl⟩ := val_inj hz hx h
      exact ⟨rfl, hb⟩
    · omega
end Go.Proofs.Ytligkenemocdbaa
