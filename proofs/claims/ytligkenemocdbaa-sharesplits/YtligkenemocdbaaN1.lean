
/- law01.wide: is a product at most another one? num.MulDiv where the answer is known. -/
import Derived.Test.YtligkenemocdbaaD9
set_option linter.unusedSimpArgs false
set_option linter.unusedVariables false
namespace Go.Proofs.Ytligkenemocdbaa
open Go.RowKit

theorem sm_below {a b : Nat → Int} {k : Nat} (hk : a k < b k) (ha : ∀ i, i < k → 0 ≤ a i ∧ a i < 65536) (hb : ∀ i, i < k → 0 ≤ b i ∧ b i < 65536) : ∀ d, (∀ j, k < j → j < k + 1 + d → a j = b j) → sm a (k + 1 + d) < sm b (k + 1 + d)
  | 0, _ => by
    have h1 := sm_lim k ha
    have h2 := sm_lim k hb
    show sm a (k + 1) < sm b (k + 1)
    rw [sm_succ, sm_succ]
    generalize (65536 : Int) ^ k = B at *
    have h3 : (a k + 1) * B ≤ b k * B := Int.mul_le_mul_of_nonneg_right (by omega) (by omega)
    rw [Int.add_mul] at h3
    omega
  | d + 1, h => by
    have h1 := sm_below hk ha hb d (fun j h1 h2 => h j h1 (by omega))
    show sm a (k + 1 + d + 1) < sm b (k + 1 + d + 1)
    rw [sm_succ, sm_succ, h (k + 1 + d) (by omega) (by omega)]
    omega
theorem sm_less {a b : Nat → Int} {n k : Nat} (hn : k < n) (hk : a k < b k) (ha : ∀ i, i < n → 0 ≤ a i ∧ a i < 65536) (hb : ∀ i, i < n → 0 ≤ b i ∧ b i < 65536) (h : ∀ j, k < j → j < n → a j = b j) : sm a n < sm b n := by
  obtain ⟨d, rfl⟩ := Nat.exists_eq_add_of_le (show k + 1 ≤ n by omega)
  exact sm_below hk (fun i hi => ha i (by omega)) (fun i hi => hb i (by omega)) d h

theorem wide_c (x0 x1 x2 x3 y0 y1 y2 y3 : Int) (hx : Lim x0 x1 x2 x3) (hy : Lim y0 y1 y2 y3) (w : World) :
    Calls Try.prog 36 #[.agg #[.int .u64 x0, .int .u64 x1, .int .u64 x2, .int .u64 x3], .agg #[.int .u64 y0, .int .u64 y1, .int .u64 y2, .int .u64 y3]] w fun e w' => ∃ (dl : Nat → Int) (g cap : Nat), e = .returned (.slice (some ⟨g, 0, none⟩) 32 cap) ∧ g < w'.heap.size ∧ (∀ k, k < 32 → w'.cell? ⟨g, k, none⟩ = some (.int .u64 (dl k))) ∧ (∀ i, i < 32 → 0 ≤ dl i ∧ dl i < 65536) ∧ Hid (sm dl 32 = val x0 x1 x2 x3 * val y0 y1 y2 y3) ∧ Below w.heap.size w w' := by
  refine (wide_any _ _ _ _ _ _ _ _ hx hy w).mono ?_
  rintro e w' ⟨dl, g, cap, rfl, hr, hl, hs, hb⟩
  obtain ⟨hgl, hcs⟩ := row_cells (n := 31) hr
  exact ⟨dl, g, cap, rfl, hgl, hcs, hl, hs, hb⟩

theorem says_small (n : Int) : Says 27 #[.int .u64 n] (.agg #[.int .u64 n, .int .u64 0, .int .u64 0, .int .u64 0]) := by
  intro w
  go_enter Try.func27, Try.ntmps27
  go_wp2
  refine bodyPost_ret (v := .agg #[.int .u64 n, .int .u64 0, .int .u64 0, .int .u64 0]) (by simp [results, Try.results27, go_sem]) rfl ⟨rfl, ?_⟩
  exact (Below.refl _ _).alloc (Nat.le_refl _) _

/-- num.MulDiv where the answer is known. -/
theorem says_md_zero {x0 x1 x2 x3 y0 y1 y2 y3 u0 u1 u2 u3 : Int} (up : Bool) (hx : Lim x0 x1 x2 x3) (hy : Lim y0 y1 y2 y3) (hu : Lim u0 u1 u2 u3) (h0 : val u0 u1 u2 u3 = 0) :
    Says 22 #[.agg #[.int .u64 x0, .int .u64 x1, .int .u64 x2, .int .u64 x3], .agg #[.int .u64 y0, .int .u64 y1, .int .u64 y2, .int .u64 y3], .agg #[.int .u64 u0, .int .u64 u1, .int .u64 u2, .int .u64 u3], .bool up] (.tuple #[.agg #[.int .u64 0, .int .u64 0, .int .u64 0, .int .u64 0], .int .i64 1]) := by
  intro w
  refine (muldiv_any _ _ _ _ _ _ _ _ _ _ _ _ up hx hy hu w).mono ?_
  rintro e w' ⟨z0, z1, z2, z3, c, rfl, hz, hs, hb⟩
  rcases hs with ⟨-, rfl, h⟩ | ⟨hc, -⟩
  · obtain ⟨rfl, rfl, rfl, rfl⟩ := (val_zero hz).1 h
    exact ⟨rfl, hb⟩
  · omega
theorem qr_one {a c q r q' r' : Int} (h1 : a = q * c + r) (h2 : a = q' * c + r') (hr : 0 ≤ r ∧ r < c) (hr' : 0 ≤ r' ∧ r' < c) : q = q' ∧ r = r' := by
  have hc : 0 < c := by omega
  have e : (q - q') * c = r' - r := by rw [Int.sub_mul]; omega
  have hlt : q - q' < 1 := Int.lt_of_mul_lt_mul_right (a := c) (by omega) (by omega)
  have hge : -1 < q - q' := Int.lt_of_mul_lt_mul_right (a := c) (by omega) (by omega)
  have : q = q' := by omega
  subst this
  omega
theorem says_md {x0 x1 x2 x3 y0 y1 y2 y3 u0 u1 u2 u3 z0 z1 z2 z3 q r : Int} (up : Bool) (hx : Lim x0 x1 x2 x3) (hy : Lim y0 y1 y2 y3) (hu : Lim u0 u1 u2 u3) (hz : Lim z0 z1 z2 z3) (hq : val x0 x1 x2 x3 * val y0 y1 y2 y3 = q * val u0 u1 u2 u3 + r) (hr : 0 ≤ r ∧ r < val u0 u1 u2 u3) (he : val z0 z1 z2 z3 = upI up q r) :
    Says 22 #[.agg #[.int .u64 x0, .int .u64 x1, .int .u64 x2, .int .u64 x3], .agg #[.int .u64 y0, .int .u64 y1, .int .u64 y2, .int .u64 y3], .agg #[.int .u64 u0, .int .u64 u1, .int .u64 u2, .int .u64 u3], .bool up] (.tuple #[.agg #[.int .u64 z0, .int .u64 z1, .int .u64 z2, .int .u64 z3], .int .i64 0]) := by
  intro w
  refine (muldiv_any _ _ _ _ _ _ _ _ _ _ _ _ up hx hy hu w).mono ?_
  rintro e w' ⟨v0, v1, v2, v3, c, rfl, hv, hs, hb⟩
  rcases hs with ⟨h, -⟩ | ⟨hc, q', r', h2, h3, h4, h5, h6⟩
  · omega
  · obtain ⟨rfl, rfl⟩ := qr_one hq h2 hr ⟨h3, h4⟩
    have := val_hi hz
    rcases h6 with ⟨-, rfl, h⟩ | ⟨h, -⟩
    · obtain ⟨rfl, rfl, rfl, rfl⟩ := val_inj hv hz (h.trans he.symm)
      exact ⟨rfl, hb⟩
    · omega
theorem says_md_over {x0 x1 x2 x3 y0 y1 y2 y3 u0 u1 u2 u3 q r : Int} (up : Bool) (hx : Lim x0 x1 x2 x3) (hy : Lim y0 y1 y2 y3) (hu : Lim u0 u1 u2 u3) (hq : val x0 x1 x2 x3 * val y0 y1 y2 y3 = q * val u0 u1 u2 u3 + r) (hr : 0 ≤ r ∧ r < val u0 u1 u2 u3) (he : 115792089237316195423570985008687907853269984665640564039457584007913129639936 ≤ upI up q r) :
    Says 22 #[.agg #[.int .u64 x0, .int .u64 x1, .int .u64 x2, .int .u64 x3], .agg #[.int .u64 y0, .int .u64 y1, .int .u64 y2, .int .u64 y3], .agg #[.int .u64 u0, .int .u64 u1, .int .u64 u2, .int .u64 u3], .bool up] (.tuple #[.agg #[.int .u64 0, .int .u64 0, .int .u64 0, .int .u64 0], .int .i64 2]) := by
  intro w
  refine (muldiv_any _ _ _ _ _ _ _ _ _ _ _ _ up hx hy hu w).mono ?_
  rintro e w' ⟨v0, v1, v2, v3, c, rfl, hv, hs, hb⟩
  rcases hs with ⟨h, -⟩ | ⟨hc, q', r', h2, h3, h4, h5, h6⟩
  · omega
  · obtain ⟨rfl, rfl⟩ := qr_one hq h2 hr ⟨h3, h4⟩
    rcases h6 with ⟨h, -⟩ | ⟨-, rfl, h⟩
    · omega
    · obtain ⟨rfl, rfl, rfl, rfl⟩ := (val_zero hv).1 h
      exact ⟨rfl, hb⟩
end Go.Proofs.Ytligkenemocdbaa
