
/- gauge.highest of any number, math.Ldexp, gauge.Float. -/
import Derived.Test.YtpdokkhpeoeebaaGF
set_option linter.unusedSimpArgs false
set_option linter.unusedVariables false
set_option maxRecDepth 20000
namespace Go.Proofs.Ytpdokkhpeoeebaa
open Go.RowKit

theorem cast_pw (a s : Nat) : (a : Int) * 2 ^ s = ((a * 2 ^ s : Nat) : Int) := by
  rw [Int.natCast_mul, Int.natCast_pow]; rfl
set_option maxRecDepth 100000 in
theorem high_1 {X0 X1 : Nat} (hX0 : X1 ≠ 0) (lX0 : X0 < 18446744073709551616) (lX1 : X1 < 18446744073709551616) : ∃ top k : Nat, top < 18446744073709551616 ∧ 9223372036854775808 ≤ top ∧ k ≤ 192 ∧ fN ((X1 * 18446744073709551616 + X0) * 1 + (0)) = fN top + k * 4503599627370496 ∧ ∀ w, Calls Try.prog 28 #[.agg #[.int .u64 (X0 : Int), .int .u64 (X1 : Int), .int .u64 0, .int .u64 0]] w fun e w' => e = .returned (.tuple #[.int .u64 (top : Int), .int .i64 (k : Int)]) ∧ Below w.heap.size w w' := by
  have hL : X1.log2 < 64 := (Nat.log2_lt hX0).2 lX1
  obtain ⟨s, hs⟩ : ∃ s, s = 63 - X1.log2 := ⟨_, rfl⟩
  have hr : (0 : Int) ≤ (s : Int) ∧ (s : Int) < 64 := by omega
  obtain ⟨hy, ly, p1, p2, p3, p4, p5, p6, p7, p8⟩ := shl_part (X0 : Int) (s : Int) (by omega) hr
  obtain ⟨hY, rfl⟩ := Int.eq_ofNat_of_zero_le p6
  obtain ⟨lY, rfl⟩ := Int.eq_ofNat_of_zero_le p4.1
  have q3 : X0 * 2 ^ s = hY * 18446744073709551616 + lY := by
    have h := p3.out
    rw [Int.toNat_natCast, cast_pw] at h
    omega
  have hf := high_facts (at1 := 0) (Z := 0) hX0 lX1 lX0 (Nat.lt_of_lt_of_eq (m := 1) (by omega) (show 1 = 2 ^ (64 * 0) by decide)) hs q3 (by omega) (t := X1 * 2 ^ s + hY) rfl
  obtain ⟨f1, f2, f3, f4⟩ := hf
  have hn : (64 : Int) - (bitLen (X1 : Int).toNat : Int) = (s : Int) := by rw [Int.toNat_natCast, bitLen_pos hX0]; omega
  have ex : (X1 : Int) * 2 ^ (s : Int).toNat = ((X1 * 2 ^ s : Nat) : Int) := by rw [Int.toNat_natCast, cast_pw]
  have h1 : IntKind.u64.wrap ((X1 : Int) * 2 ^ (s : Int).toNat) = ((X1 * 2 ^ s : Nat) : Int) := by
    rw [ex, IntKind.wrap_u64]; omega
  have hm : Hid (((X1 * 2 ^ s : Nat) : Int) % 2 ^ (s : Int).toNat = 0) := by
    show _ = _
    rw [← ex]; exact Int.mul_emod_left _ _
  obtain ⟨h4, h4'⟩ := shl_or hr (a := ((X1 * 2 ^ s : Nat) : Int)) (by omega) hm p6 p7 p8
  have h8 := or_one (a := ((X1 * 2 ^ s : Nat) : Int) + (hY : Int)) (by omega)
  by_cases hc : ((lY : Nat) : Int) = 0
  · have hz : lY = 0 ∧ 0 = 0 := by omega
    refine ⟨X1 * 2 ^ s + hY, 64 * (0 + 1) - s, by omega, by omega, by omega, ?_, fun w => ?_⟩
    · have := f4 _ (if_pos hz).symm
      rwa [show (2 : Nat) ^ (64 * 0) = 1 by decide] at this
    · refine (highest_1 (b := false) (by simpa using hX0) (by omega) hr hn h1 p2 p1 h4  (show (((lY : Nat) : Int) != 0) = false by rw [hc]; rfl) h8 w).mono ?_
      rintro e w' ⟨rfl, hb⟩
      refine ⟨?_, hb⟩
      congr 4
      all_goals simp
      all_goals omega
  · have hz : ¬ (lY = 0 ∧ 0 = 0) := by omega
    refine ⟨(X1 * 2 ^ s + hY) / 2 * 2 + 1, 64 * (0 + 1) - s, by omega, by omega, by omega, ?_, fun w => ?_⟩
    · have := f4 _ (if_neg hz).symm
      rwa [show (2 : Nat) ^ (64 * 0) = 1 by decide] at this
    · refine (highest_1 (b := true) (by simpa using hX0) (by omega) hr hn h1 p2 p1 h4  (show (((lY : Nat) : Int) != 0) = true by simpa using hc) h8 w).mono ?_
      rintro e w' ⟨rfl, hb⟩
      refine ⟨?_, hb⟩
      congr 4
      all_goals simp
      all_goals omega
set_option maxRecDepth 100000 in
theorem high_2 {X0 X1 X2 : Nat} (hX0 : X2 ≠ 0) (lX0 : X0 < 18446744073709551616) (lX1 : X1 < 18446744073709551616) (lX2 : X2 < 18446744073709551616) : ∃ top k : Nat, top < 18446744073709551616 ∧ 9223372036854775808 ≤ top ∧ k ≤ 192 ∧ fN ((X2 * 18446744073709551616 + X1) * 18446744073709551616 + (X0)) = fN top + k * 4503599627370496 ∧ ∀ w, Calls Try.prog 28 #[.agg #[.int .u64 (X0 : Int), .int .u64 (X1 : Int), .int .u64 (X2 : Int), .int .u64 0]] w fun e w' => e = .returned (.tuple #[.int .u64 (top : Int), .int .i64 (k : Int)]) ∧ Below w.heap.size w w' := by
  have hL : X2.log2 < 64 := (Nat.log2_lt hX0).2 lX2
  obtain ⟨s, hs⟩ : ∃ s, s = 63 - X2.log2 := ⟨_, rfl⟩
  have hr : (0 : Int) ≤ (s : Int) ∧ (s : Int) < 64 := by omega
  obtain ⟨hy, ly, p1, p2, p3, p4, p5, p6, p7, p8⟩ := shl_part (X1 : Int) (s : Int) (by omega) hr
  obtain ⟨hY, rfl⟩ := Int.eq_ofNat_of_zero_le p6
  obtain ⟨lY, rfl⟩ := Int.eq_ofNat_of_zero_le p4.1
  have q3 : X1 * 2 ^ s = hY * 18446744073709551616 + lY := by
    have h := p3.out
    rw [Int.toNat_natCast, cast_pw] at h
    omega
  have hf := high_facts (at1 := 1) (Z := X0) hX0 lX2 lX1 (Nat.lt_of_lt_of_eq (m := 18446744073709551616) (by omega) (show 18446744073709551616 = 2 ^ (64 * 1) by decide)) hs q3 (by omega) (t := X2 * 2 ^ s + hY) rfl
  obtain ⟨f1, f2, f3, f4⟩ := hf
  have hn : (64 : Int) - (bitLen (X2 : Int).toNat : Int) = (s : Int) := by rw [Int.toNat_natCast, bitLen_pos hX0]; omega
  have ex : (X2 : Int) * 2 ^ (s : Int).toNat = ((X2 * 2 ^ s : Nat) : Int) := by rw [Int.toNat_natCast, cast_pw]
  have h1 : IntKind.u64.wrap ((X2 : Int) * 2 ^ (s : Int).toNat) = ((X2 * 2 ^ s : Nat) : Int) := by
    rw [ex, IntKind.wrap_u64]; omega
  have hm : Hid (((X2 * 2 ^ s : Nat) : Int) % 2 ^ (s : Int).toNat = 0) := by
    show _ = _
    rw [← ex]; exact Int.mul_emod_left _ _
  obtain ⟨h4, h4'⟩ := shl_or hr (a := ((X2 * 2 ^ s : Nat) : Int)) (by omega) hm p6 p7 p8
  obtain ⟨o1, g1, b1, z1⟩ := or_zero p4 (show 0 ≤ (X0 : Int) ∧ (X0 : Int) < 18446744073709551616 by omega)
  have h8 := or_one (a := ((X2 * 2 ^ s : Nat) : Int) + (hY : Int)) (by omega)
  by_cases hc : o1 = 0
  · have hz : lY = 0 ∧ X0 = 0 := by have w1 := z1.out; omega
    refine ⟨X2 * 2 ^ s + hY, 64 * (1 + 1) - s, by omega, by omega, by omega, ?_, fun w => ?_⟩
    · have := f4 _ (if_pos hz).symm
      rwa [show (2 : Nat) ^ (64 * 1) = 18446744073709551616 by decide] at this
    · refine (highest_2 (b := false) (by simpa using hX0) (by omega) hr hn h1 p2 p1 h4 g1 (show (o1 != 0) = false by rw [hc]; rfl) h8 w).mono ?_
      rintro e w' ⟨rfl, hb⟩
      refine ⟨?_, hb⟩
      congr 4
      all_goals simp
      all_goals omega
  · have hz : ¬ (lY = 0 ∧ X0 = 0) := by have w1 := z1.out; omega
    refine ⟨(X2 * 2 ^ s + hY) / 2 * 2 + 1, 64 * (1 + 1) - s, by omega, by omega, by omega, ?_, fun w => ?_⟩
    · have := f4 _ (if_neg hz).symm
      rwa [show (2 : Nat) ^ (64 * 1) = 18446744073709551616 by decide] at this
    · refine (highest_2 (b := true) (by simpa using hX0) (by omega) hr hn h1 p2 p1 h4 g1 (show (o1 != 0) = true by simpa using hc) h8 w).mono ?_
      rintro e w' ⟨rfl, hb⟩
      refine ⟨?_, hb⟩
      congr 4
      all_goals simp
      all_goals omega
set_option maxRecDepth 100000 in
theorem high_3 {X0 X1 X2 X3 : Nat} (hX0 : X3 ≠ 0) (lX0 : X0 < 18446744073709551616) (lX1 : X1 < 18446744073709551616) (lX2 : X2 < 18446744073709551616) (lX3 : X3 < 18446744073709551616) : ∃ top k : Nat, top < 18446744073709551616 ∧ 9223372036854775808 ≤ top ∧ k ≤ 192 ∧ fN ((X3 * 18446744073709551616 + X2) * 340282366920938463463374607431768211456 + (X1 * 18446744073709551616 + X0)) = fN top + k * 4503599627370496 ∧ ∀ w, Calls Try.prog 28 #[.agg #[.int .u64 (X0 : Int), .int .u64 (X1 : Int), .int .u64 (X2 : Int), .int .u64 (X3 : Int)]] w fun e w' => e = .returned (.tuple #[.int .u64 (top : Int), .int .i64 (k : Int)]) ∧ Below w.heap.size w w' := by
  have hL : X3.log2 < 64 := (Nat.log2_lt hX0).2 lX3
  obtain ⟨s, hs⟩ : ∃ s, s = 63 - X3.log2 := ⟨_, rfl⟩
  have hr : (0 : Int) ≤ (s : Int) ∧ (s : Int) < 64 := by omega
  obtain ⟨hy, ly, p1, p2, p3, p4, p5, p6, p7, p8⟩ := shl_part (X2 : Int) (s : Int) (by omega) hr
  obtain ⟨hY, rfl⟩ := Int.eq_ofNat_of_zero_le p6
  obtain ⟨lY, rfl⟩ := Int.eq_ofNat_of_zero_le p4.1
  have q3 : X2 * 2 ^ s = hY * 18446744073709551616 + lY := by
    have h := p3.out
    rw [Int.toNat_natCast, cast_pw] at h
    omega
  have hf := high_facts (at1 := 2) (Z := X1 * 18446744073709551616 + X0) hX0 lX3 lX2 (Nat.lt_of_lt_of_eq (m := 340282366920938463463374607431768211456) (by omega) (show 340282366920938463463374607431768211456 = 2 ^ (64 * 2) by decide)) hs q3 (by omega) (t := X3 * 2 ^ s + hY) rfl
  obtain ⟨f1, f2, f3, f4⟩ := hf
  have hn : (64 : Int) - (bitLen (X3 : Int).toNat : Int) = (s : Int) := by rw [Int.toNat_natCast, bitLen_pos hX0]; omega
  have ex : (X3 : Int) * 2 ^ (s : Int).toNat = ((X3 * 2 ^ s : Nat) : Int) := by rw [Int.toNat_natCast, cast_pw]
  have h1 : IntKind.u64.wrap ((X3 : Int) * 2 ^ (s : Int).toNat) = ((X3 * 2 ^ s : Nat) : Int) := by
    rw [ex, IntKind.wrap_u64]; omega
  have hm : Hid (((X3 * 2 ^ s : Nat) : Int) % 2 ^ (s : Int).toNat = 0) := by
    show _ = _
    rw [← ex]; exact Int.mul_emod_left _ _
  obtain ⟨h4, h4'⟩ := shl_or hr (a := ((X3 * 2 ^ s : Nat) : Int)) (by omega) hm p6 p7 p8
  obtain ⟨o1, g1, b1, z1⟩ := or_zero p4 (show 0 ≤ (X0 : Int) ∧ (X0 : Int) < 18446744073709551616 by omega)
  obtain ⟨o2, g2, b2, z2⟩ := or_zero b1 (show 0 ≤ (X1 : Int) ∧ (X1 : Int) < 18446744073709551616 by omega)
  have h8 := or_one (a := ((X3 * 2 ^ s : Nat) : Int) + (hY : Int)) (by omega)
  by_cases hc : o2 = 0
  · have hz : lY = 0 ∧ X1 * 18446744073709551616 + X0 = 0 := by have w1 := z1.out; have w2 := z2.out; omega
    refine ⟨X3 * 2 ^ s + hY, 64 * (2 + 1) - s, by omega, by omega, by omega, ?_, fun w => ?_⟩
    · have := f4 _ (if_pos hz).symm
      rwa [show (2 : Nat) ^ (64 * 2) = 340282366920938463463374607431768211456 by decide] at this
    · refine (highest_3 (b := false) (by simpa using hX0) (by omega) hr hn h1 p2 p1 h4 g1 g2 (show (o2 != 0) = false by rw [hc]; rfl) h8 w).mono ?_
      rintro e w' ⟨rfl, hb⟩
      refine ⟨?_, hb⟩
      congr 4
      all_goals simp
      all_goals omega
  · have hz : ¬ (lY = 0 ∧ X1 * 18446744073709551616 + X0 = 0) := by have w1 := z1.out; have w2 := z2.out; omega
    refine ⟨(X3 * 2 ^ s + hY) / 2 * 2 + 1, 64 * (2 + 1) - s, by omega, by omega, by omega, ?_, fun w => ?_⟩
    · have := f4 _ (if_neg hz).symm
      rwa [show (2 : Nat) ^ (64 * 2) = 340282366920938463463374607431768211456 by decide] at this
    · refine (highest_3 (b := true) (by simpa using hX0) (by omega) hr hn h1 p2 p1 h4 g1 g2 (show (o2 != 0) = true by simpa using hc) h8 w).mono ?_
      rintro e w' ⟨rfl, hb⟩
      refine ⟨?_, hb⟩
      congr 4
      all_goals simp
      all_goals omega
theorem high_any {x0 x1 x2 x3 : Int} (hx : Lim x0 x1 x2 x3) : ∃ top k : Nat, top < 18446744073709551616 ∧ (k ≠ 0 → 9223372036854775808 ≤ top) ∧ k ≤ 192 ∧ fI (val x0 x1 x2 x3) = fN top + k * 4503599627370496 ∧ ∀ w, Calls Try.prog 28 #[.agg #[.int .u64 x0, .int .u64 x1, .int .u64 x2, .int .u64 x3]] w fun e w' => e = .returned (.tuple #[.int .u64 (top : Int), .int .i64 (k : Int)]) ∧ Below w.heap.size w w' := by
  obtain ⟨a0, a1, a2, a3⟩ := hx
  obtain ⟨X0, rfl⟩ := Int.eq_ofNat_of_zero_le a0.1
  obtain ⟨X1, rfl⟩ := Int.eq_ofNat_of_zero_le a1.1
  obtain ⟨X2, rfl⟩ := Int.eq_ofNat_of_zero_le a2.1
  obtain ⟨X3, rfl⟩ := Int.eq_ofNat_of_zero_le a3.1
  have e : (val (X0 : Int) (X1 : Int) (X2 : Int) (X3 : Int)).toNat = X0 + X1 * 18446744073709551616 + X2 * 340282366920938463463374607431768211456 + X3 * 6277101735386680763835789423207666416102355444464034512896 := by unfold val; omega
  unfold fI
  rw [e]
  by_cases c3 : X3 = 0
  · by_cases c2 : X2 = 0
    · by_cases c1 : X1 = 0
      · refine ⟨X0, 0, by omega, by omega, by omega, ?_, fun w => ?_⟩
        · rw [c1, c2, c3]; simp only [Nat.zero_mul, Nat.add_zero]
        · rw [c1, c2, c3]; exact highest_0 _ a0 w
      · obtain ⟨top, k, h1, h2, h3, h4, h5⟩ := high_1 (X0 := X0) (X1 := X1) c1 (by omega) (by omega)
        refine ⟨top, k, h1, fun _ => h2, h3, ?_, fun w => ?_⟩
        · rw [← h4, c2, c3, show X0 + X1 * 18446744073709551616 + 0 * 340282366920938463463374607431768211456 + 0 * 6277101735386680763835789423207666416102355444464034512896 = (X1 * 18446744073709551616 + X0) * 1 + 0 by omega]
        · rw [c2, c3]; exact h5 w
    · obtain ⟨top, k, h1, h2, h3, h4, h5⟩ := high_2 (X0 := X0) (X1 := X1) (X2 := X2) c2 (by omega) (by omega) (by omega)
      refine ⟨top, k, h1, fun _ => h2, h3, ?_, fun w => ?_⟩
      · rw [← h4, c3, show X0 + X1 * 18446744073709551616 + X2 * 340282366920938463463374607431768211456 + 0 * 6277101735386680763835789423207666416102355444464034512896 = (X2 * 18446744073709551616 + X1) * 18446744073709551616 + X0 by omega]
      · rw [c3]; exact h5 w
  · obtain ⟨top, k, h1, h2, h3, h4, h5⟩ := high_3 (X0 := X0) (X1 := X1) (X2 := X2) (X3 := X3) c3 (by omega) (by omega) (by omega) (by omega)
    refine ⟨top, k, h1, fun _ => h2, h3, ?_, fun w => h5 w⟩
    rw [← h4, show X0 + X1 * 18446744073709551616 + X2 * 340282366920938463463374607431768211456 + X3 * 6277101735386680763835789423207666416102355444464034512896 = (X3 * 18446744073709551616 + X2) * 340282366920938463463374607431768211456 + (X1 * 18446744073709551616 + X0) by omega]

set_option maxHeartbeats 400000 in
theorem Ldexp_zero (k : Int) (w : World) : Calls Try.prog 29 #[.float .f64 0, .int .i64 k] w fun e w' => e = .returned (.float .f64 0) ∧ w' = w := by
  go_enter Try.func29, Try.ntmps29
  go_wp2_with (go_at_call 35; refine (ldexp_zero _ _).mono ?_; rintro e w' ⟨rfl, rfl⟩)
  go_ret
  exact ⟨rfl, rfl⟩
set_option maxHeartbeats 400000 in
theorem Ldexp_any {r k : Nat} (h : Nrm r) (hk : Nrm (r + k * 4503599627370496)) (w : World) : Calls Try.prog 29 #[.float .f64 r, .int .i64 (k : Int)] w fun e w' => e = .returned (.float .f64 (r + k * 4503599627370496)) ∧ w' = w := by
  go_enter Try.func29, Try.ntmps29
  go_wp2_with (go_at_call 35; refine (ldexp_any h hk _).mono ?_; rintro e w' ⟨rfl, rfl⟩)
  go_ret
  exact ⟨rfl, rfl⟩
theorem conv_fN {n : Nat} (h : n.log2 < 1000) (w : World) : (convert 22 26 (.int .u64 (n : Int))).run Try.prog w = .ok (.float .f64 (fN n)) w := by
  have e : floatOfInt .f64 (n : Int) = fN n := by
    show Ieee.double.nearest (decide ((n : Int) < 0)) (n : Int).natAbs 0 = fN n
    rw [show decide ((n : Int) < 0) = false from decide_eq_false (by omega), Int.natAbs_natCast, nearest_fN h]
  rw [← e]
  exact run_convert_int_float w 22 26 .u64 .f64 (n : Int) rfl rfl
theorem log_256 {n : Nat} (h : n < 115792089237316195423570985008687907853269984665640564039457584007913129639936) : n.log2 < 256 := by
  by_cases h0 : n = 0
  · subst h0; decide
  · exact (Nat.log2_lt h0).2 (by have : (2 : Nat) ^ 256 = 115792089237316195423570985008687907853269984665640564039457584007913129639936 := by decide
                                 omega)
theorem log_64 {n : Nat} (h : n < 18446744073709551616) : n.log2 < 64 := by
  by_cases h0 : n = 0
  · subst h0; decide
  · exact (Nat.log2_lt h0).2 (by omega)
set_option maxRecDepth 100000 in
set_option maxHeartbeats 1000000 in
theorem float_any {x0 x1 x2 x3 : Int} (hx : Lim x0 x1 x2 x3) (w : World) : Calls Try.prog 12 #[.agg #[.int .u64 x0, .int .u64 x1, .int .u64 x2, .int .u64 x3]] w fun e w' => e = .returned (.float .f64 (fI (val x0 x1 x2 x3))) ∧ Below w.heap.size w w' := by
  have hpad := pads
  obtain ⟨top, k, h1, h2, h3, h4, h5⟩ := high_any hx
  have v0 := val_lo hx
  have v1 := val_hi hx
  have hlt : fI (val x0 x1 x2 x3) < 2047 * 4503599627370496 := fN_lt (by have := log_256 (n := (val x0 x1 x2 x3).toNat) (by omega); omega)
  have hcv := conv_fN (n := top) (by have := log_64 h1; omega)
  rw [h4] at hlt ⊢
  by_cases h0 : top = 0
  · have hk : k = 0 := by
      apply Classical.byContradiction; intro hk; have := h2 hk; omega
    subst h0 hk
    have e0 : fN 0 + 0 * 4503599627370496 = 0 := by unfold fN; simp
    have e1 : fN 0 = 0 := by unfold fN; simp
    rw [e0]
    rw [e1] at hcv
    go_enter Try.func12, Try.ntmps12
    go_wp2_with (first
      | (go_at_call 28; refine (h5 _).mono ?_; rintro e w' ⟨rfl, hb⟩; obtain ⟨m1, g1, d1, hm1, rfl⟩ := pad_of hb; clear hb; (try simp [pad_size] at hm1); have st1_w := sz1 (n := w.heap.size) (m := m1) (by omega))
      | (go_at_call 29; refine (Ldexp_zero _ _).mono ?_; rintro e w' ⟨rfl, rfl⟩))
    go_ret
    exact ⟨rfl, by (repeat (first | (with_reducible exact Below.refl _ _) | (with_reducible assumption) | (with_reducible apply bd) | (with_reducible apply ba) | (with_reducible refine bp ?_ (by first | omega | (simp [pad_size]; done) | (simp [pad_size]; omega)) _ _) | (with_reducible refine bs ?_ (by first | omega | (simp [pad_size]; done) | (simp [pad_size]; omega)) _) | (with_reducible refine bt ?_ (by assumption))))⟩
  · have n1 : Nrm (fN top) := ⟨fN_ge h0, by omega⟩
    have n2 : Nrm (fN top + k * 4503599627370496) := ⟨by have := fN_ge h0; omega, by omega⟩
    generalize fN top = r at *
    clear hlt h1 h2 h3 h4 h0
    go_enter Try.func12, Try.ntmps12
    go_wp2_with (first
      | (go_at_call 28; refine (h5 _).mono ?_; rintro e w' ⟨rfl, hb⟩; obtain ⟨m1, g1, d1, hm1, rfl⟩ := pad_of hb; clear hb; (try simp [pad_size] at hm1); have st1_w := sz1 (n := w.heap.size) (m := m1) (by omega))
      | (go_at_call 29; refine (Ldexp_any n1 n2 _).mono ?_; rintro e w' ⟨rfl, rfl⟩))
    go_ret
    exact ⟨rfl, by (repeat (first | (with_reducible exact Below.refl _ _) | (with_reducible assumption) | (with_reducible apply bd) | (with_reducible apply ba) | (with_reducible refine bp ?_ (by first | omega | (simp [pad_size]; done) | (simp [pad_size]; omega)) _ _) | (with_reducible refine bs ?_ (by first | omega | (simp [pad_size]; done) | (simp [pad_size]; omega)) _) | (with_reducible refine bt ?_ (by assumption))))⟩
end Go.Proofs.Ytpdokkhpeoeebaa
