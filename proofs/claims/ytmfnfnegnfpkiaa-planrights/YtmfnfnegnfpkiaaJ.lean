
/- num.shiftLeft, shiftRight. -/
import Derived.Test.YtmfnfnegnfpkiaaC
set_option linter.unusedSimpArgs false
set_option linter.unusedVariables false
set_option maxRecDepth 20000
namespace Go.Proofs.Ytmfnfnegnfpkiaa
open Go.RowKit

theorem pow_split (t : Nat) (ht : t ≤ 63) : (2 : Int) ^ t * 2 ^ (64 - t) = 18446744073709551616 ∧ (0 : Int) < 2 ^ t ∧ (0 : Int) < 2 ^ (64 - t) ∧ (2 : Int) ^ t ≤ 9223372036854775808 := by
  refine ⟨?_, Int.pow_pos (by omega), Int.pow_pos (by omega), ?_⟩
  · rw [← Int.pow_add, show t + (64 - t) = 64 by omega]; rfl
  · calc (2 : Int) ^ t ≤ 2 ^ 63 := by exact_mod_cast Nat.pow_le_pow_right (by omega) ht
      _ = 9223372036854775808 := by rfl

/-- A part to the left: what stays, and what goes out of it. -/
theorem shl_part (x r : Int) (hx : 0 ≤ x ∧ x < 18446744073709551616) (hr : 0 ≤ r ∧ r < 64) :
    ∃ h l : Int, IntKind.u64.wrap (x * 2 ^ r.toNat) = l ∧ x / 2 ^ (64 - r).toNat = h ∧ Hid (x * 2 ^ r.toNat = h * 18446744073709551616 + l) ∧ (0 ≤ l ∧ l < 18446744073709551616) ∧ Hid (l % 2 ^ r.toNat = 0) ∧ 0 ≤ h ∧ Hid (h < 2 ^ r.toNat) ∧ h < 9223372036854775808 := by
  obtain ⟨t, rfl⟩ := Int.eq_ofNat_of_zero_le hr.1
  have ht : t ≤ 63 := by omega
  have e64 : ((64 : Int) - (t : Int)).toNat = 64 - t := by omega
  obtain ⟨hTU, hT, hU, hT2⟩ := pow_split t ht
  rw [e64, Int.toNat_natCast, IntKind.wrap_u64]
  generalize hTe : (2 : Int) ^ t = T at *
  generalize hUe : (2 : Int) ^ (64 - t) = U at *
  have hd := Int.emod_add_mul_ediv x U
  have hm0 := Int.emod_nonneg x (show U ≠ 0 by omega)
  have hm1 := Int.emod_lt_of_pos x hU
  have hq0 : 0 ≤ x / U := Int.ediv_nonneg hx.1 (by omega)
  have hq1 : x / U < T := by
    apply Int.ediv_lt_of_lt_mul hU
    rw [hTU]; exact hx.2
  generalize x / U = h at *
  generalize x % U = l at *
  have e1 : x * T = h * 18446744073709551616 + l * T := by
    rw [← hd, Int.add_mul, Int.mul_right_comm, Int.mul_comm U T, hTU]
    rw [Int.mul_comm 18446744073709551616 h]; omega
  have e2 : 0 ≤ l * T := Int.mul_nonneg hm0 (by omega)
  have e3 : l * T < 18446744073709551616 := by
    rw [← hTU, Int.mul_comm T U]
    exact Int.mul_lt_mul_of_pos_right hm1 hT
  refine ⟨h, l * T, ?_, rfl, e1, ⟨e2, e3⟩, show _ = _ from Int.mul_emod_left l T, hq0, hq1, by omega⟩
  rw [e1]
  omega

theorem shl_or {a b r : Int} (hr : 0 ≤ r ∧ r < 64) (ha : 0 ≤ a ∧ a < 18446744073709551616) (hm : Hid (a % 2 ^ r.toNat = 0)) (hb : 0 ≤ b) (hb1 : Hid (b < 2 ^ r.toNat)) (hb2 : b < 9223372036854775808) : bits .or .u64 a b = a + b ∧ a + b < 18446744073709551616 := by
  have h1 : bits .or .u64 a b = a + b := bits_join .u64 64 (by decide) (fun n h0 h1 => by rw [IntKind.wrap_u64]; omega) r.toNat a b ha.1 hm.out (by simpa using ha.2) hb hb1.out (by simp; omega)
  refine ⟨h1, ?_⟩
  obtain ⟨t, rfl⟩ := Int.eq_ofNat_of_zero_le hr.1
  have ht : t ≤ 63 := by omega
  obtain ⟨hTU, hT, hU, hT2⟩ := pow_split t ht
  have hm := hm.out; have hb1 := hb1.out
  rw [Int.toNat_natCast] at hm hb1
  generalize hTe : (2 : Int) ^ t = T at *
  generalize hUe : (2 : Int) ^ (64 - t) = U at *
  obtain ⟨q, rfl⟩ := Int.dvd_of_emod_eq_zero hm
  have hq : q < U := by
    apply Int.lt_of_mul_lt_mul_left (a := T) _ (by omega)
    rw [hTU]; exact ha.2
  have : T * (q + 1) ≤ T * U := Int.mul_le_mul_of_nonneg_left (by omega) (by omega)
  rw [hTU, Int.mul_add] at this
  omega

/-- What a shift to the left leaves, as a whole number. -/
def ShlS (x k z : Int) : Prop := ∃ q : Int, 0 ≤ q ∧ x * 2 ^ k.toNat = z + q * 115792089237316195423570985008687907853269984665640564039457584007913129639936

set_option maxHeartbeats 2000000 in
theorem shl0 (x0 x1 x2 x3 k : Int) (hx : Lim x0 x1 x2 x3) (hk : k / 64 = 0) (w : World) :
    Calls Try.prog 120 #[.agg #[.int .u64 x0, .int .u64 x1, .int .u64 x2, .int .u64 x3], .int .i64 k] w fun e w' => ∃ z0 z1 z2 z3 : Int, e = .returned (.agg #[.int .u64 z0, .int .u64 z1, .int .u64 z2, .int .u64 z3]) ∧ Lim z0 z1 z2 z3 ∧ ShlS (val x0 x1 x2 x3) k (val z0 z1 z2 z3) ∧ Below w.heap.size w w' := by
  obtain ⟨hx0, hx1, hx2, hx3⟩ := hx
  obtain ⟨r, hr⟩ : ∃ r, k % 64 = r := ⟨_, rfl⟩
  have hr0 : 0 ≤ r := by omega
  have hr1 : r < 64 := by omega
  have hk0 : 0 ≤ k := by omega
  have hk1 : k < 256 := by omega
  have kk : Hid (k = 0 + r) := by unfold Hid; omega
  obtain ⟨h0, l0, s0, v0, m0, b0, d0, g0, f0, t0⟩ := shl_part x0 r hx0 ⟨hr0, hr1⟩
  obtain ⟨h1, l1, s1, v1, m1, b1, d1, g1, f1, t1⟩ := shl_part x1 r hx1 ⟨hr0, hr1⟩
  obtain ⟨h2, l2, s2, v2, m2, b2, d2, g2, f2, t2⟩ := shl_part x2 r hx2 ⟨hr0, hr1⟩
  obtain ⟨h3, l3, s3, v3, m3, b3, d3, g3, f3, t3⟩ := shl_part x3 r hx3 ⟨hr0, hr1⟩
  obtain ⟨o1, u1⟩ := shl_or ⟨hr0, hr1⟩ b1 d1 g0 f0 t0
  obtain ⟨o2, u2⟩ := shl_or ⟨hr0, hr1⟩ b2 d2 g1 f1 t1
  obtain ⟨o3, u3⟩ := shl_or ⟨hr0, hr1⟩ b3 d3 g2 f2 t2
  have o1' : Hid (bits .or .u64 l1 h0 = l1 + h0) := o1
  have o2' : Hid (bits .or .u64 l2 h1 = l2 + h1) := o2
  have o3' : Hid (bits .or .u64 l3 h2 = l3 + h2) := o3
  go_enter Try.func120, Try.ntmps120
  go_wp2
  apply wp_loop_rounds 5
  simp only [Code.rounds]
  go_wp2
  go_region
  go_wp2
  go_region
  go_wp2
  go_region
  go_wp2
  refine bodyPost_ret (v := .agg #[.int .u64 l0, .int .u64 (l1 + h0), .int .u64 (l2 + h1), .int .u64 (l3 + h2)]) (by simp only [results, Try.results120]; go_simp) rfl ⟨l0, (l1 + h0), (l2 + h1), (l3 + h2), rfl, ⟨⟨by omega, by omega⟩, ⟨by omega, by omega⟩, ⟨by omega, by omega⟩, ⟨by omega, by omega⟩⟩, ?_, ?_⟩
  · have ek : (2 : Int) ^ k.toNat = 1 * 2 ^ r.toNat := by
      rw [kk.out, show ((0 : Int) + r).toNat = 0 + r.toNat by omega, Int.pow_add]; rfl
    have e : val x0 x1 x2 x3 * 2 ^ k.toNat = (x0 * 2 ^ r.toNat) * 1 + (x1 * 2 ^ r.toNat) * (1 * 18446744073709551616) + (x2 * 2 ^ r.toNat) * (1 * 340282366920938463463374607431768211456) + (x3 * 2 ^ r.toNat) * (1 * 6277101735386680763835789423207666416102355444464034512896) := by
      rw [ek]; unfold val
      generalize (2 : Int) ^ r.toNat = T
      grind
    have e0 := m0.out
    have e1 := m1.out
    have e2 := m2.out
    have e3 := m3.out
    refine ⟨h3, ?_, ?_⟩
    · omega
    · rw [e]; unfold val
      generalize x0 * 2 ^ r.toNat = p0 at *
      generalize x1 * 2 ^ r.toNat = p1 at *
      generalize x2 * 2 ^ r.toNat = p2 at *
      generalize x3 * 2 ^ r.toNat = p3 at *
      omega
  · (repeat (first | (with_reducible exact Below.refl _ _) | (with_reducible assumption) | (with_reducible apply bd) | (with_reducible apply ba) | (with_reducible refine bp ?_ (by first | omega | (simp [pad_size]; done) | (simp [pad_size]; omega)) _ _) | (with_reducible refine bs ?_ (by first | omega | (simp [pad_size]; done) | (simp [pad_size]; omega)) _) | (with_reducible refine bt ?_ (by assumption))))

set_option maxHeartbeats 2000000 in
theorem shl1 (x0 x1 x2 x3 k : Int) (hx : Lim x0 x1 x2 x3) (hk : k / 64 = 1) (w : World) :
    Calls Try.prog 120 #[.agg #[.int .u64 x0, .int .u64 x1, .int .u64 x2, .int .u64 x3], .int .i64 k] w fun e w' => ∃ z0 z1 z2 z3 : Int, e = .returned (.agg #[.int .u64 z0, .int .u64 z1, .int .u64 z2, .int .u64 z3]) ∧ Lim z0 z1 z2 z3 ∧ ShlS (val x0 x1 x2 x3) k (val z0 z1 z2 z3) ∧ Below w.heap.size w w' := by
  obtain ⟨hx0, hx1, hx2, hx3⟩ := hx
  obtain ⟨r, hr⟩ : ∃ r, k % 64 = r := ⟨_, rfl⟩
  have hr0 : 0 ≤ r := by omega
  have hr1 : r < 64 := by omega
  have hk0 : 0 ≤ k := by omega
  have hk1 : k < 256 := by omega
  have kk : Hid (k = 64 + r) := by unfold Hid; omega
  obtain ⟨h0, l0, s0, v0, m0, b0, d0, g0, f0, t0⟩ := shl_part x0 r hx0 ⟨hr0, hr1⟩
  obtain ⟨h1, l1, s1, v1, m1, b1, d1, g1, f1, t1⟩ := shl_part x1 r hx1 ⟨hr0, hr1⟩
  obtain ⟨h2, l2, s2, v2, m2, b2, d2, g2, f2, t2⟩ := shl_part x2 r hx2 ⟨hr0, hr1⟩
  obtain ⟨o1, u1⟩ := shl_or ⟨hr0, hr1⟩ b1 d1 g0 f0 t0
  obtain ⟨o2, u2⟩ := shl_or ⟨hr0, hr1⟩ b2 d2 g1 f1 t1
  have o1' : Hid (bits .or .u64 l1 h0 = l1 + h0) := o1
  have o2' : Hid (bits .or .u64 l2 h1 = l2 + h1) := o2
  go_enter Try.func120, Try.ntmps120
  go_wp2
  apply wp_loop_rounds 5
  simp only [Code.rounds]
  go_wp2
  go_region
  go_wp2
  go_region
  go_wp2
  refine bodyPost_ret (v := .agg #[.int .u64 0, .int .u64 l0, .int .u64 (l1 + h0), .int .u64 (l2 + h1)]) (by simp only [results, Try.results120]; go_simp) rfl ⟨0, l0, (l1 + h0), (l2 + h1), rfl, ⟨⟨by omega, by omega⟩, ⟨by omega, by omega⟩, ⟨by omega, by omega⟩, ⟨by omega, by omega⟩⟩, ?_, ?_⟩
  · have ek : (2 : Int) ^ k.toNat = 18446744073709551616 * 2 ^ r.toNat := by
      rw [kk.out, show ((64 : Int) + r).toNat = 64 + r.toNat by omega, Int.pow_add]; rfl
    have e : val x0 x1 x2 x3 * 2 ^ k.toNat = (x0 * 2 ^ r.toNat) * 18446744073709551616 + (x1 * 2 ^ r.toNat) * (18446744073709551616 * 18446744073709551616) + (x2 * 2 ^ r.toNat) * (18446744073709551616 * 340282366920938463463374607431768211456) + (x3 * 2 ^ r.toNat) * (18446744073709551616 * 6277101735386680763835789423207666416102355444464034512896) := by
      rw [ek]; unfold val
      generalize (2 : Int) ^ r.toNat = T
      grind
    have e0 := m0.out
    have e1 := m1.out
    have e2 := m2.out
    refine ⟨h2 + (x3 * 2 ^ r.toNat), ?_, ?_⟩
    · have : 0 ≤ x3 * 2 ^ r.toNat := Int.mul_nonneg hx3.1 (Int.pow_nonneg (by omega))
      omega
    · rw [e]; unfold val
      generalize x0 * 2 ^ r.toNat = p0 at *
      generalize x1 * 2 ^ r.toNat = p1 at *
      generalize x2 * 2 ^ r.toNat = p2 at *
      generalize x3 * 2 ^ r.toNat = p3 at *
      omega
  · (repeat (first | (with_reducible exact Below.refl _ _) | (with_reducible assumption) | (with_reducible apply bd) | (with_reducible apply ba) | (with_reducible refine bp ?_ (by first | omega | (simp [pad_size]; done) | (simp [pad_size]; omega)) _ _) | (with_reducible refine bs ?_ (by first | omega | (simp [pad_size]; done) | (simp [pad_size]; omega)) _) | (with_reducible refine bt ?_ (by assumption))))

set_option maxHeartbeats 2000000 in
theorem shl2 (x0 x1 x2 x3 k : Int) (hx : Lim x0 x1 x2 x3) (hk : k / 64 = 2) (w : World) :
    Calls Try.prog 120 #[.agg #[.int .u64 x0, .int .u64 x1, .int .u64 x2, .int .u64 x3], .int .i64 k] w fun e w' => ∃ z0 z1 z2 z3 : Int, e = .returned (.agg #[.int .u64 z0, .int .u64 z1, .int .u64 z2, .int .u64 z3]) ∧ Lim z0 z1 z2 z3 ∧ ShlS (val x0 x1 x2 x3) k (val z0 z1 z2 z3) ∧ Below w.heap.size w w' := by
  obtain ⟨hx0, hx1, hx2, hx3⟩ := hx
  obtain ⟨r, hr⟩ : ∃ r, k % 64 = r := ⟨_, rfl⟩
  have hr0 : 0 ≤ r := by omega
  have hr1 : r < 64 := by omega
  have hk0 : 0 ≤ k := by omega
  have hk1 : k < 256 := by omega
  have kk : Hid (k = 128 + r) := by unfold Hid; omega
  obtain ⟨h0, l0, s0, v0, m0, b0, d0, g0, f0, t0⟩ := shl_part x0 r hx0 ⟨hr0, hr1⟩
  obtain ⟨h1, l1, s1, v1, m1, b1, d1, g1, f1, t1⟩ := shl_part x1 r hx1 ⟨hr0, hr1⟩
  obtain ⟨o1, u1⟩ := shl_or ⟨hr0, hr1⟩ b1 d1 g0 f0 t0
  have o1' : Hid (bits .or .u64 l1 h0 = l1 + h0) := o1
  go_enter Try.func120, Try.ntmps120
  go_wp2
  apply wp_loop_rounds 5
  simp only [Code.rounds]
  go_wp2
  go_region
  go_wp2
  refine bodyPost_ret (v := .agg #[.int .u64 0, .int .u64 0, .int .u64 l0, .int .u64 (l1 + h0)]) (by simp only [results, Try.results120]; go_simp) rfl ⟨0, 0, l0, (l1 + h0), rfl, ⟨⟨by omega, by omega⟩, ⟨by omega, by omega⟩, ⟨by omega, by omega⟩, ⟨by omega, by omega⟩⟩, ?_, ?_⟩
  · have ek : (2 : Int) ^ k.toNat = 340282366920938463463374607431768211456 * 2 ^ r.toNat := by
      rw [kk.out, show ((128 : Int) + r).toNat = 128 + r.toNat by omega, Int.pow_add]; rfl
    have e : val x0 x1 x2 x3 * 2 ^ k.toNat = (x0 * 2 ^ r.toNat) * 340282366920938463463374607431768211456 + (x1 * 2 ^ r.toNat) * (340282366920938463463374607431768211456 * 18446744073709551616) + (x2 * 2 ^ r.toNat) * (340282366920938463463374607431768211456 * 340282366920938463463374607431768211456) + (x3 * 2 ^ r.toNat) * (340282366920938463463374607431768211456 * 6277101735386680763835789423207666416102355444464034512896) := by
      rw [ek]; unfold val
      generalize (2 : Int) ^ r.toNat = T
      grind
    have e0 := m0.out
    have e1 := m1.out
    refine ⟨h1 + (x2 * 2 ^ r.toNat) + (x3 * 2 ^ r.toNat) * 18446744073709551616, ?_, ?_⟩
    · have : 0 ≤ x2 * 2 ^ r.toNat := Int.mul_nonneg hx2.1 (Int.pow_nonneg (by omega))
      have : 0 ≤ x3 * 2 ^ r.toNat := Int.mul_nonneg hx3.1 (Int.pow_nonneg (by omega))
      omega
    · rw [e]; unfold val
      generalize x0 * 2 ^ r.toNat = p0 at *
      generalize x1 * 2 ^ r.toNat = p1 at *
      generalize x2 * 2 ^ r.toNat = p2 at *
      generalize x3 * 2 ^ r.toNat = p3 at *
      omega
  · (repeat (first | (with_reducible exact Below.refl _ _) | (with_reducible assumption) | (with_reducible apply bd) | (with_reducible apply ba) | (with_reducible refine bp ?_ (by first | omega | (simp [pad_size]; done) | (simp [pad_size]; omega)) _ _) | (with_reducible refine bs ?_ (by first | omega | (simp [pad_size]; done) | (simp [pad_size]; omega)) _) | (with_reducible refine bt ?_ (by assumption))))

set_option maxHeartbeats 2000000 in
theorem shl3 (x0 x1 x2 x3 k : Int) (hx : Lim x0 x1 x2 x3) (hk : k / 64 = 3) (w : World) :
    Calls Try.prog 120 #[.agg #[.int .u64 x0, .int .u64 x1, .int .u64 x2, .int .u64 x3], .int .i64 k] w fun e w' => ∃ z0 z1 z2 z3 : Int, e = .returned (.agg #[.int .u64 z0, .int .u64 z1, .int .u64 z2, .int .u64 z3]) ∧ Lim z0 z1 z2 z3 ∧ ShlS (val x0 x1 x2 x3) k (val z0 z1 z2 z3) ∧ Below w.heap.size w w' := by
  obtain ⟨hx0, hx1, hx2, hx3⟩ := hx
  obtain ⟨r, hr⟩ : ∃ r, k % 64 = r := ⟨_, rfl⟩
  have hr0 : 0 ≤ r := by omega
  have hr1 : r < 64 := by omega
  have hk0 : 0 ≤ k := by omega
  have hk1 : k < 256 := by omega
  have kk : Hid (k = 192 + r) := by unfold Hid; omega
  obtain ⟨h0, l0, s0, v0, m0, b0, d0, g0, f0, t0⟩ := shl_part x0 r hx0 ⟨hr0, hr1⟩
  go_enter Try.func120, Try.ntmps120
  go_wp2
  apply wp_loop_rounds 5
  simp only [Code.rounds]
  go_wp2
  refine bodyPost_ret (v := .agg #[.int .u64 0, .int .u64 0, .int .u64 0, .int .u64 l0]) (by simp only [results, Try.results120]; go_simp) rfl ⟨0, 0, 0, l0, rfl, ⟨⟨by omega, by omega⟩, ⟨by omega, by omega⟩, ⟨by omega, by omega⟩, ⟨by omega, by omega⟩⟩, ?_, ?_⟩
  · have ek : (2 : Int) ^ k.toNat = 6277101735386680763835789423207666416102355444464034512896 * 2 ^ r.toNat := by
      rw [kk.out, show ((192 : Int) + r).toNat = 192 + r.toNat by omega, Int.pow_add]; rfl
    have e : val x0 x1 x2 x3 * 2 ^ k.toNat = (x0 * 2 ^ r.toNat) * 6277101735386680763835789423207666416102355444464034512896 + (x1 * 2 ^ r.toNat) * (6277101735386680763835789423207666416102355444464034512896 * 18446744073709551616) + (x2 * 2 ^ r.toNat) * (6277101735386680763835789423207666416102355444464034512896 * 340282366920938463463374607431768211456) + (x3 * 2 ^ r.toNat) * (6277101735386680763835789423207666416102355444464034512896 * 6277101735386680763835789423207666416102355444464034512896) := by
      rw [ek]; unfold val
      generalize (2 : Int) ^ r.toNat = T
      grind
    have e0 := m0.out
    refine ⟨h0 + (x1 * 2 ^ r.toNat) + (x2 * 2 ^ r.toNat) * 18446744073709551616 + (x3 * 2 ^ r.toNat) * 340282366920938463463374607431768211456, ?_, ?_⟩
    · have : 0 ≤ x1 * 2 ^ r.toNat := Int.mul_nonneg hx1.1 (Int.pow_nonneg (by omega))
      have : 0 ≤ x2 * 2 ^ r.toNat := Int.mul_nonneg hx2.1 (Int.pow_nonneg (by omega))
      have : 0 ≤ x3 * 2 ^ r.toNat := Int.mul_nonneg hx3.1 (Int.pow_nonneg (by omega))
      omega
    · rw [e]; unfold val
      generalize x0 * 2 ^ r.toNat = p0 at *
      generalize x1 * 2 ^ r.toNat = p1 at *
      generalize x2 * 2 ^ r.toNat = p2 at *
      generalize x3 * 2 ^ r.toNat = p3 at *
      omega
  · (repeat (first | (with_reducible exact Below.refl _ _) | (with_reducible assumption) | (with_reducible apply bd) | (with_reducible apply ba) | (with_reducible refine bp ?_ (by first | omega | (simp [pad_size]; done) | (simp [pad_size]; omega)) _ _) | (with_reducible refine bs ?_ (by first | omega | (simp [pad_size]; done) | (simp [pad_size]; omega)) _) | (with_reducible refine bt ?_ (by assumption))))

theorem shl_any (x0 x1 x2 x3 k : Int) (hx : Lim x0 x1 x2 x3) (h0 : 0 ≤ k) (h1 : k < 256) (w : World) :
    Calls Try.prog 120 #[.agg #[.int .u64 x0, .int .u64 x1, .int .u64 x2, .int .u64 x3], .int .i64 k] w fun e w' => ∃ z0 z1 z2 z3 : Int, e = .returned (.agg #[.int .u64 z0, .int .u64 z1, .int .u64 z2, .int .u64 z3]) ∧ Lim z0 z1 z2 z3 ∧ ShlS (val x0 x1 x2 x3) k (val z0 z1 z2 z3) ∧ Below w.heap.size w w' := by
  rcases (show k / 64 = 0 ∨ k / 64 = 1 ∨ k / 64 = 2 ∨ k / 64 = 3 by omega) with h | h | h | h
  · exact shl0 x0 x1 x2 x3 k hx h w
  · exact shl1 x0 x1 x2 x3 k hx h w
  · exact shl2 x0 x1 x2 x3 k hx h w
  · exact shl3 x0 x1 x2 x3 k hx h w
end Go.Proofs.Ytmfnfnegnfpkiaa
