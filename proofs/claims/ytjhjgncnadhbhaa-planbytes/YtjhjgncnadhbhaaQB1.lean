
/- Several texts, one behind the other: I, J, J2, Q, X1, B1, B2, M1, B4, B5, B6. -/
import Derived.Test.YtjhjgncnadhbhaaB
import Derived.Deep.Light
import Derived.Test.YtjhjgncnadhbhaaC
import Derived.Test.YtjhjgncnadhbhaaG
import Derived.Test.YtjhjgncnadhbhaaN2
import Derived.RangeFuncBox
import Derived.Maps.AppendAt
import Derived.Test.YtjhjgncnadhbhaaD2
/- math/bits.Len64, LeadingZeros64. -/
set_option linter.unusedSimpArgs false
set_option linter.unusedVariables false
set_option maxRecDepth 20000
namespace Go.Proofs.Ytjhjgncnadhbhaa
open Go.RowKit

theorem ret_int {k : IntKind} {a b : Int} (h : a = b) : Ending.returned (.int k a) = .returned (.int k b) := by rw [h]

theorem len_fin (s : Nat) (x y : Int) (hx : 0 ≤ x) (e : y = x / (2 ^ s : Nat)) (h1 : y < 256) (h2 : s = 0 ∨ 1 ≤ y) (hs : s ≤ 56) : wrap64 ((s : Int) + wrap64 (bitLen y.toNat : Int)) = (bitLen x.toNat : Int) := by
  have hy : 0 ≤ y := by rw [e]; exact Int.ediv_nonneg hx (Int.natCast_nonneg _)
  have hb : bitLen y.toNat ≤ 8 := bitLen_le8 _ (by omega)
  have key : bitLen x.toNat = s + bitLen y.toNat := by
    rcases h2 with rfl | h2
    · have : y = x := by rw [e]; simp
      rw [this]; omega
    · have ey : y.toNat = x.toNat / 2 ^ s := by
        obtain ⟨n, rfl⟩ := Int.eq_ofNat_of_zero_le hx
        have : y = ((n / 2 ^ s : Nat) : Int) := by rw [e]; simp
        rw [this]; exact Int.toNat_natCast _
      rw [ey]
      exact bitLen_shift _ _ (by rw [← ey]; omega)
  unfold wrap64
  omega

set_option maxRecDepth 1000000 in
set_option maxHeartbeats 4000000 in
theorem len64_any (x : Int) (h1 : 0 ≤ x) (h2 : x < 18446744073709551616) (w : World) :
    Calls Try.prog 114 #[.int .u64 x] w fun e w' => e = .returned (.int .i64 (bitLen x.toNat)) ∧ w' = w := by
  go_enter Try.func114, Try.ntmps114
  go_wp2
  all_goals (go_ret; refine ⟨ret_int ?_, rfl⟩; go_light; rw [len8tab_get])
  · exact len_fin 56 x _ h1 (by simp; omega) (by omega) (by omega) (by omega)
  · exact len_fin 48 x _ h1 (by simp; omega) (by omega) (by omega) (by omega)
  · exact len_fin 40 x _ h1 (by simp; omega) (by omega) (by omega) (by omega)
  · exact len_fin 32 x _ h1 (by simp) (by omega) (by omega) (by omega)
  · exact len_fin 24 x _ h1 (by simp; omega) (by omega) (by omega) (by omega)
  · exact len_fin 16 x _ h1 (by simp) (by omega) (by omega) (by omega)
  · exact len_fin 8 x _ h1 (by simp) (by omega) (by omega) (by omega)
  · have := len_fin 0 x x h1 (by simp) (by omega) (by omega) (by omega)
    simpa using this

theorem bitLen_le64 {x : Int} (h1 : 0 ≤ x) (h2 : x < 18446744073709551616) : bitLen x.toNat ≤ 64 := by
  unfold bitLen
  split
  · omega
  · rename_i h0
    have := (Nat.log2_lt h0).2 (show x.toNat < 2 ^ 64 by omega)
    omega

set_option maxHeartbeats 400000 in
theorem lead64_any (x : Int) (h1 : 0 ≤ x) (h2 : x < 18446744073709551616) (w : World) :
    Calls Try.prog 111 #[.int .u64 x] w fun e w' => e = .returned (.int .i64 (64 - (bitLen x.toNat : Int))) ∧ w' = w := by
  have hb := bitLen_le64 h1 h2
  go_enter Try.func111, Try.ntmps111
  go_wp2_with (go_at_call 114; refine (len64_any _ h1 h2 _).mono ?_; rintro e w' ⟨rfl, rfl⟩)
  go_ret
  exact ⟨rfl, rfl⟩
end Go.Proofs.Ytjhjgncnadhbhaa

/- num.shiftLeft, shiftRight. -/
namespace Go.Proofs.Ytjhjgncnadhbhaa
open Go.RowKit

theorem pow_split (t : Nat) (ht : t ≤ 63) : (2 : Int) ^ t * 2 ^ (64 - t) = 18446744073709551616 ∧ (0 : Int) < 2 ^ t ∧ (0 : Int) < 2 ^ (64 - t) ∧ (2 : Int) ^ t ≤ 9223372036854775808 := by
  refine ⟨?_, Int.pow_pos (by omega), Int.pow_pos (by omega), ?_⟩
  · rw [← Int.pow_add, show t + (64 - t) = 64 by omega]; rfl
  · calc (2 : Int) ^ t ≤ 2 ^ 63 := by exact_mod_cast Nat.pow_le_pow_right (by omega) ht
      _ = 9223372036854775808 := by rfl

/-- A part to the left: what stays, and what goes out of it. -/
theorem shl_part (x r : Int) (hx : 0 ≤ x ∧ x < 18446744073709551616) (hr : 0 ≤ r ∧ r < 64) :
    ∃ h l : Int, IntKind.u64.wrap (x * 2 ^ r.toNat) = l ∧ x / 2 ^ (64 - r).toNat = h ∧ Hid (x * 2 ^ r.toNat = h * 18446744073709551616 + l) ∧ (0 ≤ l ∧ l < 18446744073709551616) ∧ Hid (l % 2 ^ r.toNat = 0) ∧ 0 ≤ h ∧ Hid (h < 2 ^ r.toNat) ∧ h < 9223372036854775808 := by
  obtain ⟨t, rfl⟩ := Int.eq_ofNat_of_zero_le hr.1
  have ht : t ≤ 63 := by omega
  have e64 : ((64 : Int) - (t : Int)).toNat = 64 - t := by omega
  obtain ⟨hTU, hT, hU, hT2⟩ := pow_split t ht
  rw [e64, Int.toNat_natCast, IntKind.wrap_u64]
  generalize hTe : (2 : Int) ^ t = T at *
  generalize hUe : (2 : Int) ^ (64 - t) = U at *
  have hd := Int.emod_add_mul_ediv x U
  have hm0 := Int.emod_nonneg x (show U ≠ 0 by omega)
  have hm1 := Int.emod_lt_of_pos x hU
  have hq0 : 0 ≤ x / U := Int.ediv_nonneg hx.1 (by omega)
  have hq1 : x / U < T := by
    apply Int.ediv_lt_of_lt_mul hU
    rw [hTU]; exact hx.2
  generalize x / U = h at *
  generalize x % U = l at *
  have e1 : x * T = h * 18446744073709551616 + l * T := by
    rw [← hd, Int.add_mul, Int.mul_right_comm, Int.mul_comm U T, hTU]
    rw [Int.mul_comm 18446744073709551616 h]; omega
  have e2 : 0 ≤ l * T := Int.mul_nonneg hm0 (by omega)
  have e3 : l * T < 18446744073709551616 := by
    rw [← hTU, Int.mul_comm T U]
    exact Int.mul_lt_mul_of_pos_right hm1 hT
  refine ⟨h, l * T, ?_, rfl, e1, ⟨e2, e3⟩, show _ = _ from Int.mul_emod_left l T, hq0, hq1, by omega⟩
  rw [e1]
  omega

theorem shl_or {a b r : Int} (hr : 0 ≤ r ∧ r < 64) (ha : 0 ≤ a ∧ a < 18446744073709551616) (hm : Hid (a % 2 ^ r.toNat = 0)) (hb : 0 ≤ b) (hb1 : Hid (b < 2 ^ r.toNat)) (hb2 : b < 9223372036854775808) : bits .or .u64 a b = a + b ∧ a + b < 18446744073709551616 := by
  have h1 : bits .or .u64 a b = a + b := bits_join .u64 64 (by decide) (fun n h0 h1 => by rw [IntKind.wrap_u64]; omega) r.toNat a b ha.1 hm.out (by simpa using ha.2) hb hb1.out (by simp; omega)
  refine ⟨h1, ?_⟩
  obtain ⟨t, rfl⟩ := Int.eq_ofNat_of_zero_le hr.1
  have ht : t ≤ 63 := by omega
  obtain ⟨hTU, hT, hU, hT2⟩ := pow_split t ht
  have hm := hm.out; have hb1 := hb1.out
  rw [Int.toNat_natCast] at hm hb1
  generalize hTe : (2 : Int) ^ t = T at *
  generalize hUe : (2 : Int) ^ (64 - t) = U at *
  obtain ⟨q, rfl⟩ := Int.dvd_of_emod_eq_zero hm
  have hq : q < U := by
    apply Int.lt_of_mul_lt_mul_left (a := T) _ (by omega)
    rw [hTU]; exact ha.2
  have : T * (q + 1) ≤ T * U := Int.mul_le_mul_of_nonneg_left (by omega) (by omega)
  rw [hTU, Int.mul_add] at this
  omega

/-- What a shift to the left leaves, as a whole number. -/
def ShlS (x k z : Int) : Prop := ∃ q : Int, 0 ≤ q ∧ x * 2 ^ k.toNat = z + q * 115792089237316195423570985008687907853269984665640564039457584007913129639936

set_option maxHeartbeats 2000000 in
theorem shl0 (x0 x1 x2 x3 k : Int) (hx : Lim x0 x1 x2 x3) (hk : k / 64 = 0) (w : World) :
    Calls Try.prog 103 #[.agg #[.int .u64 x0, .int .u64 x1, .int .u64 x2, .int .u64 x3], .int .i64 k] w fun e w' => ∃ z0 z1 z2 z3 : Int, e = .returned (.agg #[.int .u64 z0, .int .u64 z1, .int .u64 z2, .int .u64 z3]) ∧ Lim z0 z1 z2 z3 ∧ ShlS (val x0 x1 x2 x3) k (val z0 z1 z2 z3) ∧ Below w.heap.size w w' := by
  obtain ⟨hx0, hx1, hx2, hx3⟩ := hx
  obtain ⟨r, hr⟩ : ∃ r, k % 64 = r := ⟨_, rfl⟩
  have hr0 : 0 ≤ r := by omega
  have hr1 : r < 64 := by omega
  have hk0 : 0 ≤ k := by omega
  have hk1 : k < 256 := by omega
  have kk : Hid (k = 0 + r) := by unfold Hid; omega
  obtain ⟨h0, l0, s0, v0, m0, b0, d0, g0, f0, t0⟩ := shl_part x0 r hx0 ⟨hr0, hr1⟩
  obtain ⟨h1, l1, s1, v1, m1, b1, d1, g1, f1, t1⟩ := shl_part x1 r hx1 ⟨hr0, hr1⟩
  obtain ⟨h2, l2, s2, v2, m2, b2, d2, g2, f2, t2⟩ := shl_part x2 r hx2 ⟨hr0, hr1⟩
  obtain ⟨h3, l3, s3, v3, m3, b3, d3, g3, f3, t3⟩ := shl_part x3 r hx3 ⟨hr0, hr1⟩
  obtain ⟨o1, u1⟩ := shl_or ⟨hr0, hr1⟩ b1 d1 g0 f0 t0
  obtain ⟨o2, u2⟩ := shl_or ⟨hr0, hr1⟩ b2 d2 g1 f1 t1
  obtain ⟨o3, u3⟩ := shl_or ⟨hr0, hr1⟩ b3 d3 g2 f2 t2
  have o1' : Hid (bits .or .u64 l1 h0 = l1 + h0) := o1
  have o2' : Hid (bits .or .u64 l2 h1 = l2 + h1) := o2
  have o3' : Hid (bits .or .u64 l3 h2 = l3 + h2) := o3
  go_enter Try.func103, Try.ntmps103
  go_wp2
  apply wp_loop_rounds 5
  simp only [Code.rounds]
  go_wp2
  go_region
  go_wp2
  go_region
  go_wp2
  go_region
  go_wp2
  refine bodyPost_ret (v := .agg #[.int .u64 l0, .int .u64 (l1 + h0), .int .u64 (l2 + h1), .int .u64 (l3 + h2)]) (by simp only [results, Try.results103]; go_simp) rfl ⟨l0, (l1 + h0), (l2 + h1), (l3 + h2), rfl, ⟨⟨by omega, by omega⟩, ⟨by omega, by omega⟩, ⟨by omega, by omega⟩, ⟨by omega, by omega⟩⟩, ?_, ?_⟩
  · have ek : (2 : Int) ^ k.toNat = 1 * 2 ^ r.toNat := by
      rw [kk.out, show ((0 : Int) + r).toNat = 0 + r.toNat by omega, Int.pow_add]; rfl
    have e : val x0 x1 x2 x3 * 2 ^ k.toNat = (x0 * 2 ^ r.toNat) * 1 + (x1 * 2 ^ r.toNat) * (1 * 18446744073709551616) + (x2 * 2 ^ r.toNat) * (1 * 340282366920938463463374607431768211456) + (x3 * 2 ^ r.toNat) * (1 * 6277101735386680763835789423207666416102355444464034512896) := by
      rw [ek]; unfold val
      generalize (2 : Int) ^ r.toNat = T
      grind
    have e0 := m0.out
    have e1 := m1.out
    have e2 := m2.out
    have e3 := m3.out
    refine ⟨h3, ?_, ?_⟩
    · omega
    · rw [e]; unfold val
      generalize x0 * 2 ^ r.toNat = p0 at *
      generalize x1 * 2 ^ r.toNat = p1 at *
      generalize x2 * 2 ^ r.toNat = p2 at *
      generalize x3 * 2 ^ r.toNat = p3 at *
      omega
  · (repeat (first | (with_reducible exact Below.refl _ _) | (with_reducible assumption) | (with_reducible apply bd) | (with_reducible apply ba) | (with_reducible refine bp ?_ (by first | omega | (simp [pad_size]; done) | (simp [pad_size]; omega)) _ _) | (with_reducible refine bs ?_ (by first | omega | (simp [pad_size]; done) | (simp [pad_size]; omega)) _) | (with_reducible refine bt ?_ (by assumption))))

set_option maxHeartbeats 2000000 in
theorem shl1 (x0 x1 x2 x3 k : Int) (hx : Lim x0 x1 x2 x3) (hk : k / 64 = 1) (w : World) :
    Calls Try.prog 103 #[.agg #[.int .u64 x0, .int .u64 x1, .int .u64 x2, .int .u64 x3], .int .i64 k] w fun e w' => ∃ z0 z1 z2 z3 : Int, e = .returned (.agg #[.int .u64 z0, .int .u64 z1, .int .u64 z2, .int .u64 z3]) ∧ Lim z0 z1 z2 z3 ∧ ShlS (val x0 x1 x2 x3) k (val z0 z1 z2 z3) ∧ Below w.heap.size w w' := by
  obtain ⟨hx0, hx1, hx2, hx3⟩ := hx
  obtain ⟨r, hr⟩ : ∃ r, k % 64 = r := ⟨_, rfl⟩
  have hr0 : 0 ≤ r := by omega
  have hr1 : r < 64 := by omega
  have hk0 : 0 ≤ k := by omega
  have hk1 : k < 256 := by omega
  have kk : Hid (k = 64 + r) := by unfold Hid; omega
  obtain ⟨h0, l0, s0, v0, m0, b0, d0, g0, f0, t0⟩ := shl_part x0 r hx0 ⟨hr0, hr1⟩
  obtain ⟨h1, l1, s1, v1, m1, b1, d1, g1, f1, t1⟩ := shl_part x1 r hx1 ⟨hr0, hr1⟩
  obtain ⟨h2, l2, s2, v2, m2, b2, d2, g2, f2, t2⟩ := shl_part x2 r hx2 ⟨hr0, hr1⟩
  obtain ⟨o1, u1⟩ := shl_or ⟨hr0, hr1⟩ b1 d1 g0 f0 t0
  obtain ⟨o2, u2⟩ := shl_or ⟨hr0, hr1⟩ b2 d2 g1 f1 t1
  have o1' : Hid (bits .or .u64 l1 h0 = l1 + h0) := o1
  have o2' : Hid (bits .or .u64 l2 h1 = l2 + h1) := o2
  go_enter Try.func103, Try.ntmps103
  go_wp2
  apply wp_loop_rounds 5
  simp only [Code.rounds]
  go_wp2
  go_region
  go_wp2
  go_region
  go_wp2
  refine bodyPost_ret (v := .agg #[.int .u64 0, .int .u64 l0, .int .u64 (l1 + h0), .int .u64 (l2 + h1)]) (by simp only [results, Try.results103]; go_simp) rfl ⟨0, l0, (l1 + h0), (l2 + h1), rfl, ⟨⟨by omega, by omega⟩, ⟨by omega, by omega⟩, ⟨by omega, by omega⟩, ⟨by omega, by omega⟩⟩, ?_, ?_⟩
  · have ek : (2 : Int) ^ k.toNat = 18446744073709551616 * 2 ^ r.toNat := by
      rw [kk.out, show ((64 : Int) + r).toNat = 64 + r.toNat by omega, Int.pow_add]; rfl
    have e : val x0 x1 x2 x3 * 2 ^ k.toNat = (x0 * 2 ^ r.toNat) * 18446744073709551616 + (x1 * 2 ^ r.toNat) * (18446744073709551616 * 18446744073709551616) + (x2 * 2 ^ r.toNat) * (18446744073709551616 * 340282366920938463463374607431768211456) + (x3 * 2 ^ r.toNat) * (18446744073709551616 * 6277101735386680763835789423207666416102355444464034512896) := by
      rw [ek]; unfold val
      generalize (2 : Int) ^ r.toNat = T
      grind
    have e0 := m0.out
    have e1 := m1.out
    have e2 := m2.out
    refine ⟨h2 + (x3 * 2 ^ r.toNat), ?_, ?_⟩
    · have : 0 ≤ x3 * 2 ^ r.toNat := Int.mul_nonneg hx3.1 (Int.pow_nonneg (by omega))
      omega
    · rw [e]; unfold val
      generalize x0 * 2 ^ r.toNat = p0 at *
      generalize x1 * 2 ^ r.toNat = p1 at *
      generalize x2 * 2 ^ r.toNat = p2 at *
      generalize x3 * 2 ^ r.toNat = p3 at *
      omega
  · (repeat (first | (with_reducible exact Below.refl _ _) | (with_reducible assumption) | (with_reducible apply bd) | (with_reducible apply ba) | (with_reducible refine bp ?_ (by first | omega | (simp [pad_size]; done) | (simp [pad_size]; omega)) _ _) | (with_reducible refine bs ?_ (by first | omega | (simp [pad_size]; done) | (simp [pad_size]; omega)) _) | (with_reducible refine bt ?_ (by assumption))))

set_option maxHeartbeats 2000000 in
theorem shl2 (x0 x1 x2 x3 k : Int) (hx : Lim x0 x1 x2 x3) (hk : k / 64 = 2) (w : World) :
    Calls Try.prog 103 #[.agg #[.int .u64 x0, .int .u64 x1, .int .u64 x2, .int .u64 x3], .int .i64 k] w fun e w' => ∃ z0 z1 z2 z3 : Int, e = .returned (.agg #[.int .u64 z0, .int .u64 z1, .int .u64 z2, .int .u64 z3]) ∧ Lim z0 z1 z2 z3 ∧ ShlS (val x0 x1 x2 x3) k (val z0 z1 z2 z3) ∧ Below w.heap.size w w' := by
  obtain ⟨hx0, hx1, hx2, hx3⟩ := hx
  obtain ⟨r, hr⟩ : ∃ r, k % 64 = r := ⟨_, rfl⟩
  have hr0 : 0 ≤ r := by omega
  have hr1 : r < 64 := by omega
  have hk0 : 0 ≤ k := by omega
  have hk1 : k < 256 := by omega
  have kk : Hid (k = 128 + r) := by unfold Hid; omega
  obtain ⟨h0, l0, s0, v0, m0, b0, d0, g0, f0, t0⟩ := shl_part x0 r hx0 ⟨hr0, hr1⟩
  obtain ⟨h1, l1, s1, v1, m1, b1, d1, g1, f1, t1⟩ := shl_part x1 r hx1 ⟨hr0, hr1⟩
  obtain ⟨o1, u1⟩ := shl_or ⟨hr0, hr1⟩ b1 d1 g0 f0 t0
  have o1' : Hid (bits .or .u64 l1 h0 = l1 + h0) := o1
  go_enter Try.func103, Try.ntmps103
  go_wp2
  apply wp_loop_rounds 5
  simp only [Code.rounds]
  go_wp2
  go_region
  go_wp2
  refine bodyPost_ret (v := .agg #[.int .u64 0, .int .u64 0, .int .u64 l0, .int .u64 (l1 + h0)]) (by simp only [results, Try.results103]; go_simp) rfl ⟨0, 0, l0, (l1 + h0), rfl, ⟨⟨by omega, by omega⟩, ⟨by omega, by omega⟩, ⟨by omega, by omega⟩, ⟨by omega, by omega⟩⟩, ?_, ?_⟩
  · have ek : (2 : Int) ^ k.toNat = 340282366920938463463374607431768211456 * 2 ^ r.toNat := by
      rw [kk.out, show ((128 : Int) + r).toNat = 128 + r.toNat by omega, Int.pow_add]; rfl
    have e : val x0 x1 x2 x3 * 2 ^ k.toNat = (x0 * 2 ^ r.toNat) * 340282366920938463463374607431768211456 + (x1 * 2 ^ r.toNat) * (340282366920938463463374607431768211456 * 18446744073709551616) + (x2 * 2 ^ r.toNat) * (340282366920938463463374607431768211456 * 340282366920938463463374607431768211456) + (x3 * 2 ^ r.toNat) * (340282366920938463463374607431768211456 * 6277101735386680763835789423207666416102355444464034512896) := by
      rw [ek]; unfold val
      generalize (2 : Int) ^ r.toNat = T
      grind
    have e0 := m0.out
    have e1 := m1.out
    refine ⟨h1 + (x2 * 2 ^ r.toNat) + (x3 * 2 ^ r.toNat) * 18446744073709551616, ?_, ?_⟩
    · have : 0 ≤ x2 * 2 ^ r.toNat := Int.mul_nonneg hx2.1 (Int.pow_nonneg (by omega))
      have : 0 ≤ x3 * 2 ^ r.toNat := Int.mul_nonneg hx3.1 (Int.pow_nonneg (by omega))
      omega
    · rw [e]; unfold val
      generalize x0 * 2 ^ r.toNat = p0 at *
      generalize x1 * 2 ^ r.toNat = p1 at *
      generalize x2 * 2 ^ r.toNat = p2 at *
      generalize x3 * 2 ^ r.toNat = p3 at *
      omega
  · (repeat (first | (with_reducible exact Below.refl _ _) | (with_reducible assumption) | (with_reducible apply bd) | (with_reducible apply ba) | (with_reducible refine bp ?_ (by first | omega | (simp [pad_size]; done) | (simp [pad_size]; omega)) _ _) | (with_reducible refine bs ?_ (by first | omega | (simp [pad_size]; done) | (simp [pad_size]; omega)) _) | (with_reducible refine bt ?_ (by assumption))))

set_option maxHeartbeats 2000000 in
theorem shl3 (x0 x1 x2 x3 k : Int) (hx : Lim x0 x1 x2 x3) (hk : k / 64 = 3) (w : World) :
    Calls Try.prog 103 #[.agg #[.int .u64 x0, .int .u64 x1, .int .u64 x2, .int .u64 x3], .int .i64 k] w fun e w' => ∃ z0 z1 z2 z3 : Int, e = .returned (.agg #[.int .u64 z0, .int .u64 z1, .int .u64 z2, .int .u64 z3]) ∧ Lim z0 z1 z2 z3 ∧ ShlS (val x0 x1 x2 x3) k (val z0 z1 z2 z3) ∧ Below w.heap.size w w' := by
  obtain ⟨hx0, hx1, hx2, hx3⟩ := hx
  obtain ⟨r, hr⟩ : ∃ r, k % 64 = r := ⟨_, rfl⟩
  have hr0 : 0 ≤ r := by omega
  have hr1 : r < 64 := by omega
  have hk0 : 0 ≤ k := by omega
  have hk1 : k < 256 := by omega
  have kk : Hid (k = 192 + r) := by unfold Hid; omega
  obtain ⟨h0, l0, s0, v0, m0, b0, d0, g0, f0, t0⟩ := shl_part x0 r hx0 ⟨hr0, hr1⟩
  go_enter Try.func103, Try.ntmps103
  go_wp2
  apply wp_loop_rounds 5
  simp only [Code.rounds]
  go_wp2
  refine bodyPost_ret (v := .agg #[.int .u64 0, .int .u64 0, .int .u64 0, .int .u64 l0]) (by simp only [results, Try.results103]; go_simp) rfl ⟨0, 0, 0, l0, rfl, ⟨⟨by omega, by omega⟩, ⟨by omega, by omega⟩, ⟨by omega, by omega⟩, ⟨by omega, by omega⟩⟩, ?_, ?_⟩
  · have ek : (2 : Int) ^ k.toNat = 6277101735386680763835789423207666416102355444464034512896 * 2 ^ r.toNat := by
      rw [kk.out, show ((192 : Int) + r).toNat = 192 + r.toNat by omega, Int.pow_add]; rfl
    have e : val x0 x1 x2 x3 * 2 ^ k.toNat = (x0 * 2 ^ r.toNat) * 6277101735386680763835789423207666416102355444464034512896 + (x1 * 2 ^ r.toNat) * (6277101735386680763835789423207666416102355444464034512896 * 18446744073709551616) + (x2 * 2 ^ r.toNat) * (6277101735386680763835789423207666416102355444464034512896 * 340282366920938463463374607431768211456) + (x3 * 2 ^ r.toNat) * (6277101735386680763835789423207666416102355444464034512896 * 6277101735386680763835789423207666416102355444464034512896) := by
      rw [ek]; unfold val
      generalize (2 : Int) ^ r.toNat = T
      grind
    have e0 := m0.out
    refine ⟨h0 + (x1 * 2 ^ r.toNat) + (x2 * 2 ^ r.toNat) * 18446744073709551616 + (x3 * 2 ^ r.toNat) * 340282366920938463463374607431768211456, ?_, ?_⟩
    · have : 0 ≤ x1 * 2 ^ r.toNat := Int.mul_nonneg hx1.1 (Int.pow_nonneg (by omega))
      have : 0 ≤ x2 * 2 ^ r.toNat := Int.mul_nonneg hx2.1 (Int.pow_nonneg (by omega))
      have : 0 ≤ x3 * 2 ^ r.toNat := Int.mul_nonneg hx3.1 (Int.pow_nonneg (by omega))
      omega
    · rw [e]; unfold val
      generalize x0 * 2 ^ r.toNat = p0 at *
      generalize x1 * 2 ^ r.toNat = p1 at *
      generalize x2 * 2 ^ r.toNat = p2 at *
      generalize x3 * 2 ^ r.toNat = p3 at *
      omega
  · (repeat (first | (with_reducible exact Below.refl _ _) | (with_reducible assumption) | (with_reducible apply bd) | (with_reducible apply ba) | (with_reducible refine bp ?_ (by first | omega | (simp [pad_size]; done) | (simp [pad_size]; omega)) _ _) | (with_reducible refine bs ?_ (by first | omega | (simp [pad_size]; done) | (simp [pad_size]; omega)) _) | (with_reducible refine bt ?_ (by assumption))))

theorem shl_any (x0 x1 x2 x3 k : Int) (hx : Lim x0 x1 x2 x3) (h0 : 0 ≤ k) (h1 : k < 256) (w : World) :
    Calls Try.prog 103 #[.agg #[.int .u64 x0, .int .u64 x1, .int .u64 x2, .int .u64 x3], .int .i64 k] w fun e w' => ∃ z0 z1 z2 z3 : Int, e = .returned (.agg #[.int .u64 z0, .int .u64 z1, .int .u64 z2, .int .u64 z3]) ∧ Lim z0 z1 z2 z3 ∧ ShlS (val x0 x1 x2 x3) k (val z0 z1 z2 z3) ∧ Below w.heap.size w w' := by
  rcases (show k / 64 = 0 ∨ k / 64 = 1 ∨ k / 64 = 2 ∨ k / 64 = 3 by omega) with h | h | h | h
  · exact shl0 x0 x1 x2 x3 k hx h w
  · exact shl1 x0 x1 x2 x3 k hx h w
  · exact shl2 x0 x1 x2 x3 k hx h w
  · exact shl3 x0 x1 x2 x3 k hx h w
end Go.Proofs.Ytjhjgncnadhbhaa

/- num.shiftRight. -/
namespace Go.Proofs.Ytjhjgncnadhbhaa
open Go.RowKit

/-- A part to the right: what stays, and what comes into the one below. -/
theorem shr_part (x r : Int) (hx : 0 ≤ x ∧ x < 18446744073709551616) (hr : 0 ≤ r ∧ r < 64) :
    ∃ h l g : Int, x / 2 ^ r.toNat = h ∧ IntKind.u64.wrap (x * 2 ^ (64 - r).toNat) = g ∧ Hid (x = h * 2 ^ r.toNat + l) ∧ 0 ≤ l ∧ Hid (l < 2 ^ r.toNat) ∧ Hid (g * 2 ^ r.toNat = l * 18446744073709551616) ∧ (0 ≤ g ∧ g < 18446744073709551616) ∧ (0 ≤ h ∧ h < 18446744073709551616) ∧ Hid (g % 2 ^ (64 - r).toNat = 0) ∧ Hid (h < 2 ^ (64 - r).toNat) := by
  obtain ⟨t, rfl⟩ := Int.eq_ofNat_of_zero_le hr.1
  have ht : t ≤ 63 := by omega
  have e64 : ((64 : Int) - (t : Int)).toNat = 64 - t := by omega
  obtain ⟨hTU, hT, hU, hT2⟩ := pow_split t ht
  rw [e64, Int.toNat_natCast, IntKind.wrap_u64]
  generalize hTe : (2 : Int) ^ t = T at *
  generalize hUe : (2 : Int) ^ (64 - t) = U at *
  have hd := Int.emod_add_mul_ediv x T
  have hm0 := Int.emod_nonneg x (show T ≠ 0 by omega)
  have hm1 := Int.emod_lt_of_pos x hT
  have hq0 : 0 ≤ x / T := Int.ediv_nonneg hx.1 (by omega)
  have hq1 : x / T < U := by
    apply Int.ediv_lt_of_lt_mul hT
    rw [Int.mul_comm, hTU]; exact hx.2
  have hq2 : x / T < 18446744073709551616 := by
    have : x / T ≤ x := Int.ediv_le_self _ hx.1
    omega
  generalize x / T = h at *
  generalize x % T = l at *
  have e1 : x * U = h * 18446744073709551616 + l * U := by
    rw [← hd, Int.add_mul, Int.mul_right_comm, hTU]
    rw [Int.mul_comm 18446744073709551616 h]; omega
  have e2 : 0 ≤ l * U := Int.mul_nonneg hm0 (by omega)
  have e3 : l * U < 18446744073709551616 := by
    rw [← hTU]
    exact Int.mul_lt_mul_of_pos_right hm1 hU
  have e4 : l * U * T = l * 18446744073709551616 := by rw [Int.mul_assoc, Int.mul_comm U T, hTU]
  refine ⟨h, l, l * U, rfl, ?_, ?_, hm0, hm1, e4, ⟨e2, e3⟩, ⟨hq0, hq2⟩, show _ = _ from Int.mul_emod_left l U, hq1⟩
  · rw [e1]; omega
  · show x = h * T + l
    rw [← hd, Int.mul_comm T h]; omega

theorem shr_or {a b r : Int} (hr : 0 ≤ r ∧ r < 64) (ha : 0 ≤ a ∧ a < 18446744073709551616) (hm : Hid (a % 2 ^ (64 - r).toNat = 0)) (hb : 0 ≤ b ∧ b < 18446744073709551616) (hb1 : Hid (b < 2 ^ (64 - r).toNat)) : bits .or .u64 b a = b + a ∧ b + a < 18446744073709551616 := by
  have hc : bits .or .u64 b a = bits .or .u64 a b := by simp only [bits, BitVec.or_comm]
  have h1 : bits .or .u64 a b = a + b := bits_join .u64 64 (by decide) (fun n h0 h1 => by rw [IntKind.wrap_u64]; omega) (64 - r).toNat a b ha.1 hm.out (by simpa using ha.2) hb.1 hb1.out (by simp; omega)
  refine ⟨by rw [hc, h1]; omega, ?_⟩
  obtain ⟨t, rfl⟩ := Int.eq_ofNat_of_zero_le hr.1
  have ht : t ≤ 63 := by omega
  have e64 : ((64 : Int) - (t : Int)).toNat = 64 - t := by omega
  obtain ⟨hTU, hT, hU, hT2⟩ := pow_split t ht
  have hm := hm.out; have hb1 := hb1.out
  rw [e64] at hm hb1
  generalize hTe : (2 : Int) ^ t = T at *
  generalize hUe : (2 : Int) ^ (64 - t) = U at *
  obtain ⟨q, rfl⟩ := Int.dvd_of_emod_eq_zero hm
  have hq : q < T := by
    apply Int.lt_of_mul_lt_mul_left (a := U) _ (by omega)
    rw [Int.mul_comm U T, hTU]; exact ha.2
  have : U * (q + 1) ≤ U * T := Int.mul_le_mul_of_nonneg_left (by omega) (by omega)
  rw [Int.mul_comm U T, hTU, Int.mul_add] at this
  omega

/-- What a shift to the right leaves, as a whole number. -/
def ShrS (x k z : Int) : Prop := ∃ m : Int, 0 ≤ m ∧ m < 2 ^ k.toNat ∧ x = z * 2 ^ k.toNat + m

set_option maxHeartbeats 2000000 in
theorem shr0 (x0 x1 x2 x3 k : Int) (hx : Lim x0 x1 x2 x3) (hk : k / 64 = 0) (w : World) :
    Calls Try.prog 104 #[.agg #[.int .u64 x0, .int .u64 x1, .int .u64 x2, .int .u64 x3], .int .i64 k] w fun e w' => ∃ z0 z1 z2 z3 : Int, e = .returned (.agg #[.int .u64 z0, .int .u64 z1, .int .u64 z2, .int .u64 z3]) ∧ Lim z0 z1 z2 z3 ∧ ShrS (val x0 x1 x2 x3) k (val z0 z1 z2 z3) ∧ Below w.heap.size w w' := by
  obtain ⟨hx0, hx1, hx2, hx3⟩ := hx
  obtain ⟨r, hr⟩ : ∃ r, k % 64 = r := ⟨_, rfl⟩
  have hr0 : 0 ≤ r := by omega
  have hr1 : r < 64 := by omega
  have hk0 : 0 ≤ k := by omega
  have hk1 : k < 256 := by omega
  have kk : Hid (k = 0 + r) := by unfold Hid; omega
  obtain ⟨h0, l0, g0, v0, s0, m0, n0, f0, t0, b0, c0, d0, y0⟩ := shr_part x0 r hx0 ⟨hr0, hr1⟩
  obtain ⟨h1, l1, g1, v1, s1, m1, n1, f1, t1, b1, c1, d1, y1⟩ := shr_part x1 r hx1 ⟨hr0, hr1⟩
  obtain ⟨h2, l2, g2, v2, s2, m2, n2, f2, t2, b2, c2, d2, y2⟩ := shr_part x2 r hx2 ⟨hr0, hr1⟩
  obtain ⟨h3, l3, g3, v3, s3, m3, n3, f3, t3, b3, c3, d3, y3⟩ := shr_part x3 r hx3 ⟨hr0, hr1⟩
  obtain ⟨o0, u0⟩ := shr_or ⟨hr0, hr1⟩ b1 d1 c0 y0
  obtain ⟨o1, u1⟩ := shr_or ⟨hr0, hr1⟩ b2 d2 c1 y1
  obtain ⟨o2, u2⟩ := shr_or ⟨hr0, hr1⟩ b3 d3 c2 y2
  go_enter Try.func104, Try.ntmps104
  go_wp2
  apply wp_loop_rounds 5
  simp only [Code.rounds]
  go_wp2
  go_region
  go_wp2
  go_region
  go_wp2
  go_region
  go_wp2
  refine bodyPost_ret (v := .agg #[.int .u64 (h0 + g1), .int .u64 (h1 + g2), .int .u64 (h2 + g3), .int .u64 h3]) (by simp only [results, Try.results104]; go_simp) rfl ⟨(h0 + g1), (h1 + g2), (h2 + g3), h3, rfl, ⟨⟨by omega, by omega⟩, ⟨by omega, by omega⟩, ⟨by omega, by omega⟩, ⟨by omega, by omega⟩⟩, ?_, ?_⟩
  · have ek : (2 : Int) ^ k.toNat = 1 * 2 ^ r.toNat := by
      rw [kk.out, show ((0 : Int) + r).toNat = 0 + r.toNat by omega, Int.pow_add]; rfl
    have hT : (0 : Int) < 2 ^ r.toNat := Int.pow_pos (by omega)
    have e0 := m0.out; have q0 := t0.out; have w0 := f0.out
    have e1 := m1.out; have q1 := t1.out; have w1 := f1.out
    have e2 := m2.out; have q2 := t2.out; have w2 := f2.out
    have e3 := m3.out; have q3 := t3.out; have w3 := f3.out
    have e : val (h0 + g1) (h1 + g2) (h2 + g3) h3 * 2 ^ k.toNat = (h0 * 2 ^ r.toNat + g1 * 2 ^ r.toNat) * (1 * 1) + (h1 * 2 ^ r.toNat + g2 * 2 ^ r.toNat) * (1 * 18446744073709551616) + (h2 * 2 ^ r.toNat + g3 * 2 ^ r.toNat) * (1 * 340282366920938463463374607431768211456) + (h3 * 2 ^ r.toNat) * (1 * 6277101735386680763835789423207666416102355444464034512896) := by
      rw [ek]; unfold val
      generalize (2 : Int) ^ r.toNat = T
      grind
    refine ⟨l0 * 1, by omega, ?_, ?_⟩
    · rw [ek]
      generalize (2 : Int) ^ r.toNat = T at *
      omega
    · rw [e]; unfold val
      generalize h0 * 2 ^ r.toNat = p0 at *
      generalize h1 * 2 ^ r.toNat = p1 at *
      generalize h2 * 2 ^ r.toNat = p2 at *
      generalize h3 * 2 ^ r.toNat = p3 at *
      generalize g0 * 2 ^ r.toNat = a0 at *
      generalize g1 * 2 ^ r.toNat = a1 at *
      generalize g2 * 2 ^ r.toNat = a2 at *
      generalize g3 * 2 ^ r.toNat = a3 at *
      omega
  · (repeat (first | (with_reducible exact Below.refl _ _) | (with_reducible assumption) | (with_reducible apply bd) | (with_reducible apply ba) | (with_reducible refine bp ?_ (by first | omega | (simp [pad_size]; done) | (simp [pad_size]; omega)) _ _) | (with_reducible refine bs ?_ (by first | omega | (simp [pad_size]; done) | (simp [pad_size]; omega)) _) | (with_reducible refine bt ?_ (by assumption))))

set_option maxHeartbeats 2000000 in
theorem shr1 (x0 x1 x2 x3 k : Int) (hx : Lim x0 x1 x2 x3) (hk : k / 64 = 1) (w : World) :
    Calls Try.prog 104 #[.agg #[.int .u64 x0, .int .u64 x1, .int .u64 x2, .int .u64 x3], .int .i64 k] w fun e w' => ∃ z0 z1 z2 z3 : Int, e = .returned (.agg #[.int .u64 z0, .int .u64 z1, .int .u64 z2, .int .u64 z3]) ∧ Lim z0 z1 z2 z3 ∧ ShrS (val x0 x1 x2 x3) k (val z0 z1 z2 z3) ∧ Below w.heap.size w w' := by
  obtain ⟨hx0, hx1, hx2, hx3⟩ := hx
  obtain ⟨r, hr⟩ : ∃ r, k % 64 = r := ⟨_, rfl⟩
  have hr0 : 0 ≤ r := by omega
  have hr1 : r < 64 := by omega
  have hk0 : 0 ≤ k := by omega
  have hk1 : k < 256 := by omega
  have kk : Hid (k = 64 + r) := by unfold Hid; omega
  obtain ⟨h1, l1, g1, v1, s1, m1, n1, f1, t1, b1, c1, d1, y1⟩ := shr_part x1 r hx1 ⟨hr0, hr1⟩
  obtain ⟨h2, l2, g2, v2, s2, m2, n2, f2, t2, b2, c2, d2, y2⟩ := shr_part x2 r hx2 ⟨hr0, hr1⟩
  obtain ⟨h3, l3, g3, v3, s3, m3, n3, f3, t3, b3, c3, d3, y3⟩ := shr_part x3 r hx3 ⟨hr0, hr1⟩
  obtain ⟨o1, u1⟩ := shr_or ⟨hr0, hr1⟩ b2 d2 c1 y1
  obtain ⟨o2, u2⟩ := shr_or ⟨hr0, hr1⟩ b3 d3 c2 y2
  go_enter Try.func104, Try.ntmps104
  go_wp2
  apply wp_loop_rounds 5
  simp only [Code.rounds]
  go_wp2
  go_region
  go_wp2
  go_region
  go_wp2
  refine bodyPost_ret (v := .agg #[.int .u64 (h1 + g2), .int .u64 (h2 + g3), .int .u64 h3, .int .u64 0]) (by simp only [results, Try.results104]; go_simp) rfl ⟨(h1 + g2), (h2 + g3), h3, 0, rfl, ⟨⟨by omega, by omega⟩, ⟨by omega, by omega⟩, ⟨by omega, by omega⟩, ⟨by omega, by omega⟩⟩, ?_, ?_⟩
  · have ek : (2 : Int) ^ k.toNat = 18446744073709551616 * 2 ^ r.toNat := by
      rw [kk.out, show ((64 : Int) + r).toNat = 64 + r.toNat by omega, Int.pow_add]; rfl
    have hT : (0 : Int) < 2 ^ r.toNat := Int.pow_pos (by omega)
    have e1 := m1.out; have q1 := t1.out; have w1 := f1.out
    have e2 := m2.out; have q2 := t2.out; have w2 := f2.out
    have e3 := m3.out; have q3 := t3.out; have w3 := f3.out
    have e : val (h1 + g2) (h2 + g3) h3 0 * 2 ^ k.toNat = (h1 * 2 ^ r.toNat + g2 * 2 ^ r.toNat) * (18446744073709551616 * 1) + (h2 * 2 ^ r.toNat + g3 * 2 ^ r.toNat) * (18446744073709551616 * 18446744073709551616) + (h3 * 2 ^ r.toNat) * (18446744073709551616 * 340282366920938463463374607431768211456) := by
      rw [ek]; unfold val
      generalize (2 : Int) ^ r.toNat = T
      grind
    refine ⟨l1 * 18446744073709551616 + x0 * 1, by omega, ?_, ?_⟩
    · rw [ek]
      generalize (2 : Int) ^ r.toNat = T at *
      omega
    · rw [e]; unfold val
      generalize h1 * 2 ^ r.toNat = p1 at *
      generalize h2 * 2 ^ r.toNat = p2 at *
      generalize h3 * 2 ^ r.toNat = p3 at *
      generalize g1 * 2 ^ r.toNat = a1 at *
      generalize g2 * 2 ^ r.toNat = a2 at *
      generalize g3 * 2 ^ r.toNat = a3 at *
      omega
  · (repeat (first | (with_reducible exact Below.refl _ _) | (with_reducible assumption) | (with_reducible apply bd) | (with_reducible apply ba) | (with_reducible refine bp ?_ (by first | omega | (simp [pad_size]; done) | (simp [pad_size]; omega)) _ _) | (with_reducible refine bs ?_ (by first | omega | (simp [pad_size]; done) | (simp [pad_size]; omega)) _) | (with_reducible refine bt ?_ (by assumption))))

set_option maxHeartbeats 2000000 in
theorem shr2 (x0 x1 x2 x3 k : Int) (hx : Lim x0 x1 x2 x3) (hk : k / 64 = 2) (w : World) :
    Calls Try.prog 104 #[.agg #[.int .u64 x0, .int .u64 x1, .int .u64 x2, .int .u64 x3], .int .i64 k] w fun e w' => ∃ z0 z1 z2 z3 : Int, e = .returned (.agg #[.int .u64 z0, .int .u64 z1, .int .u64 z2, .int .u64 z3]) ∧ Lim z0 z1 z2 z3 ∧ ShrS (val x0 x1 x2 x3) k (val z0 z1 z2 z3) ∧ Below w.heap.size w w' := by
  obtain ⟨hx0, hx1, hx2, hx3⟩ := hx
  obtain ⟨r, hr⟩ : ∃ r, k % 64 = r := ⟨_, rfl⟩
  have hr0 : 0 ≤ r := by omega
  have hr1 : r < 64 := by omega
  have hk0 : 0 ≤ k := by omega
  have hk1 : k < 256 := by omega
  have kk : Hid (k = 128 + r) := by unfold Hid; omega
  obtain ⟨h2, l2, g2, v2, s2, m2, n2, f2, t2, b2, c2, d2, y2⟩ := shr_part x2 r hx2 ⟨hr0, hr1⟩
  obtain ⟨h3, l3, g3, v3, s3, m3, n3, f3, t3, b3, c3, d3, y3⟩ := shr_part x3 r hx3 ⟨hr0, hr1⟩
  obtain ⟨o2, u2⟩ := shr_or ⟨hr0, hr1⟩ b3 d3 c2 y2
  go_enter Try.func104, Try.ntmps104
  go_wp2
  apply wp_loop_rounds 5
  simp only [Code.rounds]
  go_wp2
  go_region
  go_wp2
  refine bodyPost_ret (v := .agg #[.int .u64 (h2 + g3), .int .u64 h3, .int .u64 0, .int .u64 0]) (by simp only [results, Try.results104]; go_simp) rfl ⟨(h2 + g3), h3, 0, 0, rfl, ⟨⟨by omega, by omega⟩, ⟨by omega, by omega⟩, ⟨by omega, by omega⟩, ⟨by omega, by omega⟩⟩, ?_, ?_⟩
  · have ek : (2 : Int) ^ k.toNat = 340282366920938463463374607431768211456 * 2 ^ r.toNat := by
      rw [kk.out, show ((128 : Int) + r).toNat = 128 + r.toNat by omega, Int.pow_add]; rfl
    have hT : (0 : Int) < 2 ^ r.toNat := Int.pow_pos (by omega)
    have e2 := m2.out; have q2 := t2.out; have w2 := f2.out
    have e3 := m3.out; have q3 := t3.out; have w3 := f3.out
    have e : val (h2 + g3) h3 0 0 * 2 ^ k.toNat = (h2 * 2 ^ r.toNat + g3 * 2 ^ r.toNat) * (340282366920938463463374607431768211456 * 1) + (h3 * 2 ^ r.toNat) * (340282366920938463463374607431768211456 * 18446744073709551616) := by
      rw [ek]; unfold val
      generalize (2 : Int) ^ r.toNat = T
      grind
    refine ⟨l2 * 340282366920938463463374607431768211456 + x0 * 1 + x1 * 18446744073709551616, by omega, ?_, ?_⟩
    · rw [ek]
      generalize (2 : Int) ^ r.toNat = T at *
      omega
    · rw [e]; unfold val
      generalize h2 * 2 ^ r.toNat = p2 at *
      generalize h3 * 2 ^ r.toNat = p3 at *
      generalize g2 * 2 ^ r.toNat = a2 at *
      generalize g3 * 2 ^ r.toNat = a3 at *
      omega
  · (repeat (first | (with_reducible exact Below.refl _ _) | (with_reducible assumption) | (with_reducible apply bd) | (with_reducible apply ba) | (with_reducible refine bp ?_ (by first | omega | (simp [pad_size]; done) | (simp [pad_size]; omega)) _ _) | (with_reducible refine bs ?_ (by first | omega | (simp [pad_size]; done) | (simp [pad_size]; omega)) _) | (with_reducible refine bt ?_ (by assumption))))

set_option maxHeartbeats 2000000 in
theorem shr3 (x0 x1 x2 x3 k : Int) (hx : Lim x0 x1 x2 x3) (hk : k / 64 = 3) (w : World) :
    Calls Try.prog 104 #[.agg #[.int .u64 x0, .int .u64 x1, .int .u64 x2, .int .u64 x3], .int .i64 k] w fun e w' => ∃ z0 z1 z2 z3 : Int, e = .returned (.agg #[.int .u64 z0, .int .u64 z1, .int .u64 z2, .int .u64 z3]) ∧ Lim z0 z1 z2 z3 ∧ ShrS (val x0 x1 x2 x3) k (val z0 z1 z2 z3) ∧ Below w.heap.size w w' := by
  obtain ⟨hx0, hx1, hx2, hx3⟩ := hx
  obtain ⟨r, hr⟩ : ∃ r, k % 64 = r := ⟨_, rfl⟩
  have hr0 : 0 ≤ r := by omega
  have hr1 : r < 64 := by omega
  have hk0 : 0 ≤ k := by omega
  have hk1 : k < 256 := by omega
  have kk : Hid (k = 192 + r) := by unfold Hid; omega
  obtain ⟨h3, l3, g3, v3, s3, m3, n3, f3, t3, b3, c3, d3, y3⟩ := shr_part x3 r hx3 ⟨hr0, hr1⟩
  go_enter Try.func104, Try.ntmps104
  go_wp2
  apply wp_loop_rounds 5
  simp only [Code.rounds]
  go_wp2
  refine bodyPost_ret (v := .agg #[.int .u64 h3, .int .u64 0, .int .u64 0, .int .u64 0]) (by simp only [results, Try.results104]; go_simp) rfl ⟨h3, 0, 0, 0, rfl, ⟨⟨by omega, by omega⟩, ⟨by omega, by omega⟩, ⟨by omega, by omega⟩, ⟨by omega, by omega⟩⟩, ?_, ?_⟩
  · have ek : (2 : Int) ^ k.toNat = 6277101735386680763835789423207666416102355444464034512896 * 2 ^ r.toNat := by
      rw [kk.out, show ((192 : Int) + r).toNat = 192 + r.toNat by omega, Int.pow_add]; rfl
    have hT : (0 : Int) < 2 ^ r.toNat := Int.pow_pos (by omega)
    have e3 := m3.out; have q3 := t3.out; have w3 := f3.out
    have e : val h3 0 0 0 * 2 ^ k.toNat = (h3 * 2 ^ r.toNat) * (6277101735386680763835789423207666416102355444464034512896 * 1) := by
      rw [ek]; unfold val
      generalize (2 : Int) ^ r.toNat = T
      grind
    refine ⟨l3 * 6277101735386680763835789423207666416102355444464034512896 + x0 * 1 + x1 * 18446744073709551616 + x2 * 340282366920938463463374607431768211456, by omega, ?_, ?_⟩
    · rw [ek]
      generalize (2 : Int) ^ r.toNat = T at *
      omega
    · rw [e]; unfold val
      generalize h3 * 2 ^ r.toNat = p3 at *
      generalize g3 * 2 ^ r.toNat = a3 at *
      omega
  · (repeat (first | (with_reducible exact Below.refl _ _) | (with_reducible assumption) | (with_reducible apply bd) | (with_reducible apply ba) | (with_reducible refine bp ?_ (by first | omega | (simp [pad_size]; done) | (simp [pad_size]; omega)) _ _) | (with_reducible refine bs ?_ (by first | omega | (simp [pad_size]; done) | (simp [pad_size]; omega)) _) | (with_reducible refine bt ?_ (by assumption))))

set_option maxHeartbeats 2000000 in
theorem shr4 (x0 x1 x2 x3 : Int) (hx : Lim x0 x1 x2 x3) (w : World) :
    Calls Try.prog 104 #[.agg #[.int .u64 x0, .int .u64 x1, .int .u64 x2, .int .u64 x3], .int .i64 256] w fun e w' => ∃ z0 z1 z2 z3 : Int, e = .returned (.agg #[.int .u64 z0, .int .u64 z1, .int .u64 z2, .int .u64 z3]) ∧ Lim z0 z1 z2 z3 ∧ ShrS (val x0 x1 x2 x3) 256 (val z0 z1 z2 z3) ∧ Below w.heap.size w w' := by
  go_enter Try.func104, Try.ntmps104
  go_wp2
  apply wp_loop_rounds 1
  simp only [Code.rounds]
  go_wp2
  refine bodyPost_ret (v := .agg #[.int .u64 0, .int .u64 0, .int .u64 0, .int .u64 0]) (by simp only [results, Try.results104]; go_simp) rfl ⟨0, 0, 0, 0, rfl, lim_zero, ⟨val x0 x1 x2 x3, val_lo hx, ?_, ?_⟩, ?_⟩
  · have := val_hi hx
    rw [show ((256 : Int).toNat) = 256 from rfl, show (2 : Int) ^ 256 = 115792089237316195423570985008687907853269984665640564039457584007913129639936 from rfl]; exact this
  · rw [val0]; omega
  · (repeat (first | (with_reducible exact Below.refl _ _) | (with_reducible assumption) | (with_reducible apply bd) | (with_reducible apply ba) | (with_reducible refine bp ?_ (by first | omega | (simp [pad_size]; done) | (simp [pad_size]; omega)) _ _) | (with_reducible refine bs ?_ (by first | omega | (simp [pad_size]; done) | (simp [pad_size]; omega)) _) | (with_reducible refine bt ?_ (by assumption))))

theorem shr_any (x0 x1 x2 x3 k : Int) (hx : Lim x0 x1 x2 x3) (h0 : 0 ≤ k) (h1 : k ≤ 256) (w : World) :
    Calls Try.prog 104 #[.agg #[.int .u64 x0, .int .u64 x1, .int .u64 x2, .int .u64 x3], .int .i64 k] w fun e w' => ∃ z0 z1 z2 z3 : Int, e = .returned (.agg #[.int .u64 z0, .int .u64 z1, .int .u64 z2, .int .u64 z3]) ∧ Lim z0 z1 z2 z3 ∧ ShrS (val x0 x1 x2 x3) k (val z0 z1 z2 z3) ∧ Below w.heap.size w w' := by
  by_cases h4 : k = 256
  · subst h4; exact shr4 x0 x1 x2 x3 hx w
  rcases (show k / 64 = 0 ∨ k / 64 = 1 ∨ k / 64 = 2 ∨ k / 64 = 3 by omega) with h | h | h | h
  · exact shr0 x0 x1 x2 x3 k hx h w
  · exact shr1 x0 x1 x2 x3 k hx h w
  · exact shr2 x0 x1 x2 x3 k hx h w
  · exact shr3 x0 x1 x2 x3 k hx h w
end Go.Proofs.Ytjhjgncnadhbhaa

/- math/bits.Div64. -/
namespace Go.Proofs.Ytjhjgncnadhbhaa
open Go.RowKit

/-- The guess of a digit is not too small; P is the guess times the lower half. -/
def DInv (u a b d q r : Int) : Prop := 0 ≤ q ∧ q * a + r = u ∧ 0 ≤ r ∧ r < 4294967296 ∧ d + r * 4294967296 < q * b + a * 4294967296 + b
def DFin (u a b d q : Int) : Prop := 0 ≤ q ∧ q < 4294967296 ∧ q * (a * 4294967296 + b) ≤ u * 4294967296 + d ∧ u * 4294967296 + d < (q + 1) * (a * 4294967296 + b)
def DNorm (a b d u : Int) : Prop := (2147483648 ≤ a ∧ a < 4294967296) ∧ (0 ≤ b ∧ b < 4294967296) ∧ (0 ≤ d ∧ d < 4294967296) ∧ 0 ≤ u ∧ u < a * 4294967296 + b

theorem dinv_start {u a b d q : Int} (h : DNorm a b d u) (hq : u / a = q) : DInv u a b d q (u - q * a) ∧ 0 ≤ q * a ∧ q * a ≤ u ∧ 0 ≤ q := by
  obtain ⟨ha, hb, hd, hu0, hu1⟩ := h
  have h1 := Int.emod_add_mul_ediv u a
  have h2 := Int.emod_nonneg u (show a ≠ 0 by omega)
  have h3 := Int.emod_lt_of_pos u (show 0 < a by omega)
  have h4 : 0 ≤ u / a := Int.ediv_nonneg hu0 (by omega)
  rw [hq] at h1 h4
  rw [Int.mul_comm a q] at h1
  have h5 : 0 ≤ q * b := Int.mul_nonneg h4 hb.1
  have h6 : 0 ≤ q * a := Int.mul_nonneg h4 (by omega)
  refine ⟨⟨h4, by omega, by omega, by omega, ?_⟩, h6, by omega, h4⟩
  generalize q * a = A at *
  generalize q * b = P at *
  omega

theorem dinv_prod {u a b d q r : Int} (h : DNorm a b d u) (k : DInv u a b d q r) (hq : q < 4294967296) : 0 ≤ q * b ∧ q * b < 18446744073709551616 := by
  obtain ⟨ha, hb, hd, hu0, hu1⟩ := h
  have h1 : q * b ≤ 4294967295 * 4294967295 := Int.mul_le_mul (by omega) (by omega) hb.1 (by omega)
  have h2 : 0 ≤ q * b := Int.mul_nonneg k.1 hb.1
  omega

theorem dinv_done {u a b d q r : Int} (h : DNorm a b d u) (k : DInv u a b d q r) (hq : q < 4294967296) (hp : q * b ≤ 4294967296 * r + d) : DFin u a b d q := by
  obtain ⟨k0, k1, k2, k3, k4⟩ := k
  have e1 : q * (a * 4294967296 + b) = q * a * 4294967296 + q * b := by rw [Int.mul_add, Int.mul_assoc]
  have e2 : (q + 1) * (a * 4294967296 + b) = q * a * 4294967296 + q * b + a * 4294967296 + b := by rw [Int.add_mul, e1]; omega
  refine ⟨k0, hq, ?_, ?_⟩
  · rw [e1]; generalize q * a = A at *; generalize q * b = P at *; omega
  · rw [e2]; generalize q * a = A at *; generalize q * b = P at *; omega

/-- The guess is too great: one less. -/
theorem dinv_next {u a b d q r : Int} (h : DNorm a b d u) (k : DInv u a b d q r) (ht : 4294967296 ≤ q ∨ 4294967296 * r + d < q * b) :
    1 ≤ q ∧ (r + a < 4294967296 → DInv u a b d (q - 1) (r + a)) ∧ (4294967296 ≤ r + a → DFin u a b d (q - 1)) := by
  obtain ⟨ha, hb, hd, hu0, hu1⟩ := h
  obtain ⟨k0, k1, k2, k3, k4⟩ := k
  have hs : 4294967296 * r + d < q * b := by
    rcases ht with ht | ht
    · have h1 : 4294967296 * a ≤ q * a := Int.mul_le_mul_of_nonneg_right ht (by omega)
      have h2 : 4294967296 * b ≤ q * b := Int.mul_le_mul_of_nonneg_right ht (by omega)
      generalize q * a = A at *
      generalize q * b = P at *
      omega
    · exact ht
  have hq1 : 1 ≤ q := by
    by_cases e : q = 0
    · subst e; omega
    · omega
  have e1 : (q - 1) * a = q * a - a := by rw [Int.sub_mul]; omega
  have e2 : (q - 1) * b = q * b - b := by rw [Int.sub_mul]; omega
  refine ⟨hq1, fun hr => ⟨by omega, ?_, by omega, hr, ?_⟩, fun hr => ?_⟩
  · rw [e1]; omega
  · rw [e2]; generalize q * b = P at *; omega
  · have hlt : q - 1 < 4294967296 := by
      by_cases c : q - 1 < 4294967296
      · exact c
      · have h1 : 4294967296 * a ≤ (q - 1) * a := Int.mul_le_mul_of_nonneg_right (by omega) (by omega)
        rw [e1] at h1
        generalize q * a = A at *
        omega
    have h3 : (q - 1) * b ≤ 4294967295 * 4294967295 := Int.mul_le_mul (by omega) (by omega) hb.1 (by omega)
    have f1 : (q - 1) * (a * 4294967296 + b) = (q - 1) * a * 4294967296 + (q - 1) * b := by rw [Int.mul_add, Int.mul_assoc]
    have f2 : (q - 1 + 1) * (a * 4294967296 + b) = (q - 1) * a * 4294967296 + (q - 1) * b + a * 4294967296 + b := by rw [Int.add_mul, f1]; omega
    refine ⟨by omega, hlt, ?_, ?_⟩
    · rw [f1]; rw [e1, e2] at *; generalize q * a = A at *; generalize q * b = P at *; omega
    · rw [f2]; rw [e1, e2] at *; generalize q * a = A at *; generalize q * b = P at *; omega

theorem dfin_rest {u a b d q : Int} (k : DFin u a b d q) : 0 ≤ u * 4294967296 + d - q * (a * 4294967296 + b) ∧ u * 4294967296 + d - q * (a * 4294967296 + b) < a * 4294967296 + b := by
  obtain ⟨k0, k1, k2, k3⟩ := k
  rw [Int.add_mul] at k3
  generalize q * (a * 4294967296 + b) = A at *
  omega

set_option maxHeartbeats 400000 in
theorem lead64_pos (x : Int) (h1 : 0 < x) (h2 : x < 18446744073709551616) (w : World) :
    Calls Try.prog 111 #[.int .u64 x] w fun e w' => ∃ s : Int, e = .returned (.int .i64 s) ∧ 0 ≤ s ∧ s < 64 ∧ Hid (9223372036854775808 ≤ x * 2 ^ s.toNat ∧ x * 2 ^ s.toNat < 18446744073709551616) ∧ w' = w := by
  refine (lead64_any x (by omega) h2 w).mono ?_
  rintro e w' ⟨rfl, rfl⟩
  obtain ⟨n, rfl⟩ := Int.eq_ofNat_of_zero_le (show 0 ≤ x by omega)
  have hb := bitLen_le64 (x := (n : Int)) (by omega) h2
  rw [Int.toNat_natCast] at *
  obtain ⟨g1, g2⟩ := bitLen_spec n
  have g2 := g2 (by omega)
  have hpos : 1 ≤ bitLen n := by
    unfold bitLen; rw [if_neg (by omega)]; omega
  refine ⟨_, rfl, by omega, by omega, ?_, rfl⟩
  have e : ((64 : Int) - (bitLen n : Int)).toNat = 64 - bitLen n := by omega
  rw [e]
  unfold Hid
  have p1 : 2 ^ (bitLen n - 1) * 2 ^ (64 - bitLen n) = 9223372036854775808 := by rw [← Nat.pow_add, show bitLen n - 1 + (64 - bitLen n) = 63 by omega]
  have p2 : 2 ^ bitLen n * 2 ^ (64 - bitLen n) = 18446744073709551616 := by rw [← Nat.pow_add, show bitLen n + (64 - bitLen n) = 64 by omega]
  have q1 : 2 ^ (bitLen n - 1) * 2 ^ (64 - bitLen n) ≤ n * 2 ^ (64 - bitLen n) := Nat.mul_le_mul_right _ g2
  have q2 : n * 2 ^ (64 - bitLen n) < 2 ^ bitLen n * 2 ^ (64 - bitLen n) := Nat.mul_lt_mul_of_pos_right g1 (Nat.two_pow_pos _)
  rw [p1] at q1; rw [p2] at q2
  have e2 : ((n : Int) * 2 ^ (64 - bitLen n)) = ((n * 2 ^ (64 - bitLen n) : Nat) : Int) := by simp
  rw [e2]
  omega

theorem div_norm {hi lo y s hh lh hl ll hy ly : Int} (hlo : 0 ≤ lo) (hhi : 0 ≤ hi) (hlt : hi < y) (hs : 0 ≤ s ∧ s < 64) (hn : Hid (9223372036854775808 ≤ y * 2 ^ s.toNat ∧ y * 2 ^ s.toNat < 18446744073709551616))
    (m1 : Hid (hi * 2 ^ s.toNat = hh * 18446744073709551616 + lh)) (b1 : 0 ≤ lh ∧ lh < 18446744073709551616) (g1 : 0 ≤ hh)
    (m2 : Hid (lo * 2 ^ s.toNat = hl * 18446744073709551616 + ll)) (g2 : 0 ≤ hl) (f2 : Hid (hl < 2 ^ s.toNat))
    (m3 : Hid (y * 2 ^ s.toNat = hy * 18446744073709551616 + ly)) (b3 : 0 ≤ ly ∧ ly < 18446744073709551616) (g3 : 0 ≤ hy) :
    hh = 0 ∧ hy = 0 ∧ lh + hl < ly ∧ 9223372036854775808 ≤ ly ∧ Hid (ly = y * 2 ^ s.toNat) ∧ Hid ((hi * 18446744073709551616 + lo) * 2 ^ s.toNat = (lh + hl) * 18446744073709551616 + ll) := by
  unfold Hid at *
  have hT : (0 : Int) < 2 ^ s.toNat := Int.pow_pos (by omega)
  generalize (2 : Int) ^ s.toNat = T at *
  have h1 : (hi + 1) * T ≤ y * T := Int.mul_le_mul_of_nonneg_right (by omega) (by omega)
  rw [Int.add_mul] at h1
  have e : (hi * 18446744073709551616 + lo) * T = hi * T * 18446744073709551616 + lo * T := by rw [Int.add_mul, Int.mul_right_comm]
  rw [e]
  generalize hi * T = A at *
  generalize lo * T = B at *
  generalize y * T = C at *
  have hy0 : hy = 0 := by omega
  have hh0 : hh = 0 := by omega
  subst hy0 hh0
  refine ⟨rfl, rfl, by omega, by omega, by omega, by omega⟩

theorem half_parts (z : Int) (h : 0 ≤ z ∧ z < 18446744073709551616) : ∃ a b : Int, z / 4294967296 = a ∧ bits .and .u64 z 4294967295 = b ∧ Hid (z = a * 4294967296 + b) ∧ 0 ≤ a ∧ a < 4294967296 ∧ 0 ≤ b ∧ b < 4294967296 := by
  refine ⟨_, _, rfl, and_low32 z h.1 h.2, show _ = _ by omega, by omega, by omega, by omega, by omega⟩
theorem div_dnorm {ly a b c u : Int} (hab : Hid (ly = a * 4294967296 + b)) (z4 : 9223372036854775808 ≤ ly) (b3 : 0 ≤ ly ∧ ly < 18446744073709551616) (b4 : 0 ≤ b) (b5 : b < 4294967296) (c1 : 0 ≤ c) (c2 : c < 4294967296) (z3 : u < ly) (hu : 0 ≤ u) : DNorm a b c u := by
  have hab := hab.out
  exact ⟨⟨by omega, by omega⟩, ⟨b4, b5⟩, ⟨c1, c2⟩, hu, by omega⟩

theorem un21 {u a b c q ly : Int} (hab : Hid (ly = a * 4294967296 + b)) (hly : ly < 18446744073709551616) (hF : DFin u a b c q) :
    ∃ v, IntKind.u64.wrap (IntKind.u64.wrap (IntKind.u64.wrap (u * 4294967296) + c) - IntKind.u64.wrap (q * ly)) = v ∧ Hid (u * 4294967296 + c = q * ly + v) ∧ 0 ≤ v ∧ v < ly := by
  obtain ⟨h1, h2⟩ := dfin_rest hF
  rw [← hab.out] at h1 h2
  refine ⟨u * 4294967296 + c - q * ly, ?_, show _ = _ by omega, h1, h2⟩
  simp only [IntKind.wrap_u64]
  generalize q * ly = A at *
  omega

theorem quo_wrap {q p : Int} (h1 : 0 ≤ q ∧ q < 4294967296) (h2 : 0 ≤ p ∧ p < 4294967296) : IntKind.u64.wrap (IntKind.u64.wrap (q * 4294967296) + p) = q * 4294967296 + p := by
  simp only [IntKind.wrap_u64]; omega

theorem quo_wrap1 {q p : Int} (h1 : 0 ≤ q ∧ q < 4294967296) (h2 : 0 ≤ p ∧ p < 4294967296) : IntKind.u64.wrap (q * 4294967296 + p) = q * 4294967296 + p := by
  simp only [IntKind.wrap_u64]; omega

theorem div_fin {hi lo y s u ll ly c d q p v x : Int} (hs : 0 ≤ s) (z5 : Hid (ly = y * 2 ^ s.toNat)) (z6 : Hid ((hi * 18446744073709551616 + lo) * 2 ^ s.toNat = u * 18446744073709551616 + ll)) (hcd : Hid (ll = c * 4294967296 + d))
    (e1 : Hid (u * 4294967296 + c = q * ly + v)) (e2 : Hid (v * 4294967296 + d = p * ly + x)) (x0 : 0 ≤ x) (x1 : x < ly) :
    0 ≤ x / 2 ^ s.toNat ∧ x / 2 ^ s.toNat < y ∧ hi * 18446744073709551616 + lo = (q * 4294967296 + p) * y + x / 2 ^ s.toNat := by
  unfold Hid at *
  have hT : (0 : Int) < 2 ^ s.toNat := Int.pow_pos (by omega)
  generalize (2 : Int) ^ s.toNat = T at *
  generalize hi * 18446744073709551616 + lo = N at *
  have e3 : N * T = (q * 4294967296 + p) * y * T + x := by
    have : (q * 4294967296 + p) * y * T = q * ly * 4294967296 + p * ly := by
      rw [z5]; grind
    rw [this, z6, hcd]
    generalize q * ly = A at *
    generalize p * ly = B at *
    omega
  have e4 : x = (N - (q * 4294967296 + p) * y) * T := by rw [Int.sub_mul, e3]; omega
  have e5 : x / T = N - (q * 4294967296 + p) * y := by rw [e4]; exact Int.mul_ediv_cancel _ (by omega)
  have e6 : 0 ≤ x / T := Int.ediv_nonneg x0 (by omega)
  have e7 : x / T < y := by
    apply Int.ediv_lt_of_lt_mul hT
    rw [← z5]; exact x1
  refine ⟨e6, e7, ?_⟩
  rw [e5]; omega

set_option maxHeartbeats 4000000 in
theorem div64_hi (hi lo y : Int) (h0 : 0 < hi) (h1 : hi < y) (hy : y < 18446744073709551616) (hlo : 0 ≤ lo ∧ lo < 18446744073709551616) (w : World) :
    Calls Try.prog 112 #[.int .u64 hi, .int .u64 lo, .int .u64 y] w fun e w' => ∃ q r : Int, e = .returned (.tuple #[.int .u64 q, .int .u64 r]) ∧ (0 ≤ q ∧ q < 18446744073709551616) ∧ (0 ≤ r ∧ r < y) ∧ Hid (hi * 18446744073709551616 + lo = q * y + r) ∧ Below w.heap.size w w' := by
  have hy0 : ¬ y = 0 := by omega
  have hyb : (y == 0) = false := by simp; omega
  have hhb : (hi == 0) = false := by simp; omega
  have hyle : ¬ y ≤ hi := by omega
  go_enter Try.func112, Try.ntmps112
  go_wp2_with (go_at_call 111; refine (lead64_pos y (by omega) hy _).mono ?_; rintro e w' ⟨s, rfl, hs0, hs1, hn, rfl⟩; obtain ⟨hh, lh, s1, v1, m1, b1, d1, g1, f1, t1⟩ := shl_part hi s ⟨by omega, by omega⟩ ⟨hs0, hs1⟩; obtain ⟨hl, ll, s2, v2, m2, b2, d2, g2, f2, t2⟩ := shl_part lo s hlo ⟨hs0, hs1⟩; obtain ⟨hyy, ly, s3, v3, m3, b3, d3, g3, f3, t3⟩ := shl_part y s ⟨by omega, by omega⟩ ⟨hs0, hs1⟩; obtain ⟨z1, z2, z3, z4, z5, z6⟩ := div_norm hlo.1 (by omega) h1 ⟨hs0, hs1⟩ hn m1 b1 g1 m2 g2 f2 m3 b3 g3; obtain ⟨o1, o2⟩ := shl_or ⟨hs0, hs1⟩ b1 d1 g2 f2 t2; obtain ⟨u, hu⟩ : ∃ u, lh + hl = u := ⟨_, rfl⟩; rw [hu] at o1 o2 z3 z6; obtain ⟨a, b, ha, hb, hab, a1, a2, b4, b5⟩ := half_parts ly b3; obtain ⟨c, d, hc, hd, hcd, c1, c2, d4, d5⟩ := half_parts ll b2; have hN : DNorm a b c u := div_dnorm hab z4 b3 b4 b5 c1 c2 z3 (by omega) ; have hN' : DNorm a b d u := div_dnorm hab z4 b3 b4 b5 d4 d5 z3 (by omega); obtain ⟨q, hq⟩ : ∃ q, u / a = q := ⟨_, rfl⟩; obtain ⟨i1, i2, i3, i4⟩ := dinv_start hN hq; have hu0 : 0 ≤ u := (by omega); clear v1 m1 d1 g1 f1 t1 m2 d2 m3 d3 g3 f3 t3 b1 hn z1 z2)
  go_loop [15, 16] (fun x15 x16 => ∃ q r : Int, x15 = .int .u64 q ∧ x16 = .int .u64 r ∧ DInv u a b c q r ∧ q < 18446744073709551616) (fun x15 _ => (intOf x15).toNat)
  case atStart => exact ⟨q, _, by rw [hq], rfl, i1, by have := Int.ediv_le_self a hu0; omega⟩
  case round =>
    clear i1 i2 i3 i4
    obtain ⟨k, r, rfl, rfl, hI, hqM⟩ := hrel
    have hI0 := hI.1; have hI2 := hI.2.2.1; have hI3 := hI.2.2.2.1
    have ha0 := hN.1.1; have ha1 := hN.1.2
    by_cases c1 : 4294967296 ≤ k
    · obtain ⟨n1, n2, n3⟩ := dinv_next hN hI (.inl c1)
      by_cases c3 : 4294967296 ≤ r + a
      · have hF := n3 c3
        clear n2 n3
        clear hI
        obtain ⟨v, hv, vh, v0, v1⟩ := un21 (u := u) (c := c) hab b3.2 hF
        have hM : DNorm a b d v := div_dnorm hab z4 b3 b4 b5 d4 d5 v1 v0
        obtain ⟨p, hp⟩ : ∃ p, v / a = p := ⟨_, rfl⟩
        obtain ⟨j1, j2, j3, j4⟩ := dinv_start hM hp
        have hvM : v < 18446744073709551616 := by omega
        go_wp2
        go_loop [18, 16] (fun x15 x16 => ∃ q r : Int, x15 = .int .u64 q ∧ x16 = .int .u64 r ∧ DInv v a b d q r ∧ q < 18446744073709551616) (fun x15 _ => (intOf x15).toNat)
        case atStart => exact ⟨p, _, by first | rfl | rw [hp], rfl, j1, by have := Int.ediv_le_self a v0; omega⟩
        case round =>
          clear j1 j2 j3 j4
          obtain ⟨j, f, rfl, rfl, hJ, hjM⟩ := hrel
          have hJ0 := hJ.1; have hJ2 := hJ.2.2.1; have hJ3 := hJ.2.2.2.1
          by_cases e1 : 4294967296 ≤ j
          · obtain ⟨n1, n2, n3⟩ := dinv_next hM hJ (.inl e1)
            by_cases e3 : 4294967296 ≤ f + a
            · have hG := n3 e3
              clear n2 n3 hJ
              obtain ⟨x, xe, xh, x0, x1⟩ := un21 (u := v) (c := d) hab b3.2 hG
              have hq2 := quo_wrap ⟨hF.1, hF.2.1⟩ ⟨hG.1, hG.2.1⟩; have hq3 := quo_wrap1 ⟨hF.1, hF.2.1⟩ ⟨hG.1, hG.2.1⟩
              go_wp2
              go_ret2
              obtain ⟨y0, y1, y2⟩ := div_fin hs0 z5 z6 hcd vh xh x0 x1
              refine ⟨_, _, rfl, ⟨?_, ?_⟩, ⟨y0, y1⟩, y2, Below.refl _ _⟩
              · have := hF.1; have := hG.1; omega
              · have := hF.2.1; have := hG.2.1; omega
            · have hG := n2 (by omega)
              clear n2 n3
              go_wp2
              go_round
              case rel => exact ⟨j - 1, f + a, rfl, rfl, hG, by omega⟩
              case measure => simp [intOf]; omega
          · have hP2 := dinv_prod hM hJ (by omega)
            obtain ⟨P2, hP2e⟩ : ∃ P, j * b = P := ⟨_, rfl⟩
            rw [hP2e] at hP2
            by_cases e2 : 4294967296 * f + d < P2
            · obtain ⟨n1, n2, n3⟩ := dinv_next hM hJ (.inr (by rw [hP2e]; exact e2))
              by_cases e3 : 4294967296 ≤ f + a
              · have hG := n3 e3
                clear n2 n3 hJ
                obtain ⟨x, xe, xh, x0, x1⟩ := un21 (u := v) (c := d) hab b3.2 hG
                have hq2 := quo_wrap ⟨hF.1, hF.2.1⟩ ⟨hG.1, hG.2.1⟩; have hq3 := quo_wrap1 ⟨hF.1, hF.2.1⟩ ⟨hG.1, hG.2.1⟩
                go_wp2
                go_ret2
                obtain ⟨y0, y1, y2⟩ := div_fin hs0 z5 z6 hcd vh xh x0 x1
                refine ⟨_, _, rfl, ⟨?_, ?_⟩, ⟨y0, y1⟩, y2, Below.refl _ _⟩
                · have := hF.1; have := hG.1; omega
                · have := hF.2.1; have := hG.2.1; omega
              · have hG := n2 (by omega)
                clear n2 n3
                go_wp2
                go_round
                case rel => exact ⟨j - 1, f + a, rfl, rfl, hG, by omega⟩
                case measure => simp [intOf]; omega
            · have hG := dinv_done hM hJ (by omega) (by rw [hP2e]; omega)
              clear hJ
              obtain ⟨x, xe, xh, x0, x1⟩ := un21 (u := v) (c := d) hab b3.2 hG
              have hq2 := quo_wrap ⟨hF.1, hF.2.1⟩ ⟨hG.1, hG.2.1⟩; have hq3 := quo_wrap1 ⟨hF.1, hF.2.1⟩ ⟨hG.1, hG.2.1⟩
              go_wp2
              go_ret2
              obtain ⟨y0, y1, y2⟩ := div_fin hs0 z5 z6 hcd vh xh x0 x1
              refine ⟨_, _, rfl, ⟨?_, ?_⟩, ⟨y0, y1⟩, y2, Below.refl _ _⟩
              · have := hF.1; have := hG.1; omega
              · have := hF.2.1; have := hG.2.1; omega
      · have hF := n2 (by omega)
        clear n2 n3
        go_wp2
        go_round
        case rel => exact ⟨k - 1, r + a, rfl, rfl, hF, by omega⟩
        case measure => simp [intOf]; omega
    · have hP := dinv_prod hN hI (by omega)
      obtain ⟨P, hPe⟩ : ∃ P, k * b = P := ⟨_, rfl⟩
      rw [hPe] at hP
      by_cases c2 : 4294967296 * r + c < P
      · obtain ⟨n1, n2, n3⟩ := dinv_next hN hI (.inr (by rw [hPe]; exact c2))
        by_cases c3 : 4294967296 ≤ r + a
        · have hF := n3 c3
          clear n2 n3
          clear hI
          obtain ⟨v, hv, vh, v0, v1⟩ := un21 (u := u) (c := c) hab b3.2 hF
          have hM : DNorm a b d v := div_dnorm hab z4 b3 b4 b5 d4 d5 v1 v0
          obtain ⟨p, hp⟩ : ∃ p, v / a = p := ⟨_, rfl⟩
          obtain ⟨j1, j2, j3, j4⟩ := dinv_start hM hp
          have hvM : v < 18446744073709551616 := by omega
          go_wp2
          go_loop [18, 16] (fun x15 x16 => ∃ q r : Int, x15 = .int .u64 q ∧ x16 = .int .u64 r ∧ DInv v a b d q r ∧ q < 18446744073709551616) (fun x15 _ => (intOf x15).toNat)
          case atStart => exact ⟨p, _, by first | rfl | rw [hp], rfl, j1, by have := Int.ediv_le_self a v0; omega⟩
          case round =>
            clear j1 j2 j3 j4
            obtain ⟨j, f, rfl, rfl, hJ, hjM⟩ := hrel
            have hJ0 := hJ.1; have hJ2 := hJ.2.2.1; have hJ3 := hJ.2.2.2.1
            by_cases e1 : 4294967296 ≤ j
            · obtain ⟨n1, n2, n3⟩ := dinv_next hM hJ (.inl e1)
              by_cases e3 : 4294967296 ≤ f + a
              · have hG := n3 e3
                clear n2 n3 hJ
                obtain ⟨x, xe, xh, x0, x1⟩ := un21 (u := v) (c := d) hab b3.2 hG
                have hq2 := quo_wrap ⟨hF.1, hF.2.1⟩ ⟨hG.1, hG.2.1⟩; have hq3 := quo_wrap1 ⟨hF.1, hF.2.1⟩ ⟨hG.1, hG.2.1⟩
                go_wp2
                go_ret2
                obtain ⟨y0, y1, y2⟩ := div_fin hs0 z5 z6 hcd vh xh x0 x1
                refine ⟨_, _, rfl, ⟨?_, ?_⟩, ⟨y0, y1⟩, y2, Below.refl _ _⟩
                · have := hF.1; have := hG.1; omega
                · have := hF.2.1; have := hG.2.1; omega
              · have hG := n2 (by omega)
                clear n2 n3
                go_wp2
                go_round
                case rel => exact ⟨j - 1, f + a, rfl, rfl, hG, by omega⟩
                case measure => simp [intOf]; omega
            · have hP2 := dinv_prod hM hJ (by omega)
              obtain ⟨P2, hP2e⟩ : ∃ P, j * b = P := ⟨_, rfl⟩
              rw [hP2e] at hP2
              by_cases e2 : 4294967296 * f + d < P2
              · obtain ⟨n1, n2, n3⟩ := dinv_next hM hJ (.inr (by rw [hP2e]; exact e2))
                by_cases e3 : 4294967296 ≤ f + a
                · have hG := n3 e3
                  clear n2 n3 hJ
                  obtain ⟨x, xe, xh, x0, x1⟩ := un21 (u := v) (c := d) hab b3.2 hG
                  have hq2 := quo_wrap ⟨hF.1, hF.2.1⟩ ⟨hG.1, hG.2.1⟩; have hq3 := quo_wrap1 ⟨hF.1, hF.2.1⟩ ⟨hG.1, hG.2.1⟩
                  go_wp2
                  go_ret2
                  obtain ⟨y0, y1, y2⟩ := div_fin hs0 z5 z6 hcd vh xh x0 x1
                  refine ⟨_, _, rfl, ⟨?_, ?_⟩, ⟨y0, y1⟩, y2, Below.refl _ _⟩
                  · have := hF.1; have := hG.1; omega
                  · have := hF.2.1; have := hG.2.1; omega
                · have hG := n2 (by omega)
                  clear n2 n3
                  go_wp2
                  go_round
                  case rel => exact ⟨j - 1, f + a, rfl, rfl, hG, by omega⟩
                  case measure => simp [intOf]; omega
              · have hG := dinv_done hM hJ (by omega) (by rw [hP2e]; omega)
                clear hJ
                obtain ⟨x, xe, xh, x0, x1⟩ := un21 (u := v) (c := d) hab b3.2 hG
                have hq2 := quo_wrap ⟨hF.1, hF.2.1⟩ ⟨hG.1, hG.2.1⟩; have hq3 := quo_wrap1 ⟨hF.1, hF.2.1⟩ ⟨hG.1, hG.2.1⟩
                go_wp2
                go_ret2
                obtain ⟨y0, y1, y2⟩ := div_fin hs0 z5 z6 hcd vh xh x0 x1
                refine ⟨_, _, rfl, ⟨?_, ?_⟩, ⟨y0, y1⟩, y2, Below.refl _ _⟩
                · have := hF.1; have := hG.1; omega
                · have := hF.2.1; have := hG.2.1; omega
        · have hF := n2 (by omega)
          clear n2 n3
          go_wp2
          go_round
          case rel => exact ⟨k - 1, r + a, rfl, rfl, hF, by omega⟩
          case measure => simp [intOf]; omega
      · have hF := dinv_done hN hI (by omega) (by rw [hPe]; omega)
        clear hI
        obtain ⟨v, hv, vh, v0, v1⟩ := un21 (u := u) (c := c) hab b3.2 hF
        have hM : DNorm a b d v := div_dnorm hab z4 b3 b4 b5 d4 d5 v1 v0
        obtain ⟨p, hp⟩ : ∃ p, v / a = p := ⟨_, rfl⟩
        obtain ⟨j1, j2, j3, j4⟩ := dinv_start hM hp
        have hvM : v < 18446744073709551616 := by omega
        go_wp2
        go_loop [18, 16] (fun x15 x16 => ∃ q r : Int, x15 = .int .u64 q ∧ x16 = .int .u64 r ∧ DInv v a b d q r ∧ q < 18446744073709551616) (fun x15 _ => (intOf x15).toNat)
        case atStart => exact ⟨p, _, by first | rfl | rw [hp], rfl, j1, by have := Int.ediv_le_self a v0; omega⟩
        case round =>
          clear j1 j2 j3 j4
          obtain ⟨j, f, rfl, rfl, hJ, hjM⟩ := hrel
          have hJ0 := hJ.1; have hJ2 := hJ.2.2.1; have hJ3 := hJ.2.2.2.1
          by_cases e1 : 4294967296 ≤ j
          · obtain ⟨n1, n2, n3⟩ := dinv_next hM hJ (.inl e1)
            by_cases e3 : 4294967296 ≤ f + a
            · have hG := n3 e3
              clear n2 n3 hJ
              obtain ⟨x, xe, xh, x0, x1⟩ := un21 (u := v) (c := d) hab b3.2 hG
              have hq2 := quo_wrap ⟨hF.1, hF.2.1⟩ ⟨hG.1, hG.2.1⟩; have hq3 := quo_wrap1 ⟨hF.1, hF.2.1⟩ ⟨hG.1, hG.2.1⟩
              go_wp2
              go_ret2
              obtain ⟨y0, y1, y2⟩ := div_fin hs0 z5 z6 hcd vh xh x0 x1
              refine ⟨_, _, rfl, ⟨?_, ?_⟩, ⟨y0, y1⟩, y2, Below.refl _ _⟩
              · have := hF.1; have := hG.1; omega
              · have := hF.2.1; have := hG.2.1; omega
            · have hG := n2 (by omega)
              clear n2 n3
              go_wp2
              go_round
              case rel => exact ⟨j - 1, f + a, rfl, rfl, hG, by omega⟩
              case measure => simp [intOf]; omega
          · have hP2 := dinv_prod hM hJ (by omega)
            obtain ⟨P2, hP2e⟩ : ∃ P, j * b = P := ⟨_, rfl⟩
            rw [hP2e] at hP2
            by_cases e2 : 4294967296 * f + d < P2
            · obtain ⟨n1, n2, n3⟩ := dinv_next hM hJ (.inr (by rw [hP2e]; exact e2))
              by_cases e3 : 4294967296 ≤ f + a
              · have hG := n3 e3
                clear n2 n3 hJ
                obtain ⟨x, xe, xh, x0, x1⟩ := un21 (u := v) (c := d) hab b3.2 hG
                have hq2 := quo_wrap ⟨hF.1, hF.2.1⟩ ⟨hG.1, hG.2.1⟩; have hq3 := quo_wrap1 ⟨hF.1, hF.2.1⟩ ⟨hG.1, hG.2.1⟩
                go_wp2
                go_ret2
                obtain ⟨y0, y1, y2⟩ := div_fin hs0 z5 z6 hcd vh xh x0 x1
                refine ⟨_, _, rfl, ⟨?_, ?_⟩, ⟨y0, y1⟩, y2, Below.refl _ _⟩
                · have := hF.1; have := hG.1; omega
                · have := hF.2.1; have := hG.2.1; omega
              · have hG := n2 (by omega)
                clear n2 n3
                go_wp2
                go_round
                case rel => exact ⟨j - 1, f + a, rfl, rfl, hG, by omega⟩
                case measure => simp [intOf]; omega
            · have hG := dinv_done hM hJ (by omega) (by rw [hP2e]; omega)
              clear hJ
              obtain ⟨x, xe, xh, x0, x1⟩ := un21 (u := v) (c := d) hab b3.2 hG
              have hq2 := quo_wrap ⟨hF.1, hF.2.1⟩ ⟨hG.1, hG.2.1⟩; have hq3 := quo_wrap1 ⟨hF.1, hF.2.1⟩ ⟨hG.1, hG.2.1⟩
              go_wp2
              go_ret2
              obtain ⟨y0, y1, y2⟩ := div_fin hs0 z5 z6 hcd vh xh x0 x1
              refine ⟨_, _, rfl, ⟨?_, ?_⟩, ⟨y0, y1⟩, y2, Below.refl _ _⟩
              · have := hF.1; have := hG.1; omega
              · have := hF.2.1; have := hG.2.1; omega
end Go.Proofs.Ytjhjgncnadhbhaa

/- num.noughts. -/
namespace Go.Proofs.Ytjhjgncnadhbhaa
open Go.RowKit Go.Shelf
attribute [local go_sem] Oper.semAt_some

theorem kp_set {B : Nat} {W : World} {b o : Nat} {v : Value} (h : B ≠ b) : KpB B W (W.setCell ⟨b, o, none⟩ v).drew :=
  Below.heap_setCell W ⟨b, o, none⟩ v B h

theorem nought_T {x s : Int} (h5 : 0 ≤ s) (h6 : s < 64) (h7 : 9223372036854775808 ≤ x * 2 ^ s.toNat ∧ x * 2 ^ s.toNat < 18446744073709551616) : x * 2 ^ s.toNat + 2 ^ s.toNat ≤ 18446744073709551616 ∧ (0 : Int) < 2 ^ s.toNat := by
  obtain ⟨t, rfl⟩ := Int.eq_ofNat_of_zero_le h5
  rw [Int.toNat_natCast] at *
  obtain ⟨hTU, hT, hU, hT2⟩ := pow_split t (by omega)
  generalize (2 : Int) ^ t = T at *
  generalize (2 : Int) ^ (64 - t) = U at *
  have h1 : x < U := by
    apply Int.lt_of_mul_lt_mul_right (a := T) _ (by omega)
    rw [Int.mul_comm U T, hTU]; exact h7.2
  have h2 : (x + 1) * T ≤ U * T := Int.mul_le_mul_of_nonneg_right (by omega) (by omega)
  rw [Int.mul_comm U T, hTU, Int.add_mul] at h2
  exact ⟨by omega, hT⟩

theorem nought_0 {V x t s : Int} (h5 : 0 ≤ s) (h6 : s < 64) (h7 : 9223372036854775808 ≤ x * 2 ^ s.toNat ∧ x * 2 ^ s.toNat < 18446744073709551616) (hV : V = x * 6277101735386680763835789423207666416102355444464034512896 + t) (ht : 0 ≤ t ∧ t < 6277101735386680763835789423207666416102355444464034512896) :
    57896044618658097711785492504343953926634992332820282019728792003956564819968 ≤ V * 2 ^ (0 + s).toNat ∧ V * 2 ^ (0 + s).toNat < 115792089237316195423570985008687907853269984665640564039457584007913129639936 := by
  obtain ⟨g1, g2⟩ := nought_T h5 h6 h7
  have e : (2 : Int) ^ (0 + s).toNat = 1 * 2 ^ s.toNat := by
    rw [show (0 + s).toNat = 0 + s.toNat by omega, Int.pow_add]; rfl
  rw [e]
  generalize (2 : Int) ^ s.toNat = T at *
  have e1 : V * (1 * T) = x * T * 6277101735386680763835789423207666416102355444464034512896 + t * T * 1 := by rw [hV]; grind
  have e2 : t * T ≤ 6277101735386680763835789423207666416102355444464034512895 * T := Int.mul_le_mul_of_nonneg_right (by omega) (by omega)
  have e3 : 0 ≤ t * T := Int.mul_nonneg ht.1 (by omega)
  rw [e1]
  generalize t * T = A at *
  generalize x * T = B at *
  omega

theorem nought_1 {V x t s : Int} (h5 : 0 ≤ s) (h6 : s < 64) (h7 : 9223372036854775808 ≤ x * 2 ^ s.toNat ∧ x * 2 ^ s.toNat < 18446744073709551616) (hV : V = x * 340282366920938463463374607431768211456 + t) (ht : 0 ≤ t ∧ t < 340282366920938463463374607431768211456) :
    57896044618658097711785492504343953926634992332820282019728792003956564819968 ≤ V * 2 ^ (64 + s).toNat ∧ V * 2 ^ (64 + s).toNat < 115792089237316195423570985008687907853269984665640564039457584007913129639936 := by
  obtain ⟨g1, g2⟩ := nought_T h5 h6 h7
  have e : (2 : Int) ^ (64 + s).toNat = 18446744073709551616 * 2 ^ s.toNat := by
    rw [show (64 + s).toNat = 64 + s.toNat by omega, Int.pow_add]; rfl
  rw [e]
  generalize (2 : Int) ^ s.toNat = T at *
  have e1 : V * (18446744073709551616 * T) = x * T * 6277101735386680763835789423207666416102355444464034512896 + t * T * 18446744073709551616 := by rw [hV]; grind
  have e2 : t * T ≤ 340282366920938463463374607431768211455 * T := Int.mul_le_mul_of_nonneg_right (by omega) (by omega)
  have e3 : 0 ≤ t * T := Int.mul_nonneg ht.1 (by omega)
  rw [e1]
  generalize t * T = A at *
  generalize x * T = B at *
  omega

theorem nought_2 {V x t s : Int} (h5 : 0 ≤ s) (h6 : s < 64) (h7 : 9223372036854775808 ≤ x * 2 ^ s.toNat ∧ x * 2 ^ s.toNat < 18446744073709551616) (hV : V = x * 18446744073709551616 + t) (ht : 0 ≤ t ∧ t < 18446744073709551616) :
    57896044618658097711785492504343953926634992332820282019728792003956564819968 ≤ V * 2 ^ (128 + s).toNat ∧ V * 2 ^ (128 + s).toNat < 115792089237316195423570985008687907853269984665640564039457584007913129639936 := by
  obtain ⟨g1, g2⟩ := nought_T h5 h6 h7
  have e : (2 : Int) ^ (128 + s).toNat = 340282366920938463463374607431768211456 * 2 ^ s.toNat := by
    rw [show (128 + s).toNat = 128 + s.toNat by omega, Int.pow_add]; rfl
  rw [e]
  generalize (2 : Int) ^ s.toNat = T at *
  have e1 : V * (340282366920938463463374607431768211456 * T) = x * T * 6277101735386680763835789423207666416102355444464034512896 + t * T * 340282366920938463463374607431768211456 := by rw [hV]; grind
  have e2 : t * T ≤ 18446744073709551615 * T := Int.mul_le_mul_of_nonneg_right (by omega) (by omega)
  have e3 : 0 ≤ t * T := Int.mul_nonneg ht.1 (by omega)
  rw [e1]
  generalize t * T = A at *
  generalize x * T = B at *
  omega

theorem nought_3 {V x t s : Int} (h5 : 0 ≤ s) (h6 : s < 64) (h7 : 9223372036854775808 ≤ x * 2 ^ s.toNat ∧ x * 2 ^ s.toNat < 18446744073709551616) (hV : V = x * 1 + t) (ht : 0 ≤ t ∧ t < 1) :
    57896044618658097711785492504343953926634992332820282019728792003956564819968 ≤ V * 2 ^ (192 + s).toNat ∧ V * 2 ^ (192 + s).toNat < 115792089237316195423570985008687907853269984665640564039457584007913129639936 := by
  obtain ⟨g1, g2⟩ := nought_T h5 h6 h7
  have e : (2 : Int) ^ (192 + s).toNat = 6277101735386680763835789423207666416102355444464034512896 * 2 ^ s.toNat := by
    rw [show (192 + s).toNat = 192 + s.toNat by omega, Int.pow_add]; rfl
  rw [e]
  generalize (2 : Int) ^ s.toNat = T at *
  have e1 : V * (6277101735386680763835789423207666416102355444464034512896 * T) = x * T * 6277101735386680763835789423207666416102355444464034512896 + t * T * 6277101735386680763835789423207666416102355444464034512896 := by rw [hV]; grind
  have e2 : t * T ≤ 0 * T := Int.mul_le_mul_of_nonneg_right (by omega) (by omega)
  have e3 : 0 ≤ t * T := Int.mul_nonneg ht.1 (by omega)
  rw [e1]
  generalize t * T = A at *
  generalize x * T = B at *
  omega

theorem nought_val {x0 x1 x2 x3 s : Int} (hx : Lim x0 x1 x2 x3) {init : List Limb} {x : Limb} (hp : init ++ [x] <+: limbsDown hx) (h3 : ∀ p ∈ init, p.1.2 = 0) (h5 : 0 ≤ s) (h6 : s < 64)
    (h7 : Hid (9223372036854775808 ≤ x.1.2 * 2 ^ s.toNat ∧ x.1.2 * 2 ^ s.toNat < 18446744073709551616)) :
    Hid (57896044618658097711785492504343953926634992332820282019728792003956564819968 ≤ val x0 x1 x2 x3 * 2 ^ (64 * (init.length : Int) + s).toNat ∧ val x0 x1 x2 x3 * 2 ^ (64 * (init.length : Int) + s).toNat < 115792089237316195423570985008687907853269984665640564039457584007913129639936) := by
  have h7 := h7.out
  unfold Hid
  obtain ⟨t, ht⟩ := hp
  unfold limbsDown at ht
  unfold Lim at hx
  match init, h3, ht with
  | [], h3, ht =>
    simp at ht
    obtain ⟨rfl, -⟩ := ht
    exact nought_0 (t := x0 + x1 * 18446744073709551616 + x2 * 340282366920938463463374607431768211456) h5 h6 h7 (by unfold val; simp only [limb]; omega) ⟨by omega, by omega⟩
  | [a], h3, ht =>
    simp at ht h3
    obtain ⟨rfl, rfl, -⟩ := ht
    simp only [limb] at h3
    exact nought_1 (t := x0 + x1 * 18446744073709551616) h5 h6 h7 (by unfold val; simp only [limb]; omega) ⟨by omega, by omega⟩
  | [a, b], h3, ht =>
    simp at ht h3
    obtain ⟨rfl, rfl, rfl, -⟩ := ht
    simp only [limb] at h3
    exact nought_2 (t := x0) h5 h6 h7 (by unfold val; simp only [limb]; omega) ⟨by omega, by omega⟩
  | [a, b, c], h3, ht =>
    simp at ht h3
    obtain ⟨rfl, rfl, rfl, rfl, -⟩ := ht
    simp only [limb] at h3
    exact nought_3 (t := 0) h5 h6 h7 (by unfold val; simp only [limb]; omega) ⟨by omega, by omega⟩
  | a :: b :: c :: d :: r, h3, ht =>
    have := congrArg List.length ht
    simp at this

set_option maxRecDepth 100000 in
set_option maxHeartbeats 4000000 in
theorem noughts_any (x0 x1 x2 x3 : Int) (hx : Lim x0 x1 x2 x3) (hpos : 0 < val x0 x1 x2 x3) (w : World) :
    Calls Try.prog 102 #[.agg #[.int .u64 x0, .int .u64 x1, .int .u64 x2, .int .u64 x3]] w fun e w' => ∃ k : Int, e = .returned (.int .i64 k) ∧ 0 ≤ k ∧ k < 256 ∧ Hid (57896044618658097711785492504343953926634992332820282019728792003956564819968 ≤ val x0 x1 x2 x3 * 2 ^ k.toNat ∧ val x0 x1 x2 x3 * 2 ^ k.toNat < 115792089237316195423570985008687907853269984665640564039457584007913129639936) ∧ Below w.heap.size w w' := by
  refine (callsIn_wide (n := 8)).1 ?_
  have hfn : ∀ f, Fence.wide.fn f := fun _ => trivial
  refine callsIn_of_wp_marks Try.func102 rfl trivial ?_ rfl
  simp only [Try.ntmps102, List.size_toArray, List.length_cons, List.length_nil, Nat.reduceAdd, Nat.reduceSub, Array.replicate_succ, Array.replicate_zero, List.push_toArray, List.append_toArray, List.nil_append, List.cons_append]
  gi_wp2_with (gi_at_call 100; refine (callsIn_wide.2 (down_any _ _ _ _ _)).mono ?_; rintro e w' ⟨rfl, rfl⟩)
  refine wpIn_rangeFunc_ownF rfl (by omega) (gf := 109) (lb := #[.pointer (some ⟨w.heap.size + 1 + 1, 0, none⟩)]) rfl trivial (enters_of Try.func109 (by kernel_rfl) rfl)
    (down_stops 7 (by omega) (w.heap.size + 1 + 1) hx 64 _ (by (repeat (first | (with_reducible exact al_at (by simp [pad_size])) | (with_reducible refine Eq.trans (dr_blk _ _) ?_) | (with_reducible refine Eq.trans (al_old (by first | omega | (simp [pad_size]; done) | (simp [pad_size]; omega))) ?_) | (with_reducible refine Eq.trans (pad_block (by first | omega | (simp [pad_size]; done) | (simp [pad_size]; omega)) (by first | omega | (simp [pad_size]; done) | (simp [pad_size]; omega))) ?_) | (with_reducible assumption))))) (fun h k => Eq.trans k h) (fun W l o o' hl h _ _ => ?hkb) (Below.refl _ _) (fun _ => rfl)
    (fun pre W => (W.heap[w.heap.size + 1]? = some (.cells #[.int .i64 (64 * (pre.length : Int))] 3 (0, 0)) ∧ (∀ p ∈ pre, p.1.2 = 0)) ∧ Below w.heap.size w W)
    (fun c pre W => (c = .exit 0 ∧ ∃ (init : List Limb) (x : Limb) (s : Int), pre = init ++ [x] ∧ (∀ p ∈ init, p.1.2 = 0) ∧ init.length < 4 ∧ 0 ≤ s ∧ s < 64 ∧ Hid (9223372036854775808 ≤ x.1.2 * 2 ^ s.toNat ∧ x.1.2 * 2 ^ s.toNat < 18446744073709551616) ∧ W.heap[w.heap.size + 1]? = some (.cells #[.int .i64 (64 * (init.length : Int) + s)] 3 (0, 0))) ∧ Below w.heap.size w W)
    (OwnFrom.and (Own.from (fun s A B row hs hg hr => ⟨block_kept hs.1 hg hr, hs.2⟩) _) (ownFrom_below (Nat.le_refl _) (by simp; omega)))
    (fun c => OwnFrom.and (Own.from (fun s A B row hs hg hr => by obtain ⟨h1, init, x, s, h2, h3, h4, h5, h6, h7, h8⟩ := hs; exact ⟨h1, init, x, s, h2, h3, h4, h5, h6, h7, block_kept h8 hg hr⟩) _) (ownFrom_below (Nat.le_refl _) (by simp; omega)))
    ⟨⟨by show _ = some (Obj.cells #[.int .i64 0] 3 (0, 0)); (repeat (first | (with_reducible exact al_at (by simp [pad_size])) | (with_reducible refine Eq.trans (dr_blk _ _) ?_) | (with_reducible refine Eq.trans (al_old (by first | omega | (simp [pad_size]; done) | (simp [pad_size]; omega))) ?_) | (with_reducible refine Eq.trans (pad_block (by first | omega | (simp [pad_size]; done) | (simp [pad_size]; omega)) (by first | omega | (simp [pad_size]; done) | (simp [pad_size]; omega))) ?_) | (with_reducible assumption))), by simp⟩, by (repeat (first | (with_reducible exact Below.refl _ _) | (with_reducible assumption) | (with_reducible apply bd) | (with_reducible apply ba) | (with_reducible refine bp ?_ (by first | omega | (simp [pad_size]; done) | (simp [pad_size]; omega)) _ _) | (with_reducible refine bs ?_ (by first | omega | (simp [pad_size]; done) | (simp [pad_size]; omega)) _) | (with_reducible refine bt ?_ (by assumption))))⟩
    (fun x => { tmps := #[.agg #[.int .u64 x0, .int .u64 x1, .int .u64 x2, .int .u64 x3], .pointer (some ⟨w.heap.size, 0, none⟩), .int .i64 0, .pointer (some ⟨w.heap.size + 1, 0, none⟩), undef, .int .u64 x.1.2, .agg #[.int .u64 x0, .int .u64 x1, .int .u64 x2, .int .u64 x3], .func (.func 109) #[] #[.pointer (some ⟨w.heap.size + 1 + 1, 0, none⟩)], .int .i64 (x.1.1 : Int), .int .u64 x.1.2, undef, undef, undef, undef, undef, undef, undef], defers := [] }) ?assign ?body ?done ?stop
  case hkb =>
    unfold KpB
    rw [World.putObj_heap_other]
    intro e; simp at hl; omega
  case assign =>
    intro l x W K hK
    gi_wp2
    exact hK
  case body =>
    rintro l pre ⟨⟨i, v⟩, hi, hv⟩ W ⟨⟨hb1, hp⟩, hB⟩ hlen
    obtain ⟨c1, f1⟩ := cells_of_block hb1
    dsimp only at hi hv
    have hmx : Try.prog.follows .mixedOrders = true := by kernel_rfl
    have hb64 : bitLen (0 : Int).toNat = 0 := rfl
    have hl0 : 0 ≤ 64 * (pre.length : Int) := by omega
    have hl1 : 64 * (pre.length : Int) ≤ 192 := by omega
    by_cases hv0 : v = 0
    · subst hv0
      gi_wp2
      gi_region_with_o (gi_at_call 111; refine (CallsIn.inRound l (callsIn_wide.2 (lead64_any 0 (by omega) (by omega) _))).mono ?_; rintro e w' ⟨rfl, rfl⟩; rw [hb64])
      all_goals gi_wp2
      all_goals exact ⟨(KeepsOthers.setCell _ _ _).trans (KeepsOthers.drew _), kp_set (by omega), ⟨by have := block_set (i := 0) (.int .i64 (64 * (pre.length : Int) + 64)) hb1; rw [dr_blk]; simpa [Int.mul_add] using this, fun p hpm => (List.mem_append.1 hpm).elim (hp p) (fun e => by simp at e; subst e; rfl)⟩, (hB.setCell (p := ⟨w.heap.size + 1, 0, none⟩) (by simp) _).drew⟩
    · have hvb : (v != 0) = true := by simpa using hv0
      gi_wp2
      gi_region_with_o (gi_at_call 111; refine (CallsIn.inRound l (callsIn_wide.2 (lead64_pos v (by omega) hv.2 _))).mono ?_; rintro e w' ⟨s, rfl, hs0, hs1, hs2, rfl⟩)
      all_goals gi_wp2
      all_goals exact ⟨(KeepsOthers.setCell _ _ _).trans (KeepsOthers.drew _), ⟨rfl, pre, _, s, rfl, hp, hlen, hs0, hs1, hs2, by have := block_set (i := 0) (.int .i64 (64 * (pre.length : Int) + s)) hb1; rw [dr_blk]; simpa using this⟩, (hB.setCell (p := ⟨w.heap.size + 1, 0, none⟩) (by simp) _).drew⟩
  case done =>
    rintro D ys W hD rfl ⟨⟨hb1, hp⟩, hB⟩ hK
    exfalso
    simp [limbsDown, limb] at hp
    obtain ⟨rfl, rfl, rfl, rfl⟩ := hp
    rw [val0] at hpos; omega
  case stop =>
    rintro D c pre W hD hpre ⟨⟨rfl, init, x, s, rfl, h3, h4, h5, h6, h7, h8⟩, hB⟩ hK
    obtain ⟨c1, f1⟩ := cells_of_block h8
    gi_wp2
    refine ⟨by simp, .inl ⟨_, _, rfl, run_takeDeferred hK, ?_⟩⟩
    refine ⟨.int .i64 (64 * (init.length : Int) + s), ?_, _, rfl, by omega, by omega, nought_val hx hpre h3 h5 h6 h7, hB.trans (belowK_b (w := w) (Nat.le_refl _) W D _ _ (by simp at hD; omega) hK rfl rfl)⟩
    simp [results, Try.results102, go_sem]
end Go.Proofs.Ytjhjgncnadhbhaa


/- num.Bytes. -/
namespace Go.Proofs.Ytjhjgncnadhbhaa
open Go.RowKit Go.Shelf
attribute [local go_sem] Oper.semAt_some

/-- One byte more, none too many ahead. -/
def stepB (p : List Int) (b : Int) : List Int := if p = [] ∧ b = 0 then p else p ++ [b]
/-- The first j bytes of a part, the highest first. -/
def partB (p : List Int) (v : Int) : Nat → List Int
  | 0 => p
  | j + 1 => stepB (partB p v j) (v / 2 ^ (56 - 8 * j) % 256)
def bytesB (pre : List Limb) : List Int := pre.foldl (fun p x => partB p x.1.2 8) []
theorem bytesB_snoc (pre : List Limb) (x : Limb) : bytesB (pre ++ [x]) = partB (bytesB pre) x.1.2 8 := by simp [bytesB]
theorem stepB_len (p : List Int) (b : Int) : (stepB p b).length ≤ p.length + 1 := by unfold stepB; split <;> simp
theorem partB_len (p : List Int) (v : Int) (j : Nat) : (partB p v j).length ≤ p.length + j := by
  induction j with
  | zero => simp [partB]
  | succ j ih => have := stepB_len (partB p v j) (v / 2 ^ (56 - 8 * j) % 256); simp only [partB]; omega
theorem bytesB_len' (pre : List Limb) (p : List Int) : (pre.foldl (fun p x => partB p x.1.2 8) p).length ≤ p.length + 8 * pre.length := by
  induction pre generalizing p with
  | nil => simp
  | cons x pre ih => have := ih (partB p x.1.2 8); have := partB_len p x.1.2 8; simp only [List.foldl_cons, List.length_cons]; omega
theorem bytesB_len (pre : List Limb) : (bytesB pre).length ≤ 8 * pre.length := by have := bytesB_len' pre []; simpa [bytesB] using this
theorem block_row {W w1 : World} {B : Nat} {o tmp : Obj} {r : Option Nat} (h : W.heap[B]? = some o) (hr : some B ≠ r) (hg : (W.alloc tmp).grownBy w1 r) : w1.heap[B]? = some o := by
  have hl : B < W.heap.size := (Array.getElem?_eq_some_iff.1 h).1
  exact (hg.block B (by simp; omega) hr).trans ((World.grownBy_alloc W tmp none).block B hl (by simp) |>.trans h)
theorem step_hit {p : List Int} {b : Int} (h : ¬ (p = [] ∧ b = 0)) : stepB p b = p ++ [b] := if_neg h
theorem step_miss {p : List Int} {b : Int} (h : p = [] ∧ b = 0) : stepB p b = p := if_pos h
theorem encB_snoc (p : List Int) (b : Int) : encB (p ++ [b]) = encB p ++ [.int .u8 b] := by simp [encB]

set_option maxRecDepth 100000 in
set_option maxHeartbeats 4000000 in
theorem bytes_any (x0 x1 x2 x3 : Int) (hx : Lim x0 x1 x2 x3) (w : World) :
    Calls Try.prog 93 #[.agg #[.int .u64 x0, .int .u64 x1, .int .u64 x2, .int .u64 x3]] w fun e w' => ∃ v : Value, e = .returned v ∧ w'.ownsRow w.heap.size 5 1 v (bytesB (limbsDown hx)).length (encB (bytesB (limbsDown hx))) ∧ Below w.heap.size w w' := by
  refine (callsIn_wide (n := 8)).1 ?_
  have hfn : ∀ f, Fence.wide.fn f := fun _ => trivial
  obtain ⟨i0, hi, hz0, hz1, hz2⟩ := info_parts u8_info
  refine callsIn_of_wp_marks Try.func93 rfl trivial ?_ rfl
  simp only [Try.ntmps93, List.size_toArray, List.length_cons, List.length_nil, Nat.reduceAdd, Nat.reduceSub, Array.replicate_succ, Array.replicate_zero, List.push_toArray, List.append_toArray, List.nil_append, List.cons_append]
  gi_wp2_with (gi_at_call 100; refine (callsIn_wide.2 (down_any _ _ _ _ _)).mono ?_; rintro e w' ⟨rfl, rfl⟩)
  refine wpIn_rangeFunc_ownF rfl (by omega) (gf := 109) (lb := #[.pointer (some ⟨w.heap.size + 1 + 1, 0, none⟩)]) rfl trivial (enters_of Try.func109 (by kernel_rfl) rfl)
    (down_stops 7 (by omega) (w.heap.size + 1 + 1) hx 64 _ (by (repeat (first | (with_reducible exact al_at (by simp [pad_size])) | (with_reducible refine Eq.trans (dr_blk _ _) ?_) | (with_reducible refine Eq.trans (al_old (by first | omega | (simp [pad_size]; done) | (simp [pad_size]; omega))) ?_) | (with_reducible refine Eq.trans (pad_block (by first | omega | (simp [pad_size]; done) | (simp [pad_size]; omega)) (by first | omega | (simp [pad_size]; done) | (simp [pad_size]; omega))) ?_) | (with_reducible assumption))))) (fun h k => Eq.trans k h) (fun W l o o' hl h _ _ => ?hkb) (Below.refl _ _) (fun _ => rfl)
    (fun pre W => ((∃ u, Boxed W (w.heap.size + 1) 42 u ∧ W.ownsRow w.heap.size 5 1 u (bytesB pre).length (encB (bytesB pre)) ∧ True) ∧ W.heap[w.heap.size + 1 + 1]? = some (.cells #[.int .u64 x0, .int .u64 x1, .int .u64 x2, .int .u64 x3] 64 (0, 0))) ∧ Below w.heap.size w W)
    (fun c pre W => False)
    (OwnFrom.and (Own.from (fun s A B row hs hg hr => ⟨holdsRow_own w.heap.size (w.heap.size + 1) 42 5 1 (fun pre => (bytesB pre).length) (fun pre => encB (bytesB pre)) (fun _ _ => True) s A B row hs.1 hg hr, block_kept hs.2 hg hr⟩) _) (ownFrom_below (Nat.le_refl _) (by simp; omega)))
    (fun _ _ _ _ _ hs _ _ => hs)
    ⟨⟨⟨_, by show _ = some (Obj.cells #[.slice none 0 0] 42 (0, 0)); (repeat (first | (with_reducible exact al_at (by simp [pad_size])) | (with_reducible refine Eq.trans (dr_blk _ _) ?_) | (with_reducible refine Eq.trans (al_old (by first | omega | (simp [pad_size]; done) | (simp [pad_size]; omega))) ?_) | (with_reducible refine Eq.trans (pad_block (by first | omega | (simp [pad_size]; done) | (simp [pad_size]; omega)) (by first | omega | (simp [pad_size]; done) | (simp [pad_size]; omega))) ?_) | (with_reducible assumption))), World.ownsRow_nil _ _ _ _, trivial⟩, by (repeat (first | (with_reducible exact al_at (by simp [pad_size])) | (with_reducible refine Eq.trans (dr_blk _ _) ?_) | (with_reducible refine Eq.trans (al_old (by first | omega | (simp [pad_size]; done) | (simp [pad_size]; omega))) ?_) | (with_reducible refine Eq.trans (pad_block (by first | omega | (simp [pad_size]; done) | (simp [pad_size]; omega)) (by first | omega | (simp [pad_size]; done) | (simp [pad_size]; omega))) ?_) | (with_reducible assumption)))⟩, by (repeat (first | (with_reducible exact Below.refl _ _) | (with_reducible assumption) | (with_reducible apply bd) | (with_reducible apply ba) | (with_reducible refine bp ?_ (by first | omega | (simp [pad_size]; done) | (simp [pad_size]; omega)) _ _) | (with_reducible refine bs ?_ (by first | omega | (simp [pad_size]; done) | (simp [pad_size]; omega)) _) | (with_reducible refine bt ?_ (by assumption))))⟩
    (fun x => { tmps := #[.agg #[.int .u64 x0, .int .u64 x1, .int .u64 x2, .int .u64 x3], .pointer (some ⟨w.heap.size, 0, none⟩), .slice none 0 0, .pointer (some ⟨w.heap.size + 1, 0, none⟩), undef, .int .u64 x.1.2, undef, undef, .agg #[.int .u64 x0, .int .u64 x1, .int .u64 x2, .int .u64 x3], .func (.func 109) #[] #[.pointer (some ⟨w.heap.size + 1 + 1, 0, none⟩)], .int .i64 (x.1.1 : Int), .int .u64 x.1.2, undef, undef, undef, undef, undef, undef, undef, undef, undef, undef, undef, undef, undef, undef, undef, undef, undef, undef, undef, undef], defers := [] }) ?assign ?body ?done ?stop
  case hkb =>
    unfold KpB
    rw [World.putObj_heap_other]
    intro e; simp at hl; omega
  case assign =>
    intro l x W K hK
    gi_wp2
    exact hK
  case body =>
    rintro l pre ⟨⟨i, v⟩, hi', hv⟩ W ⟨⟨⟨u, hu, hrow, -⟩, hblk⟩, hB⟩ hlen
    dsimp only at hi' hv
    gi_wp2
    gi_loopw [6] (fun s wr => ∃ j : Nat, j ≤ 8 ∧ s = .int .i64 (56 - 8 * (j : Int)) ∧ (∃ u, Boxed wr (w.heap.size + 1) 42 u ∧ wr.ownsRow w.heap.size 5 1 u (partB (bytesB pre) v j).length (encB (partB (bytesB pre) v j))) ∧ wr.heap[w.heap.size + 1 + 1]? = some (.cells #[.int .u64 x0, .int .u64 x1, .int .u64 x2, .int .u64 x3] 64 (0, 0)) ∧ Below w.heap.size w wr ∧ KeepsOthers W wr) (fun s _ => (intOf s + 8).toNat)
    case atStart => exact ⟨0, by omega, rfl, ⟨u, hu, hrow⟩, hblk, hB, KeepsOthers.refl _⟩
    case round =>
      clear hu hrow hB
      obtain ⟨j, hj, rfl, ⟨u, hu, hrow⟩, hblk1, hB, hko⟩ := hrel
      by_cases hlt : j < 8
      · obtain ⟨s, hs⟩ : ∃ s : Nat, s = 56 - 8 * j := ⟨_, rfl⟩
        have hsi : (56 - 8 * (j : Int)) = (s : Int) := by omega
        rw [hsi]
        obtain ⟨b, hb⟩ : ∃ b, b = v / 2 ^ s % 256 := ⟨_, rfl⟩
        have hw8 : v / 2 ^ s % 256 = b := hb.symm
        have hs56 : s ≤ 56 := by omega
        have hpl : (partB (bytesB pre) v j).length ≤ 40 := by have := partB_len (bytesB pre) v j; have := bytesB_len pre; omega
        have hc := hu.cell
        have hnx : partB (bytesB pre) v (j + 1) = stepB (partB (bytesB pre) v j) b := by rw [hb, hs]; rfl
        have hnr := not_row (e := 5) hblk1 (by decide) hrow
        have hs' : Hid (s = 56 - 8 * j) := hs
        clear hb hs hsi
        generalize partB (bytesB pre) v j = p at *
        by_cases hm : p = [] ∧ b = 0
        · obtain ⟨rfl, rfl⟩ := hm
          obtain ⟨a', cap', rfl⟩ := row_slice hrow
          gi_wp2
          go_roundw
          case rel => exact ⟨j + 1, by omega, by have := hs'.out; go_num, ⟨_, hu, by rw [hnx, step_miss ⟨rfl, rfl⟩]; exact hrow⟩, hblk1, hB, hko⟩
          case measure => have := hs'.out; simp [intOf]; omega
        obtain ⟨k, hk⟩ : ∃ k, k = p.length := ⟨_, rfl⟩
        have hk' : Hid (k = p.length) := hk
        rw [← hk] at hrow hpl
        clear hk
        obtain ⟨a', cap', rfl⟩ := row_slice hrow
        by_cases hk0 : k = 0
        · subst hk0
          have hb0 : ¬ b = 0 := fun e => hm ⟨List.eq_nil_of_length_eq_zero hk'.out.symm, e⟩
          gi_wp2_with (gi_at_builtin; refine wpListIn_append_own _ rfl _ _ 42 rfl w.heap.size 5 i0 (.int .u8 0) 1 1 Try.underlying42 hi hz0 hz1 hz2 rfl (by decide) _ _ _ rfl (hrow.alloc _) ⟨wr.heap.size, 0, none⟩ 1 1 [.int .u8 b] rfl rfl (cell_one_new _ _ _) (by simp [Value.oneCell']) (by unfold maxLen; omega) (by omega) (by have := hB.size; simp; omega) ?_; intro v' w1 hown' hgrow _; obtain ⟨g', cap'', rfl⟩ := ownsRow_succ hown'; obtain ⟨hv1, hv2, hr2, hk2, hb2⟩ := hu.appended (by decide) hrow hB.size (by omega) hown' hgrow; have hc1 := hv1.cell; have hf1 := hv1.frozen; have hbk := block_row hblk1 hnr hgrow)
          go_roundw
          case rel => exact ⟨j + 1, by omega, by have := hs'.out; go_num, ⟨_, hv2, by rw [hnx, step_hit hm, List.length_append, encB_snoc, ← hk'.out]; exact hr2⟩, (Below.heap_setCell _ _ _ _ (by simp)).trans hbk, hB.trans hb2, hko.trans hk2⟩
          case measure => have := hs'.out; simp [intOf]; omega
        · have hkp : 0 < (k : Int) := by omega
          gi_wp2_with (gi_at_builtin; refine wpListIn_append_own _ rfl _ _ 42 rfl w.heap.size 5 i0 (.int .u8 0) 1 1 Try.underlying42 hi hz0 hz1 hz2 rfl (by decide) _ _ _ rfl (hrow.alloc _) ⟨wr.heap.size, 0, none⟩ 1 1 [.int .u8 b] rfl rfl (cell_one_new _ _ _) (by simp [Value.oneCell']) (by unfold maxLen; omega) (by omega) (by have := hB.size; simp; omega) ?_; intro v' w1 hown' hgrow _; obtain ⟨g', cap'', rfl⟩ := ownsRow_succ hown'; obtain ⟨hv1, hv2, hr2, hk2, hb2⟩ := hu.appended (by decide) hrow hB.size (by omega) hown' hgrow; have hc1 := hv1.cell; have hf1 := hv1.frozen; have hbk := block_row hblk1 hnr hgrow)
          go_roundw
          case rel => exact ⟨j + 1, by omega, by have := hs'.out; go_num, ⟨_, hv2, by rw [hnx, step_hit hm, List.length_append, encB_snoc, ← hk'.out]; exact hr2⟩, (Below.heap_setCell _ _ _ _ (by simp)).trans hbk, hB.trans hb2, hko.trans hk2⟩
          case measure => have := hs'.out; simp [intOf]; omega
      · have hj8 : j = 8 := by omega
        subst hj8
        gi_wp2
        exact ⟨hko, hblk1.trans hblk.symm, ⟨⟨u, hu, by rw [bytesB_snoc]; exact hrow, trivial⟩, hblk1⟩, hB⟩
  case done =>
    rintro D ys W hD rfl ⟨⟨⟨u, hu, hrow, -⟩, hblk⟩, hB⟩ hK
    have hc := hu.cell
    gi_wp2
    refine ⟨by simp, .inl ⟨_, _, rfl, run_takeDeferred hK, ?_⟩⟩
    exact ⟨_, results_tmp rfl _ _ _, u, rfl, ownsRow_putObj hrow _ hK rfl, hB.trans (belowK_b (w := w) (Nat.le_refl _) W D _ _ (by simp at hD; omega) hK rfl rfl)⟩
  case stop =>
    rintro D c pre W _ _ h _
    exact h.elim
end Go.Proofs.Ytjhjgncnadhbhaa


/- The reference's Same, of bytes; num.Parse of "007". -/
namespace Go.Proofs.Ytjhjgncnadhbhaa
open Go.RowKit

end Go.Proofs.Ytjhjgncnadhbhaa

/- Bytes of a number, the highest first, and back: plain facts. -/
namespace Go.Proofs.Ytjhjgncnadhbhaa
open Go.RowKit

/-- The first j of the 32 bytes, none too many ahead. -/
def byL (n : Int) : Nat → List Int
  | 0 => []
  | j + 1 => stepB (byL n j) (n / 256 ^ (31 - j) % 256)
def rd (p : List Int) : Int := p.foldl (fun a b => a * 256 + b) 0
theorem rd_nil : rd [] = 0 := rfl
theorem rd_snoc (p : List Int) (b : Int) : rd (p ++ [b]) = rd p * 256 + b := by simp [rd]
theorem rd_step (p : List Int) (b : Int) : rd (stepB p b) = rd p * 256 + b := by
  unfold stepB; split
  · rename_i h; rw [h.1, h.2]; rfl
  · exact rd_snoc p b
theorem div_256 (n : Int) (k : Nat) : n / 256 ^ k = n / 256 ^ (k + 1) * 256 + n / 256 ^ k % 256 := by
  have e : n / 256 ^ (k + 1) = n / 256 ^ k / 256 := by
    rw [Int.pow_succ]
    first
      | exact (Int.ediv_ediv_eq_ediv_mul _ (Int.pow_nonneg (by decide))).symm
      | exact (Int.ediv_ediv (Int.pow_nonneg (by decide))).symm
      | exact (Int.ediv_ediv_of_nonneg (Int.pow_nonneg (by decide))).symm
  rw [e]
  generalize n / 256 ^ k = q
  omega
theorem rd_byL {n : Int} (h0 : 0 ≤ n) (h1 : n < 115792089237316195423570985008687907853269984665640564039457584007913129639936) : ∀ j, j ≤ 32 → rd (byL n j) = n / 256 ^ (32 - j)
  | 0, _ => by
    have e : (256 : Int) ^ (32 - 0) = 115792089237316195423570985008687907853269984665640564039457584007913129639936 := by decide
    rw [e, Int.ediv_eq_zero_of_lt h0 h1]; rfl
  | j + 1, h => by
    have ih := rd_byL h0 h1 j (by omega)
    simp only [byL]
    rw [rd_step, ih]
    have e1 : 32 - j = (31 - j) + 1 := by omega
    have e2 : 32 - (j + 1) = 31 - j := by omega
    rw [e1, e2]
    exact (div_256 n (31 - j)).symm
theorem rd_byL32 {n : Int} (h0 : 0 ≤ n) (h1 : n < 115792089237316195423570985008687907853269984665640564039457584007913129639936) : rd (byL n 32) = n := by
  rw [rd_byL h0 h1 32 (by omega)]; simp
theorem byL_len (n : Int) : ∀ j, (byL n j).length ≤ j
  | 0 => by simp [byL]
  | j + 1 => by have := byL_len n j; have := stepB_len (byL n j) (n / 256 ^ (31 - j) % 256); simp only [byL]; omega
/-- Bytes as they are laid: each from 0 to 255, the first one not 0. -/
def Good (p : List Int) : Prop := (∀ b ∈ p, 0 ≤ b ∧ b ≤ 255) ∧ ∀ b, p.head? = some b → 0 < b
theorem good_nil : Good [] := ⟨by simp, by simp⟩
theorem good_step {p : List Int} {b : Int} (h : Good p) (hb : 0 ≤ b ∧ b ≤ 255) : Good (stepB p b) := by
  unfold stepB; split
  · exact h
  · rename_i hn
    refine ⟨fun x hx => ?_, fun x hx => ?_⟩
    · rcases List.mem_append.1 hx with hx | hx
      · exact h.1 x hx
      · rw [List.mem_singleton] at hx; rw [hx]; exact hb
    · cases p with
      | nil => simp at hx hn; omega
      | cons y p => simp at hx; exact h.2 x (by simp [hx])
theorem byL_good (n : Int) : ∀ j, Good (byL n j)
  | 0 => good_nil
  | j + 1 => good_step (byL_good n j) (by omega)
theorem good_snoc {p : List Int} {b : Int} (h : Good (p ++ [b])) : Good p ∧ (0 ≤ b ∧ b ≤ 255) := by
  refine ⟨⟨fun x hx => h.1 x (by simp [hx]), fun x hx => h.2 x ?_⟩, h.1 b (by simp)⟩
  cases p with
  | nil => simp at hx
  | cons y p => simpa using hx
theorem rd_nonneg : ∀ (n : Nat) (p : List Int), p.length = n → (∀ b ∈ p, 0 ≤ b ∧ b ≤ 255) → 0 ≤ rd p ∧ rd p < 256 ^ n
  | 0, p, hl, _ => by
    obtain rfl := List.eq_nil_of_length_eq_zero hl
    simp [rd]
  | n + 1, p, hl, hb => by
    have hne : p ≠ [] := by intro e; rw [e] at hl; simp at hl
    have e := List.dropLast_concat_getLast hne
    have hm := hb (p.getLast hne) (List.getLast_mem hne)
    have ih := rd_nonneg n p.dropLast (by simp [hl]) (fun b h => hb b ((List.dropLast_sublist _).subset h))
    rw [← e, rd_snoc, Int.pow_succ]
    generalize (256 : Int) ^ n = B at *
    omega
theorem rd_pos {p : List Int} (h : Good p) (hne : p ≠ []) : 0 < rd p := by
  induction hl : p.length generalizing p with
  | zero => exact absurd (List.eq_nil_of_length_eq_zero hl) hne
  | succ n ih =>
    have e := List.dropLast_concat_getLast hne
    rw [← e] at h ⊢
    obtain ⟨h1, h2⟩ := good_snoc h
    rw [rd_snoc]
    by_cases hd : p.dropLast = []
    · rw [hd, rd_nil]
      rw [hd] at h
      have := h.2 (p.getLast hne) (by simp)
      omega
    · have := ih h1 hd (by simp [hl])
      omega
theorem rd_inj : ∀ (n : Nat) (p q : List Int), p.length ≤ n → Good p → Good q → rd p = rd q → p = q
  | 0, p, q, hl, hp, hq, he => by
    obtain rfl := List.eq_nil_of_length_eq_zero (show p.length = 0 by omega)
    by_cases h : q = []
    · exact h.symm
    · have := rd_pos hq h; rw [rd_nil] at he; omega
  | n + 1, p, q, hl, hp, hq, he => by
    by_cases h : p = []
    · subst h
      by_cases h : q = []
      · exact h.symm
      · have := rd_pos hq h; rw [rd_nil] at he; omega
    · by_cases h' : q = []
      · subst h'; have := rd_pos hp h; rw [rd_nil] at he; omega
      · have e1 := List.dropLast_concat_getLast h
        have e2 := List.dropLast_concat_getLast h'
        have hl' : p.dropLast.length ≤ n := by simp; omega
        rw [← e1, ← e2]
        rw [← e1] at hp
        rw [← e2] at hq
        rw [← e1, ← e2, rd_snoc, rd_snoc] at he
        obtain ⟨g1, b1⟩ := good_snoc hp
        obtain ⟨g2, b2⟩ := good_snoc hq
        generalize p.getLast h = b at *
        generalize q.getLast h' = c at *
        have hb : b = c := by omega
        have := rd_inj n p.dropLast q.dropLast hl' g1 g2 (by omega)
        rw [this, hb]
theorem byL_rd {p : List Int} (h : Good p) (hl : p.length ≤ 32) : byL (rd p) 32 = p := by
  have e : (256 : Int) ^ 32 = 115792089237316195423570985008687907853269984665640564039457584007913129639936 := by decide
  have h1 := rd_nonneg p.length p rfl h.1
  have h2 : (256 : Int) ^ p.length ≤ 256 ^ 32 := by
    obtain ⟨d, hd⟩ := Nat.exists_eq_add_of_le hl
    rw [hd, Int.pow_add]
    have h1 : (0 : Int) < 256 ^ p.length := Int.pow_pos (by decide)
    have h2 : (0 : Int) < 256 ^ d := Int.pow_pos (by decide)
    have h3 : 256 ^ p.length * 1 ≤ (256 : Int) ^ p.length * 256 ^ d := Int.mul_le_mul_of_nonneg_left (by omega) (by omega)
    omega
  exact rd_inj 32 _ _ (byL_len _ _) (byL_good _ _) h (rd_byL32 h1.1 (by omega))

set_option maxRecDepth 100000 in
theorem bytesB_byL {x0 x1 x2 x3 : Int} (hx : Lim x0 x1 x2 x3) : bytesB (limbsDown hx) = byL (val x0 x1 x2 x3) 32 := by
  have h3 : ∀ p : List Int, ∀ j, j < 8 → x3 / 2 ^ (56 - 8 * j) % 256 = val x0 x1 x2 x3 / 256 ^ (31 - j) % 256 := by
    intro p j hj
    unfold Lim at hx
    rcases (show j = 0 ∨ j = 1 ∨ j = 2 ∨ j = 3 ∨ j = 4 ∨ j = 5 ∨ j = 6 ∨ j = 7 by omega) with rfl | rfl | rfl | rfl | rfl | rfl | rfl | rfl <;>
      (simp only [val, Nat.reduceMul, Nat.reduceSub, Int.reducePow]; omega)
  have h2 : ∀ p : List Int, ∀ j, j < 8 → x2 / 2 ^ (56 - 8 * j) % 256 = val x0 x1 x2 x3 / 256 ^ (31 - (8 + j)) % 256 := by
    intro p j hj
    unfold Lim at hx
    rcases (show j = 0 ∨ j = 1 ∨ j = 2 ∨ j = 3 ∨ j = 4 ∨ j = 5 ∨ j = 6 ∨ j = 7 by omega) with rfl | rfl | rfl | rfl | rfl | rfl | rfl | rfl <;>
      (simp only [val, Nat.reduceMul, Nat.reduceSub, Nat.reduceAdd, Int.reducePow]; omega)
  have h1 : ∀ p : List Int, ∀ j, j < 8 → x1 / 2 ^ (56 - 8 * j) % 256 = val x0 x1 x2 x3 / 256 ^ (31 - (16 + j)) % 256 := by
    intro p j hj
    unfold Lim at hx
    rcases (show j = 0 ∨ j = 1 ∨ j = 2 ∨ j = 3 ∨ j = 4 ∨ j = 5 ∨ j = 6 ∨ j = 7 by omega) with rfl | rfl | rfl | rfl | rfl | rfl | rfl | rfl <;>
      (simp only [val, Nat.reduceMul, Nat.reduceSub, Nat.reduceAdd, Int.reducePow]; omega)
  have h0 : ∀ p : List Int, ∀ j, j < 8 → x0 / 2 ^ (56 - 8 * j) % 256 = val x0 x1 x2 x3 / 256 ^ (31 - (24 + j)) % 256 := by
    intro p j hj
    unfold Lim at hx
    rcases (show j = 0 ∨ j = 1 ∨ j = 2 ∨ j = 3 ∨ j = 4 ∨ j = 5 ∨ j = 6 ∨ j = 7 by omega) with rfl | rfl | rfl | rfl | rfl | rfl | rfl | rfl <;>
      (simp only [val, Nat.reduceMul, Nat.reduceSub, Nat.reduceAdd, Int.reducePow]; omega)
  have key : ∀ (n v : Int) (o : Nat), (∀ j, j < 8 → v / 2 ^ (56 - 8 * j) % 256 = n / 256 ^ (31 - (o + j)) % 256) → ∀ j, j ≤ 8 → partB (byL n o) v j = byL n (o + j) := by
    intro n v o h j
    induction j with
    | zero => intro _; rfl
    | succ j ih => intro hj; show stepB (partB (byL n o) v j) _ = stepB (byL n (o + j)) _; rw [ih (by omega), h j (by omega)]; rfl
  show partB (partB (partB (partB [] x3 8) x2 8) x1 8) x0 8 = _
  have e3 := key (val x0 x1 x2 x3) x3 0 (fun j hj => by rw [Nat.zero_add]; exact h3 [] j hj) 8 (by omega)
  have e2 := key (val x0 x1 x2 x3) x2 8 (h2 []) 8 (by omega)
  have e1 := key (val x0 x1 x2 x3) x1 16 (h1 []) 8 (by omega)
  have e0 := key (val x0 x1 x2 x3) x0 24 (h0 []) 8 (by omega)
  have e3' : partB [] x3 8 = byL (val x0 x1 x2 x3) 8 := e3
  rw [e3', e2, e1, e0]

theorem bytes_can (x0 x1 x2 x3 : Int) (hx : Lim x0 x1 x2 x3) (w : World) :
    Calls Try.prog 93 #[.agg #[.int .u64 x0, .int .u64 x1, .int .u64 x2, .int .u64 x3]] w fun e w' => ∃ v : Value, e = .returned v ∧ IsBytes w' v (byL (val x0 x1 x2 x3) 32) ∧ Below w.heap.size w w' := by
  refine (bytes_any x0 x1 x2 x3 hx w).mono ?_
  rintro e w' ⟨v, rfl, hr, hb⟩
  rw [bytesB_byL hx] at hr
  have := byL_len (val x0 x1 x2 x3) 32
  exact ⟨v, rfl, own_bytes (by omega) hr, hb⟩
end Go.Proofs.Ytjhjgncnadhbhaa

/- The reference's Bytes. -/
namespace Go.Proofs.Ytjhjgncnadhbhaa
open Go.RowKit

theorem byte_0 {x0 x1 x2 x3 : Int} (hx : Lim x0 x1 x2 x3) {j : Nat} (hj : j < 16) : dg x0 x1 x2 x3 j % 256 = val x0 x1 x2 x3 / 256 ^ (2 * j) % 256 := by
  rw [dg_val hx hj, Int.pow_mul]
  show _ = val x0 x1 x2 x3 / 65536 ^ j % 256
  omega
theorem byte_1 {x0 x1 x2 x3 : Int} (hx : Lim x0 x1 x2 x3) {j : Nat} (hj : j < 16) : dg x0 x1 x2 x3 j / 256 % 256 = val x0 x1 x2 x3 / 256 ^ (2 * j + 1) % 256 := by
  have e : val x0 x1 x2 x3 / 256 ^ (2 * j + 1) = val x0 x1 x2 x3 / 65536 ^ j / 256 := by
    rw [Int.pow_succ, Int.pow_mul]
    show _ / ((65536 : Int) ^ j * 256) = _
    first
      | exact (Int.ediv_ediv_eq_ediv_mul _ (Int.pow_nonneg (by decide))).symm
      | exact (Int.ediv_ediv (Int.pow_nonneg (by decide))).symm
      | exact (Int.ediv_ediv_of_nonneg (Int.pow_nonneg (by decide))).symm
  rw [dg_val hx hj, e]
  generalize val x0 x1 x2 x3 / 65536 ^ j = q
  omega

theorem dg_lim' {x0 x1 x2 x3 : Int} (k : Nat) : 0 ≤ dg x0 x1 x2 x3 k ∧ dg x0 x1 x2 x3 k < 65536 := by unfold dg; omega

set_option maxRecDepth 100000 in
set_option maxHeartbeats 8000000 in
theorem bytesR_any (x0 x1 x2 x3 : Int) (hx : Lim x0 x1 x2 x3) (w : World) :
    Calls Try.prog 94 #[.agg #[.int .u64 x0, .int .u64 x1, .int .u64 x2, .int .u64 x3]] w fun e w' => ∃ v : Value, e = .returned v ∧ w'.ownsRow w.heap.size 5 1 v (byL (val x0 x1 x2 x3) 32).length (encB (byL (val x0 x1 x2 x3) 32)) ∧ Below w.heap.size w w' := by
  have hpad := pads
  obtain ⟨i0, hi, hz0, hz1, hz2⟩ := info_parts u8_info
  go_enter Try.func94, Try.ntmps94
  go_wp2_with (go_at_call 80; refine (digits_w _ _ _ _ hx _).mono ?_; rintro e w1 ⟨g1, cap1, rfl, hg1, hc1, hb1⟩)
  have hs1 : w.heap.size ≤ w1.heap.size := by have := hb1.size; simp at this; omega
  have hB0 : Below w.heap.size w w1 := bt (ba (Below.refl _ _) _) hb1
  go_loopw [4, 5] (fun v i wr => ∃ k : Nat, k ≤ 32 ∧ i = .int .i64 (31 - (k : Int)) ∧ wr.ownsRow w1.heap.size 5 1 v (byL (val x0 x1 x2 x3) k).length (encB (byL (val x0 x1 x2 x3) k)) ∧ Below w1.heap.size w1 wr) (fun _ i _ => (intOf i + 1).toNat)
  case atStart => exact ⟨0, by omega, rfl, ⟨rfl, .inl ⟨rfl, rfl⟩⟩, Below.refl _ _⟩
  case round =>
    obtain ⟨k, hk, rfl, hown, hB⟩ := hrel
    by_cases hlt : k < 32
    · obtain ⟨n, hn⟩ : ∃ n : Nat, Hid (n = (byL (val x0 x1 x2 x3) k).length) := ⟨_, rfl⟩
      rw [← hn.out] at hown
      obtain ⟨a, cap, rfl⟩ := row_slice hown
      have hnl : n ≤ 32 := by have := byL_len (val x0 x1 x2 x3) k; have := hn.out; omega
      have hsz := hB.size
      obtain ⟨j, r, hr, hj, hkj⟩ : ∃ j r : Nat, (r = 0 ∨ r = 1) ∧ j < 16 ∧ 31 - k = 2 * j + r := ⟨(31 - k) / 2, (31 - k) % 2, by omega, by omega, by omega⟩
      have hq : (31 - (k : Int)).tdiv 2 = (j : Int) := by rw [Int.tdiv_eq_ediv_of_nonneg (by omega)]; omega
      have hm : (31 - (k : Int)).tmod 2 = (r : Int) := by rw [Int.tmod_eq_emod_of_nonneg (by omega)]; omega
      have hcj : wr.cell? ⟨g1, j, none⟩ = some (.int .u64 (dg x0 x1 x2 x3 j)) := (hB.cell (p := ⟨g1, j, none⟩) hg1).trans (hc1 j hj)
      have hd := @dg_lim' x0 x1 x2 x3 j
      obtain ⟨b, hbe⟩ : ∃ b, Hid (b = val x0 x1 x2 x3 / 256 ^ (31 - k) % 256) := ⟨_, rfl⟩
      have hb0 : 0 ≤ b ∧ b ≤ 255 := by have := hbe.out; omega
      have hstep : Hid (byL (val x0 x1 x2 x3) (k + 1) = stepB (byL (val x0 x1 x2 x3) k) b) := by unfold Hid; rw [hbe.out]; rfl
      have hin : (0 : Int) ≤ 31 - (k : Int) := by omega
      have hge : decide ((0 : Int) ≤ 31 - (k : Int)) = true := by simpa using hin
      have hskip : n = 0 → b = 0 → byL (val x0 x1 x2 x3) (k + 1) = byL (val x0 x1 x2 x3) k := fun h1 h2 => by
        rw [hstep.out]; exact step_miss ⟨List.eq_nil_of_length_eq_zero (by rw [← hn.out]; exact h1), h2⟩
      have hadd : ¬ (n = 0 ∧ b = 0) → byL (val x0 x1 x2 x3) (k + 1) = byL (val x0 x1 x2 x3) k ++ [b] := fun h => by
        rw [hstep.out]; exact step_hit (fun hh => h ⟨by rw [hn.out, hh.1]; rfl, hh.2⟩)
      have HS : Hid (n = 0 → b = 0 → byL (val x0 x1 x2 x3) (k + 1) = byL (val x0 x1 x2 x3) k) := hskip
      have HA : Hid (¬ (n = 0 ∧ b = 0) → byL (val x0 x1 x2 x3) (k + 1) = byL (val x0 x1 x2 x3) k ++ [b]) := hadd
      clear hskip hadd
      have hwr : Hid ((r = 0 → IntKind.u8.wrap (dg x0 x1 x2 x3 j) = b) ∧ (r = 1 → IntKind.u8.wrap (dg x0 x1 x2 x3 j / 256) = b)) := by
        refine ⟨fun h => ?_, fun h => ?_⟩
        · have e : 31 - k = 2 * j := by omega
          rw [hbe.out, e, ← byte_0 hx hj, IntKind.wrap_u8]
        · have e : 31 - k = 2 * j + 1 := by omega
          rw [hbe.out, e, ← byte_1 hx hj, IntKind.wrap_u8]
      obtain ⟨kk, hkk⟩ : ∃ kk : Nat, Hid (kk = k + 1) := ⟨_, rfl⟩
      rcases hr with rfl | rfl
      all_goals
        first | have hw := hwr.out.1 rfl | have hw := hwr.out.2 rfl
        clear hwr hc1
        by_cases hbz : 0 < b
        · have hdb : decide (0 < b) = true := by simpa using hbz
          go_wp2_with (at_builtin; refine wpList_append_own _ rfl _ _ 42 rfl w1.heap.size 5 i0 _ 1 1 Try.underlying42 hi hz0 hz1 hz2 rfl (by decide) _ _ _ rfl (hown.alloc _) ⟨wr.heap.size, 0, none⟩ 1 1 [_] rfl rfl (cell_one_new _ _ _) (by simp [Value.oneCell']) (by unfold maxLen; omega) (by omega) (by simp; omega) ?_; intro v' w' hown' hgrow _)
          go_roundw
          case rel =>
            have e := hkk.out
            refine ⟨kk, by omega, by rw [e]; go_num, ?_, ?_⟩
            · rw [e, HA.out (by omega), encB_snoc]
              simpa [← hn.out] using hown'
            · refine (hB.alloc hsz _).grown hgrow (by simp; omega) (fun k' e => ?_)
              obtain ⟨_, h2⟩ := hown
              rcases h2 with ⟨h2, _⟩ | ⟨g', cap', cur, h2, hg', _⟩
              · cases h2; cases e
              · cases h2; cases e; exact hg'
          case measure => (simp [intOf] <;> omega)
        · have hdb : decide (0 < b) = false := by simpa using hbz
          have hb00 : b = 0 := by omega
          by_cases hn0 : n = 0
          · have hdn : decide ((0 : Int) < (n : Int)) = false := by simp [hn0]
            go_wp2
            go_roundw
            case rel =>
              have e := hkk.out
              refine ⟨kk, by omega, by rw [e]; go_num, ?_, hB⟩
              rw [e, HS.out hn0 hb00, ← hn.out]
              exact hown
            case measure => (simp [intOf] <;> omega)
          · have hdn : decide ((0 : Int) < (n : Int)) = true := by simp; omega
            have hdn' : (0 : Int) < (n : Int) := by omega
            go_wp2_with (at_builtin; refine wpList_append_own _ rfl _ _ 42 rfl w1.heap.size 5 i0 _ 1 1 Try.underlying42 hi hz0 hz1 hz2 rfl (by decide) _ _ _ rfl (hown.alloc _) ⟨wr.heap.size, 0, none⟩ 1 1 [_] rfl rfl (cell_one_new _ _ _) (by simp [Value.oneCell']) (by unfold maxLen; omega) (by omega) (by simp; omega) ?_; intro v' w' hown' hgrow _)
            go_roundw
            case rel =>
              have e := hkk.out
              refine ⟨kk, by omega, by rw [e]; go_num, ?_, ?_⟩
              · rw [e, HA.out (by omega), encB_snoc]
                simpa [← hn.out, hb00] using hown'
              · refine (hB.alloc hsz _).grown hgrow (by simp; omega) (fun k' e => ?_)
                obtain ⟨_, h2⟩ := hown
                rcases h2 with ⟨h2, _⟩ | ⟨g', cap', cur, h2, hg', _⟩
                · cases h2; cases e
                · cases h2; cases e; exact hg'
            case measure => (simp [intOf] <;> omega)
    · have hk' : k = 32 := by omega
      subst hk'
      go_wp2
      go_ret
      exact ⟨_, rfl, row_base hown hs1, hB0.trans (hB.mono hs1)⟩
end Go.Proofs.Ytjhjgncnadhbhaa

/- num.Read and the reference's Read. -/
namespace Go.Proofs.Ytjhjgncnadhbhaa
open Go.RowKit

theorem or_byte {a b : Int} {s : Nat} (hs : s ≤ 56) (ha : 0 ≤ a ∧ a < 18446744073709551616) (hm : a % 2 ^ (s + 8) = 0) (hb : 0 ≤ b ∧ b ≤ 255) : bits .or .u64 a (b * 2 ^ s) = a + b * 2 ^ s := by
  have h0 : (0 : Int) < 2 ^ s := Int.pow_pos (by decide)
  have h1 : b * 2 ^ s ≤ 255 * 2 ^ s := Int.mul_le_mul_of_nonneg_right hb.2 (by omega)
  have h2 : (2 : Int) ^ (s + 8) = 2 ^ s * 256 := by rw [Int.pow_add]; rfl
  have h3 : (2 : Int) ^ s ≤ 2 ^ 56 := by exact_mod_cast Nat.pow_le_pow_right (by omega) hs
  have h4 : (2 : Int) ^ 56 = 72057594037927936 := by decide
  refine bits_join .u64 64 (by decide) (fun n h0 h1 => by rw [IntKind.wrap_u64]; omega) (s + 8) a (b * 2 ^ s) ha.1 hm (by simpa using ha.2) (Int.mul_nonneg hb.1 (by omega)) (by omega) ?_
  have e : (2 : Int) ^ 64 = 18446744073709551616 := by decide
  omega
theorem rd_at {a0 a1 a2 a3 b R : Int} {pl : Nat} (hpl : pl < 32) (ha : Lim a0 a1 a2 a3) (hb : 0 ≤ b ∧ b ≤ 255) (hv : val a0 a1 a2 a3 = R * 256 ^ (pl + 1)) :
    IntKind.u64.wrap (b * 2 ^ (8 * (pl % 8))) = b * 2 ^ (8 * (pl % 8)) ∧ (pl / 8 = 0 → a0 % 2 ^ (8 * (pl % 8) + 8) = 0 ∧ IntKind.u64.wrap (a0 + b * 2 ^ (8 * (pl % 8))) = a0 + b * 2 ^ (8 * (pl % 8)) ∧ Lim (a0 + b * 2 ^ (8 * (pl % 8))) a1 a2 a3 ∧ val (a0 + b * 2 ^ (8 * (pl % 8))) a1 a2 a3 = (R * 256 + b) * 256 ^ pl) ∧ (pl / 8 = 1 → a1 % 2 ^ (8 * (pl % 8) + 8) = 0 ∧ IntKind.u64.wrap (a1 + b * 2 ^ (8 * (pl % 8))) = a1 + b * 2 ^ (8 * (pl % 8)) ∧ Lim a0 (a1 + b * 2 ^ (8 * (pl % 8))) a2 a3 ∧ val a0 (a1 + b * 2 ^ (8 * (pl % 8))) a2 a3 = (R * 256 + b) * 256 ^ pl) ∧ (pl / 8 = 2 → a2 % 2 ^ (8 * (pl % 8) + 8) = 0 ∧ IntKind.u64.wrap (a2 + b * 2 ^ (8 * (pl % 8))) = a2 + b * 2 ^ (8 * (pl % 8)) ∧ Lim a0 a1 (a2 + b * 2 ^ (8 * (pl % 8))) a3 ∧ val a0 a1 (a2 + b * 2 ^ (8 * (pl % 8))) a3 = (R * 256 + b) * 256 ^ pl) ∧ (pl / 8 = 3 → a3 % 2 ^ (8 * (pl % 8) + 8) = 0 ∧ IntKind.u64.wrap (a3 + b * 2 ^ (8 * (pl % 8))) = a3 + b * 2 ^ (8 * (pl % 8)) ∧ Lim a0 a1 a2 (a3 + b * 2 ^ (8 * (pl % 8))) ∧ val a0 a1 a2 (a3 + b * 2 ^ (8 * (pl % 8))) = (R * 256 + b) * 256 ^ pl) := by
  unfold Lim at *
  unfold val at *
  simp only [IntKind.wrap_u64]
  rcases (show pl = 0 ∨ pl = 1 ∨ pl = 2 ∨ pl = 3 ∨ pl = 4 ∨ pl = 5 ∨ pl = 6 ∨ pl = 7 ∨ pl = 8 ∨ pl = 9 ∨ pl = 10 ∨ pl = 11 ∨ pl = 12 ∨ pl = 13 ∨ pl = 14 ∨ pl = 15 ∨ pl = 16 ∨ pl = 17 ∨ pl = 18 ∨ pl = 19 ∨ pl = 20 ∨ pl = 21 ∨ pl = 22 ∨ pl = 23 ∨ pl = 24 ∨ pl = 25 ∨ pl = 26 ∨ pl = 27 ∨ pl = 28 ∨ pl = 29 ∨ pl = 30 ∨ pl = 31 by omega) with rfl | rfl | rfl | rfl | rfl | rfl | rfl | rfl | rfl | rfl | rfl | rfl | rfl | rfl | rfl | rfl | rfl | rfl | rfl | rfl | rfl | rfl | rfl | rfl | rfl | rfl | rfl | rfl | rfl | rfl | rfl | rfl
  all_goals
    simp only [Nat.reduceAdd, Nat.reduceMod, Nat.reduceMul, Nat.reduceDiv, Int.reducePow, Int.mul_one] at *
    refine ⟨by omega, ?_, ?_, ?_, ?_⟩
    all_goals first | (intro h; exact absurd h (by decide)) | (intro _; refine ⟨by omega, by omega, by omega, by omega⟩)
end Go.Proofs.Ytjhjgncnadhbhaa

/- num.Read and the reference's Read: the walks. -/
namespace Go.Proofs.Ytjhjgncnadhbhaa
open Go.RowKit

set_option maxRecDepth 100000 in
set_option maxHeartbeats 16000000 in
theorem read_some (p : List Int) (n blk off cap : Nat) (hn : Hid (n = p.length)) (hl : 0 < n ∧ n ≤ 32) (hp : ∀ b ∈ p, 0 ≤ b ∧ b ≤ 255) (z0 z1 z2 z3 b0 : Int) (hz : Lim z0 z1 z2 z3) (hv : Hid (val z0 z1 z2 z3 = rd p)) (w : World) (hg : blk < w.heap.size) (hc : ∀ i x, p[i]? = some x → w.cell? ⟨blk, off + i, none⟩ = some (.int .u8 x)) (h0 : p[0]? = some b0) (hb0 : 0 < b0) :
    Calls Try.prog 95 #[.slice (some ⟨blk, off, none⟩) n cap] w fun e w' => e = .returned (.tuple #[.agg #[.int .u64 z0, .int .u64 z1, .int .u64 z2, .int .u64 z3], .int .i64 0]) ∧ Below w.heap.size w w' := by
  have hpad := pads
  have c0 := hc 0 b0 h0
  simp only [Nat.add_zero] at c0
  have hne0 : (b0 == 0) = false := by simp; omega
  have hnp : (0 : Int) < (n : Int) := by omega
  have hn32 : ¬ (32 : Int) < (n : Int) := by omega
  go_enter Try.func95, Try.ntmps95
  go_wp2
  go_loopw [25] (fun i wr => ∃ (k m : Nat) (f : Nat → Obj) (dr : Nat) (a0 a1 a2 a3 : Int), k ≤ n ∧ i = .int .i64 k ∧ Lim a0 a1 a2 a3 ∧ Hid (val a0 a1 a2 a3 = rd (p.take k) * 256 ^ (n - k)) ∧ w.heap.size + 1 + 1 ≤ m ∧ wr = pad ((w.alloc (.cells #[.int .u64 0, .int .u64 0, .int .u64 0, .int .u64 0] 64)).alloc (.cells #[.int .u64 a0, .int .u64 a1, .int .u64 a2, .int .u64 a3] 64)) m f dr) (fun i _ => n - (intOf i).toNat)
  case atStart =>
    obtain ⟨m, f, dr, hm, e⟩ := pad_of (Below.refl _ ((w.alloc (.cells #[.int .u64 0, .int .u64 0, .int .u64 0, .int .u64 0] 64)).alloc (.cells #[.int .u64 0, .int .u64 0, .int .u64 0, .int .u64 0] 64)))
    exact ⟨0, m, f, dr, 0, 0, 0, 0, by omega, rfl, lim_zero, by unfold Hid; rw [val0]; simp [rd], by simpa using hm, e⟩
  case round =>
    clear c0
    obtain ⟨k, m, f, dr, a0, a1, a2, a3, hk, rfl, hlim, hval, hm, rfl⟩ := hrel
    have st := sz2 (n := w.heap.size) (m := m) hm
    have hgm : blk < m := by omega
    have hgn : ¬ blk = w.heap.size := by omega
    have hgn1 : ¬ blk = w.heap.size + 1 := by omega
    have hgl : blk < w.heap.size + 1 := by omega
    have hgl' : blk < w.heap.size + 1 + 1 := by omega
    by_cases hlt : k < n
    · have hkp : k < p.length := by have := hn.out; omega
      have c := hc k p[k] (by simp [hkp])
      have hb := hp p[k] (List.getElem_mem hkp)
      have htk : Hid (rd (p.take (k + 1)) = rd (p.take k) * 256 + p[k]) := by
        unfold Hid; rw [List.take_succ_eq_append_getElem hkp, rd_snoc]
      generalize p[k] = b at *
      clear hc
      obtain ⟨pl, hpl⟩ : ∃ pl : Nat, n = k + 1 + pl := Nat.exists_eq_add_of_le hlt
      have hplb : pl < 32 := by omega
      have hv1 : val a0 a1 a2 a3 = rd (p.take k) * 256 ^ (pl + 1) := by rw [hval.out, show n - k = pl + 1 by omega]
      have hnew : Hid ((rd (p.take k) * 256 + b) * 256 ^ pl = rd (p.take (k + 1)) * 256 ^ (n - (k + 1))) := by
        unfold Hid; rw [htk.out, show n - (k + 1) = pl by omega]
      obtain ⟨hw, f0, f1, f2, f3⟩ := rd_at hplb hlim hb hv1
      have hsh : (n : Int) - 1 - (k : Int) = (pl : Int) := by omega
      obtain ⟨t, hte⟩ : ∃ t, Hid (b * 2 ^ (8 * (pl % 8)) = t) := ⟨_, rfl⟩
      have o0 : pl / 8 = 0 → bits .or .u64 a0 t = a0 + t := fun h => by rw [← hte.out]; exact or_byte (by omega) hlim.1 (f0 h).1 hb
      have o1 : pl / 8 = 1 → bits .or .u64 a1 t = a1 + t := fun h => by rw [← hte.out]; exact or_byte (by omega) hlim.2.1 (f1 h).1 hb
      have o2 : pl / 8 = 2 → bits .or .u64 a2 t = a2 + t := fun h => by rw [← hte.out]; exact or_byte (by omega) hlim.2.2.1 (f2 h).1 hb
      have o3 : pl / 8 = 3 → bits .or .u64 a3 t = a3 + t := fun h => by rw [← hte.out]; exact or_byte (by omega) hlim.2.2.2 (f3 h).1 hb
      have hwt : IntKind.u64.wrap (b * 2 ^ (8 * (pl % 8))) = t := by rw [hw, hte.out]
      rw [hte.out] at f0 f1 f2 f3
      have O : Hid ((pl / 8 = 0 → bits .or .u64 a0 t = a0 + t) ∧ (pl / 8 = 1 → bits .or .u64 a1 t = a1 + t) ∧ (pl / 8 = 2 → bits .or .u64 a2 t = a2 + t) ∧ (pl / 8 = 3 → bits .or .u64 a3 t = a3 + t)) := ⟨o0, o1, o2, o3⟩
      have G0 : Hid _ := f0
      have G1 : Hid _ := f1
      have G2 : Hid _ := f2
      have G3 : Hid _ := f3
      obtain ⟨kk, hkk⟩ : ∃ kk : Nat, Hid (kk = k + 1) := ⟨_, rfl⟩
      have htb : Hid (pl % 8 = 0 → t = b) := fun h => by have e := hte.out; rw [h] at e; simp at e; exact e.symm
      clear o0 o1 o2 o3 f0 f1 f2 f3 hw hv1
      have hpl' : Hid (n = k + 1 + pl) := hpl
      clear hpl
      rcases (show pl = 0 ∨ pl = 1 ∨ pl = 2 ∨ pl = 3 ∨ pl = 4 ∨ pl = 5 ∨ pl = 6 ∨ pl = 7 ∨ pl = 8 ∨ pl = 9 ∨ pl = 10 ∨ pl = 11 ∨ pl = 12 ∨ pl = 13 ∨ pl = 14 ∨ pl = 15 ∨ pl = 16 ∨ pl = 17 ∨ pl = 18 ∨ pl = 19 ∨ pl = 20 ∨ pl = 21 ∨ pl = 22 ∨ pl = 23 ∨ pl = 24 ∨ pl = 25 ∨ pl = 26 ∨ pl = 27 ∨ pl = 28 ∨ pl = 29 ∨ pl = 30 ∨ pl = 31 by omega) with rfl | rfl | rfl | rfl | rfl | rfl | rfl | rfl | rfl | rfl | rfl | rfl | rfl | rfl | rfl | rfl | rfl | rfl | rfl | rfl | rfl | rfl | rfl | rfl | rfl | rfl | rfl | rfl | rfl | rfl | rfl | rfl
      all_goals
        simp only [Nat.reduceMod, Nat.reduceMul, Int.reducePow, Int.mul_one] at hwt
        first | have ho := And.intro (O.out.1 (by decide)) (G0.out (by decide)).2.1 | have ho := And.intro (O.out.2.1 (by decide)) (G1.out (by decide)).2.1 | have ho := And.intro (O.out.2.2.1 (by decide)) (G2.out (by decide)).2.1 | have ho := And.intro (O.out.2.2.2 (by decide)) (G3.out (by decide)).2.1
        first | have hL := (G0.out (by decide)).2.2 | have hL := (G1.out (by decide)).2.2 | have hL := (G2.out (by decide)).2.2 | have hL := (G3.out (by decide)).2.2
        have HL : Hid _ := hL
        clear hL O G0 G1 G2 G3 hplb
        obtain ⟨ho1, ho2⟩ := ho
        first | (have htb' := htb.out (by decide); subst htb') | skip
        clear htb
        go_wp2
        go_region
        all_goals go_wp2
        all_goals go_roundw
        case rel =>
          have e := hkk.out
          refine ⟨kk, m, f, dr + 1, _, _, _, _, by have := hpl'.out; omega, by rw [e]; go_num, HL.out.1, ?_, hm, ?_⟩
          · unfold Hid; rw [HL.out.2, e, hnew.out]
          · first | rfl | (simp [hpad]; done)
        case measure => (simp [intOf] <;> (have := hpl'.out; omega))
    · have hk' : k = n := by omega
      subst hk'
      go_wp2
      refine bodyPost_ret (v := .tuple #[.agg #[.int .u64 a0, .int .u64 a1, .int .u64 a2, .int .u64 a3], .int .i64 0]) (by simp only [results, Try.results95]; go_simp) rfl ⟨?_, by (repeat (first | (with_reducible exact Below.refl _ _) | (with_reducible assumption) | (with_reducible apply bd) | (with_reducible apply ba) | (with_reducible refine bp ?_ (by first | omega | (simp [pad_size]; done) | (simp [pad_size]; omega)) _ _) | (with_reducible refine bs ?_ (by first | omega | (simp [pad_size]; done) | (simp [pad_size]; omega)) _) | (with_reducible refine bt ?_ (by assumption))))⟩
      have e : val a0 a1 a2 a3 = val z0 z1 z2 z3 := by
        rw [hval.out, hv.out, Nat.sub_self, List.take_of_length_le (by have := hn.out; omega)]; simp
      obtain ⟨rfl, rfl, rfl, rfl⟩ := val_inj hlim hz e
      rfl
end Go.Proofs.Ytjhjgncnadhbhaa
