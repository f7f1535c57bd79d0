
/- num.shiftRight. -/
import Derived.Test.YtmfnfnegnfpkiaaJ
set_option linter.unusedSimpArgs false
set_option linter.unusedVariables false
set_option maxRecDepth 20000
namespace Go.Proofs.Ytmfnfnegnfpkiaa
open Go.RowKit

/-- A part to the right: what stays, and what comes into the one below. -/
theorem shr_part (x r : Int) (hx : 0 ≤ x ∧ x < 18446744073709551616) (hr : 0 ≤ r ∧ r < 64) :
    ∃ h l g : Int, x / 2 ^ r.toNat = h ∧ IntKind.u64.wrap (x * 2 ^ (64 - r).toNat) = g ∧ Hid (x = h * 2 ^ r.toNat + l) ∧ 0 ≤ l ∧ Hid (l < 2 ^ r.toNat) ∧ Hid (g * 2 ^ r.toNat = l * 18446744073709551616) ∧ (0 ≤ g ∧ g < 18446744073709551616) ∧ (0 ≤ h ∧ h < 18446744073709551616) ∧ Hid (g % 2 ^ (64 - r).toNat = 0) ∧ Hid (h < 2 ^ (64 - r).toNat) := by
  obtain ⟨t, rfl⟩ := Int.eq_ofNat_of_zero_le hr.1
  have ht : t ≤ 63 := by omega
  have e64 : ((64 : Int) - (t : Int)).toNat = 64 - t := by omega
  obtain ⟨hTU, hT, hU, hT2⟩ := pow_split t ht
  rw [e64, Int.toNat_natCast, IntKind.wrap_u64]
  generalize hTe : (2 : Int) ^ t = T at *
  generalize hUe : (2 : Int) ^ (64 - t) = U at *
  have hd := Int.emod_add_mul_ediv x T
  have hm0 := Int.emod_nonneg x (show T ≠ 0 by omega)
  have hm1 := Int.emod_lt_of_pos x hT
  have hq0 : 0 ≤ x / T := Int.ediv_nonneg hx.1 (by omega)
  have hq1 : x / T < U := by
    apply Int.ediv_lt_of_lt_mul hT
    rw [Int.mul_comm, hTU]; exact hx.2
  have hq2 : x / T < 18446744073709551616 := by
    have : x / T ≤ x := Int.ediv_le_self _ hx.1
    omega
  generalize x / T = h at *
  generalize x % T = l at *
  have e1 : x * U = h * 18446744073709551616 + l * U := by
    rw [← hd, Int.add_mul, Int.mul_right_comm, hTU]
    rw [Int.mul_comm 18446744073709551616 h]; omega
  have e2 : 0 ≤ l * U := Int.mul_nonneg hm0 (by omega)
  have e3 : l * U < 18446744073709551616 := by
    rw [← hTU]
    exact Int.mul_lt_mul_of_pos_right hm1 hU
  have e4 : l * U * T = l * 18446744073709551616 := by rw [Int.mul_assoc, Int.mul_comm U T, hTU]
  refine ⟨h, l, l * U, rfl, ?_, ?_, hm0, hm1, e4, ⟨e2, e3⟩, ⟨hq0, hq2⟩, show _ = _ from Int.mul_emod_left l U, hq1⟩
  · rw [e1]; omega
  · show x = h * T + l
    rw [← hd, Int.mul_comm T h]; omega

theorem shr_or {a b r : Int} (hr : 0 ≤ r ∧ r < 64) (ha : 0 ≤ a ∧ a < 18446744073709551616) (hm : Hid (a % 2 ^ (64 - r).toNat = 0)) (hb : 0 ≤ b ∧ b < 18446744073709551616) (hb1 : Hid (b < 2 ^ (64 - r).toNat)) : bits .or .u64 b a = b + a ∧ b + a < 18446744073709551616 := by
  have hc : bits .or .u64 b a = bits .or .u64 a b := by simp only [bits, BitVec.or_comm]
  have h1 : bits .or .u64 a b = a + b := bits_join .u64 64 (by decide) (fun n h0 h1 => by rw [IntKind.wrap_u64]; omega) (64 - r).toNat a b ha.1 hm.out (by simpa using ha.2) hb.1 hb1.out (by simp; omega)
  refine ⟨by rw [hc, h1]; omega, ?_⟩
  obtain ⟨t, rfl⟩ := Int.eq_ofNat_of_zero_le hr.1
  have ht : t ≤ 63 := by omega
  have e64 : ((64 : Int) - (t : Int)).toNat = 64 - t := by omega
  obtain ⟨hTU, hT, hU, hT2⟩ := pow_split t ht
  have hm := hm.out; have hb1 := hb1.out
  rw [e64] at hm hb1
  generalize hTe : (2 : Int) ^ t = T at *
  generalize hUe : (2 : Int) ^ (64 - t) = U at *
  obtain ⟨q, rfl⟩ := Int.dvd_of_emod_eq_zero hm
  have hq : q < T := by
    apply Int.lt_of_mul_lt_mul_left (a := U) _ (by omega)
    rw [Int.mul_comm U T, hTU]; exact ha.2
  have : U * (q + 1) ≤ U * T := Int.mul_le_mul_of_nonneg_left (by omega) (by omega)
  rw [Int.mul_comm U T, hTU, Int.mul_add] at this
  omega

/-- What a shift to the right leaves, as a whole number. -/
def ShrS (x k z : Int) : Prop := ∃ m : Int, 0 ≤ m ∧ m < 2 ^ k.toNat ∧ x = z * 2 ^ k.toNat + m

set_option maxHeartbeats 2000000 in
theorem shr0 (x0 x1 x2 x3 k : Int) (hx : Lim x0 x1 x2 x3) (hk : k / 64 = 0) (w : World) :
    Calls Try.prog 121 #[.agg #[.int .u64 x0, .int .u64 x1, .int .u64 x2, .int .u64 x3], .int .i64 k] w fun e w' => ∃ z0 z1 z2 z3 : Int, e = .returned (.agg #[.int .u64 z0, .int .u64 z1, .int .u64 z2, .int .u64 z3]) ∧ Lim z0 z1 z2 z3 ∧ ShrS (val x0 x1 x2 x3) k (val z0 z1 z2 z3) ∧ Below w.heap.size w w' := by
  obtain ⟨hx0, hx1, hx2, hx3⟩ := hx
  obtain ⟨r, hr⟩ : ∃ r, k % 64 = r := ⟨_, rfl⟩
  have hr0 : 0 ≤ r := by omega
  have hr1 : r < 64 := by omega
  have hk0 : 0 ≤ k := by omega
  have hk1 : k < 256 := by omega
  have kk : Hid (k = 0 + r) := by unfold Hid; omega
  obtain ⟨h0, l0, g0, v0, s0, m0, n0, f0, t0, b0, c0, d0, y0⟩ := shr_part x0 r hx0 ⟨hr0, hr1⟩
  obtain ⟨h1, l1, g1, v1, s1, m1, n1, f1, t1, b1, c1, d1, y1⟩ := shr_part x1 r hx1 ⟨hr0, hr1⟩
  obtain ⟨h2, l2, g2, v2, s2, m2, n2, f2, t2, b2, c2, d2, y2⟩ := shr_part x2 r hx2 ⟨hr0, hr1⟩
  obtain ⟨h3, l3, g3, v3, s3, m3, n3, f3, t3, b3, c3, d3, y3⟩ := shr_part x3 r hx3 ⟨hr0, hr1⟩
  obtain ⟨o0, u0⟩ := shr_or ⟨hr0, hr1⟩ b1 d1 c0 y0
  obtain ⟨o1, u1⟩ := shr_or ⟨hr0, hr1⟩ b2 d2 c1 y1
  obtain ⟨o2, u2⟩ := shr_or ⟨hr0, hr1⟩ b3 d3 c2 y2
  go_enter Try.func121, Try.ntmps121
  go_wp2
  apply wp_loop_rounds 5
  simp only [Code.rounds]
  go_wp2
  go_region
  go_wp2
  go_region
  go_wp2
  go_region
  go_wp2
  refine bodyPost_ret (v := .agg #[.int .u64 (h0 + g1), .int .u64 (h1 + g2), .int .u64 (h2 + g3), .int .u64 h3]) (by simp only [results, Try.results121]; go_simp) rfl ⟨(h0 + g1), (h1 + g2), (h2 + g3), h3, rfl, ⟨⟨by omega, by omega⟩, ⟨by omega, by omega⟩, ⟨by omega, by omega⟩, ⟨by omega, by omega⟩⟩, ?_, ?_⟩
  · have ek : (2 : Int) ^ k.toNat = 1 * 2 ^ r.toNat := by
      rw [kk.out, show ((0 : Int) + r).toNat = 0 + r.toNat by omega, Int.pow_add]; rfl
    have hT : (0 : Int) < 2 ^ r.toNat := Int.pow_pos (by omega)
    have e0 := m0.out; have q0 := t0.out; have w0 := f0.out
    have e1 := m1.out; have q1 := t1.out; have w1 := f1.out
    have e2 := m2.out; have q2 := t2.out; have w2 := f2.out
    have e3 := m3.out; have q3 := t3.out; have w3 := f3.out
    have e : val (h0 + g1) (h1 + g2) (h2 + g3) h3 * 2 ^ k.toNat = (h0 * 2 ^ r.toNat + g1 * 2 ^ r.toNat) * (1 * 1) + (h1 * 2 ^ r.toNat + g2 * 2 ^ r.toNat) * (1 * 18446744073709551616) + (h2 * 2 ^ r.toNat + g3 * 2 ^ r.toNat) * (1 * 340282366920938463463374607431768211456) + (h3 * 2 ^ r.toNat) * (1 * 6277101735386680763835789423207666416102355444464034512896) := by
      rw [ek]; unfold val
      generalize (2 : Int) ^ r.toNat = T
      grind
    refine ⟨l0 * 1, by omega, ?_, ?_⟩
    · rw [ek]
      generalize (2 : Int) ^ r.toNat = T at *
      omega
    · rw [e]; unfold val
      generalize h0 * 2 ^ r.toNat = p0 at *
      generalize h1 * 2 ^ r.toNat = p1 at *
      generalize h2 * 2 ^ r.toNat = p2 at *
      generalize h3 * 2 ^ r.toNat = p3 at *
      generalize g0 * 2 ^ r.toNat = a0 at *
      generalize g1 * 2 ^ r.toNat = a1 at *
      generalize g2 * 2 ^ r.toNat = a2 at *
      generalize g3 * 2 ^ r.toNat = a3 at *
      omega
  · (repeat (first | (with_reducible exact Below.refl _ _) | (with_reducible assumption) | (with_reducible apply bd) | (with_reducible apply ba) | (with_reducible refine bp ?_ (by first | omega | (simp [pad_size]; done) | (simp [pad_size]; omega)) _ _) | (with_reducible refine bs ?_ (by first | omega | (simp [pad_size]; done) | (simp [pad_size]; omega)) _) | (with_reducible refine bt ?_ (by assumption))))

set_option maxHeartbeats 2000000 in
theorem shr1 (x0 x1 x2 x3 k : Int) (hx : Lim x0 x1 x2 x3) (hk : k / 64 = 1) (w : World) :
    Calls Try.prog 121 #[.agg #[.int .u64 x0, .int .u64 x1, .int .u64 x2, .int .u64 x3], .int .i64 k] w fun e w' => ∃ z0 z1 z2 z3 : Int, e = .returned (.agg #[.int .u64 z0, .int .u64 z1, .int .u64 z2, .int .u64 z3]) ∧ Lim z0 z1 z2 z3 ∧ ShrS (val x0 x1 x2 x3) k (val z0 z1 z2 z3) ∧ Below w.heap.size w w' := by
  obtain ⟨hx0, hx1, hx2, hx3⟩ := hx
  obtain ⟨r, hr⟩ : ∃ r, k % 64 = r := ⟨_, rfl⟩
  have hr0 : 0 ≤ r := by omega
  have hr1 : r < 64 := by omega
  have hk0 : 0 ≤ k := by omega
  have hk1 : k < 256 := by omega
  have kk : Hid (k = 64 + r) := by unfold Hid; omega
  obtain ⟨h1, l1, g1, v1, s1, m1, n1, f1, t1, b1, c1, d1, y1⟩ := shr_part x1 r hx1 ⟨hr0, hr1⟩
  obtain ⟨h2, l2, g2, v2, s2, m2, n2, f2, t2, b2, c2, d2, y2⟩ := shr_part x2 r hx2 ⟨hr0, hr1⟩
  obtain ⟨h3, l3, g3, v3, s3, m3, n3, f3, t3, b3, c3, d3, y3⟩ := shr_part x3 r hx3 ⟨hr0, hr1⟩
  obtain ⟨o1, u1⟩ := shr_or ⟨hr0, hr1⟩ b2 d2 c1 y1
  obtain ⟨o2, u2⟩ := shr_or ⟨hr0, hr1⟩ b3 d3 c2 y2
  go_enter Try.func121, Try.ntmps121
  go_wp2
  apply wp_loop_rounds 5
  simp only [Code.rounds]
  go_wp2
  go_region
  go_wp2
  go_region
  go_wp2
  refine bodyPost_ret (v := .agg #[.int .u64 (h1 + g2), .int .u64 (h2 + g3), .int .u64 h3, .int .u64 0]) (by simp only [results, Try.results121]; go_simp) rfl ⟨(h1 + g2), (h2 + g3), h3, 0, rfl, ⟨⟨by omega, by omega⟩, ⟨by omega, by omega⟩, ⟨by omega, by omega⟩, ⟨by omega, by omega⟩⟩, ?_, ?_⟩
  · have ek : (2 : Int) ^ k.toNat = 18446744073709551616 * 2 ^ r.toNat := by
      rw [kk.out, show ((64 : Int) + r).toNat = 64 + r.toNat by omega, Int.pow_add]; rfl
    have hT : (0 : Int) < 2 ^ r.toNat := Int.pow_pos (by omega)
    have e1 := m1.out; have q1 := t1.out; have w1 := f1.out
    have e2 := m2.out; have q2 := t2.out; have w2 := f2.out
    have e3 := m3.out; have q3 := t3.out; have w3 := f3.out
    have e : val (h1 + g2) (h2 + g3) h3 0 * 2 ^ k.toNat = (h1 * 2 ^ r.toNat + g2 * 2 ^ r.toNat) * (18446744073709551616 * 1) + (h2 * 2 ^ r.toNat + g3 * 2 ^ r.toNat) * (18446744073709551616 * 18446744073709551616) + (h3 * 2 ^ r.toNat) * (18446744073709551616 * 340282366920938463463374607431768211456) := by
      rw [ek]; unfold val
      generalize (2 : Int) ^ r.toNat = T
      grind
    refine ⟨l1 * 18446744073709551616 + x0 * 1, by omega, ?_, ?_⟩
    · rw [ek]
      generalize (2 : Int) ^ r.toNat = T at *
      omega
    · rw [e]; unfold val
      generalize h1 * 2 ^ r.toNat = p1 at *
      generalize h2 * 2 ^ r.toNat = p2 at *
      generalize h3 * 2 ^ r.toNat = p3 at *
      generalize g1 * 2 ^ r.toNat = a1 at *
      generalize g2 * 2 ^ r.toNat = a2 at *
      generalize g3 * 2 ^ r.toNat = a3 at *
      omega
  · (repeat (first | (with_reducible exact Below.refl _ _) | (with_reducible assumption) | (with_reducible apply bd) | (with_reducible apply ba) | (with_reducible refine bp ?_ (by first | omega | (simp [pad_size]; done) | (simp [pad_size]; omega)) _ _) | (with_reducible refine bs ?_ (by first | omega | (simp [pad_size]; done) | (simp [pad_size]; omega)) _) | (with_reducible refine bt ?_ (by assumption))))

set_option maxHeartbeats 2000000 in
theorem shr2 (x0 x1 x2 x3 k : Int) (hx : Lim x0 x1 x2 x3) (hk : k / 64 = 2) (w : World) :
    Calls Try.prog 121 #[.agg #[.int .u64 x0, .int .u64 x1, .int .u64 x2, .int .u64 x3], .int .i64 k] w fun e w' => ∃ z0 z1 z2 z3 : Int, e = .returned (.agg #[.int .u64 z0, .int .u64 z1, .int .u64 z2, .int .u64 z3]) ∧ Lim z0 z1 z2 z3 ∧ ShrS (val x0 x1 x2 x3) k (val z0 z1 z2 z3) ∧ Below w.heap.size w w' := by
  obtain ⟨hx0, hx1, hx2, hx3⟩ := hx
  obtain ⟨r, hr⟩ : ∃ r, k % 64 = r := ⟨_, rfl⟩
  have hr0 : 0 ≤ r := by omega
  have hr1 : r < 64 := by omega
  have hk0 : 0 ≤ k := by omega
  have hk1 : k < 256 := by omega
  have kk : Hid (k = 128 + r) := by unfold Hid; omega
  obtain ⟨h2, l2, g2, v2, s2, m2, n2, f2, t2, b2, c2, d2, y2⟩ := shr_part x2 r hx2 ⟨hr0, hr1⟩
  obtain ⟨h3, l3, g3, v3, s3, m3, n3, f3, t3, b3, c3, d3, y3⟩ := shr_part x3 r hx3 ⟨hr0, hr1⟩
  obtain ⟨o2, u2⟩ := shr_or ⟨hr0, hr1⟩ b3 d3 c2 y2
  go_enter Try.func121, Try.ntmps121
  go_wp2
  apply wp_loop_rounds 5
  simp only [Code.rounds]
  go_wp2
  go_region
  go_wp2
  refine bodyPost_ret (v := .agg #[.int .u64 (h2 + g3), .int .u64 h3, .int .u64 0, .int .u64 0]) (by simp only [results, Try.results121]; go_simp) rfl ⟨(h2 + g3), h3, 0, 0, rfl, ⟨⟨by omega, by omega⟩, ⟨by omega, by omega⟩, ⟨by omega, by omega⟩, ⟨by omega, by omega⟩⟩, ?_, ?_⟩
  · have ek : (2 : Int) ^ k.toNat = 340282366920938463463374607431768211456 * 2 ^ r.toNat := by
      rw [kk.out, show ((128 : Int) + r).toNat = 128 + r.toNat by omega, Int.pow_add]; rfl
    have hT : (0 : Int) < 2 ^ r.toNat := Int.pow_pos (by omega)
    have e2 := m2.out; have q2 := t2.out; have w2 := f2.out
    have e3 := m3.out; have q3 := t3.out; have w3 := f3.out
    have e : val (h2 + g3) h3 0 0 * 2 ^ k.toNat = (h2 * 2 ^ r.toNat + g3 * 2 ^ r.toNat) * (340282366920938463463374607431768211456 * 1) + (h3 * 2 ^ r.toNat) * (340282366920938463463374607431768211456 * 18446744073709551616) := by
      rw [ek]; unfold val
      generalize (2 : Int) ^ r.toNat = T
      grind
    refine ⟨l2 * 340282366920938463463374607431768211456 + x0 * 1 + x1 * 18446744073709551616, by omega, ?_, ?_⟩
    · rw [ek]
      generalize (2 : Int) ^ r.toNat = T at *
      omega
    · rw [e]; unfold val
      generalize h2 * 2 ^ r.toNat = p2 at *
      generalize h3 * 2 ^ r.toNat = p3 at *
      generalize g2 * 2 ^ r.toNat = a2 at *
      generalize g3 * 2 ^ r.toNat = a3 at *
      omega
  · (repeat (first | (with_reducible exact Below.refl _ _) | (with_reducible assumption) | (with_reducible apply bd) | (with_reducible apply ba) | (with_reducible refine bp ?_ (by first | omega | (simp [pad_size]; done) | (simp [pad_size]; omega)) _ _) | (with_reducible refine bs ?_ (by first | omega | (simp [pad_size]; done) | (simp [pad_size]; omega)) _) | (with_reducible refine bt ?_ (by assumption))))

set_option maxHeartbeats 2000000 in
theorem shr3 (x0 x1 x2 x3 k : Int) (hx : Lim x0 x1 x2 x3) (hk : k / 64 = 3) (w : World) :
    Calls Try.prog 121 #[.agg #[.int .u64 x0, .int .u64 x1, .int .u64 x2, .int .u64 x3], .int .i64 k] w fun e w' => ∃ z0 z1 z2 z3 : Int, e = .returned (.agg #[.int .u64 z0, .int .u64 z1, .int .u64 z2, .int .u64 z3]) ∧ Lim z0 z1 z2 z3 ∧ ShrS (val x0 x1 x2 x3) k (val z0 z1 z2 z3) ∧ Below w.heap.size w w' := by
  obtain ⟨hx0, hx1, hx2, hx3⟩ := hx
  obtain ⟨r, hr⟩ : ∃ r, k % 64 = r := ⟨_, rfl⟩
  have hr0 : 0 ≤ r := by omega
  have hr1 : r < 64 := by omega
  have hk0 : 0 ≤ k := by omega
  have hk1 : k < 256 := by omega
  have kk : Hid (k = 192 + r) := by unfold Hid; omega
  obtain ⟨h3, l3, g3, v3, s3, m3, n3, f3, t3, b3, c3, d3, y3⟩ := shr_part x3 r hx3 ⟨hr0, hr1⟩
  go_enter Try.func121, Try.ntmps121
  go_wp2
  apply wp_loop_rounds 5
  simp only [Code.rounds]
  go_wp2
  refine bodyPost_ret (v := .agg #[.int .u64 h3, .int .u64 0, .int .u64 0, .int .u64 0]) (by simp only [results, Try.results121]; go_simp) rfl ⟨h3, 0, 0, 0, rfl, ⟨⟨by omega, by omega⟩, ⟨by omega, by omega⟩, ⟨by omega, by omega⟩, ⟨by omega, by omega⟩⟩, ?_, ?_⟩
  · have ek : (2 : Int) ^ k.toNat = 6277101735386680763835789423207666416102355444464034512896 * 2 ^ r.toNat := by
      rw [kk.out, show ((192 : Int) + r).toNat = 192 + r.toNat by omega, Int.pow_add]; rfl
    have hT : (0 : Int) < 2 ^ r.toNat := Int.pow_pos (by omega)
    have e3 := m3.out; have q3 := t3.out; have w3 := f3.out
    have e : val h3 0 0 0 * 2 ^ k.toNat = (h3 * 2 ^ r.toNat) * (6277101735386680763835789423207666416102355444464034512896 * 1) := by
      rw [ek]; unfold val
      generalize (2 : Int) ^ r.toNat = T
      grind
    refine ⟨l3 * 6277101735386680763835789423207666416102355444464034512896 + x0 * 1 + x1 * 18446744073709551616 + x2 * 340282366920938463463374607431768211456, by omega, ?_, ?_⟩
    · rw [ek]
      generalize (2 : Int) ^ r.toNat = T at *
      omega
    · rw [e]; unfold val
      generalize h3 * 2 ^ r.toNat = p3 at *
      generalize g3 * 2 ^ r.toNat = a3 at *
      omega
  · (repeat (first | (with_reducible exact Below.refl _ _) | (with_reducible assumption) | (with_reducible apply bd) | (with_reducible apply ba) | (with_reducible refine bp ?_ (by first | omega | (simp [pad_size]; done) | (simp [pad_size]; omega)) _ _) | (with_reducible refine bs ?_ (by first | omega | (simp [pad_size]; done) | (simp [pad_size]; omega)) _) | (with_reducible refine bt ?_ (by assumption))))

set_option maxHeartbeats 2000000 in
theorem shr4 (x0 x1 x2 x3 : Int) (hx : Lim x0 x1 x2 x3) (w : World) :
    Calls Try.prog 121 #[.agg #[.int .u64 x0, .int .u64 x1, .int .u64 x2, .int .u64 x3], .int .i64 256] w fun e w' => ∃ z0 z1 z2 z3 : Int, e = .returned (.agg #[.int .u64 z0, .int .u64 z1, .int .u64 z2, .int .u64 z3]) ∧ Lim z0 z1 z2 z3 ∧ ShrS (val x0 x1 x2 x3) 256 (val z0 z1 z2 z3) ∧ Below w.heap.size w w' := by
  go_enter Try.func121, Try.ntmps121
  go_wp2
  apply wp_loop_rounds 1
  simp only [Code.rounds]
  go_wp2
  refine bodyPost_ret (v := .agg #[.int .u64 0, .int .u64 0, .int .u64 0, .int .u64 0]) (by simp only [results, Try.results121]; go_simp) rfl ⟨0, 0, 0, 0, rfl, lim_zero, ⟨val x0 x1 x2 x3, val_lo hx, ?_, ?_⟩, ?_⟩
  · have := val_hi hx
    rw [show ((256 : Int).toNat) = 256 from rfl, show (2 : Int) ^ 256 = 115792089237316195423570985008687907853269984665640564039457584007913129639936 from rfl]; exact this
  · rw [val0]; omega
  · (repeat (first | (with_reducible exact Below.refl _ _) | (with_reducible assumption) | (with_reducible apply bd) | (with_reducible apply ba) | (with_reducible refine bp ?_ (by first | omega | (simp [pad_size]; done) | (simp [pad_size]; omega)) _ _) | (with_reducible refine bs ?_ (by first | omega | (simp [pad_size]; done) | (simp [pad_size]; omega)) _) | (with_reducible refine bt ?_ (by assumption))))

theorem shr_any (x0 x1 x2 x3 k : Int) (hx : Lim x0 x1 x2 x3) (h0 : 0 ≤ k) (h1 : k ≤ 256) (w : World) :
    Calls Try.prog 121 #[.agg #[.int .u64 x0, .int .u64 x1, .int .u64 x2, .int .u64 x3], .int .i64 k] w fun e w' => ∃ z0 z1 z2 z3 : Int, e = .returned (.agg #[.int .u64 z0, .int .u64 z1, .int .u64 z2, .int .u64 z3]) ∧ Lim z0 z1 z2 z3 ∧ ShrS (val x0 x1 x2 x3) k (val z0 z1 z2 z3) ∧ Below w.heap.size w w' := by
  by_cases h4 : k = 256
  · subst h4; exact shr4 x0 x1 x2 x3 hx w
  rcases (show k / 64 = 0 ∨ k / 64 = 1 ∨ k / 64 = 2 ∨ k / 64 = 3 by omega) with h | h | h | h
  · exact shr0 x0 x1 x2 x3 k hx h w
  · exact shr1 x0 x1 x2 x3 k hx h w
  · exact shr2 x0 x1 x2 x3 k hx h w
  · exact shr3 x0 x1 x2 x3 k hx h w
end Go.Proofs.Ytmfnfnegnfpkiaa
