
/- Walks of num.product, Mul. -/
import Derived.Test.YtjhjgncnadhbhaaC
set_option linter.unusedSimpArgs false
set_option linter.unusedVariables false
set_option maxRecDepth 20000
namespace Go.Proofs.Ytjhjgncnadhbhaa
open Go.RowKit

theorem product_step {X y H R t s0 s1 s2 s3 c : Int} (hX : 0 ≤ X ∧ X < 115792089237316195423570985008687907853269984665640564039457584007913129639936) (hy : 0 ≤ y ∧ y < 18446744073709551616) (hH : 0 ≤ H ∧ H < 115792089237316195423570985008687907853269984665640564039457584007913129639936)
    (ht : 0 ≤ t ∧ t < 18446744073709551616) (hs : Lim s0 s1 s2 s3) (c0 : 0 ≤ c) (c1 : c ≤ 1)
    (e1 : Hid (X * y + 0 = R + t * 115792089237316195423570985008687907853269984665640564039457584007913129639936)) (e2 : Hid (R + H = val s0 s1 s2 s3 + c * 115792089237316195423570985008687907853269984665640564039457584007913129639936)) :
    (0 ≤ t + c ∧ t + c < 18446744073709551616) ∧ Lim s1 s2 s3 (t + c) ∧ Hid (X * y + H = val s1 s2 s3 (t + c) * 18446744073709551616 + s0) := by
  have e1 := e1.out; have e2 := e2.out
  have hp : X * y ≤ 115792089237316195423570985008687907853269984665640564039457584007913129639935 * 18446744073709551615 := Int.mul_le_mul (by omega) (by omega) (by omega) (by omega)
  generalize X * y = p at *
  unfold Lim at hs
  unfold val at e2
  have k : 0 ≤ t + c ∧ t + c < 18446744073709551616 := by omega
  refine ⟨k, ⟨hs.2.1, hs.2.2.1, hs.2.2.2, k⟩, show _ = _ from ?_⟩
  unfold val; omega

theorem product_sum {X y0 y1 y2 y3 H1 H2 H3 H4 a0 a1 a2 a3 : Int} (e0 : Hid (X * y0 + 0 = H1 * 18446744073709551616 + a0)) (e1 : Hid (X * y1 + H1 = H2 * 18446744073709551616 + a1)) (e2 : Hid (X * y2 + H2 = H3 * 18446744073709551616 + a2)) (e3 : Hid (X * y3 + H3 = H4 * 18446744073709551616 + a3)) :
    X * val y0 y1 y2 y3 = H4 * 115792089237316195423570985008687907853269984665640564039457584007913129639936 + val a0 a1 a2 a3 := by
  have e0 := e0.out; have e1 := e1.out; have e2 := e2.out; have e3 := e3.out
  have e : X * val y0 y1 y2 y3 = X * y0 + X * y1 * 18446744073709551616 + X * y2 * 340282366920938463463374607431768211456 + X * y3 * 6277101735386680763835789423207666416102355444464034512896 := by
    unfold val; simp only [Int.mul_add, Int.mul_assoc]
  rw [e]; unfold val
  generalize X * y0 = p0 at *; generalize X * y1 = p1 at *; generalize X * y2 = p2 at *; generalize X * y3 = p3 at *
  omega

set_option maxHeartbeats 4000000 in
theorem product_any (x0 x1 x2 x3 y0 y1 y2 y3 : Int) (hx : Lim x0 x1 x2 x3) (hy : Lim y0 y1 y2 y3) (w : World) :
    Calls Try.prog 85 #[.agg #[.int .u64 x0, .int .u64 x1, .int .u64 x2, .int .u64 x3], .agg #[.int .u64 y0, .int .u64 y1, .int .u64 y2, .int .u64 y3]] w fun e w' =>
      ∃ h0 h1 h2 h3 l0 l1 l2 l3 : Int, e = .returned (.tuple #[.agg #[.int .u64 h0, .int .u64 h1, .int .u64 h2, .int .u64 h3], .agg #[.int .u64 l0, .int .u64 l1, .int .u64 l2, .int .u64 l3]]) ∧ Lim h0 h1 h2 h3 ∧ Lim l0 l1 l2 l3 ∧
        Hid (val x0 x1 x2 x3 * val y0 y1 y2 y3 = val h0 h1 h2 h3 * 115792089237316195423570985008687907853269984665640564039457584007913129639936 + val l0 l1 l2 l3) ∧ Below w.heap.size w w' := by
  obtain ⟨hy0, hy1, hy2, hy3⟩ := hy
  have hX : 0 ≤ val x0 x1 x2 x3 ∧ val x0 x1 x2 x3 < 115792089237316195423570985008687907853269984665640564039457584007913129639936 := ⟨val_lo hx, val_hi hx⟩
  have ix := ix_num
  have bL0 := lim_zero
  have hpad := pads
  go_enter Try.func85, Try.ntmps85
  go_wp2
  apply wp_loop_rounds 5
  simp only [Code.rounds]
  go_wp2_with (first
    | (go_at_call 98; with_reducible refine (scale_any x0 x1 x2 x3 y0 0 hx hy0 ⟨by omega, by omega⟩ _).mono ?_; rintro e w1 ⟨z00, z01, z02, z03, t0, rfl, bz0, bt0, ez0, hb1⟩; obtain ⟨m1, g1, d1, hm1, rfl⟩ := pad_of hb1; clear hb1; (try simp [pad_size] at hm1); have st1_w := sz4 (n := w.heap.size) (m := m1) (by omega))
    | (go_at_call 99; with_reducible refine (plus_any z00 z01 z02 z03 0 0 0 0 bz0 bL0 _).mono ?_; rintro e w2 ⟨s00, s01, s02, s03, c0, rfl, bs0, c00, c01, es0, hb2⟩; obtain ⟨m2, g2, d2, hm2, rfl⟩ := pad_of (bt (ba (bp (Below.refl _ _) (by first | omega | (simp [pad_size]; omega)) _ _) _) hb2); clear hb2; (try simp [pad_size] at hm2); have st2_w := sz4 (n := w.heap.size) (m := m2) (by omega); clear st1_w hm1; obtain ⟨bt'0, bL1, eo0⟩ := product_step hX hy0 ⟨val_lo bL0, val_hi bL0⟩ bt0 bs0 c00 c01 ez0 es0)
    | (go_at_call 98; with_reducible refine (scale_any x0 x1 x2 x3 y1 0 hx hy1 ⟨by omega, by omega⟩ _).mono ?_; rintro e w3 ⟨z10, z11, z12, z13, t1, rfl, bz1, bt1, ez1, hb3⟩; obtain ⟨m3, g3, d3, hm3, rfl⟩ := pad_of (bt (ba (bp (Below.refl _ _) (by first | omega | (simp [pad_size]; omega)) _ _) _) hb3); clear hb3; (try simp [pad_size] at hm3); have st3_w := sz4 (n := w.heap.size) (m := m3) (by omega); clear st2_w hm2)
    | (go_at_call 99; with_reducible refine (plus_any z10 z11 z12 z13 s01 s02 s03 (t0 + c0) bz1 bL1 _).mono ?_; rintro e w4 ⟨s10, s11, s12, s13, c1, rfl, bs1, c10, c11, es1, hb4⟩; obtain ⟨m4, g4, d4, hm4, rfl⟩ := pad_of (bt (ba (bp (Below.refl _ _) (by first | omega | (simp [pad_size]; omega)) _ _) _) hb4); clear hb4; (try simp [pad_size] at hm4); have st4_w := sz4 (n := w.heap.size) (m := m4) (by omega); clear st3_w hm3; obtain ⟨bt'1, bL2, eo1⟩ := product_step hX hy1 ⟨val_lo bL1, val_hi bL1⟩ bt1 bs1 c10 c11 ez1 es1)
    | (go_at_call 98; with_reducible refine (scale_any x0 x1 x2 x3 y2 0 hx hy2 ⟨by omega, by omega⟩ _).mono ?_; rintro e w5 ⟨z20, z21, z22, z23, t2, rfl, bz2, bt2, ez2, hb5⟩; obtain ⟨m5, g5, d5, hm5, rfl⟩ := pad_of (bt (ba (bp (Below.refl _ _) (by first | omega | (simp [pad_size]; omega)) _ _) _) hb5); clear hb5; (try simp [pad_size] at hm5); have st5_w := sz4 (n := w.heap.size) (m := m5) (by omega); clear st4_w hm4)
    | (go_at_call 99; with_reducible refine (plus_any z20 z21 z22 z23 s11 s12 s13 (t1 + c1) bz2 bL2 _).mono ?_; rintro e w6 ⟨s20, s21, s22, s23, c2, rfl, bs2, c20, c21, es2, hb6⟩; obtain ⟨m6, g6, d6, hm6, rfl⟩ := pad_of (bt (ba (bp (Below.refl _ _) (by first | omega | (simp [pad_size]; omega)) _ _) _) hb6); clear hb6; (try simp [pad_size] at hm6); have st6_w := sz4 (n := w.heap.size) (m := m6) (by omega); clear st5_w hm5; obtain ⟨bt'2, bL3, eo2⟩ := product_step hX hy2 ⟨val_lo bL2, val_hi bL2⟩ bt2 bs2 c20 c21 ez2 es2)
    | (go_at_call 98; with_reducible refine (scale_any x0 x1 x2 x3 y3 0 hx hy3 ⟨by omega, by omega⟩ _).mono ?_; rintro e w7 ⟨z30, z31, z32, z33, t3, rfl, bz3, bt3, ez3, hb7⟩; obtain ⟨m7, g7, d7, hm7, rfl⟩ := pad_of (bt (ba (bp (Below.refl _ _) (by first | omega | (simp [pad_size]; omega)) _ _) _) hb7); clear hb7; (try simp [pad_size] at hm7); have st7_w := sz4 (n := w.heap.size) (m := m7) (by omega); clear st6_w hm6)
    | (go_at_call 99; with_reducible refine (plus_any z30 z31 z32 z33 s21 s22 s23 (t2 + c2) bz3 bL3 _).mono ?_; rintro e w8 ⟨s30, s31, s32, s33, c3, rfl, bs3, c30, c31, es3, hb8⟩; obtain ⟨m8, g8, d8, hm8, rfl⟩ := pad_of (bt (ba (bp (Below.refl _ _) (by first | omega | (simp [pad_size]; omega)) _ _) _) hb8); clear hb8; (try simp [pad_size] at hm8); have st8_w := sz4 (n := w.heap.size) (m := m8) (by omega); clear st7_w hm7; obtain ⟨bt'3, bL4, eo3⟩ := product_step hX hy3 ⟨val_lo bL3, val_hi bL3⟩ bt3 bs3 c30 c31 ez3 es3))
  go_region
  all_goals go_wp2
  all_goals refine bodyPost_ret (v := .tuple #[.agg #[.int .u64 s31, .int .u64 s32, .int .u64 s33, .int .u64 (t3 + c3)], .agg #[.int .u64 s00, .int .u64 s10, .int .u64 s20, .int .u64 s30]]) (by simp only [results, Try.results85]; go_simp) rfl ⟨_, _, _, _, _, _, _, _, rfl, bL4, ⟨bs0.1, bs1.1, bs2.1, bs3.1⟩, product_sum (by rw [val0] at eo0; exact eo0) eo1 eo2 eo3, ?_⟩
  all_goals (repeat (first | (with_reducible exact Below.refl _ _) | (with_reducible assumption) | (with_reducible apply bd) | (with_reducible apply ba) | (with_reducible refine bp ?_ (by first | omega | (simp [pad_size]; done) | (simp [pad_size]; omega)) _ _) | (with_reducible refine bs ?_ (by first | omega | (simp [pad_size]; done) | (simp [pad_size]; omega)) _) | (with_reducible refine bt ?_ (by assumption))))
end Go.Proofs.Ytjhjgncnadhbhaa
